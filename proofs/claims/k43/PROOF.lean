import PyProof.Rows.All
import Wide.All
import OpenK.AllK
import Wide.FinOn
import Lean
import PyProof.EqAt
import PyProof.EqKinds
import PyProof.TupleCall
import PySem.Challenge.RW_lots_k43_whole_one_function_one_node
set_option Elab.async false
set_option linter.all false
set_option maxRecDepth 100000
set_option compiler.extract_closed false
local macro_rules | `(tactic| omega) => `(tactic| first | with_reducible assumption | lia | omega +splitDisjunctions)
open List renaming getElem?_eq_getElem->qN,getElem?_eq_some_iff->qO,prefix_append->qQ,getElem?_append_left->qR,mem_of_getElem?->qS,getElem?_append_right->qU,length_map->qV,set->qW,getElem?_map->qY,size_toArray->qZ,getElem?_eq_none->r6,mem_cons_of_mem->r9,length_cons->ra,length_append->rd,replicate->rh,getElem_mem->rq,map_cons->rC,mem_cons_self->rE,find?_cons->rG,getElem?_set->rK,getElem?_of_mem->rL,prefix_refl->rM,mem_cons->rQ,map->rR,getD_eq_getElem?_getD->rT,take_succ_eq_append_getElem->si,mem_append_right->sj,map_append->sk,lookup_cons->sq,all_eq_true->sr,drop_eq_getElem_cons->sA,range->sC,findIdx?_eq_some_iff_getElem->sF,length_take->sG,cons_append->sH,replicate_succ'->sN,drop_zero->sO,length_nil->sQ,nodup_cons->sU,length_set->sV,any_cons->t6,mem_range->t8,lookup->tm,mem_singleton->tD,append_nil->tF,length_drop->tK,take_length->tL,filterMap_cons->tM,getElem?_replicate->tN,ext_getElem?->tQ,mem_map->tS,all_cons->tY,getElem?_range->u9,of_mem_zip->uc,reverse_cons->uo,drop_length->uB,length_replicate->uC,length_singleton->uD,mem_append->uF,getElem?_set_ne->uG,zipWith->uN,length_zipWith->uP,append->uU,map_drop->v7,any_eq_false->v9,getElem?_zip_eq_some->x5,getElem_inj->y0,any_eq_true->y4,length_eq_zero_iff->y9,getElem?_cons_succ->z0,getElem?_set_self->z8,drop_of_length_le->A0,take_of_length_le->A1,dropLast_eq_take->A5,nodup_nil->A6,mem_append_left->A7,length_dropLast->A8,mem_iff_getElem->A9,contains_eq_mem->Ab,mem_of_mem_drop->Ac,map_take->Af,length_reverse->Ah,replicate_succ->Ak,mem_filterMap->Am,find?_eq_none->Ar,map_replicate->Au,flatMap_cons->Ay,isEmpty_iff->AB,map_reverse->AF,getElem_map->AG,mem_filter->AI,nil_append->AU,foldl_cons->AV,foldl_nil->B1,map_nil->Bf,set_set->Bh
open PySem.W renaming Frag->qP,nsIn->rz,findIn->rF,mg_none_of->rY,kitOne->se,emptyDict->sI,instObj->sT,kla_obj->sW,keepIn->t9,fnOf->tq,kitMeta->tG,tabObj->tR,plainGet->tT,codeHdIn->tV,mroIn->tX,codeIn->ug,hasDictIn->um,cellsFrom_some->uv,mg_of->uz,isFn->uH,looks_findIn->uI,plainGet_of->uO,lookIn->uQ,InstAt->uR,callWith_K->uX,subIn->v3,methodObj->v8,plainOver->w5,specialIn->w6,kitx_list->w9,envX->y6,takerIn->z3,makesIn->z4,findObj->z5,OpenLaw->z6,kitCls->A4,clsIn->Ae,codeHd_of_K->Ai,codeRec_of->An,kitx_tuple->Ap,kitx_dict->Ax,handedIn->Az,takesIn->AJ,kla_fn->AZ,WalkO->B4,KitX->Bg
open Nat renaming le_refl->qT,le_trans->rk,ne_of_lt->rA,lt_of_lt_of_le->rD,mul_le_mul_right->rN,le_of_lt->rS,lt_trichotomy->rW,lt_of_le_of_lt->rX,sub_self->su,succ_mul->sM,lt_irrefl->sZ,lt_succ_self->tf,zero_le->tI,le_of_eq->tJ,pow_le_pow_right->tW,gcd->u5,mul_le_mul_left->ua,le_succ->ur,pow_pos->ux,min_eq_left->uM,mul_pos->uV,eq_zero_or_pos->uY,one_lt_two_pow->uZ,le_add_right->y7,gcd_comm->y8,sub_zero->As,lt_succ_of_lt->Av,not_lt->AO,mod_lt->AW,div_add_mod->AX,div_le_self->AY,add_assoc->B3,mul_assoc->B5
open Or renaming inl->qX,inr->t7
open Option renaming bind_some->r0,map_eq_some_iff->rg,bind_eq_some_iff->rB,isSome_iff_exists->sD,map_some->sE,getD_some->tj,bind->tZ,isSome_map->uq,getD_none->AA
open Bool renaming false_ne_true->rl,and_eq_true->rV,eq_iff_iff->sJ,noConfusion->tU,or_eq_true->uK,false_bne->uS,beq_eq_decide_eq->A3,and_eq_true_iff->Aa,eq_false_iff->Aw,true_bne->B2,and_true->B6
open PySem.F renaming plainAttrs_list->rm,slot_list_append->rO,type_list_append->rP,args_tuple_add_2->uf,entry_tuple_add->ui,slot_list_index->uj,type_list_index->uk,slot_tuple_add->uw,slot_dict_getitem->x3
open Option.some renaming inj->rp,injEq->rJ
open Int renaming toNat_natCast->rH,zero_add->sy,fdiv_eq_ediv_of_nonneg->sR,emod_nonneg->sX,emod_lt_of_pos->tE,ofNat_inj->tO,toNat_of_nonneg->ub,mul_pos->uy,gcd->uT,natCast_mul->z7,natAbs_ediv_of_dvd->A2,ediv_one->Ao,natCast_emod->AH,ediv_nonneg->AQ
open PySem renaming mem_of_lookup->rZ,intBits_le_iff->uJ,Expr->uL,frameOf->Ad,Within->Al,call->AK
open False renaming elim->sv
open PyProof.Rows renaming slot_tuple_getitem->sx,callWith_type1->sP
open True renaming intro->sL
open Classical renaming byContradiction->sS,propDecidable->uh
open Ne renaming symm->sY
open ForInStep renaming yield->tP
open Array renaming length_toList->u6,getElem?_toList->uE,append_assoc->uW,getElem?_eq_getElem->x4,toList->y3,toList_append->Aj,forIn_toList->Aq
open HAppend renaming hAppend->ud
open Append renaming append->uA
open Prod.mk renaming injEq->v5
open Sum renaming inl->x8,inr->x9
open PyProof renaming noPylong_small->z9
open PySem.EqMixed renaming eq_bool_str->B7,eq_str_bool->B8,ne_bool_str->B9,ne_str_bool->Ba,eq_int_str->Bb,eq_str_int->Bc,ne_int_str->Bd,ne_str_int->Be
open PySem.W.Looks renaming here->Bi
open List.Pairwise renaming nil->Bj
local macro_rules|`(∅)=>`(by decide)
local macro_rules|`(⋯)=>`(by omega)
local macro_rules|`(nofun)=>`(fun z=>by cases z)
local macro_rules|`(*...*)=>`(by decide+kernel)
structure PySem.W.Fast:Prop where(tw10009401345798832664 tw10054277265293797744 tw10061294779856128898 tw10104168655672602666 tw10135010279000120454 tw10142361322875907556 tw10161394813906056751 tw10171240520348627163 tw10171659277600161108 tw1019091405741057258 tw10236556282789193151 tw10266451366746115321 tw10329118279970152563 tw10356257836307007438 tw10357904705127285996 tw10373185840876865407 tw10469693244435238562 tw10509430482027059917 tw10556329208671784461 tw10608998780922452193 tw10620380346568552587 tw1067246786817180405 tw10693094854746787273 tw10712337520102961632 tw1073356470298683414 tw1077283469285292062 tw10787752386647165017 tw1079584728376311698 tw10799331346772012662 tw10815854614297087573 tw10816923921258841887 tw10822445907475981913 tw10830272765112812784 tw10847572740658609415 tw10850805199728275088 tw10979281631747828262 tw11000053007850262365 tw11003197393060954793 tw11023061570068255884 tw11114454983091994062 tw11176900435173711268 tw11178130729883732031 tw11257019768789885590 tw11297722763999530754 tw1132956687743041618 tw11348970898578122168 tw11390353995479221221 tw11486813661066967035 tw11594558035162835646 tw11721187292682076330 tw11767880213859503792 tw11783820058059565064 tw11812738326511484591 tw11860870599356262052 tw11861746339098667688 tw11888399003665165082 tw11905076198835587170 tw11966944721333692722 tw11972469566404314982 tw11990293916241037558 tw1200472136610536914 tw12091240680135154735 tw1210166783180962930 tw12145727677812939113 tw12174679380580098058 tw12177833221983734798 tw12214311136356068111 tw1221481446732093568 tw12236568060573419103 tw12246973552958476990 tw12254561076411649528 tw12264214958593538292 tw1231637868904667517 tw1235845362246444321 tw12387445851381779999 tw12401012155477893441 tw12426017145795187465 tw1243441701120988619 tw12504990327165083601 tw12565872211219113561 tw12580920742813833005 tw12641355202209200 tw12661122259233181321 tw1269327284279105284 tw12747173279679228898 tw12839300105313468258 tw12844988219734570639 tw12882056632122660585 tw12959029408166451822 tw12982935264529019027 tw1299309369608537889 tw13013448903277351908 tw13059569090882356859 tw13077505958816466907 tw13086174353590384650 tw13099923455744733610 tw13106115736978144552 tw13176972170018489408 tw13183261751892666307 tw13250277563672603675 tw13268985249143743010 tw13306153445520525767 tw13376194823011384769 tw13393156274109228673 tw13458580275359272542 tw1346089906794315569 tw13520270180060626205 tw13530482013560007604 tw13556756952834295431 tw13561294312355549939 tw13582429691546155770 tw13634344743061208176 tw13638851840293927052 tw13653776933013374389 tw13692703600256299298 tw13739010112766869716 tw13780829825882738578 tw13833969195262356463 tw1383968531198940808 tw13860112743770570113 tw13993326853928750126 tw14060090085120594695 tw14252725224355182395 tw14299828618503180735 tw14309584138787945223 tw14327438813029148589 tw14359008337936287795 tw14400154848150443338 tw14413298388155624244 tw14416039366837612084 tw14437465026935078741 tw14527871744371995885 tw14547572605827434590 tw14568123601568942051 tw14690633903300481808 tw14712586459595135071 tw14727120844476901499 tw14840728175546904330 tw14865427643192053135 tw14938548272363540938 tw14940547444648398399 tw15103062384959657044 tw15151331766593604096 tw15156422797837972540 tw15256454465353110955 tw15264436896545269802 tw15296723381403424787 tw15360393034563884746 tw15364014678618943441 tw15421815213018178304 tw15440282895825221298 tw15443882049949257061 tw15481849466069038046 tw15498130428530994985 tw15530685458333915885 tw1560917032723483931 tw15728889194530831332 tw1576232925122475867 tw15791915060353620162 tw15795364656770161086 tw15818043788070254987 tw15821794246384627760 tw15857996818468203832 tw15945894619487168786 tw15948777883116470049 tw16066854213980013555 tw16078113445331743135 tw16129130774693346593 tw16132429643649180474 tw16159175271343382206 tw16172691296502298116 tw16178100805092879356 tw16232464953887176937 tw16234909071963692503 tw16235253620135343731 tw16266926112842662979 tw16302230366733109203 tw16337104650613286359 tw16389289242065422125 tw16401217076804950074 tw16407646141817818265 tw16441359268763966845 tw1646588795592223010 tw16498457254514947128 tw1658327509459514450 tw16595797816626567238 tw16639085259647726782 tw1675122972034406775 tw16811011924527322724 tw16849269318581707615 tw1685452218539373525 tw16862718387819811449 tw16902910483982987593 tw16905381492413705294 tw16921715391520408753 tw16928028075694824762 tw16942465903213781595 tw16956844197536569210 tw16967636568979604692 tw16985844311635484653 tw16986884326734573129 tw17066007912738368409 tw17186418686371994123 tw17215726024060059027 tw17234153573453773479 tw17274037769910664349 tw17300958431810041700 tw17353906929750366507 tw17354877813912654819 tw17382995370556142129 tw17388489126182385354 tw17405951526548143604 tw17442932063983705301 tw17486718384781148731 tw17523324826045568685 tw17530938211223665171 tw17578352635133315889 tw17606617355619438443 tw17628100857830161974 tw17651199990067963973 tw17663806753401198724 tw17767009181337104236 tw17770531879515509652 tw17809930097231353350 tw17856430918419528611 tw17890483692550594098 tw17940671102127207055 tw17993100511968612281 tw17993510049621406723 tw18003419129068395876 tw18005450056381584463 tw18018247838674182967 tw18167383905382860587 tw18204684782657428964 tw1825957158944619528 tw18286834680370933112 tw1829634304642565914 tw18356400193417413042 tw18383861217866324765 tw18387152128363191550 tw18424230898797785436 tw18445850009615056989 tw1903935566124029887 tw1906446458867424076 tw1964145775001296135 tw2138548859204217508 tw2334687876205179532 tw2334712915543870762 tw2353958976754983696 tw2373871287356346437 tw2403265312429359274 tw24309116387538841 tw2529270051770251812 tw2562456204526679595 tw2563855573189954093 tw258150419756092787 tw2584366282912117210 tw2648932647599465184 tw2716573173511161074 tw2778064432712602493 tw2785766172661826601 tw2798321799109952143 tw2821401342600342431 tw2914209039908896555 tw3032481920518291468 tw3127381688797097144 tw3133986211553096267 tw3152705698631632552 tw3358129653823104587 tw3377087277869130188 tw3404263576347832393 tw3430164746603101472 tw3436296811815285221 tw3465552536324136566 tw350986442754526377 tw3546454474565470114 tw3549890771638691945 tw3568566630432604881 tw3573312983013419802 tw3606017735138575678 tw363259822190960822 tw364736206581645527 tw3686678817630832273 tw3750314487367468943 tw3779310105265193411 tw3801730710585466565 tw3824572594274617922 tw3863963963144520826 tw3942920844658665757 tw3955735147618701051 tw3955875919350367587 tw4096980459149430098 tw4130194526701446686 tw4188202249637543643 tw4275980391403793578 tw4351900961919724364 tw4369553628232698788 tw4382514066752131045 tw4411831662516499335 tw4530575896821660919 tw4534376326092064042 tw4582936467580209795 tw4613772441300508622 tw463267191019034153 tw4650158384955688493 tw4699734629900472623 tw4812458877052346397 tw4853529381298439197 tw4872688989843549351 tw4893102591497339819 tw5025998954633673373 tw5176370538013650589 tw5191840485250752923 tw5197593139012560205 tw5217158968310519041 tw5344429374653278493 tw5345655625125772897 tw5351710677859832697 tw5381309132871193402 tw5421370950424683626 tw5460563645871098674 tw548047579332473168 tw5541044530435226483 tw5544849857779231039 tw556689550006572418 tw5681654651938949347 tw5741277644880222952 tw5755129455743773817 tw5769222413170427401 tw5999645394208892254 tw6032793523846919486 tw6032914343691712728 tw6132417693251840119 tw6150670483547306039 tw6192801819659076217 tw6241254015636828788 tw6290313291898796655 tw6312024837438499236 tw6314148266569472234 tw6416762421205078095 tw644802531107117795 tw6493529163695563594 tw6511996526571374810 tw6613674531246923939 tw667854463704202004 tw6704188644106795653 tw6704948328361161879 tw6736474895200804467 tw6832622825857117284 tw686773493552751909 tw6943090735676877046 tw694963168407152862 tw6959700330174119448 tw6987298622384920280 tw7035504063410844810 tw7090561513244567868 tw7113173917220348671 tw7329223144489527774 tw7419066731496614080 tw756210664022615187 tw7578932001192463583 tw7602401993506912039 tw7669785869987249765 tw7687953324864340862 tw77160220718056852 tw7753664940267140845 tw7760312342423707593 tw7852885576669083304 tw7866529698797915281 tw7922499315679229628 tw7989019432505376883 tw7997984563950369097 tw8009048623160269854 tw8063825102106719242 tw8070023649629338167 tw8157874816110884542 tw8354335363310585759 tw8446196101292148824 tw846459508141983589 tw8472992275275134896 tw8490689921224333489 tw8496854593398941031 tw8540245716401246669 tw8569832289816340022 tw8620020465915816891 tw8629855444835559458 tw8645962091314862884 tw8664633459860198911 tw8674941231455429039 tw8699891540590693070 tw8837575348792918386 tw8898461910220972097 tw8948671254025455995 tw8964511338322678591 tw8993075781437112002 tw9094575681424210811 tw9117016294856224813 tw9158012556791109557 tw9174142213208469416 tw9273691076365109253 tw9276562027870670498 tw9314599856247686838 tw9376340342388127402 tw9434491362393655848 tw9465012872502383932 tw9607174128732061152 tw9611984316022782891 tw9660670499868557003 tw968082559662596005 tw9793040263551687183 tw9804292060220478563 tw9850880623918120908 tw9867974008737012977 tw9877076805143345722 tw9886556547059709828 tw9917484079285912763 tw9918707784612001797:True)
namespace L2
open PySem PySem.Spec PyProof.Rows
abbrev Key:=Sum Int Str
noncomputable def zcQ:Key->Value->Bool
 | .inl k,v=>Value.isInt k v
 | .inr x,v=>Value.isStrOf x v
noncomputable def zfF (w:World):Key->Int
 | .inl k=>hashInt k
 | .inr x=>hashStr w x
theorem xP:∀{k:Key} {v:Value},zcQ k v=true->(∃i t,k=x8 i/\v=Value.int i t)\/(∃x t,k=x9 x/\v=Value.str x t)
 | .inl i,v,h=>by
  obtain⟨t,e⟩:=Value.isInt_shape (k:=i) (v:=v) h;exact .inl ⟨i,t,rfl,e⟩
 | .inr x,v,h=>by
  obtain⟨t,e⟩:=Value.isStrOf_shape (x:=x) (v:=v) h;exact .inr ⟨x,t,rfl,e⟩
theorem zhN (i:Int) (t:Tok):zcQ (.inl i) (.int i t)=true:=by simp[zcQ,Value.isInt]
theorem zhO (x:Str) (t:Tok):zcQ (.inr x) (.str x t)=true:=by simp[zcQ,Value.isStrOf]
theorem zm6 (a b:Int):decide ((x8 a:Key)=x8 b)=(a==b):=by
 by_cases e:a=b
 .subst e;simp
 .have h:¬(x8 a:Key)=x8 b:=λq=>e (Sum.inl.inj q);rw[decide_eq_false h];exact (beq_eq_false_iff_ne.mpr e).symm
theorem zm7 (a b:Str):decide ((x9 a:Key)=x9 b)=decide (a=b):=by
 by_cases e:a=b
 .subst e;simp
 .have h:¬(x9 a:Key)=x9 b:=λq=>e (Sum.inr.inj q);rw[decide_eq_false h,decide_eq_false e]
theorem zm8 (a:Int) (b:Str):decide ((x8 a:Key)=x9 b)=false:=decide_eq_false (λq=>nomatch q)
theorem zm9 (a:Str) (b:Int):decide ((x9 a:Key)=x8 b)=false:=decide_eq_false (λq=>nomatch q)
noncomputable def vm (prog:Program) (w:World):PySem.KeyKind prog w Key where
 is:=zcQ
 hash:=zfF w
 inj:=λv a b ha hb=>by
  rcases xP ha with⟨i,t,rfl,rfl⟩|⟨x,t,rfl,rfl⟩
  .rcases xP hb with⟨j,u,rfl,e⟩|⟨y,u,rfl,e⟩
   .injection e with e1 _;rw[e1]
   .exact nomatch e
  .rcases xP hb with⟨j,u,rfl,e⟩|⟨y,u,rfl,e⟩
   .exact nomatch e
   .injection e with e1 _;rw[e1]
 byValue:=λk v h=>by
  rcases xP h with⟨i,t,rfl,rfl⟩|⟨x,t,rfl,rfl⟩<;>rfl
 pyHash:=λhv h=>by
  rcases xP hv with⟨i,t,rfl,rfl⟩|⟨x,t,rfl,rfl⟩
  .exact wpAny_pyHash_int h
  .exact wpAny_pyHash_str h
 eqBool:=λhu hv h=>by
  rcases xP hu with⟨i,t,rfl,rfl⟩|⟨x,t,rfl,rfl⟩
  .rcases xP hv with⟨j,u,rfl,rfl⟩|⟨y,u,rfl,rfl⟩
   .rw[zm6] at h;exact wpAny_eqBool_int h
   .rw[zm8] at h;exact SeqAt.EqAt.int_str i t y u _ _ _ _ h
  .rcases xP hv with⟨j,u,rfl,rfl⟩|⟨y,u,rfl,rfl⟩
   .rw[zm9] at h;exact SeqAt.EqAt.str_int x t j u _ _ _ _ h
   .rw[zm7] at h;exact wpAny_eqBool_str h
 «strs» :=λk x t v h=>by
  rcases xP h with⟨i,u,rfl,e⟩|⟨y,u,rfl,e⟩
  .exact nomatch e
  .injection e with e1 _
   subst e1;cases v<;>rfl
theorem zex (prog:Program) (w:World) (i:Int) (t:Tok):(vm prog w).is (.inl i) (.int i t)=true:=zhN i t
theorem zey (prog:Program) (w:World) (x:Str) (t:Tok):(vm prog w).is (.inr x) (.str x t)=true:=zhO x t
inductive V where
 |non|bl (b:Bool)|int (i:Int)|str (x:Str)|byt (b:Array UInt8)|flt (b:UInt64)|ref (a:Addr)|ty (n:String)
 deriving DecidableEq
def yn:V->Value->Prop
 | .non,u=>u=Value.none
 | .bl b,u=>u=Value.bool b
 | .int i,u=>∃t,u=Value.int i t
 | .str x,u=>∃t,u=Value.str x t
 | .byt b,u=>∃t,u=Value.bytes b t
 | .flt b,u=>∃t,u=Value.float b t
 | .ref a,u=>u=Value.ref a
 | .ty n,u=>u=Value.type n
noncomputable abbrev yr:List V->List Value->Prop:=Paired yn
theorem yr.length {xs:List V} {us:List Value} (r:yr xs us):xs.length=us.length:=Paired.length r
theorem yr.get:∀{xs:List V} {us:List Value} {i:Nat} {x:V},yr xs us->xs[i]? =some x->∃u,us[i]? =some u/\yn x u
 |_,_,_,_,.nil,e=>by simp at e
 |_,_,0,_,.cons r _,e=>by simp at e;subst e;exact⟨_,rfl,r⟩
 |_,_,i+1,x,.cons _ t,e=>by
  obtain⟨u,h1,h2⟩:=yr.get (i:=i) (x:=x) t (by simpa using e);exact⟨u,by simpa using h1,h2⟩
theorem yr.set {x:V} {u:Value} (r:yn x u):∀{xs:List V} {us:List Value} (i:Nat),yr xs us->yr (xs.set i x) (us.set i u)
 |_,_,_,.nil=> .nil
 |_,_,0,.cons _ t=> .cons r t
 |_,_,i+1,.cons q t=> .cons q (yr.set r i t)
theorem yr.append:∀{xs ys:List V} {us ws:List Value},yr xs us->yr ys ws->yr (xs++ys) (us++ws)
 |_,_,_,_,.nil,s=>s
 |_,_,_,_,.cons r t,s=> .cons r (yr.append t s)
theorem yr.take:∀{xs:List V} {us:List Value} (n:Nat),yr xs us->yr (xs.take n) (us.take n)
 |_,_,0,_=> .nil
 |_,_,_+1,.nil=> .nil
 |_,_,n+1,.cons r t=> .cons r (yr.take n t)
theorem yr.drop:∀{xs:List V} {us:List Value} (n:Nat),yr xs us->yr (xs.drop n) (us.drop n)
 |_,_,0,r=>r
 |_,_,_+1,.nil=> .nil
 |_,_,n+1,.cons _ t=>yr.drop n t
def Wu:Option V->Option Value->Prop
 |some v,some u=>yn v u
 |none,none=>True
 |_,_=>False
def KV {κ:Type}:List (κ×V)->List (κ×Value)->Prop:=Paired λ(p:κ×V) (q:κ×Value)=>p.1=q.1/\yn p.2 q.2
noncomputable def kV:Key->V
 | .inl i=> .int i
 | .inr x=> .str x
inductive NK where
 |int (i:Int)|str (x:Str)|tup (l:List NK)
noncomputable instance:DecidableEq NK:=λa b=>uh (a=b)
mutual
noncomputable def Ve (w:World):NK->Int
 | .int i=>zfF w (.inl i)
 | .str x=>zfF w (.inr x)
 | .tup l=>reduceHash (Builtin.Tuple.tupleHashOf (XL w l))
noncomputable def XL (w:World):List NK->List Int
 |[]=>[]
 |k::r=>Ve w k::XL w r
end
mutual
noncomputable def ZC:NK->Nat
 | .int _=>0
 | .str _=>0
 | .tup l=>We l+1
noncomputable def We:List NK->Nat
 |[]=>0
 |k::r=>max (ZC k) (We r)
end
noncomputable def zna (w:World) (x:NK×Addr×Value):DictEntry:={hash:=Ve w x.1,key:= .ref x.2.1,val:=x.2.2}
inductive HO where
 |lst (xs:List V)
 |tup (xs:List V)
 |dK (ah:List (Key×V))|dT (ah:List (List Key×V))
 |dN (ks:List (NK×Addr×V))
 |set (S:Int->Bool) (n:Nat)
 |ins (C dx:Addr) (fs:List (Str×V))
 |own (x:Addr)
 |xd (fs:List (Str×V))
 |met (f x:Addr)
 |rng (lo hi:Int)
 |frz (o:Obj) (u:HO)
 |tbl (ps:Array Value)
 |ext (φ:Heap->Prop)
abbrev Hp:=Addr->Option HO
noncomputable def upd (H:Hp) (a:Addr) (o:HO):Hp:=λb=>if b=a then some o else H b
theorem zZ {H:Hp} {a:Addr} {o:HO}:upd H a o a=some o:=by unfold upd;rw[if_pos rfl]
theorem zO {H:Hp} {a b:Addr} {o:HO} (h:b≠a):upd H a o b=H b:=by unfold upd;rw[if_neg h]
theorem zow {H:Hp} {a b:Addr} {o u:HO} (h:H a=some o) (h':H b=some u) (d:o≠u):a≠b:=by
 intro e;subst e;rw[h] at h';exact d (rp h')
theorem ZD {H:Hp} {a b:Addr} {o:HO} (h:H a=some o) (h':H b=none):a≠b:=by
 intro e;subst e;rw[h] at h';cases h'
def Vs (h:Heap) (a:Addr) (items:Array Value):Prop:=∃o,h.get? a=some o/\o.cls= .type "tuple"/\∃n,o.data= .seq items n/\o.dict=none
theorem Vs.tup {h:Heap} {a:Addr} {items:Array Value} (x:Vs h a items):IsTup h a items:=by
 obtain⟨o,e,c,n,d,_⟩:=x;exact⟨o,e,c,n,d⟩
theorem Vs.new (h:Heap) (items:Array Value):Vs (h.push {cls:= .type "tuple",data:= .seq items}) h.objs.size items:=⟨_,Heap.get?_push_size _ rfl,rfl,_,rfl,rfl⟩
section
variable (P:Program) (w:World)
def xE (H:Hp) (h:Heap) (a:Addr):HO->Prop
 | .lst xs=>xs.length<=sizeLine/\∃(ak:List Value) (n:Nat),yr xs ak/\h.get? a=some {cls:= .type "list",data:= .seq ak.toArray n}
 | .tup xs=>xs.length<=sizeLine/\∃ak:List Value,yr xs ak/\Vs h a ak.toArray
 | .dK ah=>ah.length<=sizeLine/\(a==sysModules)=false/\∃vs,KV ah vs/\h.DictOf (vm P w) a vs
 | .dT ah=>ah.length<=sizeLine/\(a==sysModules)=false/\∃xs:List (List Key×Addr×Value),
   Paired (λ(p:List Key×V) (q:List Key×Addr×Value)=>p.1=q.1/\H q.2.1=some (.tup (p.1.map kV))/\yn p.2 q.2.2) ah xs/\
   ∃o es ep,h.get? a=some o/\o.ExactDict/\o.data= .dict es ep/\es.toList=xs.map (entryOfKey (tupleKind (vm P w)))/\(xs.map (·.1)).Nodup
 | .dN ks=>ks.length<=sizeLine/\(a==sysModules)=false/\∃xs:List (NK×Addr×Value),Paired (λ(p:NK×Addr×V) (q:NK×Addr×Value)=>p.1=q.1/\p.2.1=q.2.1/\yn p.2.2 q.2.2) ks xs/\
   ∃o es ep,h.get? a=some o/\o.ExactDict/\o.data= .dict es ep/\es.toList=xs.map (zna w)/\(xs.map (·.1)).Nodup
 | .set S n=>h.SetOf (intKind P w) a S n
 | .ins C dx fs=>H dx=some (.own a)/\fs.length<=1000/\dx≠a/\h.get? a=some (sT C dx)/\
   ∃mA,h.Ns1 dx mA/\(∀f,Wu (fs.lookup f) (mA f))/\Al mA (fs.map (·.1))
 | .own _=>∃o,h.get? a=some o
 | .xd fs=>∃mA,h.Ns1 a mA/\∀f,Wu (fs.lookup f) (mA f)
 | .rng lo hi=>∃t u v,h.get? a=some {cls:= .type "range",data:= .fields #[.int lo t,.int hi u,.int 1 v]}
 | .frz o u=>h.get? a=some o/\xE H h a u
 | .tbl ps=>h.get? a=some {cls:= .none,data:= .fields ps}
 | .met f x=>h.get? a=some (v8 (.ref f) (.ref x))
 | .ext φ=>φ h/\(∃o,h.get? a=some o)/\∀h1 h2:Heap,φ h1->(∀o,h1.get? a=some o->h2.get? a=some o)->φ h2
def HOk (H:Hp) (h:Heap):Prop:=∀a o,H a=some o->xE P w H h a o
end
section
variable {P:Program} {w:World} {H H':Hp} {h h':Heap} {a:Addr} {o:HO}
theorem xE.lt (x:xE P w H h a o):a<h.objs.size:=by
 cases o with
 |lst xs=>obtain⟨_,_,_,_,e⟩:=x;exact Heap.lt_size e
 |tup xs=>obtain⟨_,_,_,p⟩:=x;exact p.tup.lt
 |dK ah=>obtain⟨_,_,_,_,o,_,_,e,_⟩:=x;exact Heap.lt_size e
 |dT ah=>obtain⟨_,_,_,_,o,_,_,e,_⟩:=x;exact Heap.lt_size e
 |dN ks=>obtain⟨_,_,_,_,o,_,_,e,_⟩:=x;exact Heap.lt_size e
 |set S n=>obtain⟨o,_,_,_,e,_⟩:=x;exact Heap.lt_size e
 |ins C dx fs=>obtain⟨_,_,_,e,_⟩:=x;exact Heap.lt_size e
 |own y=>obtain⟨_,e⟩:=x;exact Heap.lt_size e
 |xd fs=>obtain⟨_,⟨_,_,_,e,_⟩,_⟩:=x;exact Heap.lt_size e
 |rng lo hi=>obtain⟨_,_,_,e⟩:=x;exact Heap.lt_size e
 |frz ob u=>obtain⟨e,_⟩:=x;exact Heap.lt_size e
 |tbl ps=>exact Heap.lt_size (show h.get? a=some _ from x)
 |met f y=>exact Heap.lt_size (show h.get? a=some _ from x)
 |ext φ=>obtain⟨_,⟨_,e⟩,_⟩:=x;exact Heap.lt_size e
theorem Paired.mapP {α β:Type} {F G:α->β->Prop}:∀{l₁:List α} {l₂:List β},Paired F l₁ l₂->(∀a b,F a b->G a b)->Paired G l₁ l₂
 |_,_,.nil,_=> .nil
 |_,_,.cons r t,f=> .cons (f _ _ r) (Paired.mapP t f)
theorem xE.stay (x:xE P w H h a o) (k:∀b u,(b=a\/H b=some (.own a))->h.get? b=some u->h'.get? b=some u)
  (ho:∀b,H b=some (.own a)->H' b=some (.own a)) (ht:∀b xs,H b=some (.tup xs)->H' b=some (.tup xs)):xE P w H' h' a o:=by
 induction o with
 |lst xs=>obtain⟨z,ak,n,r,e⟩:=x;exact⟨z,ak,n,r,k _ _ (.inl rfl) e⟩
 |tup xs=>obtain⟨z,ak,r,ob,e,c⟩:=x;exact⟨z,ak,r,ob,k _ _ (.inl rfl) e,c⟩
 |dK ah=>obtain⟨z,y,vs,r,ob,es,ep,e,c⟩:=x;exact⟨z,y,vs,r,ob,es,ep,k _ _ (.inl rfl) e,c⟩
 |dT ah=>
  obtain⟨z,y,xs,r,ob,es,ep,e,c⟩:=x;exact⟨z,y,xs,Paired.mapP r λp q z=>⟨z.1,ht _ _ z.2.1,z.2.2⟩,ob,es,ep,k _ _ (.inl rfl) e,c⟩
 |dN ks=>obtain⟨z,y,xs,r,ob,es,ep,e,c⟩:=x;exact⟨z,y,xs,r,ob,es,ep,k _ _ (.inl rfl) e,c⟩
 |set S n=>obtain⟨ob,es,ep,t,e,c⟩:=x;exact⟨ob,es,ep,t,k _ _ (.inl rfl) e,c⟩
 |ins C dx fs=>
  obtain⟨d,z,ne,e,mA,⟨od,es,ep,e2,c⟩,r⟩:=x;exact⟨ho _ d,z,ne,k _ _ (.inl rfl) e,mA,⟨od,es,ep,k _ _ (.inr d) e2,c⟩,r⟩
 |own y=>obtain⟨ob,e⟩:=x;exact⟨ob,k _ _ (.inl rfl) e⟩
 |xd fs=>obtain⟨mA,⟨od,es,ep,e,c⟩,r⟩:=x;exact⟨mA,⟨od,es,ep,k _ _ (.inl rfl) e,c⟩,r⟩
 |rng lo hi=>obtain⟨t,u,v,e⟩:=x;exact⟨t,u,v,k _ _ (.inl rfl) e⟩
 |frz ob u ih=>obtain⟨e,q⟩:=x;exact⟨k _ _ (.inl rfl) e,ih q⟩
 |tbl ps=>
  have e:h.get? a=some {cls:= .none,data:= .fields ps}:=x;show h'.get? a=some {cls:= .none,data:= .fields ps};exact k a _ (.inl rfl) e
 |met f y=>
  have e:h.get? a=some (v8 (.ref f) (.ref y)):=x;show h'.get? a=some (v8 (.ref f) (.ref y));exact k a _ (.inl rfl) e
 |ext φ=>obtain⟨p,⟨o,e⟩,st⟩:=x;exact⟨st _ _ p λo q=>k _ _ (.inl rfl) q,⟨o,k _ _ (.inl rfl) e⟩,st⟩
theorem HOk.lt (x:HOk P w H h) (e:H a=some o):a<h.objs.size:=(x a o e).lt
theorem HOk.fresh (x:HOk P w H h) (e:h.objs.size<=a):H a=none:=by
 cases q:H a with
 |none=>rfl
 |some u=>exact absurd (rD (x.lt q) e) (sZ _)
theorem HOk.kept (x:HOk P w H h) (k:∀b u,h.get? b=some u->h'.get? b=some u):HOk P w H h':=λa o e=>
 (x a o e).stay (λb u _ q=>k b u q) (λ_ q=>q) λ_ _ q=>q
theorem HOk.laid (x:HOk P w H h) (k:∀b u,h.get? b=some u->h'.get? b=some u) (hp:h.objs.size<=a) (new:xE P w (upd H a o) h' a o):HOk P w (upd H a o) h':=λb u e=>by
 have hn:=x.fresh hp;by_cases hb:b=a
 .subst hb;rw[zZ] at e;cases e;exact new
 .rw[zO hb] at e;exact (x b u e).stay (λc v _ q=>k c v q) (λc q=>by rw[zO (ZD q hn)];exact q) λc xs q=>by rw[zO (ZD q hn)];exact q
end
def Rd (H:Hp) (a:Addr) (u:HO):Prop:=H a=some u\/∃o,H a=some (.frz o u)
theorem Rd.ok {P:Program} {w:World} {H:Hp} {h:Heap} {a:Addr} {u:HO} (r:Rd H a u) (x:HOk P w H h):xE P w H h a u:=by
 rcases r with r|⟨o,r⟩
 .exact x a u r
 .obtain⟨_,q⟩:=x a _ r;exact q
def Mut:Option HO->Prop
 |some (.lst _)=>True
 |some (.dK _)=>True
 |some (.dT _)=>True
 |some (.dN _)=>True
 |some (.set _ _)=>True
 |some (.ins _ _ _)=>True
 |some (.ext _)=>True
 |_=>False
section
variable {P:Program} {w:World} {H:Hp} {h h':Heap} {x e:Addr} {o':HO}
theorem HOk.write (ok:HOk P w H h) (mu:Mut (H x)) (he:e=x\/H e=some (.own x)) (k:∀b u,b≠e->h.get? b=some u->h'.get? b=some u) (ik:∃u,h'.get? e=some u)
  (new:xE P w (upd H x o') h' x o'):HOk P w (upd H x o') h':=λb u q=>by
 have iG:∀c y,H c=some (.own y)->c≠x:=λc y r z=>by subst z;rw[r] at mu;exact mu
 have jX:∀c xs,H c=some (.tup xs)->c≠x:=λc xs r z=>by subst z;rw[r] at mu;exact mu
 by_cases hb:b=x
 .subst hb;rw[zZ] at q;cases q;exact new
 .rw[zO hb] at q;by_cases hJ:b=e
  .have q':H b=some (.own x):=by
    rcases he with z|z
    .exact absurd (hJ.trans z) hb
    .rw[hJ];exact z
   rw[q] at q';cases q';obtain⟨v,hv⟩:=ik;exact⟨v,by rw[hJ];exact hv⟩
  .refine (ok b u q).stay (λc v hc r=>k c v ?_ r) (λc r=>by rw[zO (iG c b r)];exact r) λc xs r=>by rw[zO (jX c xs r)];exact r
   rcases hc with rfl|hc
   .exact hJ
   .rintro rfl;rcases he with z|z
    .exact iG c b hc z
    .rw[hc] at z;cases z;exact hb rfl
end
structure Un (fs ex:List Addr) (H H':Hp) (h h':Heap):Prop where
 keep:∀b o,h.get? b=some o->H b=none->b∉fs->b∉ex->h'.get? b=some o
 slot:∀b o,h.get? b=some o->H b=none->b∈fs->b∉ex->∃sl,h'.get? b=some {o with slots:=sl}
 free:∀b o,h.get? b=some o->H b=none->b∉ex->H' b=none
 there:∀b o,h.get? b=some o->b∉ex->∃o',h'.get? b=some o'
 tups:∀b xs,H b=some (.tup xs)->H' b=some (.tup xs)
 frzs:∀b o u,H b=some (.frz o u)->H' b=some (.frz o u)
 tbls:∀b ps,H b=some (.tbl ps)->∃more,H' b=some (.tbl (ps++more))
section
variable {fs fs' ex ex':List Addr} {H H1 H2:Hp} {h h1 h2 h':Heap} {a x e:Addr} {o:HO}
theorem Un.any (u:Un fs ex H H1 h h1) {b:Addr} {ob:Obj} (q:h.get? b=some ob) (n:H b=none) (hx:b∉ex):∃sl,h1.get? b=some {ob with slots:=sl}:=by
 by_cases hb:b∈fs
 .exact u.slot b ob q n hb hx
 .exact⟨ob.slots,u.keep b ob q n hb hx⟩
theorem Un.trans (a:Un fs ex H H1 h h1) (b:Un fs ex H1 H2 h1 h2):Un fs ex H H2 h h2 where
 keep:=λc ob q n hc hx=>b.keep c ob (a.keep c ob q n hc hx) (a.free c ob q n hx) hc hx
 slot:=λc ob q n hc hx=>by
  obtain⟨sl,e1⟩:=a.slot c ob q n hc hx;obtain⟨sl',e2⟩:=b.slot c _ e1 (a.free c ob q n hx) hc hx;exact⟨sl',e2⟩
 free:=λc ob q n hx=>by
  obtain⟨o',e1⟩:=a.there c ob q hx;exact b.free c o' e1 (a.free c ob q n hx) hx
 there:=λc ob q hx=>by
  obtain⟨o',e1⟩:=a.there c ob q hx;exact b.there c o' e1 hx
 tups:=λc xs q=>b.tups c xs (a.tups c xs q)
 frzs:=λc ob xs q=>b.frzs c ob xs (a.frzs c ob xs q)
 tbls:=λc ps q=>by
  obtain⟨m1,e1⟩:=a.tbls c ps q;obtain⟨m2,e2⟩:=b.tbls c _ e1;exact⟨m1++m2,by rw[e2,uW]⟩
theorem Un.kept (k:∀b u,h.get? b=some u->h'.get? b=some u):Un fs ex H H h h':=
 ⟨λb ob q _ _ _=>k b ob q,λb ob q _ _ _=>⟨ob.slots,k b ob q⟩,λ_ _ _ n _=>n,λb ob q _=>⟨ob,k b ob q⟩,λ_ _ q=>q,λ_ _ _ q=>q,λ_ ps q=>⟨#[],by rw[q];simp⟩⟩
theorem Un.refl:Un fs ex H H h h:=Un.kept λ_ _ q=>q
theorem Un.laid (k:∀b u,h.get? b=some u->h'.get? b=some u) (hp:h.objs.size<=a) (hn:H a=none):Un fs ex H (upd H a o) h h' where
 keep:=λb u q _ _ _=>k b u q
 slot:=λb u q _ _ _=>⟨u.slots,k b u q⟩
 free:=λb u q n _=>by rw[zO (rA (rD (Heap.lt_size q) hp))];exact n
 there:=λb u q _=>⟨u,k b u q⟩
 tups:=λb xs q=>by rw[zO (ZD q hn)];exact q
 frzs:=λb u xs q=>by rw[zO (ZD q hn)];exact q
 tbls:=λb ps q=>⟨#[],by rw[zO (ZD q hn),q];simp⟩
theorem Un.write (mu:Mut (H x)) (he:e=x\/H e=some (.own x)) (k:∀b u,b≠e->h.get? b=some u->h'.get? b=some u) (ik:∃u,h'.get? e=some u):Un fs ex H (upd H x o) h h':=by
 have hx:∀b,H b=none->b≠x:=λb n z=>by subst z;rw[n] at mu;exact mu
 have hb:∀b,H b=none->b≠e:=λb n z=>by
  subst z;rcases he with r|r
  .exact hx b n r
  .rw[n] at r;cases r
 have hm:∀b u,H b=some u->¬Mut (some u)->b≠x:=λb u q nm z=>by subst z;rw[q] at mu;exact nm mu
 refine⟨λb u q n _ _=>k b u (hb b n) q,λb u q n _ _=>⟨u.slots,k b u (hb b n) q⟩,λb u q n _=>by rw[zO (hx b n)];exact n,λb u q _=> ?_,
  λb xs q=>by rw[zO (hm b _ q λz=>z)];exact q,λb u xs q=>by rw[zO (hm b _ q λz=>z)];exact q,λb ps q=>⟨#[],by rw[zO (hm b _ q λz=>z),q];simp⟩⟩
 by_cases hJ:b=e
 .subst hJ;exact ik
 .exact⟨u,k b u hJ q⟩
end
noncomputable def trk (h:Heap) (H:Hp):List Addr:=(sC h.objs.size).filter λa=>(H a).isSome
noncomputable def zdw (h:Heap) (H:Hp):Heap:=PySem.W.hideAll h (trk h H)
theorem zhP (h:Heap) (H:Hp):(zdw h H).objs.size=h.objs.size:=PySem.W.hideAll_size _ _
theorem ziE {h:Heap} {H:Hp} {b:Addr} {o:Obj} (e:h.get? b=some o) (n:H b=none):(zdw h H).get? b=some o:=
 PySem.W.hideAll_get _ e λhm=>by
  have q:(H b).isSome=true:=(AI.mp hm).2;rw[n] at q;simp at q
theorem zk3 {h:Heap} {H:Hp} {b:Addr} {o:Obj} (e:(zdw h H).get? b=some o):h.get? b=some o/\H b=none:=by
 have e':h.get? b=some o:=PySem.W.of_hideAll (trk h H) e;refine⟨e',?_⟩;cases q:H b with
 |none=>rfl
 |some x=>
  have hm:b∈trk h H:=AI.mpr ⟨t8.mpr (Heap.lt_size e'),by simp[q]⟩;have z:(zdw h H).get? b=none:=PySem.W.hideAll_none (trk h H) hm;rw[z] at e;cases e
structure Mod (P:Program) (K:qP) (mg:Str->Option Value) (base:Heap):Prop where
 kin:K.In base
 glob:base.Ns mainGlobals mg
 blt:∃mb,base.Ns builtinsNs mb/\∀x:Str,x≠"__name__"->mb x=bootBuiltins x
 nolimit:base.NoLimit
 bmn:∃bm ob,mg "__builtins__"=some (.ref bm)/\bm≠builtinsNs/\base.get? bm=some ob/\ob.cls= .type "module"/\ob.dict=some builtinsNs/\ob.data= .plain
 seer:base.NoSeer
 tree:P.given.tree=none
structure Cx where
 prog:Program
 w:World
 K:qP
 mg:Str->Option Value
 base:Heap
 A:Around
 N:List Str
 s₀:Shared
 H₀:Hp
 env:Env
 outer:List Env
 stack:List Env
 ex:List Addr
 fn:Str->Bool
 zn:Str->Bool
 calm:Bool
 pn:List (Addr×Obj)
 xe:Value->Shared->Prop
noncomputable def frs (l:List Env):List Addr:=l.filterMap (·.frame)
noncomputable abbrev Cx.fs (X:Cx):List Addr:=frs X.outer
def Vis (sc:Scope) (x:Str):Prop:=sc.names.lookup x=some .local\/sc.names.lookup x=some .cell\/sc.names.lookup x=some .free
def Loc (sc:Scope) (x:Str):Prop:=sc.names.lookup x=some .local\/sc.names.lookup x=some .cell
def zpL (env:Env) (h:Heap) (m:Str->Option Value) (x:Str) (u:Value):Prop:=
 (env.kindOf x=some .local/\m x=some u)\/((env.kindOf x=some .cell\/env.kindOf x=some .free)/\∃c,env.cells.lookup x=some c/\h.IsCell c (some u))
structure Cx.Ok (X:Cx):Prop where
 mod:Mod X.prog X.K X.mg X.base
 kind:X.env.scope.kind= .function
 glob:X.env.globals=mainGlobals
 blt:X.env.builtins=builtinsNs
 above:X.s₀.heap.objs.size<=X.env.locals
 inj:∀x y c,X.env.cells.lookup x=some c->X.env.cells.lookup y=some c->x=y
 has:∀x,(X.env.kindOf x=some .cell\/X.env.kindOf x=some .free)->∃c,X.env.cells.lookup x=some c
 cab:∀x c,(X.fn x=true\/X.zn x=true)->X.env.cells.lookup x=some c->X.s₀.heap.objs.size<=c
 hd:X.calm=true->X.A.handled=none
 frames:X.A.frames=some X.stack
 stk:X.stack=X.outer\/(X.stack=X.env::X.outer/\X.env.frame=some X.env.locals)
 exf:∀b∈X.ex,b≠X.env.locals/\∀x c,X.env.cells.lookup x=some c->c≠b
 bs:∀b o,X.base.get? b=some o->X.s₀.heap.get? b=some o/\X.H₀ b=none
 bsz:X.base.objs.size<=X.s₀.heap.objs.size
 noex:∀b o,X.base.get? b=some o->b∉X.ex
 exfs:∀b∈X.ex,b∉X.fs
 funs:X.s₀.heap.FunFrames X.base X.outer
 frf:∀b∈X.fs,X.H₀ b=none
structure Inv (X:Cx) (pins:List (Addr×Obj)) (σ:List (Option V)) (H:Hp) (s:Shared):Prop where
 ok:X.Ok
 os:s.os=X.s₀.os
 bare:AllBare s.gens
 base:Un X.fs X.ex X.H₀ H X.s₀.heap s.heap
 loc:∃m,s.heap.Ns X.env.locals m/\∀(i:Nat) (x:Str) (v:V),X.N[i]? =some x->σ[i]? =some (some v)->Vis X.env.scope x->∃u,yn v u/\zpL X.env s.heap m x u
 cell:∀x c,X.env.cells.lookup x=some c->∃v,s.heap.IsCell c v
 free:H X.env.locals=none
 freeC:∀x c,X.env.cells.lookup x=some c->H c=none\/(X.fn x=false/\∃o,H c=some (.frz o (.own 0)))
 pin:∀p∈X.pn++pins,s.heap.get? p.1=some p.2/\H p.1=none/\p.1≠X.env.locals/\p.1∉X.fs/\∀v,p.2.data≠ .cell v
 hok:HOk X.prog X.w H s.heap
 len:σ.length=X.N.length
section
variable {X:Cx} {pins:List (Addr×Obj)} {σ:List (Option V)} {H H':Hp} {s:Shared} {h':Heap}
theorem Cx.Ok.nofr (ok:X.Ok) {b:Addr} {o:Obj} (e:X.base.get? b=some o):b∉X.fs:=λhb=>by
 have:=(ok.funs.mem hb).1;rw[e] at this;cases this
theorem Inv.bs (I:Inv X pins σ H s):∀b o,X.base.get? b=some o->s.heap.get? b=some o/\H b=none:=λb o e=>
 ⟨I.base.keep b o (I.ok.bs b o e).1 (I.ok.bs b o e).2 (I.ok.nofr e) (I.ok.noex b o e),I.base.free b o (I.ok.bs b o e).1 (I.ok.bs b o e).2 (I.ok.noex b o e)⟩
theorem Inv.bk (I:Inv X pins σ H s):∀b o,X.base.get? b=some o->s.heap.get? b=some o:=λb o e=>(I.bs b o e).1
theorem Inv.mod (I:Inv X pins σ H s):Mod X.prog X.K X.mg X.base:=I.ok.mod
theorem Inv.kIn (I:Inv X pins σ H s):X.K.In s.heap:=I.ok.mod.kin.keeps I.bk
theorem Inv.nolimit (I:Inv X pins σ H s):s.heap.NoLimit:=I.ok.mod.nolimit.keeps I.bk
theorem Inv.lt (I:Inv X pins σ H s):X.env.locals<s.heap.objs.size:=let ⟨_,hn,_⟩:=I.loc;hn.lt
theorem Inv.sz (I:Inv X pins σ H s):X.s₀.heap.objs.size<=s.heap.objs.size:=rk I.ok.above (rS I.lt)
theorem Inv.nofs (I:Inv X pins σ H s) {a:Addr} (h:s.heap.objs.size<=a):a∉X.fs:=λhb=>by
 obtain⟨_,o,ho,_⟩:=I.ok.funs.mem hb;exact absurd (rD (Heap.lt_size ho) (rk I.sz h)) (sZ _)
theorem Inv.cne (I:Inv X pins σ H s):∀x c,X.env.cells.lookup x=some c->c≠X.env.locals:=λx c e z=>by
 obtain⟨v,o,ho,hd⟩:=I.cell x c e;obtain⟨m,⟨o',es,ep,fM,ip,_⟩,_⟩:=I.loc;rw[z,fM] at ho;cases ho;rw[ip] at hd;cases hd
theorem Inv.funs (I:Inv X pins σ H s):s.heap.FunFrames X.base X.outer:=by
 have all:∀(l:List Env),(∀b∈frs l,b∈X.fs)->X.s₀.heap.FunFrames X.base l->s.heap.FunFrames X.base l:=by
  intro l
  induction l with
  |nil=>intro _ _;trivial
  |cons env r ih=>
   intro hs hl;obtain⟨hk,⟨L,o,hf,hn,ho,hd⟩,hr⟩:=hl;have hL:L∈X.fs:=hs L (by unfold frs;rw[tM,hf];exact rE);obtain⟨sl,e⟩:=I.base.slot L o ho (I.ok.frf L hL) hL λz=>I.ok.exfs L z hL;exact⟨hk,⟨L,_,hf,hn,e,hd⟩,ih (λb hb=>hs b (by unfold frs;rw[tM,hf];exact r9 _ hb)) hr⟩
 exact all X.outer (λ_ hb=>hb) I.ok.funs
theorem Inv.stack (I:Inv X pins σ H s):s.heap.FunFrames X.base X.stack:=by
 rcases I.ok.stk with e|⟨e,hf⟩
 .rw[e];exact I.funs
 .rw[e];obtain⟨m,hn,_⟩:=I.loc;refine .cons (by rw[I.ok.kind];decide) hf hn ?_ I.funs;exact Heap.get?_none_of_le (rk I.ok.bsz I.ok.above)
theorem Inv.stkSub (I:Inv X pins σ H s):∀b∈frs X.stack,b∈X.env.locals::X.fs:=λb hb=>by
 rcases I.ok.stk with e|⟨e,hf⟩
 .rw[e] at hb;exact r9 _ hb
 .rw[e] at hb;unfold frs at hb;rw[tM,hf] at hb;exact hb
theorem Inv.stkFree (I:Inv X pins σ H s):∀b∈frs X.stack,H b=none:=λb hb=>by
 rcases rQ.mp (I.stkSub b hb) with e|hb
 .rw[e];exact I.free
 .obtain⟨_,o,ho,_⟩:=I.ok.funs.mem hb;exact I.base.free b o ho (I.ok.frf b hb) λz=>I.ok.exfs b z hb
theorem Inv.step {g':Array GenState} {t':Nat} {d':Drawn} {ch:List Addr} (I:Inv X pins σ H s)
  (fQ:∀b∈ch,(b∈X.ex\/X.s₀.heap.objs.size<=b)/\b≠X.env.locals/\(∀x c,X.env.cells.lookup x=some c->c≠b)/\∀p∈X.pn++pins,p.1≠b)
  (keep:∀b o,b≠X.env.locals->b∉X.fs->b∉ch->s.heap.get? b=some o->H b=none->h'.get? b=some o)
  (slot:∀b o,b≠X.env.locals->b∈X.fs->b∉ch->s.heap.get? b=some o->H b=none->∃sl,h'.get? b=some {o with slots:=sl}) (free:∀b o,b∉ch->s.heap.get? b=some o->H b=none->H' b=none)
  (there:∀b o,b∉ch->s.heap.get? b=some o->∃o',h'.get? b=some o')
  (tups:∀b xs,H b=some (.tup xs)->H' b=some (.tup xs)) (frzs:∀b o u,H b=some (.frz o u)->H' b=some (.frz o u)) (tbls:∀b ps,H b=some (.tbl ps)->∃more,H' b=some (.tbl (ps++more)))
  (ns:∀m,s.heap.Ns X.env.locals m->h'.Ns X.env.locals m) (hok:HOk X.prog X.w H' h') (hg:AllBare g'):
  Inv X pins σ H' {s with heap:=h',gens:=g',drawn:=d',toks:=t'}:=by
 have m8:∀b o,X.s₀.heap.get? b=some o->b≠X.env.locals:=λb o e=>rA (rD (Heap.lt_size e) I.ok.above);have jm:∀b o,X.s₀.heap.get? b=some o->b∉X.ex->b∉ch:=λb o e hx hb=>by
  rcases (fQ b hb).1 with z|z
  .exact hx z
  .exact absurd (rD (Heap.lt_size e) z) (sZ _)
 have cellK:∀x c,X.env.cells.lookup x=some c->∀v,s.heap.IsCell c v->h'.IsCell c v:=λx c e v ⟨o,ho,hd⟩=>by
  have iH:c∉ch:=λz=>(fQ c z).2.2.1 x c e rfl;rcases I.freeC x c e with hf|⟨_,o',hf⟩
  .by_cases hc:c∈X.fs
   .obtain⟨sl,q⟩:=slot c o (I.cne x c e) hc iH ho hf;exact⟨_,q,hd⟩
   .exact⟨o,keep c o (I.cne x c e) hc iH ho hf,hd⟩
  .have h1:=(I.hok c _ hf).1;rw[ho] at h1;cases h1;exact⟨o,(hok c _ (frzs c _ _ hf)).1,hd⟩
 refine⟨I.ok,I.os,hg,⟨λb o e n hb hx=> ?_,λb o e n hb hx=> ?_,λb o e n hx=> ?_,λb o e hx=> ?_,λb xs e=>tups b xs (I.base.tups b xs e),λb o xs e=>frzs b o xs (I.base.frzs b o xs e),λb ps e=> ?_⟩,?_,λx c e=> ?_,?_,λx c e=> ?_,λp hp=> ?_,hok,I.len⟩
 .exact keep b o (m8 b o e) hb (jm b o e hx) (I.base.keep b o e n hb hx) (I.base.free b o e n hx)
 .obtain⟨sl,e1⟩:=I.base.slot b o e n hb hx;obtain⟨sl',e2⟩:=slot b _ (m8 b o e) hb (jm b o e hx) e1 (I.base.free b o e n hx);exact⟨sl',e2⟩
 .obtain⟨o',e1⟩:=I.base.there b o e hx;exact free b o' (jm b o e hx) e1 (I.base.free b o e n hx)
 .obtain⟨o',e1⟩:=I.base.there b o e hx;exact there b o' (jm b o e hx) e1
 .obtain⟨m1,e1⟩:=I.base.tbls b ps e;obtain⟨m2,e2⟩:=tbls b _ e1;exact⟨m1++m2,by rw[e2,uW]⟩
 .obtain⟨m,hn,hl⟩:=I.loc;refine⟨m,ns m hn,λi x v e1 e2 e3=> ?_⟩;obtain⟨u,r,l⟩:=hl i x v e1 e2 e3;refine⟨u,r,?_⟩;rcases l with l|⟨k,c,e,z⟩
  .exact .inl l
  .exact .inr ⟨k,c,e,cellK x c e _ z⟩
 .obtain⟨v,z⟩:=I.cell x c e;exact⟨v,cellK x c e v z⟩
 .obtain⟨m,⟨o,_,_,ho,_⟩,_⟩:=I.loc;exact free _ o (λz=>(fQ _ z).2.1 rfl) ho I.free
 .obtain⟨v,o,ho,hd⟩:=I.cell x c e;rcases I.freeC x c e with hf|⟨z,o',hf⟩
  .exact .inl (free c o (λz=>(fQ c z).2.2.1 x c e rfl) ho hf)
  .exact .inr ⟨z,o',frzs c _ _ hf⟩
 .obtain⟨e,n,ne,nf,d⟩:=I.pin p hp;have iH:p.1∉ch:=λz=>(fQ p.1 z).2.2.2 p hp rfl;exact⟨keep p.1 p.2 ne nf iH e n,free p.1 p.2 iH e n,ne,nf,d⟩
theorem Inv.un {t':Nat} (I:Inv X pins σ H s) (u:Un X.fs [] H H' s.heap h') (hok:HOk X.prog X.w H' h'):Inv X pins σ H' {s with heap:=h',toks:=t'}:=by
 obtain⟨m,⟨o,es,ep,ho,r⟩,_⟩:=id I.loc;obtain⟨sl,hL⟩:=u.any ho I.free (by simp)
 exact I.step (g':=s.gens) (d':=s.drawn) (ch:=[]) (λ_ z=>nomatch z) (λb o _ hb _ e n=>u.keep b o e n hb (by simp)) (λb o _ hb _ e n=>u.slot b o e n hb (by simp)) (λb o _ e n=>u.free b o e n (by simp)) (λb o _ e=>u.there b o e (by simp)) u.tups u.frzs u.tbls (λm' hm=>by
  obtain⟨o',es',ep',fM,r'⟩:=hm;rw[ho] at fM;cases fM
  exact⟨_,es',ep',hL,r'⟩) hok I.bare
theorem Inv.call {g':Array GenState} {t':Nat} {d':Drawn} {ch:List Addr} (I:Inv X pins σ H s) (u:Un (frs X.stack) ch H H' s.heap h') (hok:HOk X.prog X.w H' h') (hg:AllBare g')
  (fQ:∀b∈ch,(b∈X.ex\/X.s₀.heap.objs.size<=b)/\b≠X.env.locals/\(∀x c,X.env.cells.lookup x=some c->c≠b)/\∀p∈X.pn++pins,p.1≠b):
  Inv X pins σ H' {s with heap:=h',gens:=g',drawn:=d',toks:=t'}:=by
 obtain⟨m,⟨o,es,ep,ho,r⟩,_⟩:=id I.loc;obtain⟨sl,hL⟩:=u.any ho I.free λz=>(fQ _ z).2.1 rfl
 exact I.step (ch:=ch) fQ (λb o hL hb hc e n=>u.keep b o e n (λz=>(rQ.mp (I.stkSub b z)).elim hL hb) hc) (λb o _ _ hc e n=>u.any e n hc) (λb o hc e n=>u.free b o e n hc) (λb o hc e=>u.there b o e hc) u.tups u.frzs u.tbls (λm' hm=>by
  obtain⟨o',es',ep',fM,r'⟩:=hm;rw[ho] at fM;cases fM
  exact⟨_,es',ep',hL,r'⟩) hok hg
theorem Inv.turned {t':Nat} {it:Addr} (I:Inv X pins σ H s) (k:∀b o,b≠it->s.heap.get? b=some o->h'.get? b=some o) (hn:H it=none) (hL:it≠X.env.locals)
  (h1:it∈X.ex\/X.s₀.heap.objs.size<=it) (h2:∀x c,X.env.cells.lookup x=some c->c≠it) (h3:∀p∈X.pn++pins,p.1≠it):Inv X pins σ H {s with heap:=h',toks:=t'}:=by
 have m6:∀b u,H b=some u->b≠it:=λb u e z=>by rw[z,hn] at e;cases e
 refine I.step (g':=s.gens) (d':=s.drawn) (ch:=[it]) (λb hb=> ?_) (λb o _ _ hc e _=>k b o (λz=>hc (by simp[z])) e) (λb o _ _ hc e _=>⟨o.slots,k b o (λz=>hc (by simp[z])) e⟩) (λ_ _ _ _ n=>n)
  (λb o hc e=>⟨o,k b o (λz=>hc (by simp[z])) e⟩) (λ_ _ e=>e) (λ_ _ _ e=>e) (λb ps e=>⟨#[],by rw[e];simp⟩) (λm hm=> ?_) (λb u e=> ?_) I.bare
 .have e:b=it:=by simpa using hb
  subst e;exact⟨h1,hL,h2,h3⟩
 .obtain⟨o,es,ep,ho,r⟩:=hm;exact⟨o,es,ep,k _ o (sY hL) ho,r⟩
 .refine (I.hok b u e).stay (λc v hc q=>k c v ?_ q) (λ_ q=>q) λ_ _ q=>q;rcases hc with z|z
  .rw[z];exact m6 b u e
  .exact m6 c _ z
theorem Inv.tok (I:Inv X pins σ H s) (t:Nat):Inv X pins σ H {s with toks:=t}:=I.un (h':=s.heap) (t':=t) Un.refl I.hok
theorem Inv.kept {t':Nat} (I:Inv X pins σ H s) (k:∀b u,s.heap.get? b=some u->h'.get? b=some u):Inv X pins σ H {s with heap:=h',toks:=t'}:=I.un (Un.kept k) (I.hok.kept k)
theorem Inv.laid {a:Addr} {o:HO} {t':Nat} (I:Inv X pins σ H s) (k:∀b u,s.heap.get? b=some u->h'.get? b=some u) (hp:s.heap.objs.size<=a) (new:xE X.prog X.w (upd H a o) h' a o):
  Inv X pins σ (upd H a o) {s with heap:=h',toks:=t'}:=I.un (Un.laid k hp (I.hok.fresh hp)) (I.hok.laid k hp new)
theorem Inv.write {x e:Addr} {o:HO} {t':Nat} (I:Inv X pins σ H s) (mu:Mut (H x)) (he:e=x\/H e=some (.own x)) (k:∀b u,b≠e->s.heap.get? b=some u->h'.get? b=some u) (ik:∃u,h'.get? e=some u)
  (new:xE X.prog X.w (upd H x o) h' x o):Inv X pins σ (upd H x o) {s with heap:=h',toks:=t'}:=I.un (Un.write mu he k ik) (I.hok.write mu he k ik new)
theorem Inv.weak {σ':List (Option V)} (I:Inv X pins σ H s) (hl:σ'.length=σ.length) (w:∀(i:Nat) v,σ'[i]? =some (some v)->σ[i]? =some (some v)):Inv X pins σ' H s:=
 ⟨I.ok,I.os,I.bare,I.base,let ⟨m,hn,gU⟩:=I.loc;⟨m,hn,λi x v e1 e2 e3=>gU i x v e1 (w i v e2) e3⟩,I.cell,I.free,I.freeC,I.pin,I.hok,hl.trans I.len⟩
theorem Inv.pins_of {pins':List (Addr×Obj)} (I:Inv X pins σ H s) (h:∀p∈pins',s.heap.get? p.1=some p.2/\H p.1=none/\p.1≠X.env.locals/\p.1∉X.fs/\∀v,p.2.data≠ .cell v):Inv X pins' σ H s:=
 ⟨I.ok,I.os,I.bare,I.base,I.loc,I.cell,I.free,I.freeC,λp hp=>(uF.mp hp).elim (λz=>I.pin p (A7 _ z)) (h p),I.hok,I.len⟩
theorem zez {N:List Str} (hN:N.Nodup) {i j:Nat} {x:Str} (a:N[i]? =some x) (b:N[j]? =some x):i=j:=by
 obtain⟨h1,e1⟩:=qO.mp a;obtain⟨h2,e2⟩:=qO.mp b;exact (y0 hN).mp (e1.trans e2.symm)
theorem zcR {M:Model} {A:Around} {E:Value->Shared->Prop} {i:Nat} {x:Str} {v:V} {u:Value} {Q:Unit->Shared->Prop} (I:Inv X pins σ H s) (hN:X.N.Nodup) (hi:X.N[i]? =some x) (hx:Loc X.env.scope x) (r:yn v u)
  (h:∀s',Inv X pins (σ.set i (some v)) H s'->(∃a,Heap.SameBut a s.heap s'.heap/\(a=X.env.locals\/X.env.cells.lookup x=some a))->Q () s') (hf:X.fn x=true\/X.env.scope.names.lookup x=some .local:=by first|exact .inl rfl|exact .inr rfl|assumption):wpAny M A (storeName X.env x u) Q E s:=by
 obtain⟨m,hn,hl⟩:=id I.loc;have lD:(X.env.scope.kind== .class||(X.env.scope.kind== .module&&X.env.locals !=X.env.globals))=false:=by rw[I.ok.kind];rfl
 have hiσ:i<σ.length:=by rw[I.len];exact (qO.mp hi).1
 have cne:=I.cne;have tracked:∀{a:Addr} {h':Heap},(∃o,s.heap.get? a=some o/\H a=none)->Heap.SameBut a s.heap h'->HOk X.prog X.w H h':=λ{a h'} ha hs b ob e=>by
  obtain⟨_,_,gu⟩:=ha;refine (I.hok b ob e).stay (λc w' hc q=>(hs.2 c ?_).trans q) (λ_ q=>q) λ_ _ q=>q;rintro rfl;rcases hc with rfl|hc
  .rw[gu] at e;cases e
  .rw[gu] at hc;cases hc
 rcases hx with hk|hk
 .refine wpAny_storeName_local hk hn (λh' mW hs=> ?_) lD;obtain⟨oL,_,_,oQ,_⟩:=id hn;refine h _ ⟨I.ok,I.os,I.bare,⟨λb o e n hb hx=> ?_,λb o e n hb hx=> ?_,I.base.free,λb o e hx=> ?_,I.base.tups,I.base.frzs,I.base.tbls⟩,⟨_,mW,λj y v' e1 e2 e3=> ?_⟩,λy c e=> ?_,I.free,I.freeC,λp hp=> ?_,tracked ⟨oL,oQ,I.free⟩ hs,by simpa using I.len⟩ ⟨_,hs,.inl rfl⟩
  .exact (hs.2 b (rA (rD (Heap.lt_size e) I.ok.above))).trans (I.base.keep b o e n hb hx)
  .obtain⟨sl,e1⟩:=I.base.slot b o e n hb hx;exact⟨sl,(hs.2 b (rA (rD (Heap.lt_size e) I.ok.above))).trans e1⟩
  .obtain⟨o',e1⟩:=I.base.there b o e hx;exact⟨o',(hs.2 b (rA (rD (Heap.lt_size e) I.ok.above))).trans e1⟩
  .by_cases hj:j=i
   .subst hj;rw[hi] at e1;cases e1;rw[z8 hiσ] at e2;cases e2;exact⟨u,r,.inl ⟨hk,by simp⟩⟩
   .rw[uG (sY hj)] at e2;obtain⟨u',r',q⟩:=hl j y v' e1 e2 e3;refine⟨u',r',?_⟩;rcases q with⟨k,e⟩|⟨k,c,e,z⟩
    .refine .inl ⟨k,?_⟩;have:y≠x:=λe=>hj (zez hN e1 (e ▸ hi));simp[this,e]
    .exact .inr ⟨k,c,e,z.sameBut hs (cne y c e)⟩
  .obtain⟨w',z⟩:=I.cell y c e;exact⟨w',z.sameBut hs (cne y c e)⟩
  .obtain⟨e,n,ne,nf,d⟩:=I.pin p hp;exact⟨(hs.2 p.1 ne).trans e,n,ne,nf,d⟩
 .have jF:X.fn x=true:=by
   rcases hf with z|z
   .exact z
   .rw[z] at hk;cases hk
  obtain⟨c,hc⟩:=I.ok.has x (.inl hk);have pA:H c=none:=(I.freeC x c hc).elim (λz=>z) λz=>by rw[jF] at z;cases z.1
  obtain⟨w',z⟩:=I.cell x c hc;refine wpAny_storeName_cell I.ok.kind hk hc z (λh' h8 hs=> ?_);obtain⟨oc,jv,kR⟩:=id z;refine h {s with heap:=h'} ⟨I.ok,I.os,I.bare,⟨λb o e n hb hx=> ?_,λb o e n hb hx=> ?_,I.base.free,λb o e hx=> ?_,I.base.tups,I.base.frzs,I.base.tbls⟩,⟨m,hn.sameBut hs (sY (cne x c hc)),λj y v' e1 e2 e3=> ?_⟩,λy c' e=> ?_,I.free,I.freeC,λp hp=> ?_,tracked ⟨oc,jv,pA⟩ hs,by simpa using I.len⟩ ⟨c,hs,.inr hc⟩
  .exact (hs.2 b (rA (rD (Heap.lt_size e) (I.ok.cab x c (.inl jF) hc)))).trans (I.base.keep b o e n hb hx)
  .obtain⟨sl,e1⟩:=I.base.slot b o e n hb hx;exact⟨sl,(hs.2 b (rA (rD (Heap.lt_size e) (I.ok.cab x c (.inl jF) hc)))).trans e1⟩
  .obtain⟨o',e1⟩:=I.base.there b o e hx;exact⟨o',(hs.2 b (rA (rD (Heap.lt_size e) (I.ok.cab x c (.inl jF) hc)))).trans e1⟩
  .by_cases hj:j=i
   .subst hj;rw[hi] at e1;cases e1;rw[z8 hiσ] at e2;cases e2;exact⟨u,r,.inr ⟨.inl hk,c,hc,h8⟩⟩
   .rw[uG (sY hj)] at e2;obtain⟨u',r',q⟩:=hl j y v' e1 e2 e3;refine⟨u',r',?_⟩;rcases q with q|⟨k,c',e,z'⟩
    .exact .inl q
    .refine .inr ⟨k,c',e,z'.sameBut hs ?_⟩;rintro rfl;exact hj (zez hN e1 (I.ok.inj _ _ _ e hc ▸ hi))
  .by_cases jK:c'=c
   .subst jK;exact⟨_,h8⟩
   .obtain⟨w2,z2⟩:=I.cell y c' e;exact⟨w2,z2.sameBut hs jK⟩
  .obtain⟨e,n,ne,nf,d⟩:=I.pin p hp;refine⟨(hs.2 p.1 ?_).trans e,n,ne,nf,d⟩;intro q;rw[q,jv] at e;have q':oc=p.2:=rp e;exact d w' (by rw[<-q'];exact kR)
theorem zeA {M:Model} {A:Around} {E:Value->Shared->Prop} {i:Nat} {x:Str} {v:V} {u:Value} {Q:Unit->Shared->Prop} (I:Inv X pins σ H s) (hN:X.N.Nodup) (hi:X.N[i]? =some x) (hx:Loc X.env.scope x) (r:yn v u)
  (h:∀s',Inv X pins (σ.set i (some v)) H s'->Q () s') (hf:X.fn x=true\/X.env.scope.names.lookup x=some .local:=by first|exact .inl rfl|exact .inr rfl|assumption):wpAny M A (storeName X.env x u) Q E s:=
 zcR I hN hi hx r (λs' I' _=>h s' I') hf
theorem Inv.call' {s':Shared} {ch:List Addr} (I:Inv X pins σ H s) (ho:s'.os=s.os) (u:Un (frs X.stack) ch H H' s.heap s'.heap) (hok:HOk X.prog X.w H' s'.heap) (hg:AllBare s'.gens)
  (fQ:∀b∈ch,(b∈X.ex\/X.s₀.heap.objs.size<=b)/\b≠X.env.locals/\(∀x c,X.env.cells.lookup x=some c->c≠b)/\∀p∈X.pn++pins,p.1≠b):Inv X pins σ H' s':=by
 obtain⟨h',g',d',t',o'⟩:=s';have e:o'=s.os:=ho;subst e;exact I.call (g':=g') (t':=t') (d':=d') u hok hg fQ
end
abbrev XK:=Value->Option Addr->Hp->Prop
abbrev St:=List (Option V)
abbrev VK:=V->Hp->Prop
abbrev TE:=St->Hp->VK->Prop
abbrev TT:=St->Hp->(Bool->Hp->Prop)->Prop
abbrev TA:=St->Hp->(List V->Hp->Prop)->Prop
structure zac where
 nx:St->Hp->Prop
 rt:VK
 bk:St->Hp->Prop:=λ_ _=>False
 ct:St->Hp->Prop:=λ_ _=>False
noncomputable abbrev TS:=zac->St->Hp->Prop
def EP (X:Cx) (pins:List (Addr×Obj)) (σ:St) (Q:VK) (u:Value) (s':Shared):Prop:=∃v H',Inv X pins σ H' s'/\yn v u/\Q v H'
def TP (X:Cx) (pins:List (Addr×Obj)) (σ:St) (Q:Bool->Hp->Prop) (b:Bool) (s':Shared):Prop:=∃H',Inv X pins σ H' s'/\Q b H'
def AP (X:Cx) (pins:List (Addr×Obj)) (σ:St) (Q:List V->Hp->Prop) (us:List Value) (s':Shared):Prop:=∃vs H',Inv X pins σ H' s'/\yr vs us/\Q vs H'
def SP (X:Cx) (pins:List (Addr×Obj)) (D:zac) (f:Flow) (s':Shared):Prop:=
 match f with
 | .next=>∃σ' H',Inv X pins σ' H' s'/\D.nx σ' H'
 | .brk=>∃σ' H',Inv X pins σ' H' s'/\D.bk σ' H'
 | .cont=>∃σ' H',Inv X pins σ' H' s'/\D.ct σ' H'
 | .ret u=>∃v σ' H',Inv X pins σ' H' s'/\yn v u/\D.rt v H'
def PE (X:Cx) (e:Expr) (t:TE):Prop:=
 ∀(pins:List (Addr×Obj)) (s:Shared) (σ:St) (H:Hp) (Q:VK),Inv X pins σ H s->t σ H Q->wpAny (model X.prog X.w) X.A (eval e X.env) (EP X pins σ Q) X.xe s
def PT (X:Cx) (e:Expr) (t:TT):Prop:=
 ∀(pins:List (Addr×Obj)) (s:Shared) (σ:St) (H:Hp) (Q:Bool->Hp->Prop),Inv X pins σ H s->t σ H Q->wpAny (model X.prog X.w) X.A (isTrue e X.env (eval e X.env)) (TP X pins σ Q) X.xe s
def PW (X:Cx) (e:Expr) (t:TT):Prop:=
 ∀(whole:Sem Value) (pins:List (Addr×Obj)) (s:Shared) (σ:St) (H:Hp) (Q:Bool->Hp->Prop),Inv X pins σ H s->t σ H Q->wpAny (model X.prog X.w) X.A (isTrue e X.env whole) (TP X pins σ Q) X.xe s
theorem PW.pt {X:Cx} {e:Expr} {t:TT} (h:PW X e t):PT X e t:=h _
def PA (X:Cx) (es:List Expr) (t:TA):Prop:=
 ∀(pos:Pos) (pins:List (Addr×Obj)) (s:Shared) (σ:St) (H:Hp) (Q:List V->Hp->Prop),Inv X pins σ H s->t σ H Q->wpAny (model X.prog X.w) X.A (spliced (backTo pos (starEach es X.env))) (AP X pins σ Q) X.xe s
def PS (X:Cx) (st:Stmt) (t:TS):Prop:=
 ∀(pins:List (Addr×Obj)) (s:Shared) (σ:St) (H:Hp) (D:zac),Inv X pins σ H s->t D σ H->wpAny (model X.prog X.w) X.A (exec st X.env) (SP X pins D) X.xe s
def PSs (X:Cx) (st:List Stmt) (t:TS):Prop:=
 ∀(pins:List (Addr×Obj)) (s:Shared) (σ:St) (H:Hp) (D:zac),Inv X pins σ H s->t D σ H->wpAny (model X.prog X.w) X.A (execs st X.env) (SP X pins D) X.xe s
theorem thn {α:Type} {t:Sem α} {Q Q':α->Shared->Prop} {M:Model} {A:Around} {E:Value->Shared->Prop} {s:Shared} (h:wpAny M A t Q E s) (hQ:∀a s,Q a s->Q' a s):wpAny M A t Q' E s:=wpAny_mono h hQ λ_ _ x=>x
section
variable {X:Cx}
theorem bin {a b:Expr} {ta tb:TE} (ha:PE X a ta) (hb:PE X b tb) {pins:List (Addr×Obj)} {s:Shared} {σ:St} {H:Hp} {R:V->V->Hp->Prop} (I:Inv X pins σ H s) (h:ta σ H λx H1=>tb σ H1 λy H2=>R x y H2)
  {α:Type} {Q:α->Shared->Prop} {f:Value->Value->Sem α}
  (hf:∀v u s2 x y H2,Inv X pins σ H2 s2->yn x v->yn y u->R x y H2->wpAny (model X.prog X.w) X.A (f v u) Q X.xe s2):
  wpAny (model X.prog X.w) X.A (eval a X.env) (λv s₁=>wpAny (model X.prog X.w) X.A (eval b X.env) (λu s₂=>wpAny (model X.prog X.w) X.A (f v u) Q X.xe s₂) X.xe s₁) X.xe s:=by
 refine thn (ha pins s σ H _ I h) ?_;rintro v s1 ⟨x,H1,I1,r1,q1⟩;refine thn (hb pins s1 σ H1 _ I1 q1) ?_;rintro u s2 ⟨y,H2,I2,r2,q2⟩;exact hf v u s2 x y H2 I2 r1 r2 q2
def znb (i:Nat):TE:=λσ H Q=>∃v,σ[i]? =some (some v)/\Q v H
def tC (v:V):TE:=λ_ H Q=>Q v H
theorem ziF {i:Nat} {x:Str} {pos:Pos} (hN:X.N[i]? =some x) (hv:Vis X.env.scope x) (hd:(x==("__debug__":Str))=false:=by decide) (cQ:(x==("__classdict__":Str))=false:=by decide):PE X (.Name x pos) (znb i):=by
 intro pins s σ H Q I h;obtain⟨v,e,h⟩:=h;obtain⟨m,hn,hl⟩:=I.loc;obtain⟨u,r,l⟩:=hl i x v hN e hv;have fin:EP X pins σ Q u s:=⟨v,H,I,r,h⟩;rcases l with⟨hk,hm⟩|⟨hk,c,hc,gw⟩
 .exact wpAny_Name (wpAny_loadName_local I.ok.kind hk hn hm fin) hd
 .rcases hk with hk|hk
  .exact wpAny_Name (wpAny_loadName_cell I.ok.kind hk hc gw fin) hd
  .exact wpAny_Name (wpAny_loadName_free I.ok.kind hk hc gw fin cQ) hd
theorem zg {i j pos}:PE X (.Constant (.int i) j pos) (tC (.int i)):=λ_ _ _ H _ I h=>wpAny_Constant_int ⟨.int i,H,I.tok _,⟨_,rfl⟩,h⟩
theorem zas {b j pos}:PE X (.Constant (.bool b) j pos) (tC (.bl b)):=λ_ _ _ H _ I h=>Constant_bool ⟨.bl b,H,I,rfl,h⟩
theorem znc {j pos}:PE X (.Constant .none j pos) (tC .non):=λ_ _ _ H _ I h=>Constant_none ⟨.non,H,I,rfl,h⟩
theorem ye {x j pos}:PE X (.Constant (.str x) j pos) (tC (.str x)):=λ_ _ _ H _ I h=>Calls.Constant_str ⟨.str x,H,I.tok _,⟨_,rfl⟩,h⟩
def Gl (X:Cx) (x:Str):Prop:=X.env.kindOf x=some .globalImplicit
theorem zdx {E:Value->Shared->Prop} {pins:List (Addr×Obj)} {s:Shared} {σ:St} {H:Hp} {x:Str} {u:Value} {pos:Pos} {Q:Value->Shared->Prop} (I:Inv X pins σ H s) (hg:Gl X x) (hm:X.mg x=some u) (h:Q u s)
  (hd:(x==("__debug__":Str))=false:=by decide):wpAny (model X.prog X.w) X.A (eval (.Name x pos) X.env) Q E s:=
 Calls.Name_function_global I.ok.kind hg (Calls.loadGlobal_global (by rw[I.ok.glob];exact I.mod.glob.keeps I.bk) hm h) hd
theorem Ux {E:Value->Shared->Prop} {pins:List (Addr×Obj)} {s:Shared} {σ:St} {H:Hp} {x:Str} {u:Value} {pos:Pos} {Q:Value->Shared->Prop} (I:Inv X pins σ H s) (hg:Gl X x) (hm:X.mg x=none) (hv:bootBuiltins x=some u) (h:Q u s)
  (hn:x≠"__name__":=by decide) (hd:(x==("__debug__":Str))=false:=by decide):wpAny (model X.prog X.w) X.A (eval (.Name x pos) X.env) Q E s:=by
 obtain⟨mb,h1,h2⟩:=I.mod.blt;exact Calls.Name_function_global I.ok.kind hg (Calls.loadGlobal_builtin (by rw[I.ok.glob];exact I.mod.glob.keeps I.bk) hm (by rw[I.ok.blt];exact h1.keeps I.bk) ((h2 x hn).trans hv) h) hd
theorem zaU {x:Str} {v:V} {u:Value} {pos:Pos} (hg:Gl X x) (hm:X.mg x=some u) (r:yn v u) (hd:(x==("__debug__":Str))=false:=by decide):PE X (.Name x pos) (tC v):=
 λ_ _ _ H _ I h=>zdx I hg hm ⟨v,H,I,r,h⟩ hd
theorem Zf {x:Str} {v:V} {u:Value} {pos:Pos} (hg:Gl X x) (hm:X.mg x=none) (hv:bootBuiltins x=some u) (r:yn v u) (hn:x≠"__name__":=by decide) (hd:(x==("__debug__":Str))=false:=by decide):PE X (.Name x pos) (tC v):=
 λ_ _ _ H _ I h=>Ux I hg hm hv ⟨v,H,I,r,h⟩ hn hd
def t2I (ta tb:TE) (k:Int->Int->Hp->Prop):St->Hp->Prop:=λσ H=>ta σ H λx H1=>tb σ H1 λy H2=>∃i j,x= .int i/\y= .int j/\k i j H2
variable {a b:Expr} {ta tb:TE} {pos:Pos}
def PC (X:Cx) (op:CmpOp) (a b:Expr) (t:TE):Prop:=
 ∀(pins:List (Addr×Obj)) (s:Shared) (σ:St) (H:Hp) (Q:VK),Inv X pins σ H s->t σ H Q->
  wpAny (model X.prog X.w) X.A (eval a X.env) (λv s₁=>wpAny (model X.prog X.w) X.A (eval b X.env) (λu s₂=>wpAny (model X.prog X.w) X.A (compareOp op v u) (EP X pins σ Q) X.xe s₂) X.xe s₁) X.xe s
theorem zeB (b:Expr) {op:CmpOp} (h:op≠ .In) (h2:op≠ .NotIn):behindInMarks op b=false:=by
 have e1:(op==CmpOp.In)=false:=by cases op<;>first|rfl|exact absurd rfl h
 have e2:(op==CmpOp.NotIn)=false:=by cases op<;>first|rfl|exact absurd rfl h2
 cases b<;>simp[behindInMarks,e1,e2]
def zeC (p:Int->Int->Bool) (ta tb:TE):TE:=λσ H Q=>t2I ta tb (λi j H2=>Q (.bl (p i j)) H2) σ H
noncomputable abbrev tLt:TE->TE->TE:=zeC λi j=>decide (i<j)
noncomputable abbrev tLe:TE->TE->TE:=zeC λi j=>decide (i<=j)
noncomputable abbrev tGt:TE->TE->TE:=zeC λi j=>decide (j<i)
noncomputable abbrev tGe:TE->TE->TE:=zeC λi j=>decide (j<=i)
noncomputable abbrev zox:TE->TE->TE:=zeC λi j=>decide (i=j)
noncomputable abbrev zoy:TE->TE->TE:=zeC λi j=> !decide (i=j)
theorem zba {op:CmpOp} {p:Int->Int->Bool} (ha:PE X a ta) (hb:PE X b tb)
  (rule:∀(i j:Int) (t u:Tok) (Q:Value->Shared->Prop) (s:Shared),Q (.bool (p i j)) s->wpAny (model X.prog X.w) X.A (compareOp op (.int i t) (.int j u)) Q X.xe s):PC X op a b (zeC p ta tb):=by
 intro pins s σ H Q I h;refine bin ha hb I h λv u s2 x y H2 I2 rx ry q=> ?_;obtain⟨i,j,rfl,rfl,q⟩:=q;obtain⟨t,rfl⟩:=rx;obtain⟨t',rfl⟩:=ry;exact rule i j t t' _ s2 ⟨.bl _,H2,I2,rfl,q⟩
theorem zat (ha:PE X a ta) (hb:PE X b tb):PC X .Lt a b (tLt ta tb):=zba ha hb λ_ _ _ _ _ _ h=>lt_int h
theorem UP (ha:PE X a ta) (hb:PE X b tb):PC X .Gt a b (tGt ta tb):=zba ha hb λ_ _ _ _ _ _ h=>gt_int h
theorem zoz (ha:PE X a ta) (hb:PE X b tb):PC X .GtE a b (tGe ta tb):=zba ha hb λ_ _ _ _ _ _ h=>ge_int h
theorem vz (ha:PE X a ta) (hb:PE X b tb):PC X .Eq a b (zox ta tb):=zba ha hb λ_ _ _ _ _ _ h=>eq_int (by rw[A3];exact h)
theorem zad (ha:PE X a ta) (hb:PE X b tb):PC X .NotEq a b (zoy ta tb):=zba ha hb λ_ _ _ _ _ _ h=>ne_int (by rw[bne,A3];exact h)
def zoA (ta:TE):TE:=λσ H Q=>ta σ H λx H1=>Q (.bl (decide (x= .non))) H1
theorem yn.none_iff {x:V} {v:Value} (r:yn x v):(v==Value.none)=decide (x= .non):=by
 cases x with
 |non=>cases r;rfl
 |bl _=>cases r;rfl
 |int _=>obtain⟨t,rfl⟩:=r;rfl
 |str _=>obtain⟨t,rfl⟩:=r;rfl
 |byt _=>obtain⟨t,rfl⟩:=r;rfl
 |flt _=>obtain⟨t,rfl⟩:=r;rfl
 |ref _=>cases r;rfl
 |ty _=>cases r;rfl
theorem zfG {j pos'} (ha:PE X a ta):PC X .Is a (.Constant .none j pos') (zoA ta):=by
 intro pins s σ H Q I h;refine thn (ha pins s σ H _ I h) ?_;rintro v s1 ⟨x,H1,I1,r1,q1⟩;exact Constant_none (is_none_gen ⟨.bl _,H1,I1,by rw[r1.none_iff];rfl,q1⟩)
def tB (t:TE):TT:=λσ H Q=>t σ H λx H1=>∃c,x= .bl c/\Q c H1
theorem YG {op:CmpOp} {t:TE} (h:PC X op a b t) (h1:behindInMarks op b=false:=by first|exact zeB _ ∅ ∅|rfl):PE X (.Compare a [op] [b] pos) t:=λpins s σ H Q I hw=>wpAny_Compare1 (h pins s σ H Q I hw) h1
theorem yG {op:CmpOp} {t:TE} (h:PC X op a b t) (h1:behindInMarks op b=false:=by first|exact zeB _ ∅ ∅|rfl):PT X (.Compare a [op] [b] pos) (tB t):=by
 intro pins s σ H Q I hw;refine wpAny_isTrue_Compare1 (thn (h pins s σ H _ I hw) λv s1 h1=>thn h1 λu s2 h2=>thn h2 ?_) h1;rintro c s3 ⟨x,H1,I1,r1,q1⟩;obtain⟨d,rfl,q⟩:=q1;cases r1;exact wpAny_truthy_bool ⟨H1,I1,q⟩
theorem Zg {e:Expr} {t:TE} (h:PE X e t) (he:∀whole,isTrue e X.env whole=(do let v <-whole;standAt e.pos;holding [v] (truthy v)):=by intro _;rfl):PT X e (tB t):=by
 intro pins s σ H Q I hw;refine isTrue_plain (thn (h pins s σ H _ I hw) ?_) (he _);rintro v s1 ⟨x,H1,I1,r1,q1⟩;obtain⟨d,rfl,q⟩:=q1;cases r1;exact wpAny_truthy_bool ⟨H1,I1,q⟩
variable {tA tB':TT} {rest:List Expr}
def zoB (t u:TT):TT:=λσ H Q=>t σ H λc H1=>if c=true then u σ H1 Q else Q false H1
def tOr (t u:TT):TT:=λσ H Q=>t σ H λc H1=>if c=true then Q true H1 else u σ H1 Q
def zoC (t:TT):TT:=λσ H Q=>t σ H λc H1=>Q (!c) H1
theorem UQ (ha:PT X a tA):PW X (.BoolOp .And [a] pos) tA:=by
 intro wh pins s σ H Q I h;refine isTrue_and (thn (ha pins s σ H Q I h) λc s1 e=> ?_);cases c with
 |true=>exact isTrue_and_nil e
 |false=>exact e
theorem zfH (ha:PT X a tA):PW X (.BoolOp .Or [a] pos) tA:=by
 intro wh pins s σ H Q I h;refine isTrue_or (thn (ha pins s σ H Q I h) λc s1 e=> ?_);cases c with
 |false=>exact isTrue_or_nil e
 |true=>exact e
theorem zbb (ha:PT X a tA) (hb:PW X (.BoolOp .And (b::rest) pos) tB'):PW X (.BoolOp .And (a::b::rest) pos) (zoB tA tB'):=by
 intro wh pins s σ H Q I h;refine isTrue_and (thn (ha pins s σ H _ I h) ?_);rintro c s1 ⟨H1,I1,q1⟩;cases c with
 |true=>exact hb wh pins s1 σ H1 Q I1 q1
 |false=>exact⟨H1,I1,q1⟩
theorem ziG (ha:PT X a tA) (hb:PW X (.BoolOp .Or (b::rest) pos) tB'):PW X (.BoolOp .Or (a::b::rest) pos) (tOr tA tB'):=by
 intro wh pins s σ H Q I h;refine isTrue_or (thn (ha pins s σ H _ I h) ?_);rintro c s1 ⟨H1,I1,q1⟩;cases c with
 |true=>exact⟨H1,I1,q1⟩
 |false=>exact hb wh pins s1 σ H1 Q I1 q1
theorem zbc (ha:PT X a tA):PT X (.UnaryOp .Not a pos) (zoC tA):=by
 intro pins s σ H Q I h;exact isTrue_not (ha pins s σ H (λc H1=>Q (!c) H1) I h)
def zmy (ta tb:TE):TE:=λσ H Q=>ta σ H λx H1=>∃c,x= .bl c/\if c=true then tb σ H1 Q else Q (.bl false) H1
def zmz (ta:TE):TE:=λσ H Q=>ta σ H λx H1=>∃c,x= .bl c/\Q (.bl (!c)) H1
theorem zfI {op} {t:TE} (h:PE X a t):PE X (.BoolOp op [a] pos) t:=λpins s σ H Q I hw=>BoolOp_one (h pins s σ H Q I hw)
theorem zdy (ha:PE X a ta) (hb:PE X (.BoolOp .And (b::rest) pos) tb):PE X (.BoolOp .And (a::b::rest) pos) (zmy ta tb):=by
 intro pins s σ H Q I h;refine BoolOp_and (thn (ha pins s σ H _ I h) ?_);rintro v s1 ⟨x,H1,I1,r1,q1⟩;obtain⟨c,rfl,q1⟩:=q1;cases r1;refine wpAny_truthy_bool ?_;cases c with
 |true=>exact hb pins s1 σ H1 Q I1 q1
 |false=>exact⟨.bl false,H1,I1,rfl,q1⟩
theorem ziH (ha:PE X a ta):PE X (.UnaryOp .Not a pos) (zmz ta):=by
 intro pins s σ H Q I h;refine UnaryOp_ (thn (ha pins s σ H _ I h) ?_);rintro v s1 ⟨x,H1,I1,r1,q1⟩;obtain⟨c,rfl,q1⟩:=q1;cases r1;exact not_of (wpAny_truthy_bool ⟨.bl (!c),H1,I1,rfl,q1⟩)
def tIf (t:TT) (ta tb:TE):TE:=λσ H Q=>t σ H λc H1=>if c=true then ta σ H1 Q else tb σ H1 Q
theorem YH {c:Expr} (hc:PT X c tA) (ha:PE X a ta) (hb:PE X b tb):PE X (.IfExp c a b pos) (tIf tA ta tb):=by
 intro pins s σ H Q I h;refine wpAny_IfExp (thn (hc pins s σ H _ I h) ?_);rintro d s1 ⟨H1,I1,q1⟩;cases d with
 |true=>exact ha pins s1 σ H1 Q I1 q1
 |false=>exact hb pins s1 σ H1 Q I1 q1
end
def SqL (K:qP) (H:Hp) (a:Addr) (xs:List V):Prop:=
 Rd H a (.lst xs)\/
  ∃(o:Obj) (ak:Array Value) (n:Nat),K.lookup a=some o/\o.cls= .type "list"/\o.dict=none/\o.data= .seq ak n/\ak.size<=sizeLine/\yr xs ak.toList
def SqT (K:qP) (H:Hp) (a:Addr) (xs:List V):Prop:=
 Rd H a (.tup xs)\/
  ∃(o:Obj) (ak:Array Value) (n:Nat),K.lookup a=some o/\o.cls= .type "tuple"/\o.data= .seq ak n/\ak.size<=sizeLine/\yr xs ak.toList
def SqX (K:qP) (H:Hp) (a:Addr) (xs:List V):Prop:=
 Rd H a (.lst xs)\/∃(ak:Array Value) (n:Nat),K.lookup a=some {cls:= .type "list",data:= .seq ak n}/\ak.size<=sizeLine/\yr xs ak.toList
theorem SqX.sql {K:qP} {H:Hp} {a:Addr} {xs:List V} (h:SqX K H a xs):SqL K H a xs:=by
 rcases h with h|⟨ak,n,hk,hz,r⟩
 .exact .inl h
 .exact .inr ⟨_,ak,n,hk,rfl,rfl,rfl,hz,r⟩
theorem SqX.of {K:qP} {H:Hp} {a:Addr} {xs:List V} (h:H a=some (.lst xs)):SqX K H a xs:= .inl (.inl h)
noncomputable def zpM:Value->Option V
 | .none=>some .non
 | .bool b=>some (.bl b)
 | .int i _=>some (.int i)
 | .str x _=>some (.str x)
 | .bytes b _=>some (.byt b)
 | .float b _=>some (.flt b)
 | .ref a=>some (.ref a)
 | .type n=>some (.ty n)
 |_=>none
theorem yn.abs {x:V} {u:Value} (r:yn x u):zpM u=some x:=by
 cases x with
 |non=>cases r;rfl
 |bl _=>cases r;rfl
 |int _=>obtain⟨t,rfl⟩:=r;rfl
 |str _=>obtain⟨t,rfl⟩:=r;rfl
 |byt _=>obtain⟨t,rfl⟩:=r;rfl
 |flt _=>obtain⟨t,rfl⟩:=r;rfl
 |ref _=>cases r;rfl
 |ty _=>cases r;rfl
theorem yn.inj {x y:V} {u:Value} (r:yn x u) (q:yn y u):x=y:=rp (r.abs.symm.trans q.abs)
theorem yr.inj:∀{xs ys:List V} {us:List Value},yr xs us->yr ys us->xs=ys
 |_,_,_,.nil,.nil=>rfl
 |_,_,_,.cons r t,.cons r' t'=>by rw[r.inj r',yr.inj t t']
section
variable {X:Cx} {pins:List (Addr×Obj)} {σ:St} {H:Hp} {s:Shared} {a:Addr} {xs ys:List V}
theorem SqT.of {K:qP} (h:H a=some (.tup xs)):SqT K H a xs:= .inl (.inl h)
theorem Inv.list (I:Inv X pins σ H s) (h:SqL X.K H a xs):∃ak:List Value,yr xs ak/\PlainL s.heap a ak.toArray/\xs.length<=sizeLine:=by
 rcases h with h|⟨o,ak,n,hk,hc,hd,hs,hz,r⟩
 .obtain⟨z,ak,n,r,e⟩:=h.ok I.hok;exact⟨ak,r,⟨_,n,e,rfl,rfl,rfl⟩,z⟩
 .refine⟨ak.toList,r,⟨o,n,I.kIn a o hk,hc,hd,by simpa using hs⟩,?_⟩;have e:=r.length;simp only[u6] at e;omega
theorem Inv.tuple (I:Inv X pins σ H s) (h:SqT X.K H a xs):∃ak:List Value,yr xs ak/\IsTup s.heap a ak.toArray/\xs.length<=sizeLine:=by
 rcases h with h|⟨o,ak,n,hk,hc,hs,hz,r⟩
 .obtain⟨z,ak,r,p⟩:=h.ok I.hok;exact⟨ak,r,p.tup,z⟩
 .refine⟨ak.toList,r,⟨o,I.kIn a o hk,hc,n,by simpa using hs⟩,?_⟩;have e:=r.length;simp only[u6] at e;omega
theorem Inv.list_inj (I:Inv X pins σ H s) (h:SqL X.K H a xs) (h':SqL X.K H a ys):xs=ys:=by
 obtain⟨ak,r,⟨o,n,e,_,_,d⟩,_⟩:=I.list h;obtain⟨its',r',⟨o',n',e',_,_,d'⟩,_⟩:=I.list h';rw[e] at e';cases e';rw[d] at d';injection d' with d1 _
 have:ak=its':=by simpa using congrArg y3 d1
 subst this;exact r.inj r'
theorem Inv.tuple_inj (I:Inv X pins σ H s) (h:SqT X.K H a xs) (h':SqT X.K H a ys):xs=ys:=by
 obtain⟨ak,r,⟨o,e,_,n,d⟩,_⟩:=I.tuple h;obtain⟨its',r',⟨o',e',_,n',d'⟩,_⟩:=I.tuple h';rw[e] at e';cases e';rw[d] at d';injection d' with d1 _
 have:ak=its':=by simpa using congrArg y3 d1
 subst this;exact r.inj r'
end
noncomputable abbrev Cx.wish (X:Cx) (E:Value->Shared->Prop):Cx:={X with xe:=E}
noncomputable abbrev Cx.nox (X:Cx):Cx:=X.wish λ_ _=>False
section
variable {X:Cx} {pins:List (Addr×Obj)} {σ:St} {H:Hp} {s:Shared} {E:Value->Shared->Prop}
end
section
variable {X:Cx} {st:Stmt} {rest:List Stmt} {t u:TS} {e:Expr} {te:TE} {pos:Pos}
def zmA:TS:=λD σ H=>D.nx σ H
def zoD (t u:TS):TS:=λD σ H=>t {D with nx:=u D} σ H
theorem zI:PSs X [] zmA:=λ_ _ σ H _ I h=>wpAny_execs_nil ⟨σ,H,I,h⟩
theorem ziI (h1:PS X st t) (h2:PSs X rest u):PSs X (st::rest) (zoD t u):=by
 intro pins s σ H D I h;refine wpAny_execs_cons (thn (h1 pins s σ H {D with nx:=u D} I h) λf s1 q=> ?_);cases f with
 |next=>
  obtain⟨σ',H',I',q⟩:=q;exact h2 pins s1 σ' H' D I' q
 |ret v=>exact q
 |brk=>exact q
 |cont=>exact q
theorem zk4 (h1:PS X st t):PSs X [st] t:=by
 intro pins s σ H D I h;refine wpAny_execs_cons (thn (h1 pins s σ H D I h) λf s1 q=> ?_);cases f with
 |next=>exact wpAny_execs_nil q
 |ret v=>exact q
 |brk=>exact q
 |cont=>exact q
theorem Inv.quiet {pins:List (Addr×Obj)} {σ:St} {H:Hp} {s:Shared} (I:Inv X pins σ H s):interactive X.env=false:=by simp[interactive,I.ok.kind]
def zmB (te:TE):TS:=λD σ H=>te σ H λ_ H1=>D.nx σ H1
theorem wP (he:PE X e te) (hs:swapsWith e none pos.line X.env=pure false:=by rfl):PS X (.Expr e pos) (zmB te):=by
 intro pins s σ H D I h;refine wpAny_Expr_any (thn (he pins s σ H _ I h) ?_) I.quiet hs;rintro v s1 ⟨x,H1,I1,r1,q1⟩;exact⟨σ,H1,I1,q1⟩
def zoE (te:TE):TS:=λD σ H=>te σ H D.rt
theorem znd (he:PE X e te):PS X (.Return (some e) pos) (zoE te):=by
 intro pins s σ H D I h;refine wpAny_Return_some (thn (he pins s σ H _ I h) ?_);rintro v s1 ⟨x,H1,I1,r1,q1⟩;exact⟨x,σ,H1,I1,r1,q1⟩
def zoF (c:TT) (t u:TS):TS:=λD σ H=>c σ H λb H1=>if b=true then t D σ H1 else u D σ H1
theorem yt {c:Expr} {a b:List Stmt} {tc:TT} (hc:PT X c tc) (ha:PSs X a t) (hb:PSs X b u):PS X (.If c a b pos) (zoF tc t u):=by
 intro pins s σ H D I h;refine wpAny_If (thn (hc pins s σ H _ I h) ?_);rintro d s1 ⟨H1,I1,q1⟩;cases d with
 |true=>exact ha pins s1 σ H1 D I1 q1
 |false=>exact hb pins s1 σ H1 D I1 q1
end
abbrev TG:=V->St->Hp->(St->Hp->Prop)->Prop
abbrev TGs:=List V->St->Hp->(St->Hp->Prop)->Prop
def PG (X:Cx) (target:Expr) (t:TG):Prop:=
 ∀(pins:List (Addr×Obj)) (s:Shared) (σ:St) (H:Hp) (v:V) (u:Value) (Q:St->Hp->Prop),Inv X pins σ H s->yn v u->t v σ H Q->
  wpAny (model X.prog X.w) X.A (assign target X.env u) (λ_ s'=>∃σ' H',Inv X pins σ' H' s'/\Q σ' H') X.xe s
abbrev zne:=V->V->V->Hp->(Hp->Prop)->Prop
def zoG (X:Cx) (t:zne):Prop:=
 ∀(pins:List (Addr×Obj)) (s:Shared) (σ:St) (H:Hp) (o i v:V) (ov iv u:Value) (Q:Hp->Prop),Inv X pins σ H s->yn o ov->yn i iv->yn v u->t o i v H Q->
  wpAny (model X.prog X.w) X.A (setItem ov iv u) (λ_ s'=>∃H',Inv X pins σ H' s'/\Q H') X.xe s
abbrev TIp:=V->V->Hp->VK->Prop
section
variable {X:Cx} {pos:Pos}
def zgN (i:Nat):TG:=λv σ H Q=>Q (σ.set i (some v)) H
theorem zX {i:Nat} {x:Str} (hN:X.N.Nodup) (hi:X.N[i]? =some x) (hx:Loc X.env.scope x) (hf:X.fn x=true\/X.env.scope.names.lookup x=some .local:=by first|exact .inl rfl|exact .inr rfl|assumption):PG X (.Name x pos) (zgN i):=by
 intro pins s σ H v u Q I r h;exact wpAny_assign_Name (zeA I hN hi hx r (λs' I'=>⟨_,H,I',h⟩) hf)
def zoH (to ti:TE) (t:zne):TG:=λv σ H Q=>to σ H λo H1=>ti σ H1 λi H2=>t o i v H2 λH3=>Q σ H3
theorem znf {o i:Expr} {to ti:TE} {t:zne} (ho:PE X o to) (hi:PE X i ti) (hs:zoG X t)
  (ha:∀v,assign (.Subscript o i pos) X.env v=(do
   let ov <-holding [v] (eval o X.env)
   let iv <-holding [v,ov] (eval i X.env)
   standAt pos
   holding [v,ov,iv] (setItem ov iv v)
   release [v,ov,iv] []):=by intro _;rfl):PG X (.Subscript o i pos) (zoH to ti t):=by
 intro pins s σ H v u Q I r h;rw[ha];refine wpAny_bind (wpAny_holding (thn (ho pins s σ H _ I h) ?_));rintro ov s1 ⟨x,H1,I1,r1,q1⟩;refine wpAny_bind (wpAny_holding (thn (hi pins s1 σ H1 _ I1 q1) ?_));rintro iv s2 ⟨y,H2,I2,r2,q2⟩;refine wpAny_bind (wpAny_standAt (wpAny_bind (wpAny_holding (thn (hs pins s2 σ H2 x y v ov iv u _ I2 r1 r2 r q2) ?_))));rintro _ s3 ⟨H3,I3,q3⟩;exact wpAny_release ⟨σ,H3,I3,q3⟩
def zng (te:TE) (g:TG):TS:=λD σ H=>te σ H λx H1=>g x σ H1 D.nx
theorem znh {tg e:Expr} {te:TE} {g:TG} (he:PE X e te) (hg:PG X tg g) (hs:swapsWithSole [tg] e pos.line X.env=pure false:=by rfl) (hw:swappedStores [tg] e X.env=pure none:=by rfl)
  (h1:(assignEach [tg] X.env).map (·.2)=[assign tg X.env]:=by rfl):PS X (.Assign [tg] e pos) (zng te g):=by
 intro pins s σ H D I h;refine wpAny_Assign_stores (thn (he pins s σ H _ I h) ?_) hs hw;rintro v s1 ⟨x,H1,I1,r1,q1⟩;rw[h1];exact thn (hg pins s1 σ H1 x v _ I1 r1 q1) λ_ s2 q=>q
theorem zni {i:Nat} {x:Str} {e:Expr} {te:TE} {pos':Pos} (hN:X.N.Nodup) (hi:X.N[i]? =some x) (hx:Loc X.env.scope x) (he:PE X e te) (hs:swapsWith e (some (.Name x pos')) pos.line X.env=pure false:=by rfl) (hf:X.fn x=true\/X.env.scope.names.lookup x=some .local:=by first|exact .inl rfl|exact .inr rfl|assumption):
  PS X (.Assign [.Name x pos'] e pos) (zng te (zgN i)):=by
 intro pins s σ H D I h;refine wpAny_Assign_Name (thn (he pins s σ H _ I h) ?_) hs;rintro v s1 ⟨y,H1,I1,r1,q1⟩;exact zeA I1 hN hi hx r1 (λs2 I2=>⟨_,H1,I2,q1⟩) hf
def ziJ (c:TT) (tb:TS):TS:=λD σ H=>∃W:Nat->St->Hp->Prop,(∃m,W m σ H)/\∀m σ H,W m σ H->
 c σ H λb H1=>if b=true then ∃N:St->Hp->Prop,(∀σ' H',N σ' H'->∃m',m'<m/\W m' σ' H')/\tb {D with nx:=N,ct:=N,bk:=D.nx} σ H1 else D.nx σ H1
theorem UR {c:Expr} {body:List Stmt} {tc:TT} {tb:TS} (hp:PassesOwn (model X.prog X.w) X.A X.env X.xe) (hc:PT X c tc) (hb:PSs X body tb):PS X (.While c body [] pos) (ziJ tc tb):=by
 intro pins s σ H D I h;obtain⟨W,⟨m0,w0⟩,turn⟩:=h;refine wpAny_While (codeAny_whileLoop (λn s'=>∃σ' H',Inv X pins σ' H' s'/\W n σ' H') ?_ m0 ⟨σ,H,I,w0⟩);rintro n s1 ⟨σ1,H1,I1,w1⟩;refine wpAny_passesOwn hp (thn (hc pins s1 σ1 H1 _ I1 (turn n σ1 H1 w1)) ?_);rintro b s2 ⟨H2,I2,q2⟩;cases b with
 |true=>
  obtain⟨N,hN,q2⟩:=q2;rw[if_pos rfl];refine wpAny_passesOwn hp (thn (hb pins s2 σ1 H2 _ I2 q2) λf s3 q3=> ?_);cases f with
  |next=>
   obtain⟨σ3,H3,I3,n3⟩:=q3;obtain⟨m',hm,w3⟩:=hN σ3 H3 n3;exact⟨m',hm,σ3,H3,I3,w3⟩
  |cont=>
   obtain⟨σ3,H3,I3,n3⟩:=q3;obtain⟨m',hm,w3⟩:=hN σ3 H3 n3;exact⟨m',hm,σ3,H3,I3,w3⟩
  |brk=>exact q3
  |ret v=>exact q3
 |false=>
  rw[if_neg rl];exact wpAny_execs_nil ⟨σ1,H2,I2,q2⟩
end
structure It where
 go:Nat->Hp->Prop
 yld:Nat->Hp->V->Hp->Prop
 stop:Nat->Hp->Prop
def zeD (X:Cx) (pins:List (Addr×Obj)) (H:Hp) (b:Addr):Prop:=
 H b=none/\b≠X.env.locals/\b∉X.fs/\(b∈X.ex\/X.s₀.heap.objs.size<=b)/\(∀x c,X.env.cells.lookup x=some c->c≠b)/\∀p∈X.pn++pins,p.1≠b
theorem Inv.fpOk {X:Cx} {pins:List (Addr×Obj)} {σ:St} {H H':Hp} {s:Shared} {b:Addr} (I:Inv X pins σ H s) (hb:s.heap.objs.size<=b) (hn:H' b=none):zeD X pins H' b:=by
 refine⟨hn,Nat.ne_of_gt (rD I.lt hb),I.nofs hb,.inr (rk I.sz hb),λx c e z=> ?_,λp hp z=> ?_⟩
 .obtain⟨v,q⟩:=I.cell x c e;exact absurd (rD q.lt (by rw[z];exact hb)) (sZ _)
 .exact absurd (rD (Heap.lt_size (I.pin p hp).1) (by rw[z];exact hb)) (sZ _)
structure ziK (P:Program) (w:World) (K:qP) (tg:Expr) (J:It) (fp:List Addr) (it:Addr) (tn:Nat->Heap->Prop):Prop where
 mem:it∈fp
 obj:∀i h,tn i h->∀b∈fp,∃o,h.get? b=some o/\∀v,o.data≠ .cell v
 keep:∀i h h',tn i h->(∀b∈fp,∀o,h.get? b=some o->h'.get? b=some o)->tn i h'
 item:∀(X:Cx),X.prog=P->X.w=w->X.K=K->X.calm=true->∀(i:Nat) (pins:List (Addr×Obj)) (s:Shared) (σ:St) (H:Hp) (E:Value->Shared->Prop),Inv X pins σ H s->(∀b∈fp,zeD X pins H b)->tn i s.heap->J.go i H->
  wpAny (model P w) X.A (pyNext (.ref it)) (λr s1=>∃u,r=some u/\
   wpAny (model P w) X.A (letOwnedTupleGo tg (.ref it) u) (λ_ s2=>∃x H',Inv X pins σ H' s2/\yn x u/\J.yld i H x H'/\tn (i+1) s2.heap/\∀b∈fp,H' b=none) E s1) E s
 done:∀(X:Cx),X.prog=P->X.w=w->X.K=K->X.calm=true->∀(i:Nat) (pins:List (Addr×Obj)) (s:Shared) (σ:St) (H:Hp) (E:Value->Shared->Prop),Inv X pins σ H s->(∀b∈fp,zeD X pins H b)->tn i s.heap->J.stop i H->
  wpAny (model P w) X.A (pyNext (.ref it)) (λr s1=>r=none/\Inv X pins σ H s1) E s
 self:∀(A:Around) (i:Nat) (s:Shared) (Q:Value->Shared->Prop) (E:Value->Shared->Prop),tn i s.heap->Q (.ref it) s->wpAny (model P w) A (pyIter (.ref it)) Q E s
abbrev TI:=St->Hp->(It->Hp->Prop)->Prop
def PIE (X:Cx) (pins:List (Addr×Obj)) (σ:St) (tg:Expr) (R:It->Hp->Prop) (ke:Value) (s2:Shared):Prop:=
 ∃(it:Addr) (fp:List Addr) (tn:Nat->Heap->Prop) (J:It) (H':Hp),ke= .ref it/\Inv X pins σ H' s2/\ziK X.prog X.w X.K tg J fp it tn/\tn 0 s2.heap/\(∀b∈fp,zeD X pins H' b)/\R J H'
def PI (X:Cx) (tg iter:Expr) (wi:TI):Prop:=
 ∀(pins:List (Addr×Obj)) (s:Shared) (σ:St) (H:Hp) (R:It->Hp->Prop),Inv X pins σ H s->wi σ H R->
  wpAny (model X.prog X.w) X.A (eval iter X.env) (λv s1=>wpAny (model X.prog X.w) X.A (pyIter v) (PIE X pins σ tg R) X.xe s1) X.xe s
theorem zgO {M:Model} {A:Around} {E:Value->Shared->Prop} {s:Shared} {tg:Expr} {it:Addr} {u:Value} {o:Obj} {n:String} {vs:Array Value} {Q:Unit->Shared->Prop} (ho:s.heap.get? it=some o) (hc:o.cls= .type n) (hd:o.data= .fields vs)
    (hn:["enumerate","zip","dict_itemiterator","dict_reverseitemiterator","odict_iterator","itertools.zip_longest","itertools.pairwise"].contains n=false) (hQ:Q () s):wpAny M A (letOwnedTupleGo tg (.ref it) u) Q E s:=by
  unfold letOwnedTupleGo;cases tg<;>first
    |exact wpAny_pure hQ
    | (cases u <;> first
        |exact wpAny_pure hQ
        | (refine wpAny_bind (wpAny_load ho ?_)
           rw[hc,hd];show wpAny M A (if (["enumerate","zip","dict_itemiterator","dict_reverseitemiterator","odict_iterator","itertools.zip_longest","itertools.pairwise"].contains n&&vs[0]? ==some (rawInt _))=true then _ else _) Q E s;rw[if_neg (by intro h;rw[hn,Bool.false_and] at h;cases h)]
           exact wpAny_pure hQ))
noncomputable def Itl (K:qP) (a:Addr):It:=
 ⟨λi H=>∃xs x,SqL K H a xs/\xs[i]? =some x,λi H x H'=>H'=H/\∀xs,SqL K H a xs->xs[i]? =some x,λi H=>∃xs,SqL K H a xs/\xs.length<=i⟩
noncomputable def Itt (K:qP) (a:Addr):It:=
 ⟨λi H=>∃xs x,SqT K H a xs/\xs[i]? =some x,λi H x H'=>H'=H/\∀xs,SqT K H a xs->xs[i]? =some x,λi H=>∃xs,SqT K H a xs/\xs.length<=i⟩
noncomputable def Itr (lo:Int) (n:Nat):It:=⟨λi _=>i<n,λi H x H'=>H'=H/\x= .int (lo+i),λi _=>n<=i⟩
theorem zhQ {P:Program} {w:World} {K:qP} {tg:Expr} (a it:Addr):ziK P w K tg (Itl K a) [it] it (λi h=>h.IsListIter it a i) where
 mem:=by simp
 obj:=λi h st b hb=>by
  have e:b=it:=by simpa using hb
  subst e;obtain⟨o,e,c,d⟩:=st;exact⟨o,e,λv z=>by rw[d] at z;cases z⟩
 keep:=λi h h' st k=>st.at λo e=>k it (by simp) o e
 item:=by
  intro X hP hw hK hc i pins s σ H E I hf st hg;subst hP hw hK;obtain⟨xs,x,hq,hx⟩:=hg;obtain⟨ak,rv,p,hz⟩:=I.list hq;obtain⟨u,hu,ru⟩:=rv.get hx;obtain⟨f0,f1,f2,f3,f4,f5⟩:=hf it (by simp);refine wpAny_pyNext_list_item st p.isList (x:=u) (by simpa using hu) λh' st' sb=> ?_;have I1:Inv X pins σ H {s with heap:=h'}:=I.turned (t':=s.toks) (λb o hb e=>(sb.2 b hb).trans e) f0 f1 f3 f4 f5;obtain⟨o,e,c,d⟩:=id st';exact⟨u,rfl,zgO (s:={s with heap:=h'}) e c d ∅ ⟨x,H,I1,ru,⟨rfl,λys hy=>by rw[I.list_inj hy hq];exact hx⟩,st',λb hb=>(hf b hb).1⟩⟩
 done:=by
  intro X hP hw hK hc i pins s σ H E I hf st hg;subst hP hw hK;obtain⟨xs,hq,hx⟩:=hg;obtain⟨ak,rv,p,hz⟩:=I.list hq;obtain⟨f0,f1,f2,f3,f4,f5⟩:=hf it (by simp);have hl:=rv.length;exact wpAny_pyNext_list_end (I.ok.hd hc) st p.isList (by simp;omega) λh' eb=>⟨rfl,I.turned (t':=s.toks) (λb o hb e=>eb b o hb e) f0 f1 f3 f4 f5⟩
 self:=λ_ _ _ _ _ st h=>wpAny_pyIter_listiter st h
theorem zfJ {P:Program} {w:World} {K:qP} {tg:Expr} (a it:Addr):ziK P w K tg (Itt K a) [it] it (λi h=>h.IsTupleIter it a i) where
 mem:=by simp
 obj:=λi h st b hb=>by
  have e:b=it:=by simpa using hb
  subst e;obtain⟨o,e,c,d⟩:=st;exact⟨o,e,λv z=>by rw[d] at z;cases z⟩
 keep:=λi h h' st k=>st.at λo e=>k it (by simp) o e
 item:=by
  intro X hP hw hK hc i pins s σ H E I hf st hg;subst hP hw hK;obtain⟨xs,x,hq,hx⟩:=hg;obtain⟨ak,rv,p,hz⟩:=I.tuple hq;obtain⟨u,hu,ru⟩:=rv.get hx;obtain⟨f0,f1,f2,f3,f4,f5⟩:=hf it (by simp);refine wpAny_pyNext_tuple_item st (show s.heap.IsTuple a ak.toArray from p) (x:=u) (by simpa using hu) λh' st' sb=> ?_;have I1:Inv X pins σ H {s with heap:=h'}:=I.turned (t':=s.toks) (λb o hb e=>(sb.2 b hb).trans e) f0 f1 f3 f4 f5;obtain⟨o,e,c,d⟩:=id st';exact⟨u,rfl,zgO (s:={s with heap:=h'}) e c d ∅ ⟨x,H,I1,ru,⟨rfl,λys hy=>by rw[I.tuple_inj hy hq];exact hx⟩,st',λb hb=>(hf b hb).1⟩⟩
 done:=by
  intro X hP hw hK hc i pins s σ H E I hf st hg;subst hP hw hK;obtain⟨xs,hq,hx⟩:=hg;obtain⟨ak,rv,p,hz⟩:=I.tuple hq;obtain⟨f0,f1,f2,f3,f4,f5⟩:=hf it (by simp);have hl:=rv.length;exact wpAny_pyNext_tuple_end (I.ok.hd hc) st (show s.heap.IsTuple a ak.toArray from p) (by simp;omega) λh' eb=>⟨rfl,I.turned (t':=s.toks) (λb o hb e=>eb b o hb e) f0 f1 f3 f4 f5⟩
 self:=λ_ _ _ _ _ st h=>wpAny_pyIter_tupleiter st h
theorem zfK {P:Program} {w:World} {K:qP} {tg:Expr} (it:Addr) (lo:Int) (n:Nat):ziK P w K tg (Itr lo n) [it] it (λi h=>IsRangeIter h it (lo+(i:Nat)*1) ((n:Int)-(i:Nat)) 1) where
 mem:=by simp
 obj:=λi h st b hb=>by
  have e:b=it:=by simpa using hb
  subst e
  exact⟨_,st,λv z=>by
   have z':Data.fields _=Data.cell v:=z
   cases z'⟩
 keep:=λi h h' st k=>k it (by simp) _ st
 item:=by
  intro X hP hw hK hc i pins s σ H E I hf st hg;subst hP hw hK;obtain⟨f0,f1,f2,f3,f4,f5⟩:=hf it (by simp);have W:=Walks.range (prog:=X.prog) (w:=X.w) (I.ok.hd hc) it lo 1 n;refine W.item i s _ _ hg st λv h' tk hv st' kk=> ?_;obtain⟨t,rfl⟩:=hv;have I1:Inv X pins σ H {s with heap:=h',toks:=tk}:=I.turned (λb o hb e=>kk b o (by simpa using hb) e) f0 f1 f3 f4 f5;refine⟨_,rfl,zgO (s:={s with heap:=h',toks:=tk}) (n:="range_iterator") st' rfl rfl ∅ ⟨.int (lo+i),H,I1,⟨t,?_⟩,⟨rfl,rfl⟩,st',λb hb=>(hf b hb).1⟩⟩;rw[Int.mul_one]
 done:=by
  intro X hP hw hK hc i pins s σ H E I hf st hg;subst hP hw hK;obtain⟨f0,f1,f2,f3,f4,f5⟩:=hf it (by simp);exact wpAny_pyNext_range_end (I.ok.hd hc) st (by have:n<=i:=hg;omega) λh' eb=>⟨rfl,I.turned (t':=s.toks) (λb o hb e=>eb b o hb e) f0 f1 f3 f4 f5⟩
 self:=λ_ _ _ _ _ st h=>wpAny_pyIter_rangeiter st h
section
variable {X:Cx} {tg:Expr}
def ziL (K:qP) (tl:TE):TI:=λσ H R=>tl σ H λx H1=>∃a,x= .ref a/\(∃xs,SqL K H1 a xs)/\R (Itl K a) H1
def znj (K:qP) (tl:TE):TI:=λσ H R=>tl σ H λx H1=>∃a,x= .ref a/\(∃xs,SqT K H1 a xs)/\R (Itt K a) H1
theorem zk5 {l:Expr} {tl:TE} (hl:PE X l tl):PI X tg l (ziL X.K tl):=by
 intro pins s σ H R I h;refine thn (hl pins s σ H _ I h) ?_;rintro v s1 ⟨x,H1,I1,r1,q1⟩;obtain⟨a,e,⟨xs,hq⟩,q⟩:=q1;subst e;cases r1;obtain⟨ak,rv,p,hz⟩:=I1.list hq;refine wpAny_pyIter_list p.isList ?_;refine⟨s1.heap.objs.size,[s1.heap.objs.size],_,_,H1,rfl,I1.kept (t':=s1.toks) λb o e=>Heap.get?_push_of_some _ e,zhQ a _,⟨_,Heap.get?_push_size _ rfl,rfl,rfl⟩,λb hb=> ?_,q⟩;have e:b=s1.heap.objs.size:=by simpa using hb
 subst e;exact I1.fpOk (qT _) (I1.hok.fresh (qT _))
theorem znk {l:Expr} {tl:TE} (hl:PE X l tl):PI X tg l (znj X.K tl):=by
 intro pins s σ H R I h;refine thn (hl pins s σ H _ I h) ?_;rintro v s1 ⟨x,H1,I1,r1,q1⟩;obtain⟨a,e,⟨xs,hq⟩,q⟩:=q1;subst e;cases r1;obtain⟨ak,rv,p,hz⟩:=I1.tuple hq;refine wpAny_pyIter_tuple (show s1.heap.IsTuple a ak.toArray from p) ?_;refine⟨s1.heap.objs.size,[s1.heap.objs.size],_,_,H1,rfl,I1.kept (t':=s1.toks) λb o e=>Heap.get?_push_of_some _ e,zfJ a _,⟨_,Heap.get?_push_size _ rfl,rfl,rfl⟩,λb hb=> ?_,q⟩;have e:b=s1.heap.objs.size:=by simpa using hb
 subst e;exact I1.fpOk (qT _) (I1.hok.fresh (qT _))
theorem ziM {pins:List (Addr×Obj)} {σ:St} {H:Hp} {s:Shared} {R:It->Hp->Prop} {E:Value->Shared->Prop} {lo hi:Int} {t u v:Tok} {tk:Nat} (I:Inv X pins σ H s) (h1: -(2^62)<=lo) (h2:lo<2^62) (h3: -(2^62)<=hi) (h4:hi<2^62)
  (q:R (Itr lo (hi-lo).toNat) H):wpAny (model X.prog X.w) X.A (pyIter (.ref s.heap.objs.size)) (PIE X pins σ tg R) E {s with heap:=s.heap.push {cls:= .type "range",data:= .fields #[.int lo t,.int hi u,.int 1 v]},toks:=tk}:=by
 refine wpAny_pyIter_range (IsRange.new ..) (small_one h1 h2 h3 h4) ?_;have I1:Inv X pins σ H {s with heap:=s.heap.push {cls:= .type "range",data:= .fields #[.int lo t,.int hi u,.int 1 v]},toks:=tk}:=I.kept λb o e=>Heap.get?_push_of_some _ e
 refine⟨(s.heap.push {cls:= .type "range",data:= .fields #[.int lo t,.int hi u,.int 1 v]}).objs.size,[(s.heap.push {cls:= .type "range",data:= .fields #[.int lo t,.int hi u,.int 1 v]}).objs.size],_,_,H,rfl,
  I1.kept (t':=tk) λb o e=>Heap.get?_push_of_some _ e,zfK _ lo (hi-lo).toNat,?_,λb hb=> ?_,q⟩
 .have e1:lo+((0:Nat):Int)*1=lo:=by simp
  have e2:(((hi-lo).toNat:Nat):Int)-((0:Nat):Int)=Builtin.Range.rangeSize lo hi 1:=by rw[rangeSize_one];split<;>omega
  show IsRangeIter _ _ (lo+((0:Nat):Int)*1) ((((hi-lo).toNat:Nat):Int)-((0:Nat):Int)) 1;rw[e1,e2];exact Heap.get?_push_size _ rfl
 .have e:b=(s.heap.push {cls:= .type "range",data:= .fields #[.int lo t,.int hi u,.int 1 v]}).objs.size:=by simpa using hb
  subst e;exact I1.fpOk (qT _) (I1.hok.fresh (qT _))
def zmC (ta:TA):TI:=λσ H R=>ta σ H λvs H1=>∃j:Int,vs=[.int j]/\ -(2^62)<=j/\j<2^62/\R (Itr 0 j.toNat) H1
theorem yC {a:Expr} {ta:TA} {p pos:Pos} (hg:Gl X "range") (hm:X.mg "range"=none) (ha:PA X [a] ta) (hs:starEach [a] X.env=[(false,eval a X.env)]:=by rfl):PI X tg (.Call (.Name "range" p) [a] [] pos) (zmC ta):=by
 intro pins s σ H R I h;refine Call_ (Ux I hg hm boot_range (sP (thn (ha pos pins s σ H _ I h) ?_) hs rfl));rintro us s1 ⟨vs,H1,I1,r1,q1⟩;obtain⟨j,e,q1,q2,q⟩:=q1;subst e;cases r1 with
 |cons r rr=>
  cases rr;obtain⟨t,rfl⟩:=r;exact call_range_1 (ziM I1 ⋯ ⋯ q1 q2 (by simpa using q))
def zoI (wi:TI) (g:TG) (tb:TS):TS:=λD σ H=>wi σ H λJ H1=>∃W:Nat->Nat->St->Hp->Prop,(∃m,W 0 m σ H1)/\∀i m σ H,W i m σ H->
 (J.stop i H/\D.nx σ H)\/(J.go i H/\∃N:St->Hp->Prop,(∀σ' H',N σ' H'->∃m',m'<m/\W (i+1) m' σ' H')/\∀x H',J.yld i H x H'->g x σ H' λσ2 H2=>tb {D with nx:=N,ct:=N,bk:=D.nx} σ2 H2)
noncomputable def zbd (fp:List Addr) (h:Heap):List (Addr×Obj):=fp.filterMap λb=>(h.get? b).map λo=>(b,o)
theorem Wv {fp:List Addr} {h:Heap} {b:Addr} {o:Obj} (hb:b∈fp) (e:h.get? b=some o):(b,o)∈zbd fp h:=Am.mpr ⟨b,hb,by rw[e];rfl⟩
theorem zhR {fp:List Addr} {h:Heap} {p:Addr×Obj} (hp:p∈zbd fp h):p.1∈fp/\h.get? p.1=some p.2:=by
 obtain⟨b,hb,e⟩:=Am.mp hp;cases q:h.get? b with
 |none=>rw[q] at e;cases e
 |some o=>
  rw[q] at e;have e':(b,o)=p:=rp e;subst e';exact⟨hb,q⟩
theorem Inv.pinned {pins:List (Addr×Obj)} {σ:St} {H:Hp} {s:Shared} {fp:List Addr} (I:Inv X pins σ H s) (hf:∀b∈fp,zeD X pins H b) (ho:∀b∈fp,∃o,s.heap.get? b=some o/\∀v,o.data≠ .cell v):Inv X (pins++zbd fp s.heap) σ H s:=
 I.pins_of λp hp=>(uF.mp hp).elim (λz=>I.pin p (sj _ z)) λz=>by
  obtain⟨hb,e⟩:=zhR z;obtain⟨f0,f1,f2,_⟩:=hf p.1 hb;obtain⟨o,e',d⟩:=ho p.1 hb;rw[e] at e';cases e';exact⟨e,f0,f1,f2,d⟩
theorem Inv.unpinned {pins pl:List (Addr×Obj)} {σ:St} {H:Hp} {s:Shared} (I:Inv X (pins++pl) σ H s):Inv X pins σ H s:=I.pins_of λp hp=>I.pin p (sj _ (A7 _ hp))
theorem vA {iter:Expr} {body:List Stmt} {wi:TI} {g:TG} {tb:TS} {pos:Pos} (hp:PassesOwn (model X.prog X.w) X.A X.env X.xe) (hc:X.calm=true) (hi:PI X tg iter wi) (hg:PG X tg g) (hb:PSs X body tb)
  (hs:∀x,foldedSetIterable iter X.env x=pure x:=by intro _;rfl):PS X (.For tg iter body [] pos) (zoI wi g tb):=by
 intro pins s σ H D I h;refine wpAny_For (thn (hi pins s σ H _ I h) λv s1 h1=>thn h1 λke s2 h2=> ?_) hs;obtain⟨it,fp,tn,J,H2,e,I2,T,iE,f2,W,⟨m0,w0⟩,turn⟩:=h2;subst e;have stat:∀{H':Hp},(∀b∈fp,H' b=none)->∀b∈fp,zeD X pins H' b:=λhn b hb=>⟨hn b hb,(f2 b hb).2⟩;refine codeAny_forLoop_any (λn s'=>∃i σ' H',Inv X pins σ' H' s'/\tn i s'.heap/\(∀b∈fp,H' b=none)/\W i n σ' H') ?_ m0 ⟨0,σ,H2,I2,iE,λb hb=>(f2 b hb).1,w0⟩;rintro n s3 ⟨i,σ3,H3,I3,iD,ji,w3⟩;rcases turn i n σ3 H3 w3 with⟨stop,qn⟩|⟨go,N,hN,step⟩
 .refine wpAny_passesOwn hp (thn (T.done X rfl rfl rfl hc i pins s3 σ3 H3 X.xe I3 (stat ji) iD stop) λr s4 ⟨hr,I4⟩=> ?_);subst hr;exact wpAny_execs_nil ⟨σ3,H3,I4,qn⟩
 .refine wpAny_passesOwn hp (thn (T.item X rfl rfl rfl hc i pins s3 σ3 H3 X.xe I3 (stat ji) iD go) λr s4 ⟨u,hr,h4⟩=> ?_);subst hr;refine wpAny_passesOwn hp (thn h4 ?_);rintro _ s5 ⟨x,H5,I5,r5,y5,fK,lP⟩;have I5':=I5.pinned (stat lP) (T.obj _ _ fK);refine wpAny_passesOwn hp (thn (hg _ s5 σ3 H5 x u _ I5' r5 (step x H5 y5)) ?_);rintro _ s6 ⟨σ6,H6,I6,q6⟩;refine wpAny_passesOwn hp (thn (hb _ s6 σ6 H6 _ I6 q6) λf s7 q7=> ?_);have again:∀{σ7:St} {H7:Hp},Inv X (pins++zbd fp s5.heap) σ7 H7 s7->N σ7 H7->∃m,m<n/\∃i σ' H',Inv X pins σ' H' s7/\tn i s7.heap/\(∀b∈fp,H' b=none)/\W i m σ' H':=λ{σ7 H7} I7 n7=>by
   obtain⟨m',hm,w7⟩:=hN σ7 H7 n7;refine⟨m',hm,i+1,σ7,H7,I7.unpinned,T.keep _ _ _ fK λb hb o e=>(I7.pin (b,o) (sj _ (sj _ (Wv hb e)))).1,λb hb=> ?_,w7⟩;obtain⟨o,e,d⟩:=T.obj _ _ fK b hb;exact (I7.pin (b,o) (sj _ (sj _ (Wv hb e)))).2.1
  cases f with
  |next=>obtain⟨σ7,H7,I7,n7⟩:=q7;exact again I7 n7
  |cont=>obtain⟨σ7,H7,I7,n7⟩:=q7;exact again I7 n7
  |brk=>obtain⟨σ7,H7,I7,q7⟩:=q7;exact⟨σ7,H7,I7.unpinned,q7⟩
  |ret v=>obtain⟨x7,σ7,H7,I7,r7,q7⟩:=q7;exact⟨x7,σ7,H7,I7.unpinned,r7,q7⟩
end
abbrev R2:=V->V->Hp->VK->Prop
def OpR (X:Cx) (f:Value->Value->Sem Value) (r:R2):Prop:=
 ∀(pins:List (Addr×Obj)) (s:Shared) (σ:St) (H:Hp) (x y:V) (v u:Value) (Q:VK),Inv X pins σ H s->yn x v->yn y u->r x y H Q->
  wpAny (model X.prog X.w) X.A (f v u) (EP X pins σ Q) X.xe s
def UnR (X:Cx) (f:Value->Sem Value) (r:V->Hp->VK->Prop):Prop:=
 ∀(pins:List (Addr×Obj)) (s:Shared) (σ:St) (H:Hp) (x:V) (v:Value) (Q:VK),Inv X pins σ H s->yn x v->r x H Q->
  wpAny (model X.prog X.w) X.A (f v) (EP X pins σ Q) X.xe s
def Xo (X:Cx) (f:Value) (r:List V->Hp->VK->Prop):Prop:=
 ∀(pins:List (Addr×Obj)) (s:Shared) (σ:St) (H:Hp) (xs:List V) (us:List Value) (Q:VK),Inv X pins σ H s->yr xs us->r xs H Q->
  wpAny (model X.prog X.w) X.A (call f us) (EP X pins σ Q) X.xe s
def tOp (r:R2) (ta tb:TE):TE:=λσ H Q=>ta σ H λx H1=>tb σ H1 λy H2=>r x y H2 Q
def tUn (r:V->Hp->VK->Prop) (ta:TE):TE:=λσ H Q=>ta σ H λx H1=>r x H1 Q
def rI (C:Int->Int->Prop) (g:Int->Int->V):R2:=λx y H Q=>∃i j,x= .int i/\y= .int j/\C i j/\Q (g i j) H
def rI0 (g:Int->Int->V):R2:=λx y H Q=>∃i j,x= .int i/\y= .int j/\Q (g i j) H
def rU (g:Int->V):V->Hp->VK->Prop:=λx H Q=>∃i,x= .int i/\Q (g i) H
section
variable {X:Cx} {a b c:Expr} {ta tb tc:TE} {pos:Pos}
theorem znl (ha:PE X a ta) (hb:PE X b tb) {pins:List (Addr×Obj)} {s:Shared} {σ:St} {H:Hp} {R:V->V->Hp->Prop} (I:Inv X pins σ H s)
  (h:ta σ H λx H1=>tb σ H1 λy H2=>R x y H2) {Q:Value->Shared->Prop} {f:Value->Value->Sem Value}
  (hf:∀v u s2 x y H2,Inv X pins σ H2 s2->yn x v->yn y u->R x y H2->wpAny (model X.prog X.w) X.A (f v u) Q X.xe s2):
  wpAny (model X.prog X.w) X.A (eval a X.env) (λv s₁=>wpAny (model X.prog X.w) X.A (eval b X.env) (λu s₂=>wpAny (model X.prog X.w) X.A (f v u) Q X.xe s₂) X.xe s₁) X.xe s:=by
 refine thn (ha pins s σ H _ I h) ?_;rintro v s1 ⟨x,H1,I1,r1,q1⟩;refine thn (hb pins s1 σ H1 _ I1 q1) ?_;rintro u s2 ⟨y,H2,I2,r2,q2⟩;exact hf v u s2 x y H2 I2 r1 r2 q2
theorem zL {op:Operator} {r:R2} (ho:OpR X (binaryOp op) r) (ha:PE X a ta) (hb:PE X b tb):PE X (.BinOp a op b pos) (tOp r ta tb):=by
 intro pins s σ H Q I h;exact wpAny_BinOp (znl ha hb I h λv u s2 x y H2 I2 rx ry q=>ho pins s2 σ H2 x y v u Q I2 rx ry q)
theorem ziN {op:UnaryOp} {r:V->Hp->VK->Prop} (ho:UnR X (unaryOp op) r) (ha:PE X a ta):PE X (.UnaryOp op a pos) (tUn r ta):=by
 intro pins s σ H Q I h;refine UnaryOp_ (thn (ha pins s σ H _ I h) ?_);rintro v s1 ⟨x,H1,I1,r1,q1⟩;exact ho pins s1 σ H1 x v Q I1 r1 q1
theorem opI {f:Value->Value->Sem Value} {C:Int->Int->Prop} {g:Int->Int->Int}
  (rule:∀(i j:Int) (t u:Tok) (s:Shared) (Q:Value->Shared->Prop) (E:Value->Shared->Prop),C i j->Q (.int (g i j) s.toks) {s with toks:=s.toks+1}->wpAny (model X.prog X.w) X.A (f (.int i t) (.int j u)) Q E s):
  OpR X f (rI C λi j=> .int (g i j)):=by
 intro pins s σ H x y v u Q I rx ry h;obtain⟨i,j,rfl,rfl,hc,q⟩:=h;obtain⟨t,rfl⟩:=rx;obtain⟨t',rfl⟩:=ry;exact rule i j t t' s _ _ hc ⟨.int (g i j),H,I.tok _,⟨_,rfl⟩,q⟩
theorem zoJ {f:Value->Value->Sem Value} {g:Int->Int->Int}
  (rule:∀(i j:Int) (t u:Tok) (s:Shared) (Q:Value->Shared->Prop) (E:Value->Shared->Prop),Q (.int (g i j) s.toks) {s with toks:=s.toks+1}->wpAny (model X.prog X.w) X.A (f (.int i t) (.int j u)) Q E s):
  OpR X f (rI0 λi j=> .int (g i j)):=by
 intro pins s σ H x y v u Q I rx ry h;obtain⟨i,j,rfl,rfl,q⟩:=h;obtain⟨t,rfl⟩:=rx;obtain⟨t',rfl⟩:=ry;exact rule i j t t' s _ _ ⟨.int (g i j),H,I.tok _,⟨_,rfl⟩,q⟩
def znm (i j:Int):Prop:=0<j/\j<1073741824
def znn (i j:Int):Prop:=0<=j/\j<=1000000/\i.natAbs<2^64
def ziO (i j:Int):Prop:=(-(2^64)<i/\i<2^64)\/(-(2^64)<j/\j<2^64)
theorem ziO.ok {i j:Int} (h:ziO i j):IntMulOk i j:=by
 rcases h with⟨h1,h2⟩|⟨h1,h2⟩
 .exact .of_left (intBits_le_64 h1 h2)
 .exact .of_right (intBits_le_64 h1 h2)
theorem xY:OpR X (binaryOp .Add) (rI0 λi j=> .int (i+j)):=zoJ λ_ _ _ _ _ _ _ q=>add_int q
theorem zbe:OpR X (binaryOp .Sub) (rI0 λi j=> .int (i-j)):=zoJ λ_ _ _ _ _ _ _ q=>sub_int q
theorem ziP:OpR X (binaryOp .Mult) (rI ziO λi j=> .int (i*j)):=opI λ_ _ _ _ _ _ _ hc q=>mul_int q hc.ok
theorem zdz:OpR X (binaryOp .FloorDiv) (rI znm λi j=> .int (i / j)):=opI λi j _ _ _ _ _ hc q=>by
 have h1:(0:Int)<j:=hc.1;have h2:j<1073741824:=hc.2;exact floordiv_int ⋯ (by rw[sR i ⋯];exact q) (.inl (z9 ⋯))
theorem YI:OpR X (binaryOp .Mod) (rI (λ_ j=>0<j) λi j=> .int (i % j)):=opI λi j _ _ _ _ _ hc q=>by
 have h1:(0:Int)<j:=hc;exact mod_int' ⋯ (by rw[Int.fmod_eq_emod_of_nonneg i ⋯];exact q)
theorem zae:OpR X (binaryOp .Pow) (rI znn λi j=> .int (i^j.toNat)):=opI λ_ _ _ _ _ _ _ hc q=>pow_int_small hc.1 hc.2.1 hc.2.2 q
theorem unI {f:Value->Sem Value} {g:Int->Int}
  (rule:∀(i:Int) (t:Tok) (s:Shared) (Q:Value->Shared->Prop) (E:Value->Shared->Prop),Q (.int (g i) s.toks) {s with toks:=s.toks+1}->wpAny (model X.prog X.w) X.A (f (.int i t)) Q E s):
  UnR X f (rU λi=> .int (g i)):=by
 intro pins s σ H x v Q I rx h;obtain⟨i,rfl,q⟩:=h;obtain⟨t,rfl⟩:=rx;exact rule i t s _ _ ⟨.int (g i),H,I.tok _,⟨_,rfl⟩,q⟩
theorem zfL:UnR X (unaryOp .USub) (rU λi=> .int (-i)):=unI λ_ _ _ _ _ q=>neg_int q
end
noncomputable def zoK:V->V->Bool
 | .non,.non=>true| .non,.int _=>true| .int _,.non=>true| .non,.bl _=>true| .bl _,.non=>true| .non,.str _=>true| .str _,.non=>true
 | .int _,.int _=>true| .bl _,.bl _=>true| .str _,.str _=>true| .byt _,.byt _=>true
 | .int _,.str _=>true| .str _,.int _=>true| .bl _,.str _=>true| .str _,.bl _=>true
 |_,_=>false
def rEq:R2:=λx y H Q=>zoK x y=true/\Q (.bl (decide (x=y))) H
def rNe:R2:=λx y H Q=>zoK x y=true/\Q (.bl (!decide (x=y))) H
theorem zgP {i j:Int}:decide (V.int i=V.int j)=(i==j):=by
 rw[sJ];simp
theorem ziQ {i j:Bool}:decide (V.bl i=V.bl j)=(i==j):=by
 rw[sJ];simp
theorem zgQ {i j:Str}:decide (V.str i=V.str j)=(i==j):=by
 rw[sJ];simp
theorem zgR {i j:Array UInt8}:decide (V.byt i=V.byt j)=(i.toList==j.toList):=by
 rw[sJ];cases i;cases j;simp
section
variable {X:Cx} {a b c:Expr} {ta tb tc:TE} {pos:Pos}
theorem yT {pins:List (Addr×Obj)} {σ:St} {H:Hp} {s:Shared} {Q:VK} {k k':Bool} (I:Inv X pins σ H s) (q:Q (.bl k) H) (e:k=k'):EP X pins σ Q (.bool k') s:=by
 subst e;exact⟨.bl k,H,I,rfl,q⟩
theorem wx:OpR X (compareOp .Eq) rEq:=by
 intro pins s σ H x y v u Q I rx ry h;obtain⟨hs,q⟩:=h;cases x with
 |non=>
  cases rx;cases y with
  |non=>cases ry;exact PySem.EqNone.eq_none_none (yT I q (by simp))
  |bl j=>cases ry;exact PySem.EqNone.eq_none_bool (yT I q (by simp))
  |int j=>obtain⟨t',rfl⟩:=ry;exact PySem.EqNone.eq_none_int (yT I q (by simp))
  |str j=>obtain⟨t',rfl⟩:=ry;exact PySem.EqNone.eq_none_str (yT I q (by simp))
  |_=>exact absurd (show false=true from hs) rl
 |bl i=>
  cases rx;cases y with
  |non=>cases ry;exact PySem.EqNone.eq_bool_none (yT I q (by simp))
  |bl j=>cases ry;exact eq_bool (yT I q ziQ)
  |str j=>obtain⟨t',rfl⟩:=ry;exact B7 (yT I q (by simp))
  |_=>exact absurd (show false=true from hs) rl
 |int i=>
  obtain⟨t,rfl⟩:=rx;cases y with
  |non=>cases ry;exact PySem.EqNone.eq_int_none (yT I q (by simp))
  |int j=>obtain⟨t',rfl⟩:=ry;exact eq_int (yT I q zgP)
  |str j=>obtain⟨t',rfl⟩:=ry;exact Bb (yT I q (by simp))
  |_=>exact absurd (show false=true from hs) rl
 |str i=>
  obtain⟨t,rfl⟩:=rx;cases y with
  |non=>cases ry;exact PySem.EqNone.eq_str_none (yT I q (by simp))
  |bl j=>cases ry;exact B8 (yT I q (by simp))
  |int j=>obtain⟨t',rfl⟩:=ry;exact Bc (yT I q (by simp))
  |str j=>obtain⟨t',rfl⟩:=ry;exact eq_str (yT I q zgQ)
  |_=>exact absurd (show false=true from hs) rl
 |byt i=>
  obtain⟨t,rfl⟩:=rx;cases y with
  |byt j=>obtain⟨t',rfl⟩:=ry;exact PySem.W.eq_bytes (yT I q zgR)
  |_=>exact absurd (show false=true from hs) rl
 |_=>cases y<;>exact absurd (show false=true from hs) rl
theorem zoL:OpR X (compareOp .NotEq) rNe:=by
 intro pins s σ H x y v u Q I rx ry h;obtain⟨hs,q⟩:=h;cases x with
 |non=>
  cases rx;cases y with
  |non=>cases ry;exact PySem.EqNone.ne_none_none (yT I q (by simp))
  |bl j=>cases ry;exact PySem.EqNone.ne_none_bool (yT I q (by simp))
  |int j=>obtain⟨t',rfl⟩:=ry;exact PySem.EqNone.ne_none_int (yT I q (by simp))
  |str j=>obtain⟨t',rfl⟩:=ry;exact PySem.EqNone.ne_none_str (yT I q (by simp))
  |_=>exact absurd (show false=true from hs) rl
 |bl i=>
  cases rx;cases y with
  |non=>cases ry;exact PySem.EqNone.ne_bool_none (yT I q (by simp))
  |bl j=>cases ry;exact ne_bool (yT I q (congrArg not ziQ))
  |str j=>obtain⟨t',rfl⟩:=ry;exact B9 (yT I q (by simp))
  |_=>exact absurd (show false=true from hs) rl
 |int i=>
  obtain⟨t,rfl⟩:=rx;cases y with
  |non=>cases ry;exact PySem.EqNone.ne_int_none (yT I q (by simp))
  |int j=>obtain⟨t',rfl⟩:=ry;exact ne_int (yT I q (congrArg not zgP))
  |str j=>obtain⟨t',rfl⟩:=ry;exact Bd (yT I q (by simp))
  |_=>exact absurd (show false=true from hs) rl
 |str i=>
  obtain⟨t,rfl⟩:=rx;cases y with
  |non=>cases ry;exact PySem.EqNone.ne_str_none (yT I q (by simp))
  |bl j=>cases ry;exact Ba (yT I q (by simp))
  |int j=>obtain⟨t',rfl⟩:=ry;exact Be (yT I q (by simp))
  |str j=>obtain⟨t',rfl⟩:=ry;exact ne_str (yT I q (congrArg not zgQ))
  |_=>exact absurd (show false=true from hs) rl
 |byt i=>
  obtain⟨t,rfl⟩:=rx;cases y with
  |byt j=>obtain⟨t',rfl⟩:=ry;exact PySem.W.ne_bytes (yT I q (congrArg not zgR))
  |_=>exact absurd (show false=true from hs) rl
 |_=>cases y<;>exact absurd (show false=true from hs) rl
theorem US {op:CmpOp} {r:R2} (ho:OpR X (compareOp op) r) (ha:PE X a ta) (hb:PE X b tb) (hm:behindInMarks op b=false):PE X (.Compare a [op] [b] pos) (tOp r ta tb):=by
 intro pins s σ H Q I h;exact wpAny_Compare1 (znl ha hb I h λv u s2 x y H2 I2 rx ry q=>ho pins s2 σ H2 x y v u Q I2 rx ry q) hm
def zmD (t:TE):TT:=λσ H Q=>t σ H λx H'=>∃k,x= .bl k/\Q k H'
theorem yR {op:CmpOp} {r:R2} (ho:OpR X (compareOp op) r) (ha:PE X a ta) (hb:PE X b tb) (hm:behindInMarks op b=false):PT X (.Compare a [op] [b] pos) (zmD (tOp r ta tb)):=by
 intro pins s σ H Q I h
 refine wpAny_isTrue_Compare1 (thn (ha pins s σ H _ I h) λv s1 ⟨x,H1,I1,r1,q1⟩=>thn (hb pins s1 σ H1 _ I1 q1) λu s2 ⟨y,H2,I2,r2,q2⟩=>
  thn (ho pins s2 σ H2 x y v u _ I2 r1 r2 q2) λc s3 ⟨z,H3,I3,r3,k,e,q3⟩=> ?_) hm
 subst e;cases r3;exact wpAny_truthy_bool ⟨H3,I3,q3⟩
theorem Uy:(sizeLine:Nat)<2^63:=by rw[sizeLine_eq];decide
theorem Uz:OpR X (binaryOp .Add) (λx y H Q=>∃i j,x= .str i/\y= .str j/\i.length+j.length<=sizeLine/\Q (.str (i++j)) H):=by
 intro pins s σ H x y v u Q I rx ry h;obtain⟨i,j,rfl,rfl,hz,q⟩:=h;obtain⟨t,rfl⟩:=rx;obtain⟨t',rfl⟩:=ry;exact add_str (λt' tk=>⟨.str (i++j),H,I.tok _,⟨_,rfl⟩,q⟩) hz
theorem UT {x:V} {us:List Value} (r:yr [x] us):∃u,us=[u]/\yn x u:=by
 cases r with
 |cons r1 r2=>cases r2;exact⟨_,rfl,r1⟩
theorem zmE {x y:V} {us:List Value} (r:yr [x,y] us):∃u w',us=[u,w']/\yn x u/\yn y w':=by
 cases r with
 |cons r1 r2=>
  cases r2 with
  |cons r3 r4=>cases r4;exact⟨_,_,rfl,r1,r3⟩
theorem UU:Xo X (.builtin "abs") (λxs H Q=>∃i,xs=[.int i]/\Q (.int (if i<0 then -i else i)) H):=by
 intro pins s σ H xs us Q I r h;obtain⟨i,rfl,q⟩:=h;obtain⟨u,rfl,t,rfl⟩:=UT r;exact call_abs_int λu tk=>⟨.int (if i<0 then -i else i),H,I.tok _,⟨_,rfl⟩,q⟩
theorem zhS (hc:X.calm=true):Xo X (.builtin "min") (λxs H Q=>∃i j,xs=[.int i,.int j]/\Q (.int (if j<i then j else i)) H):=by
 intro pins s σ H xs us Q I r h;obtain⟨i,j,rfl,q⟩:=h;obtain⟨u,w',rfl,⟨t,rfl⟩,⟨t',rfl⟩⟩:=zmE r;refine min_two_ints (I.ok.hd hc) λh' tk k=>⟨_,H,I.kept k,?_,q⟩;by_cases hj:j<i
 .rw[if_pos hj,if_pos hj];exact⟨_,rfl⟩
 .rw[if_neg hj,if_neg hj];exact⟨_,rfl⟩
theorem VS:Xo X (.type "int") (λxs H Q=>(∃i,xs=[.int i]/\Q (.int i) H)\/∃k,xs=[.bl k]/\Q (.int (if k then 1 else 0)) H):=by
 intro pins s σ H xs us Q I r h;rcases h with⟨i,rfl,q⟩|⟨k,rfl,q⟩
 .obtain⟨u,rfl,t,rfl⟩:=UT r;exact call_int_int ⟨.int i,H,I,⟨_,rfl⟩,q⟩
 .obtain⟨u,rfl,r1⟩:=UT r;cases r1;exact call_int_bool ⟨.int (if k then 1 else 0),H,I.tok _,⟨_,rfl⟩,q⟩
end
structure zfM (h:Heap) (x dx C:Addr) (mA:Str->Option Value):Prop where
 obj:h.get? x=some (sT C dx)
 ns:h.Ns1 dx mA
 ne:dx≠x
theorem zhT {h:Heap} {dx:Addr} {mA:Str->Option Value} (n:h.Ns1 dx mA):∃od,h.get? dx=some od/\∀name,uQ name od=some (mA name):=by
 obtain⟨o,es,ep,ho,hd,hk,_,hm⟩:=n;refine⟨o,ho,λname=> ?_⟩;have e:=hm name;unfold nsFind findBy at e;rw[<-Array.find?_toList] at e;unfold uQ;rw[hd];dsimp only;split
 .rename_i y q;rw[q] at e;exact congrArg some e
 .rename_i q;rw[q] at e;have a:es.toList.any (·.refKey)=false:=by
   rw[v9];intro y hy;obtain⟨z,t,kZ⟩:=hk y (Array.mem_toList_iff.mp hy);simp[DictEntry.refKey,kZ]
  have a':¬es.toList.any (·.refKey)=true:=by rw[a];exact rl
  rw[if_neg a'];exact congrArg some e
theorem zfM.look {h:Heap} {x dx C:Addr} {mA:Str->Option Value} (I:zfM h x dx C mA):∃od,uR h x (sT C dx) C (some od)/\∀name,uQ name od=some (mA name):=
 let ⟨od,ho,hl⟩:=zhT I.ns
 ⟨od,⟨I.obj,rfl,rfl,ho⟩,hl⟩
section
variable {prog:Program} {w:World} {A:Around} {E:Value->Shared->Prop} {s:Shared} {K:qP} {x dx C f:Addr} {mA:Str->Option Value} {name:Str} {v:Value}
theorem zk6 {expr:Bool} {Q:Value->Shared->Prop} (X:K.In s.heap) (I:zfM s.heap x dx C mA) (hg:tT K C name=true) (hh:um K C=true)
  (ha:rF K (.ref C) name=some none) (hv:mA name=some v) (ou:Az v=true) (h:Q v {s with toks:=s.toks+1}):
  wpAny (model prog w) A (getAttr (.ref x) name expr) Q E s:=by
 obtain⟨od,J,hl⟩:=I.look;exact PySem.W.get_value X J (uO hg).1 (PySem.W.findObj_own hh ha rfl (by rw[hl,hv])) ou h
theorem ziR {pl:Sem Bool} {Q:Value×List Value->Shared->Prop} (X:K.In s.heap) (I:zfM s.heap x dx C mA) (hg:tT K C name=true)
  (hf:rF K (.ref C) name=some (some (.ref f))) (ht:uH K (.ref f)=true) (hv:mA name=none) (h:Q (.ref f,[.ref x]) s):
  wpAny (model prog w) A (getMethod (.ref x) name pl) Q E s:=by
 obtain⟨od,J,hl⟩:=I.look;exact PySem.W.method_fn X J (uO hg).1 (uO hg).2 hf (beq_iff_eq.mp ht) (by show (uQ name od).map (·.isSome)=some false;rw[hl,hv];rfl) h
theorem zk7 {ns:List Str} {Q:Unit->Shared->Prop} (X:K.In s.heap) (I:zfM s.heap x dx C mA)
  (hs:rF K (.ref C) "__setattr__"=some (some (.builtin "object.__setattr__"))) (hp:w5 K C=true) (ht:z3 K C name=some none) (hh:um K C=true)
  (hw:Al mA ns) (hsz:ns.length<=sizeLine)
  (h:∀h',zfM h' x dx C (λy=>if y=name then some v else mA y)->Heap.SameBut dx s.heap h'->Q () {s with heap:=h',toks:=s.toks+2}):
  wpAny (model prog w) A (setAttr (.ref x) name v) Q E s:=by
 obtain⟨od,J,hl⟩:=I.look;refine PySem.W.set_plain X J hs (PySem.W.osa_open (s:={s with toks:=s.toks+1}) (r:=none) X J hp ht λb=> ?_);obtain⟨cd,hc,ip⟩:=PySem.W.any_some hh;have hx:s.heap.get? x=some ⟨.ref C,some dx,.plain,#[]⟩:=I.obj;refine wpAny_bind (wpAny_pure (wpAny_bind (wpAny_bind (wpAny_loadPart hx (wpAny_bind (Bi (s:={s with toks:=s.toks+1}) (PySem.W.looks_clsIn X hc) ?_))))));rw[ip];refine wpAny_pure (a:=some dx) (wpAny_bind (wpAny_pure (wpAny_bind ?_)));refine wpAny_nsSet1 (s:={s with toks:=s.toks+1}) I.ns λh' dh iN=> ?_;obtain⟨oD,qJ,qK,oR,pz,pC⟩:=dh.count (PySem.Within.cons name v hw);refine wpAny_bind (wpAny_lookBehind oR (by rw[pz];exact pastItsLine_dict (rk pC (by rw[ra];omega))) ?_);exact wpAny_pure (h _ ⟨(iN.2 _ (sY I.ne)).trans I.obj,dh,I.ne⟩ iN)
theorem ziS {R:Result->Shared->Prop} {vs:List Value} {kw:List (Str×Value)} (X:K.In s.heap) (hm:z4 K C=true)
  (hi:rF K (.ref C) "__init__"=some (some (.ref f))) (hf:PySem.W.typeIn K (.ref f)=some (.type "function"))
  (h:codeAny (model prog w) (A.under (.builtin "type.__call__" ⟨.ref C::vs,kw⟩)) (.call (.ref f) ⟨.ref (s.heap.objs.size+1)::vs,kw⟩) (PySem.W.InitBack (s.heap.objs.size+1) R)
   {s with heap:=(s.heap.push sI).push (sT C s.heap.objs.size)}):
  codeAny (model prog w) A (.call (.ref C) ⟨vs,kw⟩) R s:=by
 obtain⟨hh,g,d,t,os⟩:=s;exact PySem.W.make_core (PySem.W.makes_of X hm) (uI X hi) (λself=>PySem.W.bind_fn X self hf) (.inl rfl) h
end
noncomputable def Ww (f:Str) (v:V):List (Str×V)->List (Str×V)
 |[]=>[(f,v)]
 |(g,x)::r=>if g=f then (g,v)::r else (g,x)::Ww f v r
theorem zau (f g:Str) (v:V):∀fs:List (Str×V),(Ww f v fs).lookup g=if g=f then some v else fs.lookup g
 |[]=>by
  show tm g [(f,v)]=_;by_cases h:g=f
  .have hb:(g==f)=true:=beq_iff_eq.mpr h;simp only[tm,hb,if_pos h]
  .have hb:(g==f)=false:=beq_eq_false_iff_ne.mpr h;simp only[tm,hb,if_neg h]
 |(k,x)::r=>by
  have ih:=zau f g v r;rw[show Ww f v ((k,x)::r)=(if k=f then (k,v)::r else (k,x)::Ww f v r) from rfl];by_cases hk:k=f
  .rw[if_pos hk];by_cases h:g=k
   .have hb:(g==k)=true:=beq_iff_eq.mpr h;simp only[tm,hb,if_pos (h.trans hk)]
   .have hb:(g==k)=false:=beq_eq_false_iff_ne.mpr h;simp only[tm,hb,if_neg (λe:g=f=>h (e.trans hk.symm))]
  .rw[if_neg hk];by_cases h:g=k
   .have hb:(g==k)=true:=beq_iff_eq.mpr h;simp only[tm,hb,if_neg (λe:g=f=>hk (h.symm.trans e))]
   .have hb:(g==k)=false:=beq_eq_false_iff_ne.mpr h;simp only[tm,hb];exact ih
theorem zaf (f:Str) (v:V):∀fs:List (Str×V),f∈(Ww f v fs).map (·.1)/\∀g,g∈fs.map (·.1)->g∈(Ww f v fs).map (·.1)
 |[]=>⟨by simp[Ww],λg h=>by simp at h⟩
 |(k,x)::r=>by
  obtain⟨i1,i2⟩:=zaf f v r;rw[show Ww f v ((k,x)::r)=(if k=f then (k,v)::r else (k,x)::Ww f v r) from rfl];by_cases hk:k=f
  .rw[if_pos hk];subst hk;exact⟨by simp,λg h=>by simpa using h⟩
  .rw[if_neg hk];refine⟨?_,λg h=> ?_⟩
   .rw[rC];exact r9 _ i1
   .rw[rC] at h ⊢;rcases rQ.mp h with e|e
    .exact rQ.mpr (.inl e)
    .exact r9 _ (i2 g e)
theorem zav (f:Str) (v:V):∀fs:List (Str×V),(Ww f v fs).length<=fs.length+1
 |[]=>by simp[Ww]
 |(k,x)::r=>by
  have ih:=zav f v r;rw[show Ww f v ((k,x)::r)=(if k=f then (k,v)::r else (k,x)::Ww f v r) from rfl];by_cases hk:k=f
  .rw[if_pos hk,ra,ra];omega
  .rw[if_neg hk,ra,ra];omega
theorem Wu.some_of {v:V} {o:Option Value} (r:Wu (some v) o):∃u,o=some u/\yn v u:=by
 cases o with
 |none=>exact (show False from r).elim
 |some u=>exact⟨u,rfl,r⟩
theorem Wu.none_of {o:Option Value} (r:Wu none o):o=none:=by
 cases o with
 |none=>rfl
 |some u=>exact (show False from r).elim
theorem zhU {v:V} {u:Value} (r:yn v u):Az u=true:=by
 cases v with
 |non=>cases (show u=Value.none from r);rfl
 |bl b=>cases (show u=Value.bool b from r);rfl
 |int i=>obtain⟨t,e⟩:=(show ∃t,u=Value.int i t from r);cases e;rfl
 |str x=>obtain⟨t,e⟩:=(show ∃t,u=Value.str x t from r);cases e;rfl
 |byt b=>obtain⟨t,e⟩:=(show ∃t,u=Value.bytes b t from r);cases e;rfl
 |flt b=>obtain⟨t,e⟩:=(show ∃t,u=Value.float b t from r);cases e;rfl
 |ref a=>cases (show u=Value.ref a from r);rfl
 |ty n=>cases (show u=Value.type n from r);rfl
section
variable {P:Program} {w:World} {H H':Hp} {h h':Heap} {a C dx:Addr} {fs fs':List (Str×V)}
theorem zaV (hok:HOk P w H h) (e:H a=some (.ins C dx fs)):∃mA,zfM h a dx C mA/\(∀f,Wu (fs.lookup f) (mA f))/\Al mA (fs.map (·.1))/\fs.length<=1000/\H dx=some (.own a):=by
 obtain⟨d,z,ne,ob,mA,n,r,q⟩:=(show xE P w H h a (.ins C dx fs) from hok a _ e);exact⟨mA,⟨ob,n,ne⟩,r,q,z,d⟩
end
structure Cls (K:qP) (C:Addr):Prop where
 pg:tT K C Str.empty=true
 hd:um K C=true
 po:w5 K C=true
 sa:rF K (.ref C) "__setattr__"=some (some (.builtin "object.__setattr__"))
theorem Cls.get {K:qP} {C:Addr} (c:Cls K C) (f:Str):tT K C f=true:=c.pg
def YJ (K:qP) (C:Addr) (f:Str):Prop:=rF K (.ref C) f=some none
theorem YJ.taker {K:qP} {C:Addr} {f:Str} (n:YJ K C f):z3 K C f=some none:=by
 unfold z3;rw[show rF K (.ref C) f=some none from n];rfl
structure Con (K:qP) (C:Addr) (f:Str) (v:V) (u:Value):Prop where
 at_:rF K (.ref C) f=some (some u)
 rel:yn v u
 get:w6 K u "__get__"=some none
 cp:PySem.W.copiedNames.contains f=false
structure zno (K:qP) (C:Addr) (m:Str) (f:Addr):Prop where
 at_:rF K (.ref C) m=some (some (.ref f))
 fn:uH K (.ref f)=true
 kp:t9 K (.ref f)=true
section
variable {X:Cx} {pins:List (Addr×Obj)} {σ:St} {H:Hp} {s:Shared} {a C dx:Addr} {fs:List (Str×V)} {f:Str} {v:V} {A:Around} {E:Value->Shared->Prop}
theorem zfN {b:Bool} {Q:Value->Shared->Prop} (I:Inv X pins σ H s) (e:H a=some (.ins C dx fs)) (c:Cls X.K C) (n:YJ X.K C f) (l:fs.lookup f=some v)
  (h:∀u s',Inv X pins σ H s'->yn v u->Q u s'):wpAny (model X.prog X.w) A (getAttr (.ref a) f b) Q E s:=by
 obtain⟨mA,O,r,_,_,_⟩:=zaV I.hok e;obtain⟨u,hu,ru⟩:=Wu.some_of (v:=v) (o:=mA f) (by rw[<-l];exact r f);exact zk6 I.kIn O (c.get f) c.hd n hu (zhU ru) (h u _ (I.tok _) ru)
theorem zfO {m:Str} {g:Addr} {pl:Sem Bool} {Q:Value×List Value->Shared->Prop} (I:Inv X pins σ H s) (e:H a=some (.ins C dx fs)) (c:Cls X.K C) (k:zno X.K C m g) (l:fs.lookup m=none)
  (h:Q (.ref g,[.ref a]) s):wpAny (model X.prog X.w) A (getMethod (.ref a) m pl) Q E s:=by
 obtain⟨mA,O,r,_,_,_⟩:=zaV I.hok e;have hn:mA m=none:=Wu.none_of (by rw[<-l];exact r m);exact ziR I.kIn O (c.get m) k.at_ k.fn hn h
theorem zfP {y:V} {u:Value} {Q:Unit->Shared->Prop} (I:Inv X pins σ H s) (e:H a=some (.ins C dx fs)) (c:Cls X.K C) (n:YJ X.K C f) (hl:fs.length<1000) (ry:yn y u)
  (h:∀s',Inv X pins σ (upd H a (.ins C dx (Ww f y fs))) s'->Q () s'):wpAny (model X.prog X.w) A (setAttr (.ref a) f u) Q E s:=by
 obtain⟨mA,O,r,wi,_,ho⟩:=zaV I.hok e;have hz:(fs.map (·.1)).length<=sizeLine:=by rw[qV,sizeLine_eq];omega
 refine zk7 I.kIn O c.sa c.po n.taker c.hd wi hz λh' O' sb=>h _ ?_;have hd:∃o,h'.get? dx=some o:=let ⟨o,_,_,e',_⟩:=O'.ns;⟨o,e'⟩;refine I.write (x:=a) (e:=dx) (by rw[e];exact sL) (.inr ho) (λb q hb z=>(sb.2 b hb).trans z) hd ?_;refine⟨by rw[zO O.ne];exact ho,?_,O.ne,O'.obj,_,O'.ns,λg=> ?_,λg hg=> ?_⟩
 .have:=zav f y fs;omega
 .show Wu ((Ww f y fs).lookup g) (if g=f then some u else mA g);rw[zau];by_cases q:g=f
  .rw[if_pos q,if_pos q];exact ry
  .rw[if_neg q,if_neg q];exact r g
 .by_cases q:g=f
  .rw[q];exact (zaf f y fs).1
  .refine (zaf f y fs).2 g (wi g λz=>hg ?_);show (if g=f then some u else mA g)=none;rw[if_neg q];exact z
theorem Inv.made (I:Inv X pins σ H s):Inv X pins σ (upd (upd H s.heap.objs.size (.own (s.heap.objs.size+1))) (s.heap.objs.size+1) (.ins C s.heap.objs.size []))
  {s with heap:=(s.heap.push sI).push (sT C s.heap.objs.size)}:=by
 have e1:(s.heap.push sI).get? s.heap.objs.size=some sI:=Heap.get?_push_size s.heap rfl;have e2:((s.heap.push sI).push (sT C s.heap.objs.size)).get? (s.heap.objs.size+1)=some (sT C s.heap.objs.size):=by
  have:=Heap.get?_push_size (s.heap.push sI) (o:=sT C s.heap.objs.size) rfl;rwa [Heap.size_push] at this
 have e3:(s.heap.push sI).Ns s.heap.objs.size (λ_=>none):=⟨sI,#[],_,e1,rfl,(λe he=>absurd he (by simp)),λ_=>rfl⟩;have I1:=I.laid (a:=s.heap.objs.size) (o:= .own (s.heap.objs.size+1)) (h':=s.heap.push sI) (t':=s.toks) (λb u q=>Heap.get?_push_of_some _ q) (qT _) ⟨_,e1⟩;refine I1.laid (a:=s.heap.objs.size+1) (o:= .ins C s.heap.objs.size []) (t':=s.toks) (λb u q=>Heap.get?_push_of_some _ q) (tJ (Heap.size_push _ _)) ?_;have ne:s.heap.objs.size≠s.heap.objs.size+1:=rA (tf _);refine⟨by rw[zO ne,zZ],tI _,ne,e2,λ_=>none,(Heap.Ns1.of_empty e3).at λo q=>Heap.get?_push_of_some _ q,λ_=>sL,λy hy=>absurd rfl hy⟩
theorem zk8 {prog:Program} {w:World} {env:Env} {e:Expr} {f:Str} {pos:Pos} {s:Shared} {Q:Value->Shared->Prop} (hb:attributeBase e f env (eval e env)=eval e env)
  (h:wpAny (model prog w) A (eval e env) (λo s₁=>wpAny (model prog w) A (getAttr o f true) Q E s₁) E s):wpAny (model prog w) A (eval (.Attribute e f pos) env) Q E s:=
 Attribute_any_ h (by rw[arm_eval_Attribute,hb])
end
def zoM (K:qP) (ta:TE) (f:Str):TE:=λσ H Q=>ta σ H λx H1=>∃a C dx fs v,x= .ref a/\H1 a=some (.ins C dx fs)/\Cls K C/\YJ K C f/\fs.lookup f=some v/\Q v H1
def zoN (K:qP) (ta tv:TE) (f:Str):TS:=λD σ H=>tv σ H λy H1=>ta σ H1 λx H2=>∃a C dx fs,x= .ref a/\H2 a=some (.ins C dx fs)/\Cls K C/\YJ K C f/\fs.length<1000/\
 D.nx σ (upd H2 a (.ins C dx (Ww f y fs)))
section
variable {X:Cx} {o e value:Expr} {f:Str} {pos pos' iz:Pos} {ta tv:TE}
theorem wN (he:PE X e ta) (hb:attributeBase e f X.env (eval e X.env)=eval e X.env):PE X (.Attribute e f pos) (zoM X.K ta f):=by
 intro pins s σ H Q I h;refine zk8 hb (thn (he pins s σ H _ I h) ?_);rintro u s1 ⟨x,H1,I1,rx,a,C,dx,fs,v,ex,ea,c,n,l,q⟩;subst ex;obtain rfl:u=Value.ref a:=rx;exact zfN I1 ea c n l λu' s2 I2 ru=>⟨v,H1,I2,ru,q⟩
theorem zfQ (ha:PE X o ta) (hv:PE X value tv) (hs:swapsWith value (some (.Attribute o f pos')) pos.line X.env=pure false):PS X (.Assign [.Attribute o f pos'] value pos) (zoN X.K ta tv f):=by
 intro pins s σ H D I h;refine plainObj_wpAny_Assign_Attribute (thn (hv pins s σ H _ I h) ?_) hs;rintro u s1 ⟨y,H1,I1,ry,q⟩;refine thn (ha pins s1 σ H1 _ I1 q) ?_;rintro ov s2 ⟨x,H2,I2,rx,a,C,dx,fs,ex,ea,c,n,l,q2⟩;subst ex;obtain rfl:ov=Value.ref a:=rx;exact zfP I2 ea c n l ry λs3 I3=>⟨σ,_,I3,q2⟩
end
section
variable {X:Cx} {pins:List (Addr×Obj)} {σ:St} {H:Hp} {s:Shared} {A:Around} {E:Value->Shared->Prop} {Q:Value->Shared->Prop} {c:Value} {b:Bool}
inductive zaI (K:qP) (H:Hp):V->Value->Prop where
 |non:zaI K H .non (.type "NoneType")
 |bl (x:Bool):zaI K H (.bl x) (.type "bool")
 |int (i:Int):zaI K H (.int i) (.type "int")
 |str (x:Str):zaI K H (.str x) (.type "str")
 |flt (x:UInt64):zaI K H (.flt x) (.type "float")
 |lst {a:Addr} {xs:List V} (e:H a=some (.lst xs)):zaI K H (.ref a) (.type "list")
 |frz {a:Addr} {o:Obj} {xs:List V} (e:H a=some (.frz o (.lst xs))):zaI K H (.ref a) (.type "list")
 |tup {a:Addr} {xs:List V} (e:H a=some (.tup xs)):zaI K H (.ref a) (.type "tuple")
 |dK {a:Addr} {ah:List (Key×V)} (e:H a=some (.dK ah)):zaI K H (.ref a) (.type "dict")
 |dT {a:Addr} {ah:List (List Key×V)} (e:H a=some (.dT ah)):zaI K H (.ref a) (.type "dict")
 |ins {a C dx:Addr} {fs:List (Str×V)} (e:H a=some (.ins C dx fs)) (cl:Cls K C) (ha:rF K (.ref C) "__class__"=some (some (.builtin "object.__class__")))
   (hn:w6 K (.builtin "object.__class__") "__get__"=some (some (.builtin "getset_descriptor.__get__"))) (htk:AJ K (.builtin "object.__class__")=some true)
   (hm:tX K C (.type "object")=some true):zaI K H (.ref a) (.ref C)
end
structure wG (k:Nat) (A:Around):Prop where
 hd:A.handled=none
 dp:A.depth+3*k+5<recursionLimit
 un:A.units+16*k+200<cLine
 gd:A.guards=some []
theorem wG.mono {j k:Nat} {A:Around} (r:wG k A) (h:j<=k):wG j A:=⟨r.hd,by have:=r.dp;omega,by have:=r.un;omega,r.gd⟩
theorem wG.deeper {k:Nat} {A:Around} (r:wG (k+1) A) (env:Env):wG k (A.deeper env):=
 ⟨r.hd,by have:=r.dp;show A.depth+1+3*k+5<_;omega,by have:=r.un;show A.units+3+16*k+200<_;omega,r.gd⟩
theorem zfR {A:Around} {C:Addr} {us:List Value} {kw:List (Str×Value)}:(A.under (.builtin "type.__call__" ⟨.ref C::us,kw⟩)).depth=A.depth+1:=by
 first|rfl|simp[Around.under,Code.weight,Code.isCreation,Code.isGuard,Code.isCaller,Code.frames,Code.isFrame,guardIds]
theorem zfS {A:Around} {C:Addr} {us:List Value} {kw:List (Str×Value)}:(A.under (.builtin "type.__call__" ⟨.ref C::us,kw⟩)).units=A.units+1:=by
 first|rfl|simp[Around.under,Code.cUnits,Code.frames,Code.isFrame]
theorem wG.make {k:Nat} {A:Around} (r:wG (k+1) A) (C:Addr) (us:List Value) (kw:List (Str×Value)):wG k (A.under (.builtin "type.__call__" ⟨.ref C::us,kw⟩)):=
 ⟨r.hd,by have:=r.dp;rw[zfR];omega,by have:=r.un;rw[zfS];omega,r.gd⟩
theorem wG.depth {k:Nat} {A:Around} (r:wG k A):A.depth<recursionLimit:=by have:=r.dp;omega
theorem wG.units {k:Nat} {A:Around} (r:wG k A):A.units+64<cLine:=by have:=r.un;omega
def ziT:TA:=λ_ H Q=>Q [] H
def zaw (ta:TE) (tr:TA):TA:=λσ H Q=>ta σ H λx H1=>tr σ H1 λxs H2=>Q (x::xs) H2
section
variable {X:Cx} {e:Expr} {es:List Expr} {te:TE} {t:TA} {pos:Pos}
theorem ze:PA X [] ziT:=λ_ _ _ _ H Q I h=>Calls.spliced_nil ⟨[],H,I,.nil,h⟩
theorem zR (ha:PE X e te) (hr:PA X es t) (hs:starEach (e::es) X.env=(false,eval e X.env)::starEach es X.env:=by rfl):PA X (e::es) (zaw te t):=by
 intro pos pins s σ H Q I h;rw[hs];show wpAny _ _ (spliced ((false,eval e X.env)::backTo pos (starEach es X.env))) _ _ s;refine Calls.spliced_cons (thn (ha pins s σ H _ I h) ?_);rintro u s1 ⟨x,H1,I1,r1,q1⟩;refine thn (hr pos pins s1 σ H1 _ I1 q1) ?_;rintro us s2 ⟨xs,H2,I2,r2,q2⟩;exact⟨x::xs,H2,I2,.cons r1 r2,q2⟩
def zoO (t:TA):TE:=λσ H Q=>t σ H λxs H1=>xs.length<=sizeLine/\∀p,H1 p=none->Q (.ref p) (upd H1 p (.tup xs))
def zoP (t:TA):TE:=λσ H Q=>t σ H λxs H1=>xs.length<=sizeLine/\∀p,H1 p=none->Q (.ref p) (upd H1 p (.lst xs))
theorem znp {x1} (h:PA X es t):PE X (.Tuple es x1 pos) (zoO t):=by
 intro pins s σ H Q I hq;refine wpAny_Tuple_spliced (thn (h pos pins s σ H _ I hq) λus s1 ⟨xs,H1,I1,r,z,q⟩=>⟨by rw[<-r.length];exact z,?_⟩);have hf:H1 s1.heap.objs.size=none:=I1.hok.fresh (qT _);refine⟨.ref s1.heap.objs.size,upd H1 s1.heap.objs.size (.tup xs),I1.laid (t':=s1.toks) (λb u e=>Heap.get?_push_of_some _ e) (qT _) ?_,rfl,q _ hf⟩;exact⟨z,us,r,⟨_,Heap.get?_push_size _ rfl,rfl,_,rfl,rfl⟩⟩
theorem wV (h:PA X es t):PE X (.List es pos) (zoP t):=by
 intro pins s σ H Q I hq;refine wpAny_List_spliced (thn (h pos pins s σ H _ I hq) λus s1 ⟨xs,H1,I1,r,z,q⟩=>⟨by rw[<-r.length];exact z,?_⟩);have hf:H1 s1.heap.objs.size=none:=I1.hok.fresh (qT _);refine⟨.ref s1.heap.objs.size,upd H1 s1.heap.objs.size (.lst xs),I1.laid (t':=s1.toks) (λb u e=>Heap.get?_push_of_some _ e) (qT _) ?_,rfl,q _ hf⟩;exact⟨z,us,0,r,Heap.get?_push_size _ rfl⟩
end
abbrev Sp:=List V->Hp->VK->XK->Prop
abbrev CXT:=List Env->Hp->Shared->XK->Value->Shared->Prop
structure zcn (P:Program) (w:World) (K:qP) (mg:Str->Option Value) (base:Heap) (A:Around) (outer:List Env) (s:Shared) (H:Hp):Prop where
 frames:A.frames=some outer
 mod:Mod P K mg base
 bs:∀b o,base.get? b=some o->s.heap.get? b=some o/\H b=none
 bsz:base.objs.size<=s.heap.objs.size
 funs:s.heap.FunFrames base outer
 frf:∀b∈frs outer,H b=none
 hok:HOk P w H s.heap
 bare:AllBare s.gens
def CE (outer:List Env) (P:Program) (w:World) (H:Hp) (s:Shared) (Q:VK) (u:Value) (s':Shared):Prop:=
 ∃v H',s'.os=s.os/\AllBare s'.gens/\Un (frs outer) [] H H' s.heap s'.heap/\HOk P w H' s'.heap/\yn v u/\Q v H'
def CR (CX:CXT) (outer:List Env) (P:Program) (w:World) (H:Hp) (s:Shared) (Q:VK) (E:XK) (r:Result) (s':Shared):Prop:=
 match r with
 | .ok (.ret u)=>CE outer P w H s Q u s'
 | .ok _=>False
 | .error e=>CX outer H s E e s'
structure yD (P:Program) (w:World) (K:qP) (mg:Str->Option Value) (base:Heap) (CX:CXT) (k:Nat) (f:Addr) (fd:FuncData) (ps:List Str) (sp:Sp):Prop where
 len:∀vs H Q E,sp vs H Q E->vs.length=ps.length
 run:∀(A:Around) (outer:List Env) (s:Shared) (H:Hp) (args:Args) (us:List Value) (vs:List V) (Q:VK) (E:XK),wG k A->zcn P w K mg base A outer s H->BindsTo s fd args (ps.zip us)->yr vs us->sp vs H Q E->
  codeAny (model P w) A (.call (.ref f) args) (CR CX outer P w H s Q E) s
theorem yD.imp {P:Program} {w:World} {K:qP} {mg:Str->Option Value} {base:Heap} {CX:CXT} {k:Nat} {f:Addr} {fd:FuncData} {ps:List Str} {sp sp':Sp} (F:yD P w K mg base CX k f fd ps sp)
  (h:∀vs H Q E,sp' vs H Q E->sp vs H Q E):yD P w K mg base CX k f fd ps sp':=
 ⟨λvs H Q E q=>F.len vs H Q E (h _ _ _ _ q),λA outer s H args us vs Q E hr he hb hv hs=>F.run A outer s H args us vs Q E hr he hb hv (h _ _ _ _ hs)⟩
theorem zcn.make {P:Program} {w:World} {K:qP} {mg:Str->Option Value} {base:Heap} {A:Around} {outer:List Env} {s:Shared} {H:Hp} (e:zcn P w K mg base A outer s H) (C:Addr) (us:List Value) (kw:List (Str×Value)):
  zcn P w K mg base (A.under (.builtin "type.__call__" ⟨.ref C::us,kw⟩)) outer s H:=⟨by first|exact e.frames|(simpa [Around.under,Code.envs,Code.isFrame,pushEnvs] using e.frames),e.mod,e.bs,e.bsz,e.funs,e.frf,e.hok,e.bare⟩
section
variable {X:Cx} {pins:List (Addr×Obj)} {σ:St} {H:Hp} {s s':Shared}
theorem Inv.env0 (I:Inv X pins σ H s):zcn X.prog X.w X.K X.mg X.base X.A X.stack s H:=
 ⟨I.ok.frames,I.ok.mod,I.bs,rk I.ok.bsz I.sz,I.stack,I.stkFree,I.hok,I.bare⟩
theorem Inv.after {Q:VK} {u:Value} (I:Inv X pins σ H s) (h:CE X.stack X.prog X.w H s Q u s'):EP X pins σ Q u s':=by
 obtain⟨v,H',os,bare,un,hok,r,q⟩:=h;obtain⟨hh,g,d,t,os'⟩:=s';obtain rfl:os'=s.os:=os;exact⟨v,H',I.call (h':=hh) (g':=g) (d':=d) (t':=t) (ch:=[]) un hok bare (λb z=>absurd z (by simp)),r,q⟩
end
def zmF (sp:Sp) (dE:List V) (E:XK) (t:TA):TE:=λσ H Q=>t σ H λvs H1=>sp (vs++dE) H1 Q E
def ziU (C:Addr) (m:Str) (sp:Sp) (dE:List V) (E:XK) (ta:TE) (t:TA):TE:=λσ H Q=>ta σ H λx H1=>∃a dx fs,x= .ref a/\H1 a=some (.ins C dx fs)/\fs.lookup m=none/\
 t σ H1 λvs H2=>sp (x::(vs++dE)) H2 Q E
def zmG (C:Addr) (sp:Sp) (dE:List V) (E:XK) (t:TA):TE:=λσ H Q=>t σ H λvs H1=>∀x dx,H1 x=none->H1 dx=none->dx≠x->
 sp (.ref x::(vs++dE)) (upd (upd H1 dx (.own x)) x (.ins C dx [])) (λv H2=>v= .non/\Q (.ref x) H2) E
def Um (K:qP) (fd:FuncData) (ps:List Str) (ds:List Value):Prop:=
 ∀(s:Shared) (us:List Value),K.In s.heap->(us++ds).length=ps.length->BindsTo s fd ⟨us,[]⟩ (ps.zip (us++ds))
theorem Um.all {K:qP} {fd:FuncData} {ps:List Str} (h:∀us:List Value,us.length=ps.length->bindArgs fd ⟨us,[]⟩=pure (ps.zip us)):Um K fd ps []:=λs us _ hl=>by
 rw[tF] at hl ⊢;exact .of_eq (h us hl)
def UA (CX:CXT) (X:Cx) (E:XK):Prop:=∀(pins:List (Addr×Obj)) (σ:St) (H:Hp) (s:Shared) (e:Value) (s':Shared),Inv X pins σ H s->CX X.stack H s E e s'->X.xe e s'
section
variable {X:Cx} {CX:CXT} {k:Nat} {f C:Addr} {fd:FuncData} {ps:List Str} {sp:Sp} {dE:List V} {ds:List Value} {E:XK} {x m:Str} {p pos apos:Pos} {e o:Expr} {es:List Expr} {ta:TE} {t:TA}
theorem ziV {pins:List (Addr×Obj)} {σ:St} {H:Hp} {s:Shared} {Q:VK} {us:List Value} {vs:List V} (F:yD X.prog X.w X.K X.mg X.base CX k f fd ps sp) (hr:wG k X.A) (hb:Um X.K fd ps ds) (hd:yr dE ds) (hx:UA CX X E)
  (I:Inv X pins σ H s) (r:yr vs us) (h:sp (vs++dE) H Q E):wpAny (model X.prog X.w) X.A (call (.ref f) us) (EP X pins σ Q) X.xe s:=by
 have r2:yr (vs++dE) (us++ds):=r.append hd;have hl:(us++ds).length=ps.length:=by rw[<-r2.length];exact F.len _ _ _ _ h
 refine wpAny_call (codeAny_mono (F.run X.A X.stack s H ⟨us,[]⟩ (us++ds) (vs++dE) Q E hr I.env0 (hb s us I.kIn hl) r2 h) λr s' hq=> ?_);cases r with
 |error e=>exact hx pins σ H s e s' I hq
 |ok fl=>
  cases fl with
  |ret u=>exact I.after hq
  |next=>exact sv hq
  |brk=>exact sv hq
  |cont=>exact sv hq
theorem zk9 (F:yD X.prog X.w X.K X.mg X.base CX k f fd ps sp) (hr:wG k X.A) (hg:Gl X x) (hm:X.mg x=some (.ref f)) (hk:t9 X.K (.ref f)=true) (hb:Um X.K fd ps ds) (hd:yr dE ds) (hx:UA CX X E)
  (ha:PA X (e::es) t) (gZ:(x==("__debug__":Str))=false:=by decide) (he:starEach (e::es) X.env=(false,eval e X.env)::starEach es X.env:=by rfl) (dH:(backTo pos (starEach es X.env)).any (·.1)=false:=by rfl):
  PE X (.Call (.Name x p) (e::es) [] pos) (zmF sp dE E t):=by
 intro pins s σ H Q I h;refine wpAny_Call_Name_kw (zdx I hg hm ?_ gZ);refine uX (h₀:=X.base) I.ok.mod.kin hk (thn (ha pos pins s σ H _ I h) ?_) he dH;rintro us s1 ⟨vs,H1,I1,r,q⟩;refine⟨I1.kIn,?_⟩;exact ziV F hr hb hd hx I1 r q
theorem zS {pl:Sem Bool} (he:PE X o ta) (c:Cls X.K C) (hm:zno X.K C m f) (F:yD X.prog X.w X.K X.mg X.base CX k f fd ps sp) (hr:wG k X.A) (hb:Um X.K fd ps ds) (hd:yr dE ds) (hx:UA CX X E) (ha:PA X (e::es) t)
  (eQ:starEach (e::es) X.env=(false,eval e X.env)::starEach es X.env:=by rfl) (dH:(backTo pos (starEach es X.env)).any (·.1)=false:=by rfl)
  (ht:eval (.Call (.Attribute o m apos) (e::es) [] pos) X.env=(do
   let ov <-eval o X.env
   standAt apos.atName
   let (f,first) <-holding [ov] (getMethod ov m pl)
   callWith pos f first (backTo pos (starEach (e::es) X.env)) (backToKw pos (keywordEach [] X.env))):=by rfl):
  PE X (.Call (.Attribute o m apos) (e::es) [] pos) (ziU C m sp dE E ta t):=by
 intro pins s σ H Q I h;refine PySem.W.methodCall_KW (pl:=pl) (thn (he pins s σ H _ I h) ?_) ht;rintro u s1 ⟨x,H1,I1,rx,a,dx,fs,ex,ea,l,q⟩;subst ex;obtain rfl:u=Value.ref a:=rx;refine zfO I1 ea c hm l ?_;refine uX (first:=[.ref a]) (h₀:=X.base) I.ok.mod.kin hm.kp (thn (ha pos pins s1 σ H1 _ I1 q) ?_) eQ dH;rintro us s2 ⟨vs,H2,I2,r,q2⟩;refine⟨I2.kIn,?_⟩;exact ziV (us:= .ref a::us) (vs:= .ref a::vs) F hr hb hd hx I2 (.cons rfl r) q2
structure Mk (K:qP) (C f:Addr):Prop where
 makes:z4 K C=true
 init:rF K (.ref C) "__init__"=some (some (.ref f))
 fn:uH K (.ref f)=true
 kp:t9 K (.ref C)=true
theorem ziW {pins:List (Addr×Obj)} {σ:St} {H:Hp} {s:Shared} {Q:VK} {us:List Value} {vs:List V} (M:Mk X.K C f) (F:yD X.prog X.w X.K X.mg X.base CX k f fd ps sp) (hr:wG (k+1) X.A) (hb:Um X.K fd ps ds) (hd:yr dE ds)
  (hx:UA CX X E) (I:Inv X pins σ H s) (r:yr vs us)
  (h:∀x dx,H x=none->H dx=none->dx≠x->sp (.ref x::(vs++dE)) (upd (upd H dx (.own x)) x (.ins C dx [])) (λv H2=>v= .non/\Q (.ref x) H2) E):
  wpAny (model X.prog X.w) X.A (call (.ref C) us) (EP X pins σ Q) X.xe s:=by
 have hq:=h (s.heap.objs.size+1) s.heap.objs.size (I.hok.fresh (ur _)) (I.hok.fresh (qT _)) (rA (tf _));have I2:=Inv.made (C:=C) I;have r2:yr (V.ref (s.heap.objs.size+1)::(vs++dE)) (Value.ref (s.heap.objs.size+1)::(us++ds)):= .cons rfl (r.append hd);have hl:(Value.ref (s.heap.objs.size+1)::us++ds).length=ps.length:=by
  have e:=r2.length;rw[F.len _ _ _ _ hq] at e;exact e.symm
 refine wpAny_call (ziS (f:=f) I.kIn M.makes M.init (beq_iff_eq.mp M.fn) (codeAny_mono (F.run _ X.stack _ _ ⟨Value.ref (s.heap.objs.size+1)::us,[]⟩ (Value.ref (s.heap.objs.size+1)::(us++ds)) _ _ E (hr.make C us [])
  (I2.env0.make C us []) (hb _ (Value.ref (s.heap.objs.size+1)::us) I2.kIn hl) r2 hq) λr s' iQ=> ?_))
 cases r with
 |error e=>exact hx pins σ _ _ e s' I2 iQ
 |ok fl=>
  cases fl with
  |ret u=>
   obtain⟨v,H',I3,rv,ev,q3⟩:=I2.after iQ;subst ev;exact⟨rv,⟨V.ref (s.heap.objs.size+1),H',I3,rfl,q3⟩⟩
  |next=>exact sv iQ
  |brk=>exact sv iQ
  |cont=>exact sv iQ
theorem zgS (M:Mk X.K C f) (F:yD X.prog X.w X.K X.mg X.base CX k f fd ps sp) (hr:wG (k+1) X.A) (hg:Gl X x) (hm:X.mg x=some (.ref C)) (hb:Um X.K fd ps ds) (hd:yr dE ds) (hx:UA CX X E)
  (ha:PA X (e::es) t) (gZ:(x==("__debug__":Str))=false:=by decide) (he:starEach (e::es) X.env=(false,eval e X.env)::starEach es X.env:=by rfl) (dH:(backTo pos (starEach es X.env)).any (·.1)=false:=by rfl):
  PE X (.Call (.Name x p) (e::es) [] pos) (zmG C sp dE E t):=by
 intro pins s σ H Q I h;refine wpAny_Call_Name_kw (zdx I hg hm ?_ gZ);refine uX (h₀:=X.base) I.ok.mod.kin M.kp (thn (ha pos pins s σ H _ I h) ?_) he dH;rintro us s1 ⟨vs,H1,I1,r,q⟩;refine⟨I1.kIn,?_⟩;exact ziW M F hr hb hd hx I1 r q
end
section
variable {X:Cx} {CX:CXT} {k:Nat} {f C:Addr} {fd:FuncData} {ps ks:List Str} {sp:Sp} {E:XK} {x m:Str} {p pos apos nT:Pos} {e o:Expr} {es:List Expr} {qc:List Keyword} {te ta:TE} {t tk:TA} {nm:Option Str}
structure zpN (K:qP) (fd:FuncData) (ps ks:List Str) (g:List Value->List Value->List Value) (gV:List V->List V->List V):Prop where
 to:∀(s:Shared) (us ws:List Value),K.In s.heap->(g us ws).length=ps.length->BindsTo s fd ⟨us,ks.zip ws⟩ (ps.zip (g us ws))
 rel:∀{vs:List V} {us:List Value} {zs:List V} {ws:List Value},yr vs us->yr zs ws->yr (gV vs zs) (g us ws)
variable {g:List Value->List Value->List Value} {gV:List V->List V->List V}
end
structure zE (N P:List Str) (sc:Scope):Prop where
 kind:sc.kind= .function
 co:sc.isCoroutine=false
 gen:sc.isGenerator=false
 nd:N.Nodup
 pre:N.take P.length=P
 par:∀x∈P,sc.names.lookup x=some .local\/sc.names.lookup x=some .cell
 nofree:∀y∈sc.names,y.2≠ .free
theorem zcS {kindOf:Str->Option NameKind} {x:Str}:∀{binds:List (Str×Value)} {m:Str->Option Value},(∀v,(x,v)∉binds)->bindL kindOf binds m x=m x
 |[],_,_=>rfl
 |(n,v)::r,m,h=>by
  unfold bindL;rw[zcS λw hw=>h w (r9 _ hw)];split
  .have:x≠n:=by rintro rfl;exact h v rE
   simp[this]
  .rfl
theorem zcT {kindOf:Str->Option NameKind} {x:Str}:∀{binds:List (Str×Value)} {m:Str->Option Value},(∀v,(x,v)∉binds)->bindC kindOf binds m x=m x
 |[],_,_=>rfl
 |(n,v)::r,m,h=>by
  unfold bindC;rw[zcT λw hw=>h w (r9 _ hw)];split
  .rfl
  .have:x≠n:=by rintro rfl;exact h v rE
   simp[this]
theorem zcU {kindOf:Str->Option NameKind} {x:Str} {v:Value}:∀{P:List Str} {vs:List Value} {i:Nat} {m:Str->Option Value},P.Nodup->P[i]? =some x->vs[i]? =some v->kindOf x=some .local->
  bindL kindOf (P.zip vs) m x=some v
 |[],_,_,_,_,h,_,_=>by simp at h
 |_::_,[],_,_,_,_,h,_=>by simp at h
 |p::P,w::vs,0,m,nd,h1,h2,hk=>by
  simp at h1 h2;subst h1;subst h2;show bindL kindOf ((p,w)::P.zip vs) m p=_;unfold bindL;rw[zcS λv hv=>(sU.mp nd).1 (uc hv).1,if_pos hk];simp
 |p::P,w::vs,i+1,m,nd,h1,h2,hk=>by
  show bindL kindOf ((p,w)::P.zip vs) m x=_;unfold bindL;exact zcU (i:=i) (sU.mp nd).2 (by simpa using h1) (by simpa using h2) hk
theorem zcV {kindOf:Str->Option NameKind} {x:Str} {v:Value}:∀{P:List Str} {vs:List Value} {i:Nat} {m:Str->Option Value},P.Nodup->P[i]? =some x->vs[i]? =some v->kindOf x≠some .local->
  bindC kindOf (P.zip vs) m x=some v
 |[],_,_,_,_,h,_,_=>by simp at h
 |_::_,[],_,_,_,_,h,_=>by simp at h
 |p::P,w::vs,0,m,nd,h1,h2,hk=>by
  simp at h1 h2;subst h1;subst h2;show bindC kindOf ((p,w)::P.zip vs) m p=_;unfold bindC;rw[zcT λv hv=>(sU.mp nd).1 (uc hv).1,if_neg hk];simp
 |p::P,w::vs,i+1,m,nd,h1,h2,hk=>by
  show bindC kindOf ((p,w)::P.zip vs) m x=_;unfold bindC;exact zcV (i:=i) (sU.mp nd).2 (by simpa using h1) (by simpa using h2) hk
noncomputable def Xp (N:List Str) (vs:List V):St:=vs.map some++rh (N.length-vs.length) none
noncomputable def zco (CX:CXT) (P:Program) (w:World) (K:qP) (mg:Str->Option Value) (base:Heap) (N:List Str) (qual:Str) (scope:Scope) (f:Addr) (cd:Value) (A:Around) (outer:List Env) (s:Shared) (H:Hp) (E:XK):Cx where
 prog:=P
 w:=w
 K:=K
 mg:=mg
 base:=base
 A:=A.deeper (envOfC qual scope s.heap.objs.size f cd)
 N:=N
 s₀:=s
 H₀:=H
 env:=envOfC qual scope s.heap.objs.size f cd
 outer:=outer
 stack:=envOfC qual scope s.heap.objs.size f cd::outer
 ex:=[]
 calm:=true
 fn:=λ_=>true
 zn:=λ_=>false
 pn:=[]
 xe:=λe s'=>wpAny (model P w) (A.deeper (envOfC qual scope s.heap.objs.size f cd)) (leaving (envOfC qual scope s.heap.objs.size f cd) e) (λ_ s''=>CX outer H s E e s'') (λe' s''=>CX outer H s E e' s'') s'
theorem zeE {sc:Scope} {n:Nat} {x:Str} (h:sc.names.lookup x=some .cell):∃c,(cellsFrom n sc.names []).lookup x=some c:=by
 have q:=uv sc.names n [] (.inl h);exact sD.mp q
theorem zcW {CX:CXT} {P:Program} {w:World} {K:qP} {mg:Str->Option Value} {base:Heap} {N ps:List Str} {qual:Str} {scope:Scope} {f:Addr} {cd:Value} {A:Around} {outer:List Env} {s s1:Shared} {H:Hp} {E:XK} {us:List Value} {vs:List V}
  (S:zE N ps scope) (hd:A.handled=none) (e0:zcn P w K mg base A outer s H) (hl:vs.length=ps.length) (r:yr vs us)
  (x:InCallC s s.heap.objs.size (bindL (envOfC qual scope s.heap.objs.size f cd).kindOf (ps.zip us) λ_=>none) (cellsFrom (s.heap.objs.size+1) scope.names []) (bindC (envOfC qual scope s.heap.objs.size f cd).kindOf (ps.zip us) λ_=>none) s1):
  Inv (zco CX P w K mg base N qual scope f cd A outer s H E) [] (Xp N vs) H s1:=by
 have dH:ps.length<=N.length:=by have:=congrArg List.length S.pre;rw[sG] at this;omega
 obtain⟨h1,tk,rfl,hk⟩:=x.done;have fT:∀b:Addr,b∉(zco CX P w K mg base N qual scope f cd A outer s H E).ex:=λb z=>absurd (show b∈([]:List Addr) from z) (by simp)
 refine⟨⟨e0.mod,S.kind,rfl,rfl,qT _,λy z c h1 h2=> ?_,λy hy=> ?_,λy c _ h=> ?_,λ_=>hd,Around.frames_deeper e0.frames,.inr ⟨rfl,rfl⟩,λb z=>absurd z (fT b),e0.bs,e0.bsz,λb _ _=>fT b,λb z=>absurd z (fT b),e0.funs,e0.frf⟩,
  rfl,e0.bare,Un.kept hk,⟨_,x.toInCall.ns,λi y v h1 h2 h3=> ?_⟩,λy c h=>⟨_,x.cell y c h⟩,e0.hok.fresh (qT _),λy c h=> ?_,λp hp=>absurd (show p∈([]:List (Addr×Obj)) from hp) (by simp),e0.hok.kept hk,?_⟩
 .exact name_of_addr x.apart (rZ h1) (rZ h2)
 .have hy:scope.names.lookup y=some .cell\/scope.names.lookup y=some .free:=hy;rcases hy with hy|hy
  .exact zeE hy
  .exact absurd rfl (S.nofree _ (rZ hy))
 .exact rS (x.above y c (rZ h))
 .have hi:i<vs.length:=by
   unfold Xp at h2;by_cases hi:i<vs.length
   .exact hi
   .rw[qU (by simpa using hi)] at h2;rw[tN] at h2;split at h2<;>cases h2
  have ha:vs[i]? =some v:=by
   unfold Xp at h2;rw[qR (by simpa using hi),qY] at h2;cases e:vs[i]? with
   |none=>rw[e] at h2;cases h2
   |some a=>rw[e] at h2;cases h2;rfl
  obtain⟨u,hu,rv⟩:=r.get ha;have hp:ps[i]? =some y:=by
   rw[<-S.pre,List.getElem?_take_of_lt ⋯];exact h1
  have m9:ps.Nodup:=by rw[<-S.pre];exact S.nd.sublist (List.take_sublist _ _)
  refine⟨u,rv,?_⟩;rcases S.par y (qS hp) with k|k
  .exact .inl ⟨k,zcU m9 hp hu k⟩
  .obtain⟨c,e⟩:=zeE (n:=s.heap.objs.size+1) k;refine .inr ⟨.inl k,c,e,?_⟩;have q:=x.cell y c e;rw[zcV m9 hp hu (by show scope.names.lookup y≠_;rw[k];decide)] at q;exact q
 .exact .inl (e0.hok.fresh (rS (x.above y c (rZ h))))
 .unfold Xp;show _=N.length;rw[rd,qV,uC];omega
theorem zoQ {CX:CXT} {P:Program} {w:World} {K:qP} {mg:Str->Option Value} {base:Heap} {k:Nat} {f:Addr} {name qual:Str} {params:Arguments} {body:List Stmt} {scope:Scope} {dV kV doc pm aS ct oc:Value} {an od:Option Addr}
  {eP:Array (Option Value)} {N ps:List Str} {sp:Sp} (lk:K.lookup f=some ⟨oc,od,.func (tq name qual params body scope dV kV doc pm an aS ct),eP⟩) (cQ:ug K aS qual=true) (S:zE N ps scope)
  (len:∀vs H Q E,sp vs H Q E->vs.length=ps.length)
  (d4:∀(A:Around) (outer:List Env) (s:Shared) (H:Hp) (vs:List V) (Q:VK) (E:XK),wG k (A.deeper (envOfC qual scope s.heap.objs.size f aS))->sp vs H Q E->
   ∃t,PSs (zco CX P w K mg base N qual scope f aS A outer s H E) body t/\t {nx:=λ_ H'=>Q .non H',rt:=Q} (Xp N vs) H):
  yD P w K mg base CX (k+1) f (tq name qual params body scope dV kV doc pm an aS ct) ps sp:=by
 refine⟨len,λA outer s H args us vs Q E hr e0 hb r fV=> ?_⟩;have hl:=len _ _ _ _ fV;have KX:K.In s.heap:=e0.mod.kin.keeps λb o e=>(e0.bs b o e).1;have lim:s.heap.NoLimit:=e0.mod.nolimit.keeps λb o e=>(e0.bs b o e).1;have fq:∀y∈ps.zip us,scope.names.lookup y.1=some .local\/(scope.names.lookup y.1=some .cell/\((cellsFrom (s.heap.objs.size+1) scope.names []).lookup y.1).isSome=true):=λ⟨n,v⟩ hy=>by
  rcases S.par n (uc hy).1 with q|q
  .exact .inl q
  .exact .inr ⟨q,uv _ _ _ (.inl q)⟩
 refine codeAny_call_function hr.depth (KX _ _ lk) rfl S.co S.gen rfl (An KX cQ) (hb _ _ _ _ ?_);refine wpAny_newFunctionEnv_cells S.kind fq λenv he s1 x=> ?_;subst he;refine⟨lim.keeps x.toInCall.keep,codeAny_func ?_⟩;obtain⟨t,ht,hq⟩:=d4 A outer s H vs Q E (hr.deeper _) fV;have I:Inv (zco CX P w K mg base N qual scope f aS A outer s H E) [] (Xp N vs) H s1:=zcW S hr.hd e0 hl r x;refine wpAny_mono (ht [] s1 (Xp N vs) H _ I hq) (λfl s' hs=> ?_) λe s' hs=>hs;have fin:∀{σ':St} {H':Hp} {v:V} {u:Value},Inv (zco CX P w K mg base N qual scope f aS A outer s H E) [] σ' H' s'->yn v u->Q v H'->CE outer P w H s Q u s':=
  λ{σ' H' v u} J rv q=>⟨v,H',J.os,J.bare,J.base,J.hok,rv,q⟩
 cases fl with
 |ret u=>
  obtain⟨v,σ',H',J,rv,q⟩:=hs;exact fin J rv q
 |next=>
  obtain⟨σ',H',J,q⟩:=hs;exact fin (v:=V.non) (u:=Value.none) J rfl q
 |brk=>
  obtain⟨_,_,_,q⟩:=hs;exact sv q
 |cont=>
  obtain⟨_,_,_,q⟩:=hs;exact sv q
section
variable {X:Cx} {x:Str} {p pos:Pos} {e:Expr} {es:List Expr} {t:TA} {id T:String} {r:List V->Hp->VK->Prop}
def tCB (r:List V->Hp->VK->Prop) (t:TA):TE:=λσ H Q=>t σ H λvs H1=>r vs H1 Q
theorem zA (hc:Xo X (.builtin id) r) (hg:Gl X x) (hm:X.mg x=none) (hv:bootBuiltins x=some (.builtin id)) (ha:PA X (e::es) t) (hn:x≠"__name__":=by decide) (gZ:(x==("__debug__":Str))=false:=by decide)
  (he:starEach (e::es) X.env=(false,eval e X.env)::starEach es X.env:=by rfl) (dH:(backTo pos (starEach es X.env)).any (·.1)=false:=by rfl):PE X (.Call (.Name x p) (e::es) [] pos) (tCB r t):=by
 intro pins s σ H Q I h;refine wpAny_Call_Name_kw (Ux I hg hm hv ?_ hn gZ);refine PyProof.Rows.callWith_builtin1 (thn (ha pos pins s σ H _ I h) ?_) he dH;rintro us s1 ⟨vs,H1,I1,r1,q1⟩;exact hc pins s1 σ H1 vs us Q I1 r1 q1
theorem vW (hc:Xo X (.type T) r) (hg:Gl X x) (hm:X.mg x=none) (hv:bootBuiltins x=some (.type T)) (ha:PA X (e::es) t) (hn:x≠"__name__":=by decide) (gZ:(x==("__debug__":Str))=false:=by decide)
  (he:starEach (e::es) X.env=(false,eval e X.env)::starEach es X.env:=by rfl) (dH:(backTo pos (starEach es X.env)).any (·.1)=false:=by rfl):PE X (.Call (.Name x p) (e::es) [] pos) (tCB r t):=by
 intro pins s σ H Q I h;refine wpAny_Call_Name_kw (Ux I hg hm hv ?_ hn gZ);refine sP (thn (ha pos pins s σ H _ I h) ?_) he dH;rintro us s1 ⟨vs,H1,I1,r1,q1⟩;exact hc pins s1 σ H1 vs us Q I1 r1 q1
end
end L2
namespace HT
open PySem PyProof.Rows
section
open PySem.SeqAt
open PySem.AutoSeq1 (wpAny_loadPart')
open PySem.MeetsSeq PySem.MeetsSeq2 PySem.MeetsSeq3
end
section
variable {prog:Program} {w:World} {A:Around} {E:Value->Shared->Prop} {s:Shared}
theorem zla {t b:Addr} {vs ws:List Value} {Q:Value->Shared->Prop} (ht:IsTup s.heap t vs.toArray) (hb:IsTup s.heap b ws.toArray) (hv:vs≠[])
  (h1:ws=[]->Q (.ref t) s) (h2:ws≠[]->Q (.ref s.heap.objs.size) {s with heap:=s.heap.push {cls:= .type "tuple",data:= .seq (vs++ws).toArray}})
  (hsz:vs.length+ws.length<=sizeLine):wpAny (model prog w) A (binaryOp .Add (.ref t) (.ref b)) Q E s:=by
 obtain⟨⟨cls,dd,data,sl⟩,ho,hc,n,hd⟩:=id ht;obtain⟨⟨lR,jN,data2,hZ⟩,gP,eL,n2,hd2⟩:=id hb;simp only at hc hd eL hd2;subst hc hd eL hd2;have e:vs.toArray++ws.toArray=(vs++ws).toArray:=by simp
 by_cases hw:ws=[]
 .exact concat_meets ⟨_,ho,rfl⟩ ⟨_,gP,rfl⟩ noFill_tuple_add seq_tuple_add uw ui (uf _ _)
   (tuple_addW1 t b vs.toArray ws.toArray n n2 dd jN sl hZ (by simpa using hv) (by simp[hw])) ⟨ho,gP,h1 hw⟩
 .refine concat_meets ⟨_,ho,rfl⟩ ⟨_,gP,rfl⟩ noFill_tuple_add seq_tuple_add uw ui (uf _ _)
   (tuple_addW2 t b vs.toArray ws.toArray n n2 dd jN sl hZ (by simpa using hv) (by simpa using hw) (by rw[qZ,qZ];exact hsz)) ⟨ho,gP,?_⟩
  rw[e];exact h2 hw
noncomputable def sIx (n d:Nat):Option Int->Nat
 |none=>d
 |some v=>if v<0 then (v+(n:Int)).toNat else min v.toNat n
theorem zaW (n d k:Nat):sIx n d (some (k:Int))=min k n:=by
 show (if (k:Int)<0 then ((k:Int)+(n:Int)).toNat else min (k:Int).toNat n)=min k n;rw[if_neg ⋯,rH]
theorem znq (n d:Nat) (hd:d<=n) (o:Option Int):sIx n d o<=n:=by
 cases o with
 |none=>exact hd
 |some v=>
  show (if v<0 then (v+(n:Int)).toNat else min v.toNat n)<=n;by_cases hv:v<0
  .rw[if_pos hv];omega
  .rw[if_neg hv];exact Nat.min_le_right _ _
theorem zgT (v:Int) (n d:Nat):(if v<0 then max (v+(n:Int)) 0 else min v (n:Int))=((sIx n d (some v):Nat):Int):=by
 show (if v<0 then max (v+(n:Int)) 0 else min v (n:Int))=(((if v<0 then (v+(n:Int)).toNat else min v.toNat n):Nat):Int);by_cases hv:v<0
 .simp only[if_pos hv];omega
 .simp only[if_neg hv];omega
theorem zfT (lo hi:Option Int) (n:Nat):Builtin.Slice.sliceAdjust lo hi 1 (n:Int)=(((sIx n 0 lo:Nat):Int),((sIx n n hi:Nat):Int)):=by
 have h1:¬((1:Int)<0):=by omega
 unfold Builtin.Slice.sliceAdjust;simp only[h1,if_false];refine Prod.ext ?_ ?_
 .cases lo with
  |none=>rfl
  |some v=>exact zgT v n 0
 .cases hi with
  |none=>rfl
  |some v=>exact zgT v n n
theorem zfU (i j:Nat):Builtin.Slice.slicePlaces (i:Int) (j:Int) 1=j-i:=by
 unfold Builtin.Slice.slicePlaces;have h1:(1:Int)>0:=by omega
 simp only[h1,if_true,Ao];split<;>omega
theorem zbf {v:Value} {o:Option Int} {Q:Option Int->Shared->Prop} (p:IsPart v o) (h:Q o s):wpAny (model prog w) A (Builtin.Slice.slicePartIndex v) Q E s:=by
 cases p with
 |none=>exact slicePart_none h
 |int i t=>exact slicePart_int h
theorem Wf {sl:Addr} {vl vu:Value} {lo hi:Option Int} {n:Nat} {Q:Int×Int×Nat->Shared->Prop} (hs:s.heap.IsSliceOf sl vl vu .none) (pl:IsPart vl lo) (pu:IsPart vu hi)
  (h:Q (((sIx n 0 lo:Nat):Int),1,sIx n n hi-sIx n 0 lo) s):wpAny (model prog w) A (Builtin.Slice.sliceApplied (.ref sl) (pure (n:Int))) Q E s:=by
 obtain⟨os,gM,fw,j8⟩:=id hs;unfold Builtin.Slice.sliceApplied Builtin.Slice.sliceFields;refine wpAny_bind (wpAny_bind (wpAny_field gM j8 (x:=vl) rfl (wpAny_bind (wpAny_field gM j8 (x:=vu) rfl (wpAny_bind (wpAny_field gM j8 (x:= .none) rfl (wpAny_pure ?_)))))));refine wpAny_bind (slicePart_none ?_);show wpAny _ _ (if ((1:Int)==0)=true then _ else _) _ _ s;rw[if_neg ∅];refine wpAny_bind (zbf pl (wpAny_bind (zbf pu (wpAny_bind (wpAny_pure ?_)))));show wpAny _ _ (match Builtin.Slice.sliceAdjust lo hi 1 (n:Int) with|(lo,hi)=>pure (lo,(1:Int),Builtin.Slice.slicePlaces lo hi 1)) _ _ s;rw[zfT lo hi n];show wpAny _ _ (pure (((sIx n 0 lo:Nat):Int),(1:Int),Builtin.Slice.slicePlaces ((sIx n 0 lo:Nat):Int) ((sIx n n hi:Nat):Int) 1)) _ _ s;rw[zfU];exact wpAny_pure h
theorem ziX (xs:Array Value) (i k:Nat):((sC k).filterMap λ(m:Nat)=>xs[((i:Int)+(m:Int)*1).toNat]?).toArray=((xs.toList.drop i).take k).toArray:=by
 have e:(λ(m:Nat)=>xs[((i:Int)+(m:Int)*1).toNat]?)=λm=>xs[i+m]? :=by
  funext m;have:((i:Int)+(m:Int)*1).toNat=i+m:=by omega
  rw[this]
 rw[e];have:=pick_run xs i k;rw[List.filterMap_map] at this;have e2:((λx=>xs[x]?) ∘ λx=>i+x)=λm=>xs[i+m]? :=rfl;rw[e2] at this;rw[this]
theorem UV {t sl:Addr} {items:Array Value} {vl vu:Value} {lo hi:Option Int} {Q:Value->Shared->Prop} (ht:IsTup s.heap t items) (hs:s.heap.IsSliceOf sl vl vu .none) (pl:IsPart vl lo) (pu:IsPart vu hi)
  (hw:¬(sIx items.size 0 lo=0/\sIx items.size items.size hi=items.size))
  (h:Q (.ref s.heap.objs.size) {s with heap:=s.heap.push {cls:= .type "tuple",data:= .seq ((items.toList.drop (sIx items.size 0 lo)).take (sIx items.size items.size hi-sIx items.size 0 lo)).toArray}})
  (hsz:items.size<=sizeLine):wpAny (model prog w) A (getItem (.ref t) (.ref sl)) Q E s:=by
 have eE:sizeOk (.seq ((items.toList.drop (sIx items.size 0 lo)).take (sIx items.size items.size hi-sIx items.size 0 lo)).toArray):=by
  show ((items.toList.drop (sIx items.size 0 lo)).take (sIx items.size items.size hi-sIx items.size 0 lo)).toArray.size<=sizeLine;rw[qZ,sG,tK,u6];omega
 have hj:sIx items.size items.size hi<=items.size:=znq _ _ (qT _) hi;obtain⟨os,gM,fw,j8⟩:=id hs;have lI:s.TypeIs (.ref sl) "slice":=⟨os,gM,fw⟩;unfold getItem
 try with_reducible refine wpAny_holding ?_
 first|refine wpAny_bind (wpAny_pure ?_)|skip
 refine wpAny_bind (wpAny_sequenceKey ht.typeIs ∅ ?_)
 refine wpAny_bind (wpAny_callSpecial?_slot (name:=Str.ofString "__getitem__") ht.typeIs sx
  (wpAny_call_entry sx ht.typeIs entry_tuple_getitem ?_ (args_tuple_getitem _ _)))
 show wpAny _ _ (Builtin.Tuple.tupleItemsOf (.ref t)>>=_) _ _ s;refine wpAny_bind (tupleItemsOf_ ht ?_);refine wpAny_bind (wpAny_typeOf lI ?_);rw[if_pos ∅];refine wpAny_bind (Wf hs pl pu ?_);have iS:¬((((sIx items.size 0 lo:Nat):Int)==0&&(1:Int)==1&&(sIx items.size items.size hi-sIx items.size 0 lo)==items.size)=true):=by
  intro q;rw[rV,rV] at q;have q1:((sIx items.size 0 lo:Nat):Int)=0:=eq_of_beq q.1.1;have q2:sIx items.size items.size hi-sIx items.size 0 lo=items.size:=eq_of_beq q.2;exact hw ⟨⋯,⋯⟩
 show wpAny _ _ (if (((sIx items.size 0 lo:Nat):Int)==0&&(1:Int)==1&&(sIx items.size items.size hi-sIx items.size 0 lo)==items.size)=true then _ else _) _ _ s;rw[if_neg iS,ziX]
 first
  |exact wpAny_bind (m:=Builtin.Tuple.tupleExact _) (wpAny_newObj_type (wpAny_pure ⟨_,rfl,wpAny_pure h⟩) eE)
  |exact wpAny_bind (m:=Builtin.Tuple.tupleExact _) (wpAny_newObj_type (wpAny_bind (wpAny_pure (wpAny_pure ⟨_,rfl,wpAny_pure h⟩))) eE)
  |exact wpAny_bind (wpAny_bind (m:=Builtin.Tuple.tupleExact _) (wpAny_newObj_type (wpAny_pure (wpAny_pure ⟨_,rfl,wpAny_pure h⟩)) eE))
  |exact wpAny_bind (wpAny_bind (m:=Builtin.Tuple.tupleExact _) (wpAny_newObj_type (wpAny_pure ⟨_,rfl,wpAny_pure h⟩) eE))
end
end HT
namespace L2
open PySem PySem.Spec PyProof.Rows
abbrev TO:=St->Hp->(Option Int->Hp->Prop)->Prop
def PO (X:Cx) (e:Option Expr) (t:TO):Prop:=
 ∀(pins:List (Addr×Obj)) (s:Shared) (σ:St) (H:Hp) (Q:Option Int->Hp->Prop),Inv X pins σ H s->t σ H Q->
  wpAny (model X.prog X.w) X.A (evalPart e X.env) (λu s'=>∃o H',Inv X pins σ H' s'/\IsPart u o/\Q o H') X.xe s
def zgU:TO:=λ_ H Q=>Q none H
def zmH (t:TE):TO:=λσ H Q=>t σ H λx H1=>∃i,x= .int i/\Q (some i) H1
section
variable {X:Cx} {e:Expr} {te:TE} {lo hi:Option Expr} {tl th:TO} {pos p2:Pos}
theorem VT:PO X none zgU:=by
 intro pins s σ H Q I h;rw[evalPart_none];exact wpAny_pure ⟨none,H,I,.none,h⟩
theorem ZN (h:PE X e te):PO X (some e) (zmH te):=by
 intro pins s σ H Q I hw;rw[evalPart_some];refine thn (h pins s σ H _ I hw) ?_;rintro u s1 ⟨x,H1,I1,r1,q1⟩;obtain⟨i,rfl,q⟩:=q1;obtain⟨t,rfl⟩:=r1;exact⟨some i,H1,I1,.int i t,q⟩
def SlR (X:Cx) (r:V->Option Int->Option Int->Hp->VK->Prop):Prop:=
 ∀(pins:List (Addr×Obj)) (s:Shared) (σ:St) (H:Hp) (x:V) (v vl vu:Value) (lo hi:Option Int) (sl:Addr) (Q:VK),Inv X pins σ H s->yn x v->s.heap.IsSliceOf sl vl vu .none->IsPart vl lo->IsPart vu hi->r x lo hi H Q->
  ∃T id,typeLookup (.type T) "__getitem__"=pure (some (.builtin id))/\s.TypeIs v T/\wpAny (model X.prog X.w) X.A (getItem v (.ref sl)) (EP X pins σ Q) X.xe s
def tSl (r:V->Option Int->Option Int->Hp->VK->Prop) (te:TE) (tl th:TO):TE:=λσ H Q=>te σ H λx H1=>tl σ H1 λl H2=>th σ H2 λu H3=>r x l u H3 Q
theorem Ya {r:V->Option Int->Option Int->Hp->VK->Prop} (hr:SlR X r) (he:PE X e te) (hl:PO X lo tl) (hu:PO X hi th):PE X (.Subscript e (.Slice lo hi none p2) pos) (tSl r te tl th):=by
 intro pins s σ H Q I h;refine Subscript_ (thn (he pins s σ H _ I h) ?_);rintro v s1 ⟨x,H1,I1,r1,q1⟩;refine wpAny_Slice (thn (hl pins s1 σ H1 _ I1 q1) ?_);rintro vl s2 ⟨l,H2,I2,pl,q2⟩;refine thn (hu pins s2 σ H2 _ I2 q2) ?_;rintro vu s3 ⟨u,H3,I3,pu,q3⟩;rw[evalPart_none];refine wpAny_pure ?_;have I4:Inv X pins σ H3 {s3 with heap:=s3.heap.push {cls:= .type "slice",data:= .fields #[vl,vu,.none]}}:=I3.kept (t':=s3.toks) λb ob q=>Heap.get?_push_of_some _ q;obtain⟨T,id,hT,ht,hg⟩:=hr pins {s3 with heap:=s3.heap.push {cls:= .type "slice",data:= .fields #[vl,vu,.none]}} σ H3 x v vl vu l u s3.heap.objs.size Q I4 r1 (Heap.IsSliceOf.new ..) pl pu q3;show wpAny (model X.prog X.w) X.A (subscriptTail e (.Slice lo hi none p2) v (.ref s3.heap.objs.size)) (EP X pins σ Q) X.xe {s3 with heap:=s3.heap.push {cls:= .type "slice",data:= .fields #[vl,vu,.none]}};exact tail_any (ops:=[.ref s3.heap.objs.size,v]) ht hT hg (by with_unfolding_all rfl)
noncomputable def zcp (xs:List V) (lo hi:Option Int):List V:=(xs.drop (HT.sIx xs.length 0 lo)).take (HT.sIx xs.length xs.length hi-HT.sIx xs.length 0 lo)
theorem zax (xs:List V) (lo hi:Option Int):(zcp xs lo hi).length<=xs.length:=by
 unfold zcp;rw[sG,tK];omega
def zpO (K:qP):V->Option Int->Option Int->Hp->VK->Prop:=λx lo hi H Q=>∃a xs,x= .ref a/\SqT K H a xs/\
 ¬(HT.sIx xs.length 0 lo=0/\HT.sIx xs.length xs.length hi=xs.length)/\∀p,H p=none->Q (.ref p) (upd H p (.tup (zcp xs lo hi)))
theorem znr:SlR X (zpO X.K):=by
 intro pins s σ H x v vl vu lo hi sl Q I rx hs pl pu h;obtain⟨a,xs,rfl,hx,hw,q⟩:=h;cases rx;obtain⟨ak,r,ht,hz⟩:=I.tuple hx;have hlen:ak.toArray.size=xs.length:=by rw[qZ];exact r.length.symm
 refine⟨"tuple",_,sx.lookup,ht.typeIs,?_⟩;refine HT.UV ht hs pl pu (by rw[hlen];exact hw) ?_ (by rw[hlen];exact hz);rw[hlen];refine⟨.ref s.heap.objs.size,_,I.laid (t':=s.toks) (o:= .tup (zcp xs lo hi)) (λb ob q=>Heap.get?_push_of_some _ q) (qT _) ?_,rfl,q _ (I.hok.fresh (qT _))⟩;exact⟨rk (zax xs lo hi) hz,_,(r.drop (HT.sIx xs.length 0 lo)).take (HT.sIx xs.length xs.length hi-HT.sIx xs.length 0 lo),Vs.new _ _⟩
def zoR (K:qP):R2:=λx y H Q=>∃a b xs ys,x= .ref a/\y= .ref b/\SqT K H a xs/\SqT K H b ys/\xs≠[]/\xs.length+ys.length<=sizeLine/\
 (ys=[]->Q (.ref a) H)/\(ys≠[]->∀p,H p=none->Q (.ref p) (upd H p (.tup (xs++ys))))
theorem yr.nil_iff {xs:List V} {us:List Value} (r:yr xs us):us=[]↔xs=[]:=by
 cases r with
 |nil=>simp
 |cons _ _=>simp
theorem zlb:OpR X (binaryOp .Add) (zoR X.K):=by
 intro pins s σ H x y v u Q I rx ry h;obtain⟨a,b,xs,ys,rfl,rfl,ha,hb,hx,hz,q1,q2⟩:=h;cases rx;cases ry;obtain⟨ak,r1,p1,_⟩:=I.tuple ha;obtain⟨bz,r2,p2,_⟩:=I.tuple hb;refine HT.zla p1 p2 (λz=>hx (r1.nil_iff.mp z)) (λz=>⟨.ref a,H,I,rfl,q1 (r2.nil_iff.mp z)⟩) (λz=> ?_) (by rw[<-r1.length,<-r2.length];exact hz);refine⟨.ref s.heap.objs.size,_,I.laid (t':=s.toks) (o:= .tup (xs++ys)) (λb ob q=>Heap.get?_push_of_some _ q) (qT _) ?_,rfl,q2 (λw=>z (r2.nil_iff.mpr w)) _ (I.hok.fresh (qT _))⟩;exact⟨by rw[rd];exact hz,_,r1.append r2,Vs.new _ _⟩
end
noncomputable def ixN (n:Nat) (i:Int):Option Nat:=if 0<=i then (if i<n then some i.toNat else none) else if -(n:Int)<=i then some (i+n).toNat else none
noncomputable def atI {α:Type} (xs:List α) (i:Int):Option α:=(ixN xs.length i).bind λj=>xs[j]?
theorem zgV {n:Nat} {i:Int} {j:Nat} (h:ixN n i=some j):seqIndex? i n=some j/\j<n/\ -(n:Int)<=i/\i<n:=by
 unfold ixN at h;by_cases h0:0<=i
 .rw[if_pos h0] at h;by_cases h1:i<n
  .rw[if_pos h1] at h;have e:i.toNat=j:=rp h;exact⟨by rw[seqIndex_of h0 h1,e],⋯,⋯,h1⟩
  .rw[if_neg h1] at h;cases h
 .rw[if_neg h0] at h;by_cases h1: -(n:Int)<=i
  .rw[if_pos h1] at h;have e:(i+n).toNat=j:=rp h;exact⟨by rw[seqIndex_neg ⋯ h1,e],⋯,h1,⋯⟩
  .rw[if_neg h1] at h;cases h
theorem zdA {α:Type} {xs:List α} {i:Int} {v:α} (h:atI xs i=some v):∃j,seqIndex? i xs.length=some j/\xs[j]? =some v/\j<xs.length/\ -(xs.length:Int)<=i/\i<xs.length:=by
 unfold atI at h;cases e:ixN xs.length i with
 |none=>rw[e] at h;cases h
 |some j=>
  rw[e] at h;obtain⟨h1,h2,h3,h4⟩:=zgV e;exact⟨j,h1,h,h2,h3,h4⟩
def zlc (b:Expr):Prop:=∀o i,subscripted b false o i=operate [o,i] (getItem o i)
def IxR (X:Cx) (r:R2):Prop:=
 ∀(value slice:Expr) (pins:List (Addr×Obj)) (s:Shared) (σ:St) (H:Hp) (x y:V) (v u:Value) (Q:VK),Inv X pins σ H s->yn x v->yn y u->r x y H Q->
  subscripted slice false v u=operate [v,u] (getItem v u)->wpAny (model X.prog X.w) X.A (subscriptTail value slice v u) (EP X pins σ Q) X.xe s
def MtR (X:Cx) (id:String) (r:V->List V->Hp->VK->Prop):Prop:=
 ∀(pins:List (Addr×Obj)) (s:Shared) (σ:St) (H:Hp) (x:V) (xs:List V) (v:Value) (us:List Value) (Q:VK),Inv X pins σ H s->yn x v->yr xs us->r x xs H Q->
  wpAny (model X.prog X.w) X.A (call (.builtin id) (v::us)) (EP X pins σ Q) X.xe s
section
variable {X:Cx} {a b:Expr} {ta tb:TE} {pos:Pos}
theorem IxR.or {r r':R2} (h:IxR X r) (h':IxR X r'):IxR X (λx y H Q=>r x y H Q\/r' x y H Q):=by
 intro value slice pins s σ H x y v u Q I rx ry q hs;rcases q with q|q
 .exact h value slice pins s σ H x y v u Q I rx ry q hs
 .exact h' value slice pins s σ H x y v u Q I rx ry q hs
theorem zoS {r:R2} (hr:IxR X r) (ha:PE X a ta) (hb:PE X b tb) (hs:zlc b):PE X (.Subscript a b pos) (tOp r ta tb):=by
 intro pins s σ H Q I h;exact Subscript_ (znl ha hb I h λv u s2 x y H2 I2 rx ry q=>hr a b pins s2 σ H2 x y v u Q I2 rx ry q (hs _ _))
def zld (K:qP):R2:=λx y H Q=>∃p xs i v,x= .ref p/\y= .int i/\SqL K H p xs/\atI xs i=some v/\Q v H
def zle (K:qP):R2:=λx y H Q=>∃p xs i v,x= .ref p/\y= .int i/\SqT K H p xs/\atI xs i=some v/\Q v H
def zns:R2:=λx y H Q=>∃z i c,x= .str z/\y= .int i/\z.length<=sizeLine/\atI z.cps.toList i=some c/\Q (.str ⟨#[c]⟩) H
theorem zgW:IxR X (zld X.K):=by
 intro value slice pins s σ H x y v u Q I rx ry h hs;obtain⟨p,xs,i,z,rfl,rfl,hq,he,q⟩:=h;cases rx;obtain⟨t,rfl⟩:=ry;obtain⟨ak,r,pl,hz⟩:=I.list hq;obtain⟨j,h1,h2,h3,h4,h5⟩:=zdA he;obtain⟨w,ew,rw'⟩:=r.get h2;have hl:=r.length;have hn:=Uy;have fin:EP X pins σ Q w s:=⟨z,H,I,rw',q⟩;by_cases h0:0<=i
 .have hj:i.toNat=j:=by
   rw[seqIndex_of h0 h5] at h1;exact rp h1
  exact item_listR pl.isList h0 ⋯ (by rw[hj];simpa using ew) fin hs
 .have hj:(i+(ak.toArray.size:Int)).toNat=j:=by
   rw[seqIndex_neg ⋯ h4] at h1;rw[qZ,<-hl];exact rp h1
  exact subscriptTail_builtinR (x:=w) pl.isList.typeIs slot_list_getitem.lookup
   (wpAny_getItem_list_neg (Q:=λr s'=>r=w/\EP X pins σ Q r s') pl.isList ⋯ (by rw[qZ]<;>omega) ⋯ (by rw[hj];simpa using ew) ⟨rfl,fin⟩) hs
theorem ziY:IxR X (zle X.K):=by
 intro value slice pins s σ H x y v u Q I rx ry h hs;obtain⟨p,xs,i,z,rfl,rfl,hq,he,q⟩:=h;cases rx;obtain⟨t,rfl⟩:=ry;obtain⟨ak,r,pl,hz⟩:=I.tuple hq;obtain⟨j,h1,h2,h3,h4,h5⟩:=zdA he;obtain⟨w,ew,rw'⟩:=r.get h2;have hl:=r.length;have hn:=Uy;have fin:EP X pins σ Q w s:=⟨z,H,I,rw',q⟩;exact subscriptTail_builtinR (x:=w) pl.typeIs slot_tuple_getitem.lookup
  (getItem_tuple (j:=j) (Q:=λr s'=>r=w/\EP X pins σ Q r s') pl ⋯ ⋯ (by rw[qZ,<-hl];exact h1) (by simpa using ew) ⟨rfl,fin⟩) hs
theorem zfV:IxR X zns:=by
 intro value slice pins s σ H x y v u Q I rx ry h hs;obtain⟨z,i,c,rfl,rfl,hz,he,q⟩:=h;obtain⟨t,rfl⟩:=rx;obtain⟨t',rfl⟩:=ry;obtain⟨j,h1,h2,h3,h4,h5⟩:=zdA he;have hl:z.cps.toList.length=z.length:=by simp[Str.length]
 rw[hl] at h1 h4 h5;have hn:=Uy
 exact tail_any (typeIs_str s z t) slot_str_getitem.lookup (getItem_str (c:=c) (by
  have e1:decide (i< -(2^63:Int))=false:=decide_eq_false ⋯;have e2:decide (i≥2^63)=false:=decide_eq_false ⋯
  rw[e1,e2,Bool.or_false]) (by rw[h1];simpa using h2) ⟨.str ⟨#[c]⟩,H,I.tok _,⟨_,rfl⟩,q⟩) hs
def rIx (K:qP):R2:=λx y H Q=>zld K x y H Q\/zle K x y H Q\/zns x y H Q
theorem znt:IxR X (rIx X.K):=zgW.or (ziY.or zfV)
theorem zfW (ak:List Value) (n j:Nat) (u:Value):Obj.mapSeq (·.setIfInBounds j u) {cls:= .type "list",data:= .seq ak.toArray n}={cls:= .type "list",data:= .seq (ak.set j u).toArray n}:=by
 simp[Obj.mapSeq]
theorem Inv.lst {pins:List (Addr×Obj)} {σ:St} {H:Hp} {s:Shared} {p:Addr} {xs:List V} (I:Inv X pins σ H s) (h:H p=some (.lst xs)):
  ∃(ak:List Value) (n:Nat),yr xs ak/\s.heap.get? p=some {cls:= .type "list",data:= .seq ak.toArray n}/\xs.length<=sizeLine:=by
 obtain⟨z,ak,n,r,e⟩:=I.hok p _ h;exact⟨ak,n,r,e,z⟩
theorem Inv.lstUpd {pins:List (Addr×Obj)} {σ:St} {H:Hp} {s:Shared} {p:Addr} {xs ys:List V} {ak its':List Value} {n n':Nat} {f:Obj->Obj} (I:Inv X pins σ H s) (h:H p=some (.lst xs))
  (ho:s.heap.get? p=some {cls:= .type "list",data:= .seq ak.toArray n}) (hf:f {cls:= .type "list",data:= .seq ak.toArray n}={cls:= .type "list",data:= .seq its'.toArray n'}) (r:yr ys its') (hz:ys.length<=sizeLine) (t:Nat):
  Inv X pins σ (upd H p (.lst ys)) {s with heap:=s.heap.update p f,toks:=t}:=by
 have e:(s.heap.update p f).get? p=some {cls:= .type "list",data:= .seq its'.toArray n'}:=by
  rw[Heap.get?_update_self f ho (by rw[hf]<;>rfl),hf]
 refine I.write (x:=p) (e:=p) (by rw[h];trivial) (.inl rfl) (λb u hb q=>(Heap.get?_update_other _ _ (sY hb)).trans q) ⟨_,e⟩ ?_;exact⟨hz,its',n',r,e⟩
def zmI:V->V->V->Hp->(Hp->Prop)->Prop:=λo i v H Q=>∃p xs k j,o= .ref p/\i= .int k/\H p=some (.lst xs)/\ixN xs.length k=some j/\Q (upd H p (.lst (xs.set j v)))
theorem ziZ:zoG X zmI:=by
 intro pins s σ H o i v ov iv u Q I ro ri rv h;obtain⟨p,xs,k,j,rfl,rfl,hp,hj,q⟩:=h;cases ro;obtain⟨t,rfl⟩:=ri;obtain⟨ak,n,r,ho,hz⟩:=I.lst hp;obtain⟨h1,h2,h3,h4⟩:=zgV hj;have hl:=r.length;have hn:=Uy;have I':Inv X pins σ (upd H p (.lst (xs.set j v))) {s with heap:=s.heap.update p (Obj.mapSeq (·.setIfInBounds j u))}:=
  I.lstUpd hp ho (zfW ak n j u) (r.set rv j) (by rw[sV];exact hz) s.toks
 by_cases h0:0<=k
 .have hk:k.toNat=j:=by
   rw[seqIndex_of h0 h4] at h1;exact rp h1
  exact PySem.W.ki_setAt ho h0 ⋯ (by rw[qZ,<-hl];exact h4) (by rw[hk];exact⟨_,I',q⟩)
 .have hk:(k+(ak.toArray.size:Int)).toNat=j:=by
   rw[seqIndex_neg ⋯ h3] at h1;rw[qZ,<-hl];exact rp h1
  exact PySem.W.ki_setBack ho ⋯ (by rw[qZ,<-hl];exact h3) ⋯ (by rw[hk];exact⟨_,I',q⟩)
theorem zdB (lo hi:Option Int) (n:Nat):(sliceBounds lo hi none n).1=((HT.sIx n 0 lo:Nat):Int)/\(sliceBounds lo hi none n).2.1=((HT.sIx n n hi:Nat):Int)/\(sliceBounds lo hi none n).2.2=1:=by
 refine⟨?_,?_,rfl⟩
 .cases lo with
  |none=>simp[sliceBounds,HT.sIx]
  |some i=>
   simp only[sliceBounds,HT.sIx,AA,show (1:Int)>0 by decide,if_true];by_cases h:i<0
   .simp only[h,if_true]<;>omega
   .simp only[h,if_false]<;>omega
 .cases hi with
  |none=>simp[sliceBounds,HT.sIx]
  |some i=>
   simp only[sliceBounds,HT.sIx,AA,show (1:Int)>0 by decide,if_true];by_cases h:i<0
   .simp only[h,if_true]<;>omega
   .simp only[h,if_false]<;>omega
theorem zcq (ak:List Value) (lo hi:Option Int):slicePick ak.toArray lo hi none=((ak.drop (HT.sIx ak.length 0 lo)).take (HT.sIx ak.length ak.length hi-HT.sIx ak.length 0 lo)).toArray:=by
 obtain⟨h1,h2,h3⟩:=zdB lo hi ak.toArray.size;unfold slicePick;rw[h1,h2,h3];simp only[sliceRange_one,pick_run,qZ]<;>rfl
def zi0 (K:qP):V->Option Int->Option Int->Hp->VK->Prop:=λx lo hi H Q=>∃a xs,x= .ref a/\SqL K H a xs/\∀p,H p=none->Q (.ref p) (upd H p (.lst (zcp xs lo hi)))
theorem zlf:SlR X (zi0 X.K):=by
 intro pins s σ H x v vl vu lo hi sl Q I rx hs pl pu h;obtain⟨a,xs,rfl,hx,q⟩:=h;cases rx;obtain⟨ak,r,ht,hz⟩:=I.list hx;have hlen:=r.length;refine⟨"list",_,slot_list_getitem.lookup,ht.isList.typeIs,?_⟩;refine wpAny_getItem_list_slice ht.isList hs pl pu .none (by simp) ?_ (by rw[qZ]<;>omega);rw[zcq,<-hlen];refine⟨.ref s.heap.objs.size,_,I.laid (t':=s.toks) (o:= .lst (zcp xs lo hi)) (λb ob q=>Heap.get?_push_of_some _ q) (qT _) ?_,rfl,q _ (I.hok.fresh (qT _))⟩;exact⟨rk (zax xs lo hi) hz,_,0,(r.drop (HT.sIx xs.length 0 lo)).take (HT.sIx xs.length xs.length hi-HT.sIx xs.length 0 lo),Heap.get?_push_size _ rfl⟩
noncomputable def Wg:V->Bool
 | .non=>true
 | .bl _=>true
 | .int _=>true
 | .str _=>true
 |_=>false
noncomputable def eqV:V->V->Bool
 | .non,.non=>true
 | .bl a,.bl b=>a==b
 | .bl a,.int b=>(if a then 1 else 0)==b
 | .int a,.bl b=>a==(if b then 1 else 0)
 | .int a,.int b=>a==b
 | .str a,.str b=>a==b
 |_,_=>false
theorem znu {A:Around} {s:Shared} {y x:V} {u v:Value} (ry:yn y u) (rx:yn x v) (fy:Wg y=true) (fx:Wg x=true):SeqAt.EqAt A s u v (eqV y x):=by
 cases y with
 |non=>
  cases ry;cases x with
  |non=>cases rx;exact SeqAt.EqAt.same _
  |bl b=>cases rx;exact SeqAt.EqAt.none_bool b
  |int b=>obtain⟨t,rfl⟩:=rx;exact SeqAt.EqAt.none_int b t
  |str b=>obtain⟨t,rfl⟩:=rx;exact SeqAt.EqAt.none_str b t
  |_=>exact absurd (show false=true from fx) rl
 |bl a=>
  cases ry;cases x with
  |non=>cases rx;exact SeqAt.EqAt.bool_none a
  |bl b=>cases rx;exact SeqAt.EqAt.bool_bool a b
  |int b=>obtain⟨t,rfl⟩:=rx;exact SeqAt.EqAt.bool_int a b t
  |str b=>obtain⟨t,rfl⟩:=rx;exact SeqAt.EqAt.bool_str a b t
  |_=>exact absurd (show false=true from fx) rl
 |int a=>
  obtain⟨t',rfl⟩:=ry;cases x with
  |non=>cases rx;exact SeqAt.EqAt.int_none a t'
  |bl b=>cases rx;exact SeqAt.EqAt.int_bool a t' b
  |int b=>obtain⟨t,rfl⟩:=rx;exact SeqAt.EqAt.int_int a t' b t
  |str b=>obtain⟨t,rfl⟩:=rx;exact SeqAt.EqAt.int_str a t' b t
  |_=>exact absurd (show false=true from fx) rl
 |str a=>
  obtain⟨t',rfl⟩:=ry;cases x with
  |non=>cases rx;exact SeqAt.EqAt.str_none a t'
  |bl b=>cases rx;exact SeqAt.EqAt.str_bool a t' b
  |int b=>obtain⟨t,rfl⟩:=rx;exact SeqAt.EqAt.str_int a t' b t
  |str b=>obtain⟨t,rfl⟩:=rx;exact SeqAt.EqAt.str_str a t' b t
  |_=>exact absurd (show false=true from fx) rl
 |_=>exact absurd (show false=true from fy) rl
noncomputable def eqU (x:V) (u:Value):Bool:=match u with
 | .none=>eqV .non x
 | .bool b=>eqV (.bl b) x
 | .int i _=>eqV (.int i) x
 | .str z _=>eqV (.str z) x
 |_=>false
theorem zfX {x y:V} {u:Value} (r:yn y u) (f:Wg y=true):eqU x u=eqV y x:=by
 cases y with
 |non=>cases r;rfl
 |bl b=>cases r;rfl
 |int i=>obtain⟨t,rfl⟩:=r;rfl
 |str z=>obtain⟨t,rfl⟩:=r;rfl
 |_=>exact absurd (show false=true from f) rl
theorem zdC {x:V}:∀{xs:List V} {us:List Value},yr xs us->xs.all Wg=true->us.any (eqU x)=xs.any λy=>eqV y x
 |_,_,.nil,_=>rfl
 |y::xs,u::us,.cons r t,f=>by
  rw[tY,rV] at f;rw[t6,t6,zfX r f.1,zdC t f.2]
theorem UW {A:Around} {s:Shared} {x:V} {v:Value} (rx:yn x v) (fx:Wg x=true):∀{xs:List V} {us:List Value},yr xs us->xs.all Wg=true->∀u∈us,SeqAt.EqAt A s u v (eqU x u)
 |_,_,.nil,_=>λu hu=>by cases hu
 |y::xs,u::us,.cons r t,f=>λu' hu=>by
  rw[tY,rV] at f;rcases rQ.mp hu with rfl|hu
  .rw[zfX r f.1];exact znu r rx f.1 fx
  .exact UW rx fx t f.2 u' hu
noncomputable def inV (x:V) (xs:List V):Bool:=xs.any λy=>eqV y x
def rIn (K:qP) (neg:Bool):R2:=λx y H Q=>∃p xs,y= .ref p/\(SqL K H p xs\/SqT K H p xs)/\Wg x=true/\xs.all Wg=true/\Q (.bl (if neg then !inV x xs else inV x xs)) H
theorem zdD:OpR X (compareOp .NotIn) (rIn X.K true):=by
 intro pins s σ H x y v u Q I rx ry h;obtain⟨p,xs,rfl,hq,fx,fs,q⟩:=h;cases ry;rcases hq with hq|hq
 .obtain⟨ak,r,pl,hz⟩:=I.list hq;refine SeqAt.notIn_listAt (eqU x) pl.isList (λw hw=>UW rx fx r fs w (by simpa using hw)) ⟨.bl _,H,I,rfl,?_⟩;rw[show ak.toArray.any (eqU x)=ak.any (eqU x) by simp,zdC r fs];exact q
 .obtain⟨ak,r,pl,hz⟩:=I.tuple hq;refine SeqAt.notIn_tupleAt (eqU x) pl (λw hw=>UW rx fx r fs w (by simpa using hw)) ⟨.bl _,H,I,rfl,?_⟩;rw[show ak.toArray.any (eqU x)=ak.any (eqU x) by simp,zdC r fs];exact q
theorem zdE:Xo X (.builtin "len") (λxs H Q=>∃p ys,xs=[.ref p]/\(SqL X.K H p ys\/SqT X.K H p ys)/\Q (.int ys.length) H):=by
 intro pins s σ H xs us Q I r h;obtain⟨p,ys,rfl,hq,q⟩:=h;obtain⟨u,rfl,rx⟩:=UT r;cases rx;have hn:=Uy;rcases hq with hq|hq
 .obtain⟨ak,r',pl,hz⟩:=I.list hq;have hlen:=r'.length;exact Calls.call_len_list pl.isList (by simp only[qZ]<;>omega) ⟨.int ys.length,H,I.tok _,⟨s.toks+1,by rw[qZ,hlen]⟩,q⟩
 .obtain⟨ak,r',pl,hz⟩:=I.tuple hq;have hlen:=r'.length;exact len_tuple pl (by simp only[qZ]<;>omega) ⟨.int ys.length,H,I.tok _,⟨s.toks+1,by rw[qZ,hlen]⟩,q⟩
theorem zcr:Xo X (.type "tuple") (λxs H Q=>∃p ys,xs=[.ref p]/\((SqL X.K H p ys/\∀l,H l=none->Q (.ref l) (upd H l (.tup ys)))\/(SqT X.K H p ys/\Q (.ref p) H))):=by
 intro pins s σ H xs us Q I r h;obtain⟨p,ys,rfl,h⟩:=h;obtain⟨u,rfl,rx⟩:=UT r;cases rx;rcases h with⟨hq,q⟩|⟨hq,q⟩
 .obtain⟨ak,r',pl,hz⟩:=I.list hq;have hlen:=r'.length;refine call_tuple_list pl.isList (λh' kp=> ?_) (by simp only[qZ]<;>omega);have I1:Inv X pins σ H {s with heap:=h'}:=I.kept (t':=s.toks) kp;have I2:Inv X pins σ (upd H h'.objs.size (.tup ys)) {s with heap:=h'.push {cls:= .type "tuple",data:= .seq ak.toArray}}:=
   I1.laid (t':=s.toks) (λb o e=>Heap.get?_push_of_some _ e) (qT _) (show xE X.prog X.w _ _ _ (.tup ys) from ⟨hz,ak,r',Vs.new _ _⟩)
  exact⟨.ref h'.objs.size,_,I2,rfl,q _ (I1.hok.fresh (qT _))⟩
 .obtain⟨ak,r',pl,hz⟩:=I.tuple hq;exact call_tuple_same pl ⟨.ref p,H,I,rfl,q⟩
def tyV (K:qP) (T:String) (x:V) (H:Hp):Prop:=match x with
 | .str _=>T="str"
 | .int _=>T="int"
 | .ref p=>(T="list"/\∃xs,SqL K H p xs)\/(T="tuple"/\∃o,K.lookup p=some o/\o.cls= .type "tuple"/\o.dict=none)\/
   (T="dict"/\((∃ah,Rd H p (.dK ah))\/∃ah,H p=some (.dT ah)))\/(T="set"/\∃S n,H p=some (.set S n))
 |_=>False
theorem zi1 {pins:List (Addr×Obj)} {σ:St} {H:Hp} {s:Shared} {T:String} {x:V} {v:Value} (I:Inv X pins σ H s) (r:yn x v) (ty:tyV X.K T x H):
  s.TypeIs v T/\∀a,v= .ref a->∃ob,s.heap.get? a=some ob/\ob.dict=none:=by
 cases x with
 |str z=>
  obtain⟨t,rfl⟩:=r;cases (show T="str" from ty);exact⟨typeIs_str s z t,λ_ e=>nomatch e⟩
 |int i=>
  obtain⟨t,rfl⟩:=r;cases (show T="int" from ty);exact⟨typeIs_int s i t,λ_ e=>nomatch e⟩
 |ref p=>
  cases r;rcases ty with⟨rfl,xs,hq⟩|⟨rfl,o,hk,hc,hd⟩|⟨rfl,hk⟩|⟨rfl,S,n,hk⟩
  .obtain⟨ak,_,pl,_⟩:=I.list hq;refine⟨pl.isList.typeIs,λa e=> ?_⟩;cases e;obtain⟨o,n,e,c,hd,_⟩:=pl;exact⟨o,e,hd⟩
  .refine⟨⟨o,I.kIn p o hk,hc⟩,λa e=> ?_⟩;cases e;exact⟨o,I.kIn _ o hk,hd⟩
  .have z:∃o,s.heap.get? p=some o/\o.ExactDict:=by
    rcases hk with⟨ah,hk⟩|⟨ah,hk⟩
    .obtain⟨_,_,_,_,o,_,_,e,ex,_⟩:=hk.ok I.hok;exact⟨o,e,ex⟩
    .obtain⟨_,_,_,_,o,_,_,e,ex,_⟩:=I.hok p _ hk;exact⟨o,e,ex⟩
   obtain⟨o,e,ex⟩:=z;refine⟨⟨o,e,ex.1⟩,λa e2=> ?_⟩;cases e2;exact⟨o,e,ex.2.1⟩
  .obtain⟨o,_,_,_,e,ex,_⟩:=I.hok p _ hk;refine⟨⟨o,e,ex.1⟩,λa e2=> ?_⟩;cases e2;exact⟨o,e,ex.2.1⟩
 |_=>exact sv ty
def zoT (K:qP) (T:String) (r:V->List V->Hp->VK->Prop) (to:TE):TE:=λσ H Q=>to σ H λx H1=>tyV K T x H1/\r x [] H1 Q
def tBM (K:qP) (T:String) (r:V->List V->Hp->VK->Prop) (to:TE) (t:TA):TE:=λσ H Q=>to σ H λx H1=>tyV K T x H1/\t σ H1 λxs H2=>r x xs H2 Q
variable {o e:Expr} {es:List Expr} {to:TE} {t:TA} {name:Str} {apos bY:Pos} {T id:String} {r:V->List V->Hp->VK->Prop}
theorem znv (pa:PlainAttrs T) (slot:Slot T name id) (kG:typeOf (.builtin id)=pure (.type "method_descriptor")) (hm:MtR X id r) (ho:PE X o to)
  (fB:attributeBase o name X.env (eval o X.env)=eval o X.env:=by rfl) (hline:(apos.endLine==bY.line)=true:=by rfl):PE X (.Call (.Attribute o name apos) [] [] bY) (zoT X.K T r to):=by
 intro pins s σ H Q I h;refine wpAny_Call_method0_late fB hline (thn (ho pins s σ H _ I h) ?_);rintro v s1 ⟨x,H1,I1,r1,ty,q1⟩;obtain⟨h1,h2⟩:=zi1 I1 r1 ty;exact⟨T,id,pa,slot,kG,h1,h2,Calls.callWith_builtin rfl (PySem.evalArgs_none (hm pins s1 σ H1 x [] v [] Q I1 r1 .nil q1))⟩
theorem Yr (pa:PlainAttrs T) (slot:Slot T name id) (kG:typeOf (.builtin id)=pure (.type "method_descriptor")) (hm:MtR X id r) (ho:PE X o to) (ha:PA X (e::es) t)
  (fB:attributeBase o name X.env (eval o X.env)=eval o X.env:=by rfl)
  (ly:((backTo bY (starEach (e::es) X.env)).all (λx=> !x.1)&&(backToKw bY (keywordEach [] X.env)).all (λx=>x.1.isSome)
   &&decide ((e::es).length+([]:List Keyword).length+(if ([]:List Keyword).isEmpty then 0 else 1)<30))=true:=by rfl)
  (hline:(apos.endLine==bY.line)=true:=by rfl) (hs:starEach (e::es) X.env=(false,eval e X.env)::starEach es X.env:=by rfl) (gL:(backTo bY (starEach es X.env)).any (·.1)=false:=by rfl):
  PE X (.Call (.Attribute o name apos) (e::es) [] bY) (tBM X.K T r to t):=by
 intro pins s σ H Q I h;refine wpAny_Call_method_late fB ly hline rfl (thn (ho pins s σ H _ I h) ?_);rintro v s1 ⟨x,H1,I1,r1,ty,q1⟩;obtain⟨h1,h2⟩:=zi1 I1 r1 ty;refine⟨T,id,pa,slot,kG,h1,h2,?_⟩;have hA:=ha bY pins s1 σ H1 _ I1 q1;rw[hs] at hA ⊢;refine Calls.callWith_builtin (by show (false||(backTo bY (starEach es X.env)).any (·.1))=false;rw[gL]<;>rfl) (Calls.evalArgs_plain ?_);refine thn hA ?_;rintro us s2 ⟨vs,H2,I2,r2,q2⟩;exact hm pins s2 σ H2 x vs v us Q I2 r1 r2 q2
/- xs.append(e), list.index on a module's tuple .. are MtR facts of 06m -/
end
def MtM (X:Cx) (id:String) (r:V->List V->Hp->VK->Prop):Prop:=
 ∀(pins:List (Addr×Obj)) (s:Shared) (σ:St) (H:Hp) (x:V) (xs:List V) (v:Value) (us:List Value) (Q:VK),Inv X pins σ H s->yn x v->yr xs us->r x xs H Q->
  wpAny (model X.prog X.w) X.A (call (.builtin id) (v::us)) (EP X pins σ Q) X.xe s
theorem yr.one:∀{x:V} {us:List Value},yr [x] us->∃u,us=[u]/\yn x u
 |_,_,.cons r .nil=>⟨_,rfl,r⟩
theorem yr.zero:∀{us:List Value},yr [] us->us=[]
 |_,.nil=>rfl
theorem yr.dropLast {xs:List V} {us:List Value} (h:yr xs us):yr xs.dropLast us.dropLast:=by
 induction h with
 |nil=>exact .nil
 |cons r t ih=>
  cases t with
  |nil=>exact .nil
  |cons q t'=>exact .cons r ih
theorem yr.reverse {xs:List V} {us:List Value} (h:yr xs us):yr xs.reverse us.reverse:=by
 induction h with
 |nil=>exact .nil
 |cons r t ih=>rw[uo,uo];exact yr.append ih (.cons r .nil)
theorem zfY {α:Type} (l:List α):l.eraseIdx (l.length-1)=l.dropLast:=by
 induction l with
 |nil=>rfl
 |cons a r ih=>
  cases r with
  |nil=>rfl
  |cons b r=>
   have e:(a::b::r).length-1=((b::r).length-1)+1:=by
    have h1:(a::b::r).length=r.length+2:=rfl;have h2:(b::r).length=r.length+1:=rfl;omega
   rw[e,List.eraseIdx_cons_succ,ih]
   all_goals rfl
section
variable {X:Cx} {pins:List (Addr×Obj)} {σ:St} {H:Hp} {s:Shared} {l b:Addr} {xs ys zs:List V}
theorem Inv.lset {ak its':List Value} {n:Nat} {f:Array Value->Array Value} {t':Nat} (I:Inv X pins σ H s) (hH:H l=some (.lst xs))
  (e:s.heap.get? l=some {cls:= .type "list",data:= .seq ak.toArray n}) (hf:f ak.toArray=its'.toArray) (hv:yr ys its') (hz:ys.length<=sizeLine):
  Inv X pins σ (upd H l (.lst ys)) {s with heap:=s.heap.update l (Obj.mapSeq f),toks:=t'}:=by
 have q:=PySem.IsL.update e f;rw[hf] at q;refine I.write (x:=l) (e:=l) (by rw[hH];exact trivial) (.inl rfl) (λb' u hb hu=>(Heap.get?_update_other s.heap (Obj.mapSeq f) (sY hb)).trans hu) ⟨_,q⟩ ?_;exact⟨hz,its',_,hv,q⟩
theorem Inv.lnew {ak:List Value} {t':Nat} (I:Inv X pins σ H s) (hv:yr ys ak) (hz:ys.length<=sizeLine):
  Inv X pins σ (upd H s.heap.objs.size (.lst ys)) {s with heap:=s.heap.push {cls:= .type "list",data:= .seq ak.toArray},toks:=t'}:=
 I.laid (λ_ _ q=>Heap.get?_push_of_some _ q) (qT _) ⟨hz,ak,0,hv,Heap.get?_push_size _ rfl⟩
theorem Inv.fresh (I:Inv X pins σ H s):H s.heap.objs.size=none:=I.hok.fresh (qT _)
theorem Inv.lstM (I:Inv X pins σ H s) (hH:H l=some (.lst xs)):xs.length<=sizeLine/\∃(ak:List Value) (n:Nat),yr xs ak/\xs.length=ak.length/\s.heap.get? l=some {cls:= .type "list",data:= .seq ak.toArray n}:=by
 obtain⟨z,ak,n,r,e⟩:=I.hok l _ hH;exact⟨z,ak,n,r,r.length,e⟩
theorem zi2 {n:Nat} (h:n<=sizeLine):Builtin.List.listTooLong n=false:=by
 unfold Builtin.List.listTooLong;exact decide_eq_false ⋯
end
section
variable {X:Cx}
def zgX:V->List V->Hp->VK->Prop:=λx vs H Q=>∃l xs y,x= .ref l/\vs=[y]/\H l=some (.lst xs)/\xs.length<sizeLine/\Q .non (upd H l (.lst (xs++[y])))
theorem xC:MtM X "list.append" zgX:=by
 intro pins s σ H x vs v us Q I rx rv h;obtain⟨l,xs,y,rfl,rfl,hH,hz,q⟩:=h;cases rx;obtain⟨u,rfl,ru⟩:=rv.one;obtain⟨z,ak,n,r,hl,e⟩:=I.lstM hH;refine call_meets F.slot_list_append ⟨_,e,rfl⟩ F.entry_list_append (F.args_list_append_2 _ _) (PySem.list_append l ak.toArray n u (by rw[qZ];omega)) ⟨e,?_⟩;refine⟨.non,_,I.lset (its':=ak++[u]) hH e (by simp) (r.append (.cons ru .nil)) ?_,rfl,q⟩;rw[rd,uD];omega
def zoU:V->List V->Hp->VK->Prop:=λx vs H Q=>∃l xs y,x= .ref l/\vs=[]/\H l=some (.lst xs)/\xs[xs.length-1]? =some y/\Q y (upd H l (.lst xs.dropLast))
theorem znw:MtM X "list.pop" zoU:=by
 intro pins s σ H x vs v us Q I rx rv h;obtain⟨l,xs,y,rfl,rfl,hH,hy,q⟩:=h;cases rx;have oy:=rv.zero;subst oy;obtain⟨z,ak,n,r,hl,e⟩:=I.lstM hH;obtain⟨u,hu,ru⟩:=r.get hy;have oh:ak.toArray[ak.toArray.size-1]? =some u:=by
  show ak.toArray[ak.length-1]? =some u;rw[<-uE,<-hl];exact hu
 refine call_meets F.slot_list_pop ⟨_,e,rfl⟩ F.entry_list_pop (F.args_list_pop_1 _) (MeetsSeq.list_pop_last l ak.toArray n u oh (by rw[qZ];omega)) ⟨e,?_⟩;refine⟨y,_,I.lset (its':=ak.dropLast) hH e ?_ r.dropLast ?_,ru,q⟩
 .show ak.toArray.eraseIdxIfInBounds (ak.toArray.size-1)=ak.dropLast.toArray;rw[qZ,List.eraseIdxIfInBounds_toArray,zfY]
 .rw[A8];omega
end
section
variable {prog:Program} {w:World} {A:Around} {E:Value->Shared->Prop} {s:Shared}
end
section
variable {X:Cx}
end
section
variable {κ:Type} [DecidableEq κ]
noncomputable def Vm (ah:List (κ×V)) (k:κ):Option V:=(ah.find? λkv=>decide (kv.1=k)).map (·.2)
noncomputable def zag (ah:List (κ×V)) (k:κ) (v:V):List (κ×V):=
 if (ah.any λkv=>decide (kv.1=k))=true then ah.map (λkv=>if kv.1=k then (kv.1,v) else kv) else ah++[(k,v)]
theorem zbg {p:κ×V} {r:List (κ×V)} {k:κ} (e:p.1=k):Vm (p::r) k=some p.2:=by simp[Vm,rG,e]
theorem zbh {p:κ×V} {r:List (κ×V)} {k:κ} (e:¬p.1=k):Vm (p::r) k=Vm r k:=by simp[Vm,rG,e]
theorem zeF (k:κ):∀ah:List (κ×V),(ah.any λkv=>decide (kv.1=k))=(Vm ah k).isSome
 |[]=>rfl
 |p::r=>by
  rw[t6];by_cases e:p.1=k
  .simp only[zbg e,decide_eq_true e,Bool.true_or,Option.isSome_some]
  .rw[zbh e,decide_eq_false e,Bool.false_or];exact zeF k r
theorem zay (ah:List (κ×V)) (k:κ) (v:V):(zag ah k v).length<=ah.length+1:=by
 unfold zag;split
 .rw[qV];omega
 .rw[rd,ra,sQ];omega
theorem Wu.isSome_eq {o:Option V} {u:Option Value} (r:Wu o u):o.isSome=u.isSome:=by
 cases o with
 |none=>cases u with
  |none=>rfl
  |some _=>exact (show False from r).elim
 |some _=>cases u with
  |none=>exact (show False from r).elim
  |some _=>rfl
theorem KV.val {ah:List (κ×V)} {vs:List (κ×Value)} (r:KV ah vs) (k:κ):Wu (Vm ah k) (valueAt vs k):=by
 unfold KV at r
 induction r with
 |nil=>exact sL
 | @cons p q ps qs h t ih=>
  obtain⟨h1,h2⟩:=h;by_cases e:p.1=k
  .have e':q.1=k:=h1.symm.trans e;have b:valueAt (q::qs) k=some q.2:=by simp[valueAt,rG,e']
   rw[zbg e,b];exact h2
  .have e':¬q.1=k:=λz=>e (h1.trans z);have b:valueAt (q::qs) k=valueAt qs k:=by simp[valueAt,rG,e']
   rw[zbh e,b];exact ih
theorem KV.any {ah:List (κ×V)} {vs:List (κ×Value)} (r:KV ah vs) (k:κ):(ah.any λkv=>decide (kv.1=k))=vs.any λkv=>decide (kv.1=k):=by
 unfold KV at r
 induction r with
 |nil=>rfl
 |cons h t ih=>rw[t6,t6,ih,h.1]
theorem KV.repl {ah:List (κ×V)} {vs:List (κ×Value)} (r:KV ah vs) (k:κ) {y:V} {u:Value} (ry:yn y u):
  KV (ah.map λkv=>if kv.1=k then (kv.1,y) else kv) (vs.map λkv=>if kv.1=k then (kv.1,u) else kv):=by
 unfold KV at r ⊢
 induction r with
 |nil=>exact .nil
 | @cons p q ps qs h t ih=>
  rw[rC,rC];refine .cons ?_ ih;obtain⟨h1,h2⟩:=h;by_cases e:p.1=k
  .rw[if_pos e,if_pos (h1.symm.trans e)];exact⟨h1,ry⟩
  .rw[if_neg e,if_neg (λz=>e (h1.trans z))];exact⟨h1,h2⟩
theorem KV.put {ah:List (κ×V)} {vs:List (κ×Value)} (r:KV ah vs) (k:κ) {y:V} {u:Value} (ry:yn y u):KV (zag ah k y) (stored vs k u):=by
 unfold zag stored;rw[r.any k];by_cases e:(vs.any λkv=>decide (kv.1=k))=true
 .rw[if_pos e,if_pos e];exact r.repl k ry
 .rw[if_neg e,if_neg e];exact Paired.snoc r ⟨rfl,ry⟩
theorem KV.length {ah:List (κ×V)} {vs:List (κ×Value)} (r:KV ah vs):ah.length=vs.length:=Paired.length r
end
theorem zgY {P:Program} {w:World} {k:Key} {u:Value} (r:yn (kV k) u):(vm P w).is k u=true:=by
 cases k with
 |inl i=>obtain⟨t,e⟩:=(show ∃t,u=Value.int i t from r);subst e;exact zex P w i t
 |inr x=>obtain⟨t,e⟩:=(show ∃t,u=Value.str x t from r);subst e;exact zey P w x t
theorem zcX {P:Program} {w:World}:∀{ks:List Key} {us:List Value},yr (ks.map kV) us->ItemsAre (vm P w) ks us
 |[],_,r=>by rw[Bf] at r;cases r;exact .nil
 |k::ks,_,r=>by
  rw[rC] at r;cases r with
  |cons h t=>exact .cons (zgY h) (zcX t)
noncomputable abbrev KT (H:Hp):List (List Key×V)->List (List Key×Addr×Value)->Prop:=Paired λp q=>p.1=q.1/\H q.2.1=some (.tup (p.1.map kV))/\yn p.2 q.2.2
theorem KT.val {H:Hp} {ah:List (List Key×V)} {xs:List (List Key×Addr×Value)} (r:KT H ah xs) (k:List Key):Wu (Vm ah k) ((atKey xs k).map (·.2)):=by
 induction r with
 |nil=>exact sL
 | @cons p q ps qs h t ih=>
  obtain⟨h1,_,h2⟩:=h;by_cases e:p.1=k
  .have e':q.1=k:=h1.symm.trans e;have b:atKey (q::qs) k=some q.2:=by simp[atKey,rG,e']
   rw[zbg e,b];exact h2
  .have e':¬q.1=k:=λz=>e (h1.trans z);have b:atKey (q::qs) k=atKey qs k:=by simp[atKey,rG,e']
   rw[zbh e,b];exact ih
theorem KT.repl {H:Hp} {ah:List (List Key×V)} {xs:List (List Key×Addr×Value)} (r:KT H ah xs) (k:List Key) {y:V} {u:Value} (ry:yn y u):
  KT H (ah.map λkv=>if kv.1=k then (kv.1,y) else kv) (xs.map (putAt k u)):=by
 induction r with
 |nil=>exact .nil
 | @cons p q ps qs h t ih=>
  rw[rC,rC];refine .cons ?_ ih;obtain⟨h1,h2,h3⟩:=h;unfold putAt;by_cases e:p.1=k
  .rw[if_pos e,if_pos (h1.symm.trans e)];exact⟨h1,h2,ry⟩
  .rw[if_neg e,if_neg (λz=>e (h1.trans z))];exact⟨h1,h2,h3⟩
theorem KT.put {H:Hp} {ah:List (List Key×V)} {xs:List (List Key×Addr×Value)} (r:KT H ah xs) (k:List Key) {b:Addr} {y:V} {u:Value} (hb:H b=some (.tup (k.map kV))) (ry:yn y u):
  KT H (zag ah k y) (storedH xs k b u):=by
 have e:(ah.any λkv=>decide (kv.1=k))=(atKey xs k).isSome:=by
  rw[zeF,(r.val k).isSome_eq,uq]
 unfold zag storedH;rw[e];by_cases q:(atKey xs k).isSome=true
 .rw[if_pos q,if_pos q];exact r.repl k ry
 .rw[if_neg q,if_neg q];exact Paired.snoc r ⟨rfl,hb,ry⟩
theorem KT.keeps {H H':Hp} {ah:List (List Key×V)} {xs:List (List Key×Addr×Value)} (r:KT H ah xs) (ht:∀b ys,H b=some (.tup ys)->H' b=some (.tup ys)):KT H' ah xs:=
 Paired.mapP r λ_ _ z=>⟨z.1,ht _ _ z.2.1,z.2.2⟩
section
variable {P:Program} {w:World} {H:Hp} {h:Heap} {a:Addr}
theorem zmJ {u:HO} (ok:HOk P w H h) (e:Rd H a u):xE P w H h a u:=e.ok ok
theorem zgZ {ah:List (Key×V)} (ok:HOk P w H h) (e:Rd H a (.dK ah)):ah.length<=sizeLine/\(a==sysModules)=false/\∃vs,KV ah vs/\h.DictOf (vm P w) a vs:=
 show xE P w H h a (.dK ah) from zmJ ok e
theorem zmK {ah:List (Key×V)} (ok:HOk P w H h) (e:H a=some (.dK ah)):ah.length<=sizeLine/\(a==sysModules)=false/\∃vs,KV ah vs/\h.DictOf (vm P w) a vs:=zgZ ok (.inl e)
theorem zdF {ks:List Key} (ok:HOk P w H h) (e:H a=some (.tup (ks.map kV))):(tupleKind (vm P w)).is h ks a:=by
 obtain⟨_,ak,r,o,h1,h2,n,h3⟩:=(show xE P w H h a (.tup (ks.map kV)) from ok a _ e);exact⟨o,ak.toArray,n,h1,h2,h3.1,by simpa using zcX r⟩
theorem zg0 {ah:List (List Key×V)} (ok:HOk P w H h) (e:Rd H a (.dT ah)):ah.length<=sizeLine/\(a==sysModules)=false/\
  ∃xs,KT H ah xs/\h.DictOfH (tupleKind (vm P w)) a xs:=by
 obtain⟨z,y,xs,r,o,es,ep,h1,h2,h3,h4,h5⟩:=(show xE P w H h a (.dT ah) from zmJ ok e);refine⟨z,y,xs,r,o,es,ep,h1,h2,h3,h4,λx hx=> ?_,h5⟩;have all:∀{l:List (List Key×V)} {m:List (List Key×Addr×Value)},KT H l m->∀x∈m,(tupleKind (vm P w)).is h x.1 x.2.1:=by
  intro l m q
  induction q with
  |nil=>intro x hx;exact nomatch hx
  | @cons p q ps qs hq t ih=>
   intro x hx;rcases rQ.mp hx with e|hx
   .subst e;exact zdF ok (by rw[<-hq.1];exact hq.2.1)
   .exact ih x hx
 exact all r x hx
theorem zoV {ah:List (List Key×V)} (ok:HOk P w H h) (e:H a=some (.dT ah)):ah.length<=sizeLine/\(a==sysModules)=false/\
  ∃xs,KT H ah xs/\h.DictOfH (tupleKind (vm P w)) a xs:=zg0 ok (.inl e)
end
def zah (H:Hp) (a:Addr) (y:V) (r:Option V):Prop:=
 (∃ah k,Rd H a (.dK ah)/\y=kV k/\r=Vm ah k)\/∃ah k b,Rd H a (.dT ah)/\y= .ref b/\H b=some (.tup (k.map kV))/\r=Vm ah k
def zfZ (H:Hp) (a:Addr) (y v:V) (H':Hp):Prop:=
 (∃ah k,H a=some (.dK ah)/\y=kV k/\ah.length<sizeLine/\H'=upd H a (.dK (zag ah k v)))\/
 ∃ah k b,H a=some (.dT ah)/\y= .ref b/\H b=some (.tup (k.map kV))/\ah.length<sizeLine/\H'=upd H a (.dT (zag ah k v))
theorem zah.k {H:Hp} {a:Addr} {ah:List (Key×V)} {k:Key} (e:H a=some (.dK ah)):zah H a (kV k) (Vm ah k):= .inl ⟨ah,k,.inl e,rfl,rfl⟩
theorem zfZ.k {H:Hp} {a:Addr} {ah:List (Key×V)} {k:Key} {v:V} (e:H a=some (.dK ah)) (hl:ah.length<sizeLine):zfZ H a (kV k) v (upd H a (.dK (zag ah k v))):= .inl ⟨ah,k,e,rfl,hl,rfl⟩
section
variable {X:Cx} {pins:List (Addr×Obj)} {σ:St} {H:Hp} {s:Shared} {a:Addr} {y v:V} {u r:Value} {o:Option V} {A:Around} {E:Value->Shared->Prop}
theorem Inv.big (I:Inv X pins σ H s):sysModules<s.heap.objs.size:=by
 have h:mainGlobals<s.heap.objs.size:=(I.mod.glob.keeps I.bk).lt;exact Nat.lt_trans ∅ h
theorem zcY {Q:Value->Shared->Prop} (hu:A.units+1<cLine) (I:Inv X pins σ H s) (g:zah H a y (some v)) (ry:yn y u) (h:∀w' s',Inv X pins σ H s'->yn v w'->Q w' s'):
  wpAny (model X.prog X.w) A (getItem (.ref a) u) Q E s:=by
 rcases g with⟨ah,k,e,ey,l⟩|⟨ah,k,b,e,ey,eb,l⟩
 .subst ey;obtain⟨z,hd,vs,rel,dd⟩:=zgZ I.hok e;obtain⟨w',hw,rw'⟩:=Wu.some_of (v:=v) (o:=valueAt vs k) (by rw[l];exact rel.val k);exact wpAny_getItem_of (zgY ry) dd.mapOf hw (h w' _ (I.tok _) rw')
 .subst ey;cases (show u=Value.ref b from ry);obtain⟨z,hd,xs,rel,dd⟩:=zg0 I.hok e;obtain⟨w',hw,rw'⟩:=Wu.some_of (v:=v) (o:=(atKey xs k).map (·.2)) (by rw[l];exact rel.val k);obtain⟨p,hp,kQ⟩:=rg.mp hw;refine wpAny_getItem_heap (tupleKind_room_in1 hu) (zdF I.hok eb) dd hp ?_;rw[kQ];exact h w' _ (I.tok _) rw'
theorem zg1 {Q:Value->Shared->Prop} (hu:A.units+1<cLine) (I:Inv X pins σ H s) (g:zah H a y o) (ry:yn y u) (h:∀s',Inv X pins σ H s'->Q (.bool (!o.isSome)) s'):
  wpAny (model X.prog X.w) A (compareOp .NotIn u (.ref a)) Q E s:=by
 rcases g with⟨ah,k,e,ey,l⟩|⟨ah,k,b,e,ey,eb,l⟩
 .subst ey;obtain⟨z,hd,vs,rel,dd⟩:=zgZ I.hok e;refine wpAny_notIn_of (zgY ry) hd dd.mapOf ?_;rw[<-(rel.val k).isSome_eq,<-l];exact h _ (I.tok _)
 .subst ey;cases (show u=Value.ref b from ry);obtain⟨z,hd,xs,rel,dd⟩:=zg0 I.hok e;refine wpAny_notIn_heap (tupleKind_room_in1 hu) (zdF I.hok eb) hd dd ?_;have q:=(rel.val k).isSome_eq;rw[uq] at q;rw[<-q,<-l];exact h _ (I.tok _)
theorem zaX {h':Heap} {t':Nat} {ob:HO} (I:Inv X pins σ H s) (mu:Mut (H a)) (hs:Heap.SameBut a s.heap h') (he:∃q,h'.get? a=some q) (new:xE X.prog X.w (upd H a ob) h' a ob):
  Inv X pins σ (upd H a ob) {s with heap:=h',toks:=t'}:=
 I.write (x:=a) (e:=a) mu (.inl rfl) (λb q hb z=>(hs.2 b hb).trans z) he new
theorem znx {P:Program} {w:World} {H':Hp} {h':Heap} {ah:List (Key×V)} {vs:List (Key×Value)} (z:ah.length<=sizeLine) (hd:(a==sysModules)=false) (rel:KV ah vs) (dd:h'.DictOf (vm P w) a vs):
  xE P w H' h' a (.dK ah):=⟨z,hd,vs,rel,dd⟩
theorem zcZ {H':Hp} {Q:Unit->Shared->Prop} (hu:A.units+1<cLine) (I:Inv X pins σ H s) (g:zfZ H a y v H') (ry:yn y u) (rv:yn v r) (h:∀s',Inv X pins σ H' s'->Q () s'):
  wpAny (model X.prog X.w) A (setItem (.ref a) u r) Q E s:=by
 rcases g with⟨ah,k,e,ey,l,eH⟩|⟨ah,k,b,e,ey,eb,l,eH⟩
 .subst ey eH;obtain⟨z,hd,vs,rel,dd⟩:=zmK I.hok e;have hz:vs.length<=sizeLine:=by rw[<-rel.length];exact z
  have hl:(zag ah k v).length<=sizeLine:=by have:=zay ah k v;omega
  refine wpAny_setItem_pairs (hsz:=hz) (zgY ry) dd λh' dd' hs=>h _ ?_;have he:∃q,h'.get? a=some q:=let ⟨q,_,_,hq,_⟩:=dd';⟨q,hq⟩;exact zaX I (by rw[e];exact sL) hs he (znx hl hd (rel.put k rv) dd')
 .subst ey eH;cases (show u=Value.ref b from ry);obtain⟨z,hd,xs,rel,dd⟩:=zoV I.hok e;have hz:xs.length<=sizeLine:=by rw[<-Paired.length rel];exact z
  have hl:(zag ah k v).length<=sizeLine:=by have:=zay ah k v;omega
  refine wpAny_setItem_heap (hsz:=hz) (tupleKind_room_in1 hu) (zdF I.hok eb) dd λh' dd' hs=>h _ ?_;obtain⟨q,es,ep,hq,h2,h3,h4,_,h5⟩:=dd';refine zaX I (by rw[e];exact sL) hs ⟨q,hq⟩ ⟨hl,hd,_,(rel.put k eb rv).keeps λc ys ec=> ?_,q,es,ep,hq,h2,h3,h4,h5⟩;rw[zO (zow ec e (λz=>nomatch z))];exact ec
end
section
variable {X:Cx} {pins:List (Addr×Obj)} {σ:St} {H:Hp} {s:Shared} {a:Addr} {ah:List (Key×V)} {k:Key} {u:Value} {A:Around} {E:Value->Shared->Prop}
end
def zny (i:Expr):Prop:=∀ov iv,subscripted i false ov iv=operate [ov,iv] (getItem ov iv)
theorem zg2 {prog:Program} {w:World} {A:Around} {E:Value->Shared->Prop} {s:Shared} {env:Env} {value slice:Expr} {pos:Pos} {T id:String} {Q:Value->Shared->Prop}
  (hl:typeLookup (.type T) "__getitem__"=pure (some (.builtin id))) (hs:zny slice)
  (h:wpAny (model prog w) A (eval value env) (λo s₁=>wpAny (model prog w) A (eval slice env) (λi s₂=>s₂.TypeIs o T/\wpAny (model prog w) A (getItem o i) Q E s₂) E s₁) E s):
  wpAny (model prog w) A (eval (.Subscript value slice pos) env) Q E s:=by
 refine Subscript_ (wpAny_mono h (λo s₁ h₁=>wpAny_mono h₁ (λi s₂ h₂=> ?_) λ_ _ x=>x) λ_ _ x=>x);obtain⟨hT,h₂⟩:=h₂;unfold subscriptTail;refine wpAny_bind ?_;rw[getitemInPython_of_ne hT.not_modules];refine wpAny_bind (wpAny_specialOf hT hl ?_);have fin:wpAny (model prog w) A (subscripted slice false o i) (λr s₃=>wpAny (model prog w) A (letTemporaryGo value o r>>=λ_=>pure r) Q E s₃) E s₂:=by
  rw[hs o i];exact wpAny_operating (wpAny_mono h₂ (λr s₃ h₃=>wpAny_bind (wpAny_letTemporaryGo (wpAny_pure h₃))) λ_ _ x=>x)
 first
  |exact wpAny_pure (wpAny_bind fin)
  |exact wpAny_bind (wpAny_pure (wpAny_bind fin))
  |exact wpAny_bind fin
theorem zaz {X:Cx} {pins:List (Addr×Obj)} {σ:St} {H:Hp} {s:Shared} {a:Addr} {y:V} {o:Option V} (I:Inv X pins σ H s) (g:zah H a y o):s.TypeIs (.ref a) "dict":=by
 rcases g with⟨ah,k,e,_,_⟩|⟨ah,k,b,e,_,_,_⟩
 .obtain⟨_,_,vs,_,dd⟩:=zgZ I.hok e;exact dd.typeIs
 .obtain⟨_,_,xs,_,dd⟩:=zg0 I.hok e;exact dd.typeIs
def zmL (td ty:TE):TE:=λσ H Q=>td σ H λx H1=>ty σ H1 λy H2=>∃a v,x= .ref a/\zah H2 a y (some v)/\Q v H2
def zg3 (ty td:TE):TE:=λσ H Q=>ty σ H λy H1=>td σ H1 λx H2=>∃a o,x= .ref a/\zah H2 a y o/\Q (.bl (!o.isSome)) H2
def zmM (td ty tv:TE):TS:=λD σ H=>tv σ H λv H1=>td σ H1 λx H2=>ty σ H2 λy H3=>∃a H4,x= .ref a/\zfZ H3 a y v H4/\D.nx σ H4
section
variable {X:Cx} {o i e value:Expr} {pos pos' iz:Pos} {td ty tv:TE}
theorem zlg (hu:X.A.units+1<cLine) (ho:PE X o td) (hi:PE X i ty) (hs:zny i):PE X (.Subscript o i pos) (zmL td ty):=by
 intro pins s σ H Q I h;refine zg2 x3.lookup hs (thn (ho pins s σ H _ I h) ?_);rintro u s1 ⟨x,H1,I1,rx,q1⟩;refine thn (hi pins s1 σ H1 _ I1 q1) ?_;rintro iv s2 ⟨y,H2,I2,ry,a,v,ex,g,q2⟩;subst ex;obtain rfl:u=Value.ref a:=rx;exact⟨zaz I2 g,zcY hu I2 g ry λw' s3 I3 rw'=>⟨v,H2,I3,rw',q2⟩⟩
theorem zhV (hu:X.A.units+1<cLine) (hi:PE X i ty) (ho:PE X o td):PC X .NotIn i o (zg3 ty td):=by
 intro pins s σ H Q I h;refine thn (hi pins s σ H _ I h) ?_;rintro iv s1 ⟨y,H1,I1,ry,q1⟩;refine thn (ho pins s1 σ H1 _ I1 q1) ?_;rintro u s2 ⟨x,H2,I2,rx,a,ov,ex,g,q2⟩;subst ex;obtain rfl:u=Value.ref a:=rx;exact zg1 hu I2 g ry λs3 I3=>⟨.bl (!ov.isSome),H2,I3,rfl,q2⟩
theorem zlh (hu:X.A.units+1<cLine) (ho:PE X o td) (hi:PE X i ty) (hv:PE X value tv) (hs:swapsWith value (some (.Subscript o i pos')) pos.line X.env=pure false):
  PS X (.Assign [.Subscript o i pos'] value pos) (zmM td ty tv):=by
 intro pins s σ H D I h;refine wpAny_Assign_Subscript (thn (hv pins s σ H _ I h) ?_) hs;rintro r s1 ⟨v,H1,I1,rv,q1⟩;refine thn (ho pins s1 σ H1 _ I1 q1) ?_;rintro u s2 ⟨x,H2,I2,rx,q2⟩;refine thn (hi pins s2 σ H2 _ I2 q2) ?_;rintro iv s3 ⟨y,H3,I3,ry,a,H4,ex,g,q3⟩;subst ex;obtain rfl:u=Value.ref a:=rx;exact zcZ hu I3 g ry rv λs4 I4=>⟨σ,H4,I4,q3⟩
end
theorem zi3 {P:Program} {w:World} {H:Hp} (h:Heap) (hb:sysModules<h.objs.size):xE P w H (h.push {cls:= .type "dict",data:= .dict #[]}) h.objs.size (.dK []):=
 ⟨tI _,beq_eq_false_iff_ne.mpr (sY (rA hb)),[],.nil,Heap.DictOf.new h⟩
def zi4:TE:=λ_ H Q=>∀p,H p=none->Q (.ref p) (upd H p (.dK []))
section
variable {X:Cx} {pos:Pos}
theorem zbi:PE X (.Dict [] [] pos) zi4:=λpins s σ H Q I h=>
 wpAny_Dict_empty ⟨.ref s.heap.objs.size,_,I.laid (a:=s.heap.objs.size) (o:= .dK []) (t':=s.toks) (λ_ _ q=>Heap.get?_push_of_some _ q) (qT _) (zi3 s.heap I.big),rfl,h _ (I.hok.fresh (qT _))⟩
end
noncomputable abbrev VV:List (V×V)->List (Value×Value)->Prop:=Paired λp q=>yn p.1 q.1/\yn p.2 q.2
structure M1 (X:Cx) (o:Expr) (m:Str) (apos:Pos) (e:Expr) (bY:Pos):Prop where
 base:attributeBase o m X.env (eval o X.env)=eval o X.env
 few:((backTo bY (starEach [e] X.env)).all (λx=> !x.1)&&(backToKw bY (keywordEach [] X.env)).all (λx=>x.1.isSome)
  &&decide (([e]:List Expr).length+([]:List Keyword).length+(if ([]:List Keyword).isEmpty then 0 else 1)<30))=true
 line:(apos.endLine==bY.line)=true
 trees:backTo bY (starEach [e] X.env)=[(false,eval e X.env)]
structure M2 (X:Cx) (o:Expr) (m:Str) (apos:Pos) (e f:Expr) (bY:Pos):Prop where
 base:attributeBase o m X.env (eval o X.env)=eval o X.env
 few:((backTo bY (starEach [e,f] X.env)).all (λx=> !x.1)&&(backToKw bY (keywordEach [] X.env)).all (λx=>x.1.isSome)
  &&decide (([e,f]:List Expr).length+([]:List Keyword).length+(if ([]:List Keyword).isEmpty then 0 else 1)<30))=true
 line:(apos.endLine==bY.line)=true
 trees:backTo bY (starEach [e,f] X.env)=[(false,eval e X.env),(false,eval f X.env)]
section
variable {X:Cx} {pins:List (Addr×Obj)} {σ:St} {H:Hp} {s:Shared} {a:Addr} {y d:V} {u r:Value} {o:Option V} {A:Around} {E:Value->Shared->Prop}
end
section
variable {X:Cx} {o e f:Expr} {apos bY:Pos} {td ty tx:TE}
end
section
variable {X:Cx} {pins:List (Addr×Obj)} {σ:St} {H:Hp} {s:Shared} {a:Addr} {ah:List (Key×V)} {A:Around} {E:Value->Shared->Prop}
end
section
variable {X:Cx} {pins:List (Addr×Obj)} {σ:St} {H:Hp} {s:Shared} {a:Addr} {y:V} {u:Value} {A:Around} {E:Value->Shared->Prop}
end
end L2
namespace Att
open PySem PySem.W PySem.Calls PyProof.Rows
theorem zaJ {P:Params} {h:Heap}:∀(ns:List Int) (vs:List Value),WellAll P h vs (ns.map WData.int)->IntsAre vs ns:=by
 intro ns
 induction ns with
 |nil=>
  intro vs w;rw[Bf] at w;cases w;exact .nil
 |cons n ns ih=>
  intro vs w;rw[rC] at w;cases w with
  |cons a b=>
   cases a;exact .cons _ _ (ih _ b)
theorem zhW {l:OpenLaw} {n:Nat} (hn:l.most=some n) {P:Params} {h:Heap} {args:List WData} {vals:List Value}
  (fX:l.row.toRowW.claim.pre args=true) (kE:WellAll P h vals args):
  ∃a vs ns,vals=[Value.ref a]/\args=[WData.list (ns.map WData.int)]/\h.get? a=some {cls:= .type "list",data:= .seq vs.toArray}/\IntsAre vs ns/\ns.length<=n:=by
 have oI:WShape.hasAll [] args [.list .int]=true:=(pre_splitW fX).1;have hc:l.pre.holds [] {args:=args}=true:=(pre_splitW fX).2;obtain⟨d,r,rfl,h1,h2⟩:=hasAllW_cons oI;obtain rfl:=hasAllW_nil h2;obtain⟨xs,rfl,h3⟩:=hasW_list h1;obtain⟨ns,rfl⟩:=items_int h3;have hlen:ns.length<=n:=by
  unfold OpenLaw.pre at hc;have h4:(WTm.not (.lt (.lit (.int (n:Int))) (.len (.arg 0)))).holds [] {args:=[.list (ns.map .int)]}=true:=by
   have h4:=(holds_andW hc).1;rw[hn] at h4;exact h4
  have h5:=condW_of h4 (w_not (w_lt w_lit (w_len_list (w_arg rfl))));rw[qV] at h5;refine Nat.le_of_not_lt λq=> ?_;have q':(n:Int)<((ns.length:Nat):Int):=by omega
  first
   |(rw[decide_eq_true q'] at h5;exact absurd h5 ∅)
   |(simp at h5;omega)
 cases kE with
 |cons w1 w2=>
  cases w2;cases w1 with
  |list ho eX=>exact⟨_,_,ns,rfl,rfl,ho,zaJ ns _ eX,hlen⟩
theorem zhX (l:OpenLaw) (args:List WData):l.row.toRowW.claim.post args (.bool true) args=true:=
 postW_of (r:=l.row.toRowW) (X:=(true==true))
  (show WShape.has [] (.bool true) .bool=true by first|rfl|decide|simp[WShape.has,WShape.arms,WShape.armsAll])
  (show (WTm.eq .res (.lit (.bool true))).value [] {args:=args,res:=some (.bool true),after:=args}=some (.bool (true==true)) from w_eq_bool (w_res rfl) w_lit) rfl
theorem zeG {l:OpenLaw} {n:Nat} {q:Program} {loose:List Str} {XP:(Str->Option Value)->Heap->Prop} {YP:World->Heap->Prop} {d:DefRec}
  (hn:l.most=some n) (j9:d.params.defaults=[])
  (call:∀(w:World) (s₀ s₁:Shared) (mg mb:Str->Option Value) (fa:Addr) (o:Obj) (pm cd doc:Value) (a:Addr) (vs:List Value) (ns:List Int),
   Ground q loose [] XP w s₀ mg mb s₁.heap->YP w s₁.heap->
   s₁.heap.get? fa=some o->o.data= .func (docDef d.name d.params d.body d.scope pm cd doc)->s₁.heap.CodeRec cd d.name->mg d.name=some (.ref fa)->
   s₁.heap.get? a=some {cls:= .type "list",data:= .seq vs.toArray}->IntsAre vs ns->ns.length<=n->s₁.gens= #[]->
   codeAny (model l.prog w) callerA (.call (.ref fa) ⟨[.ref a],[]⟩) (λr s'=>r= .ok (.ret (.bool true))/\OldK s₁.heap s'.heap/\s'.os=s₁.os/\AllBare s'.gens) s₁):
  WalkO q loose XP YP l.row.toRowW d [] (λf vs=>AK f vs):=by
 intro w s₀ s₁ mg mb G Y fa o pm cd doc dV kV ho hd cQ hD gR hg args vals as fX p6 mR kE i6;obtain rfl:dV= .none:=Dflts.none hD j9;obtain rfl:kV= .none:=Dflts.noKw hD;obtain⟨a,vs,ns,rfl,rfl,gO,hints,hlen⟩:=zhW hn fX kE;refine enter_call (codeAny_mono (call w s₀ s₁ mg mb fa o pm cd doc a vs ns G Y ho (fd_plain hd) cQ gR gO hints hlen hg) λr s' hq=> ?_);obtain⟨rfl,h2,h3,h4⟩:=hq;exact⟨.inl ⟨.bool true,.bool true,[],rfl,λ_=>rfl,.bool true,zhX l _,λ_=>⟨Bj,λ_ hm=>(nomatch hm)⟩⟩,h2,h3,h4⟩
section
variable {prog:Program} {w:World} {A:Around} {E:Value->Shared->Prop} {s:Shared} {K:Frag}
end
end Att
namespace L2
open PySem PySem.Spec PyProof.Rows
theorem zc0:∀{vs:List Value} {ns:List Int},IntsAre vs ns->yr (ns.map V.int) vs
 |_,_,.nil=> .nil
 |_,_,.cons n t h=> .cons ⟨t,rfl⟩ (zc0 h)
noncomputable abbrev KOf {K:qP} {h:Heap} (_:K.In h):qP:=K
end L2
/- THE LAST THEOREM (shape; LID, My.* are lS):
   My.Adr: a structure of dw addresses eY nF md names (classes, functions); My.Txt K t: a structure (Prop) of dw equations over K;
   My.txt_mk : {K} {implicit addresses ..} (e1 : nsIn K mainGlobals "law" = some (some (.ref f))) (e2 : K.lookup f = some ⟨oc, od, .func (fnOf "law" "law" params body scope dV kV doc pm an aS ct), sl⟩) (e3 : codeIn K aS "law" = true) .. : ∃ t, My.Txt K t
set_option maxHeartbeats 0 in
theorem PySem.Challenge.cw_LID_holds : PySem.Challenge.rw_LID.Holds := by
 w_on; o_law; k_head; (case hw => w_witness2)
 k_fill
 refine L2.walk_of (l := PySem.Challenge.rw_LID) (n := 63) (k := 40) (x := "script") (CX := λw => ..) (sp := λ_ => My.sp_law) rfl ∅ rfl ⟨rfl, by decide, by decide⟩ (λw h Y => PySem.W.kIn_of Y) ?F ?S ?C
 case F =>
  intro w mg fa h KX G gR;have T : ∃ t, My.Txt (L2.KOf KX) t := by
   dsimp only[L2.KOf]                          -- K nN lW as «<heap const> w.params» for k_is;refine' My.txt_mk ?e1 ?e2 ?e3 ..
   (case e1 => PySem.W.k_is)                    -- in dw order: a name -> ak address -> ak object -> ak parts
   (case e2 => PySem.W.k_is)
   ..
  obtain⟨t, T⟩ := T;have e0 := gR.symm.trans (uz KX G T.law);cases e0                                       -- fa is dw law's own address;exact⟨_, λs u => .of_eq rfl, λbase kb nb => My.law_fn T kb nb⟩     -- if «.of_eq rfl» comes q9 early: refine' ⟨_, ?b, λbase kb nb => My.law_fn T kb nb⟩; exact λs u => .of_eq rfl
 case S => exact λw H a ns hl hO hS => ..
 case C => exact ..
(dw tactic k_is has no namespace: write k_is) -/
namespace L2
open PySem PySem.Spec PyProof.Rows
noncomputable def yS (s:Stmt) (j:Nat):Stmt:=match s with
 | .ClassDef _ _ _ body _ _ _ _ _ _ _=>body.getD j (.Pass ⟨0,0,0,0⟩)
 |_=> .Pass ⟨0,0,0,0⟩
noncomputable def Wx (s:Stmt):Arguments:=match s with
 | .FunctionDef _ a _ _ _ _ _ _ _ _=>a
 |_=>{posonlyargs:=[],args:=[],vararg:=none,kwonlyargs:=[],kw_defaults:=[],kwarg:=none,defaults:=[]}
noncomputable def ZO (s:Stmt):List Stmt:=match s with
 | .FunctionDef _ _ b _ _ _ _ _ _ _=>b
 |_=>[]
noncomputable def zi (s:Stmt):Scope:=match s with
 | .FunctionDef _ _ _ _ _ _ sc _ _ _=>sc
 |_=>{kind:= .function,names:=[],isGenerator:=false,isCoroutine:=false}
noncomputable abbrev CX0:CXT:=λ_ _ _ _ _ _=>False
noncomputable abbrev E0:XK:=λ_ _ _=>False
structure Fun (K:qP) (x qual:Str) (st:Stmt) (f:Addr) (fd:FuncData):Prop where
 ex:∃(oc:Value) (od:Option Addr) (kV doc pm:Value) (an:Option Addr) (aS ct:Value) (eP:Array (Option Value)),
  fd=tq x qual (Wx st) (ZO st) (zi st) .none kV doc pm an aS ct/\K.lookup f=some ⟨oc,od,.func fd,eP⟩/\ug K aS qual=true
 kp:t9 K (.ref f)=true
section
variable {P:Program} {w:World} {K:qP} {mg:Str->Option Value} {base:Heap}
theorem Fun.binds {x qual:Str} {st:Stmt} {f:Addr} {fd:FuncData} {ps:List Str} (F:Fun K x qual st f fd)
  (h:∀(kV doc pm:Value) (an:Option Addr) (aS ct:Value) (us:List Value),us.length=ps.length->bindArgs (tq x qual (Wx st) (ZO st) (zi st) .none kV doc pm an aS ct) ⟨us,[]⟩=pure (ps.zip us)):Um K fd ps []:=by
 obtain⟨oc,od,kV,doc,pm,an,aS,ct,eP,rfl,lk,cQ⟩:=F.ex;exact .all (h kV doc pm an aS ct)
theorem zi5 {x qual:Str} {st:Stmt} {f:Addr} {oc:Value} {od an:Option Addr} {eP:Array (Option Value)} {kV doc pm aS ct:Value} (l:K.lookup f=some ⟨oc,od,.func (tq x qual (Wx st) (ZO st) (zi st) .none kV doc pm an aS ct),eP⟩)
  (c:ug K aS qual=true) (k:t9 K (.ref f)=true):Fun K x qual st f (tq x qual (Wx st) (ZO st) (zi st) .none kV doc pm an aS ct):=⟨⟨oc,od,kV,doc,pm,an,aS,ct,eP,rfl,l,c⟩,k⟩
end
theorem zi6 {A:Around} {k:Nat} (hr:wG k A):A.units+1<cLine:=rX (Nat.add_le_add_left (by decide:1<=64) _) hr.units
section
variable {X:Cx}
theorem pv (i:Nat) {x:Str} {pos:Pos} (hN:X.N[i]? =some x:=by rfl) (hv:Vis X.env.scope x:=by first|exact qX rfl|exact t7 (qX rfl)|exact t7 (t7 rfl)) (hd:(x==("__debug__":Str))=false:=by decide)
  (cQ:(x==("__classdict__":Str))=false:=by decide):PE X (.Name x pos) (znb i):=ziF hN hv hd cQ
end
def Wh (H H':Hp):Prop:=∀b o,H b=some o->H' b=some o
theorem Wh.refl (H:Hp):Wh H H:=λ_ _ h=>h
section
variable {κ:Type} [DecidableEq κ]
end
theorem Vt {prog:Program} {w:World} {A:Around} {elt iter tg:Expr} {ifs:List Expr} {scope:Scope} {pos:Pos} {it acc:Value} {env:Env} {s:Shared} {R:Result->Shared->Prop} (I:Nat->Shared->Prop)
  (turn:∀n s,I n s->wpAny (model prog w) A (pyNext it) (λr s₁=>match r with
   |none=>R (.ok .next) s₁
   |some v=>wpAny (model prog w) A (letOwnedTupleGo tg it v) (λ_ s₁'=>wpAny (model prog w) A (assign tg env v) (λ_ s₂=>
     wpAny (model prog w) A (forIn ifs true λc r=>if r=true then do let ok <-isTrue c env (eval c env);pure (tP ok) else pure (tP r)) (λok s₃=>
      if ok=true then wpAny (model prog w) A (eval elt env) (λx s₄=>
       wpAny (model prog w) A (call (.builtin "list.append") [acc,x]) (λ_ s₅=>∃m,m<n/\I m s₅) (λ_ _=>False) s₄) (λ_ _=>False) s₃
      else ∃m,m<n/\I m s₃) (λ_ _=>False) s₂)
     (λ_ _=>False) s₁') (λ_ _=>False) s₁) (λ_ _=>False) s)
  (n:Nat) (h:I n s):codeAny (model prog w) A (.compLoop (.ListComp elt [⟨tg,iter,ifs,0⟩] scope pos) 0 it acc env) R s:=by
 refine codeAny_loop rfl I (λn s hI=> ?_) n h;show wpAny _ A ((compTurn (.ListComp elt [⟨tg,iter,ifs,0⟩] scope pos) 0 it acc env).onRaise (λx=>do noteFrame x env;theTreesLotGoes x)) _ _ s;refine wpAny_noted ?_;rw[compTurn_list];refine wpAny_bind (wpAny_standAt (wpAny_bind (wpAny_mono (turn n s hI) (λr s₁ h₁=> ?_) λ_ _ h'=>h'.elim)));cases r with
 |none=>exact wpAny_pure h₁
 |some v=>
  refine wpAny_bind (wpAny_mono h₁ (λ_ s₁' h₁'=> ?_) λ_ _ h'=>h'.elim);refine wpAny_bind (wpAny_mono h₁' (λ_ s₂ h₂=>wpAny_bind (wpAny_mono h₂ (λok s₃ h₃=> ?_) λ_ _ h'=>h'.elim)) λ_ _ h'=>h'.elim);cases ok with
  |false=>exact wpAny_pure ⟨rfl,h₃⟩
  |true=>
   exact wpAny_bind (wpAny_bind (wpAny_mono h₃ (λx s₄ h₄=>wpAny_bind (wpAny_mono h₄ (λ_ s₅ h₅=>wpAny_pure (wpAny_pure ⟨rfl,h₅⟩)) λ_ _ h'=>h'.elim)) λ_ _ h'=>h'.elim))
noncomputable def zaK (env:Env):List (Str×NameKind)->List (Str×Addr)->List (Str×Addr)
 |[],cs=>cs
 |(n,k)::r,cs=>zaK env r (if k== .free then (match env.cells.lookup n with|some c=>(n,c)::cs|none=>cs) else cs)
noncomputable def Wy (sc:Scope) (env:Env):List (Str×Addr):=zaK env sc.names []
theorem zbj {env:Env}:∀{ns:List (Str×NameKind)} {cs:List (Str×Addr)},(∀p∈cs,env.cells.lookup p.1=some p.2)->∀p∈zaK env ns cs,env.cells.lookup p.1=some p.2
 |[],_,h=>h
 |(n,k)::r,cs,h=>by
  unfold zaK;refine zbj ?_;by_cases hk:(k== .free)=true
  .rw[if_pos hk];cases e:env.cells.lookup n with
   |none=>exact h
   |some c=>
    intro p hp;rcases rQ.mp hp with rfl|hp
    .exact e
    .exact h p hp
  .rw[if_neg hk];exact h
theorem zeH {env:Env}:∀{ns:List (Str×NameKind)} {cs:List (Str×Addr)} {p:Str×Addr},p∈cs->p∈zaK env ns cs
 |[],_,_,h=>h
 |(n,k)::r,cs,p,h=>by
  unfold zaK;refine zeH ?_;by_cases hk:(k== .free)=true
  .rw[if_pos hk];cases env.cells.lookup n with
   |none=>exact h
   |some c=>exact r9 _ h
  .rw[if_neg hk];exact h
theorem zeI {env:Env} {x:Str} {c:Addr} (e:env.cells.lookup x=some c):∀{ns:List (Str×NameKind)} {cs:List (Str×Addr)},(x,NameKind.free)∈ns->(x,c)∈zaK env ns cs
 |[],_,h=>by cases h
 |(n,k)::r,cs,h=>by
  unfold zaK;rcases rQ.mp h with h|h
  .injection h with h1 h2
   subst h1 h2;refine zeH ?_;rw[if_pos (by rfl),e];exact rE
  .exact zeI e h
theorem Uo:∀{l:List (Str×Addr)} {x:Str} {c:Addr},(x,c)∈l->∃d,l.lookup x=some d
 |[],_,_,h=>by cases h
 |(n,d)::r,x,c,h=>by
  rw[sq];cases e:x==n with
  |true=>exact⟨d,rfl⟩
  |false=>
   rcases rQ.mp h with h|h
   .injection h with h1 h2
    subst h1;simp at e
   .exact Uo h
theorem wI {sc:Scope} {env:Env} {x:Str} {c:Addr} (e:(Wy sc env).lookup x=some c):env.cells.lookup x=some c:=
 zbj (cs:=[]) (λp hp=>by cases hp) (x,c) (rZ e)
theorem UX {sc:Scope} {env:Env} {x:Str} {c:Addr} (h:(x,NameKind.free)∈sc.names) (e:env.cells.lookup x=some c):(Wy sc env).lookup x=some c:=by
 obtain⟨d,hd⟩:=Uo (zeI (cs:=[]) e h);have:=wI (sc:=sc) hd;rw[e] at this;cases this;exact hd
theorem zcs {sc:Scope} {env:Env} (h:∀y∈sc.names,y.2= .free->∃c,env.cells.lookup y.1=some c):closureFor sc env=pure (Wy sc env):=by
 unfold Wy closureFor;generalize sc.names=ns at h
 suffices hh:∀cs:List (Str×Addr),(forIn ns cs (λ(x:Str×NameKind) (r:List (Str×Addr))=>
    (match x with
     |(name,kind)=>if (kind==NameKind.free)=true then (cellOf env name>>=λc=>pure (tP ((name,c)::r))) else pure (tP r):Sem (ForInStep (List (Str×Addr)))))>>=λr=>pure r:Sem (List (Str×Addr)))=pure (zaK env ns cs) from hh []
 induction ns with
 |nil=>intro cs;rfl
 |cons p r ih=>
  intro cs;obtain⟨n,k⟩:=p;rw[List.forIn_cons];unfold zaK;have ih':=ih λy hy=>h y (r9 _ hy);by_cases hk:(k== .free)=true
  .obtain⟨c,hc⟩:=h (n,k) rE (by simpa using hk);have hc:env.cells.lookup n=some c:=hc;have h1:cellOf env n=pure c:=by unfold cellOf;rw[hc]
   simp only[hk,if_true,h1,hc,pure_bind];exact ih' _
  .simp only[hk,if_false,pure_bind];exact ih' _
noncomputable def wW (X:Cx) (N':List Str) (sc:Scope) (C:Addr) (s₀:Shared) (H₀:Hp) (fp:List Addr):Cx where
 prog:=X.prog
 w:=X.w
 K:=X.K
 mg:=X.mg
 base:=X.base
 A:=X.A
 N:=N'
 s₀:=s₀
 H₀:=H₀
 env:=compEnvC sc (Wy sc X.env) C X.env
 outer:=X.stack
 stack:=X.stack
 ex:=fp
 fn:=λ_=>false
 zn:=λ_=>false
 calm:=X.calm
 pn:=[]
 xe:=λ_ _=>False
theorem Ys {env:Env}:∀{names:List (Str×NameKind)} {x:Str},names.lookup x=some .free->
  (names.map λ(n,k)=>if (k==NameKind.free&&env.scope.kind== .function&&env.kindOf n==some .cell) then (n,NameKind.cell) else (n,k)).lookup x=some .cell\/
  (names.map λ(n,k)=>if (k==NameKind.free&&env.scope.kind== .function&&env.kindOf n==some .cell) then (n,NameKind.cell) else (n,k)).lookup x=some .free
 |[],_,h=>by simp at h
 |(n,k)::r,x,h=>by
  have ih:= @Ys env r x;show tm x ((if (k==NameKind.free&&env.scope.kind== .function&&env.kindOf n==some .cell)=true then (n,NameKind.cell) else (n,k))::_)=_\/tm x ((if (k==NameKind.free&&env.scope.kind== .function&&env.kindOf n==some .cell)=true then (n,NameKind.cell) else (n,k))::_)=_;cases hx:x==n with
  |true=>
   simp only[sq,hx] at h;cases h;by_cases hc:(NameKind.free==NameKind.free&&env.scope.kind== .function&&env.kindOf n==some .cell)=true
   .rw[if_pos hc];left;simp[sq,hx]
   .rw[if_neg hc];right;simp[sq,hx]
  |false=>
   simp only[sq,hx] at h;by_cases hc:(k==NameKind.free&&env.scope.kind== .function&&env.kindOf n==some .cell)=true
   .rw[if_pos hc];simp only[sq,hx];exact ih h
   .rw[if_neg hc];simp only[sq,hx];exact ih h
theorem Xq {env:Env} {x:Str} {k:NameKind} (hk:k= .cell\/k= .free):∀{names:List (Str×NameKind)},(∀y∈names,y.2≠ .cell)->
  (names.map λ(n,k)=>if (k==NameKind.free&&env.scope.kind== .function&&env.kindOf n==some .cell) then (n,NameKind.cell) else (n,k)).lookup x=some k->(x,NameKind.free)∈names
 |[],_,h=>by simp at h
 |(n,j)::r,hc,h=>by
  have hr:∀y∈r,y.2≠ .cell:=λy hy=>hc y (r9 _ hy);have h:tm x ((if (j==NameKind.free&&env.scope.kind== .function&&env.kindOf n==some .cell)=true then (n,NameKind.cell) else (n,j))::_)=_:=h;by_cases hj:(j==NameKind.free&&env.scope.kind== .function&&env.kindOf n==some .cell)=true
  .rw[if_pos hj,sq] at h;have n6:j= .free:=by
    simp only[rV,beq_iff_eq] at hj;exact hj.1.1
   cases hx:x==n with
   |true=>
    rw[eq_of_beq hx,<-n6];exact rE
   |false=>
    rw[hx] at h;exact r9 _ (Xq hk hr h)
  .rw[if_neg hj,sq] at h;cases hx:x==n with
   |true=>
    rw[hx] at h;have h':j=k:=rp h;have p9:j≠ .cell:=hc (n,j) rE;rcases hk with e|e
    .exact absurd (h'.trans e) p9
    .rw[eq_of_beq hx];have:j= .free:=h'.trans e;rw[this];exact rE
   |false=>
    rw[hx] at h;exact r9 _ (Xq hk hr h)
def Zh (X:Cx) (sc:Scope):List (Option Nat)->List Str->Prop
 |[],[]=>True
 |none::r,_::n=>Zh X sc r n
 |some i::r,x::n=>(X.N[i]? =some x/\sc.names.lookup x=some .free)/\Zh X sc r n
 |_,_=>False
noncomputable def YK (cap:List (Option Nat)) (σ:St):St:=cap.map λo=>o.bind λi=>(σ[i]?).join
theorem Zh.at {X:Cx} {sc:Scope}:∀{cap:List (Option Nat)} {N':List Str},Zh X sc cap N'->∀(j i:Nat) (x:Str),cap[j]? =some (some i)->N'[j]? =some x->X.N[i]? =some x/\sc.names.lookup x=some .free
 |[],[],_,j,i,x,h,_=>by simp at h
 |none::r,y::n,c,0,i,x,h,_=>by simp at h
 |none::r,y::n,c,j+1,i,x,h,h2=>Zh.at (cap:=r) c j i x (by simpa using h) (by simpa using h2)
 |some k::r,y::n,c,0,i,x,h,h2=>by
  simp at h h2;subst h h2;exact c.1
 |some k::r,y::n,c,j+1,i,x,h,h2=>Zh.at (cap:=r) c.2 j i x (by simpa using h) (by simpa using h2)
theorem Zh.len {X:Cx} {sc:Scope}:∀{cap:List (Option Nat)} {N':List Str},Zh X sc cap N'->cap.length=N'.length
 |[],[],_=>rfl
 |none::r,y::n,c=>by simpa using Zh.len (cap:=r) (N':=n) c
 |some k::r,y::n,c=>by simpa using Zh.len (cap:=r) (N':=n) c.2
theorem zc1 {cap:List (Option Nat)} {σ:St} {j:Nat} {v:V} (h:(YK cap σ)[j]? =some (some v)):∃i,cap[j]? =some (some i)/\σ[i]? =some (some v):=by
 unfold YK at h;rw[qY] at h;cases e:cap[j]? with
 |none=>rw[e] at h;cases h
 |some o=>
  rw[e] at h;cases o with
  |none=>simp at h
  |some i=>
   refine⟨i,rfl,?_⟩;simp only[sE,r0,rJ] at h;cases q:σ[i]? with
   |none=>rw[q] at h;simp at h
   |some z=>rw[q] at h;simp at h;rw[h]
def PTs (X:Cx) (ifs:List Expr) (t:TT):Prop:=
 ∀(pins:List (Addr×Obj)) (s:Shared) (σ:St) (H:Hp) (Q:Bool->Hp->Prop),Inv X pins σ H s->t σ H Q->
  wpAny (model X.prog X.w) X.A (forIn ifs true λc r=>if r=true then do let ok <-isTrue c X.env (eval c X.env);pure (tP ok) else pure (tP r)) (TP X pins σ Q) X.xe s
theorem yK {X:Cx}:PTs X [] (λ_ H Q=>Q true H):=λ_ _ _ H _ I h=>wpAny_tests_nil ⟨H,I,h⟩
def zi7 (cap:List (Option Nat)) (g:TG) (tt:TT) (te:TE) (J:It) (σ:St) (acc:Addr) (H0:Hp) (Q:Hp->Prop):Prop:=
 ∃W:Nat->Nat->List V->Hp->Prop,(∃m,W 0 m [] (upd H0 acc (.lst [])))/\∀i m ys H,W i m ys H->
  (J.stop i H/\Q H)\/(J.go i H/\∀x H',J.yld i H x H'->g x (YK cap σ) H' λσ2 H2=>tt σ2 H2 λb H3=>
   if b=true then te σ2 H3 λv H4=>H4 acc=some (.lst ys)/\ys.length<sizeLine/\∃m',m'<m/\W (i+1) m' (ys++[v]) (upd H4 acc (.lst (ys++[v])))
   else ∃m',m'<m/\W (i+1) m' ys H3)
def zi8 (cap:List (Option Nat)) (wi:TI) (g:TG) (tt:TT) (te:TE):TE:=λσ H Q=>wi σ H λJ H1=>∀acc,H1 acc=none->zi7 cap g tt te J σ acc H1 λH2=>Q (.ref acc) H2
def zeJ (i:Nat) (cap:List (Option Nat)) (wi:TI) (g:TG) (tt:TT) (te:TE):TS:=λD σ H=>wi σ H λJ H1=>∀acc,H1 acc=none->zi7 cap g tt te J σ acc H1 λH2=>D.nx (σ.set i (some (.ref acc))) H2
structure Wz (X:Cx) (sc:Scope):Prop where
 cell:∀y∈sc.names,y.2≠ .cell
 kind:sc.kind= .function
 names:∀y∈sc.names,y.2= .local->sc.names.lookup y.1=some .local
 free:∀y∈sc.names,y.2= .free->X.env.kindOf y.1=some .cell\/X.env.kindOf y.1=some .free
section
variable {X:Cx} {elt tg iter:Expr} {ifs:List Expr} {sc:Scope} {pos:Pos} {wi:TI} {g:TG} {tt:TT} {te:TE} {N':List Str} {cap:List (Option Nat)}
theorem Inv.closure {pins:List (Addr×Obj)} {σ:St} {H:Hp} {s:Shared} (I:Inv X pins σ H s) (B:Wz X sc):closureFor sc X.env=pure (Wy sc X.env):=
 zcs λy hy e=>I.ok.has y.1 (B.free y hy e)
theorem zhY {pins:List (Addr×Obj)} {σ:St} {H:Hp} {s:Shared} {h₁:Heap} {t':Nat} {fp:List Addr} {acc C:Addr} {s₀:Shared} {m:Str->Option Value}
  (I:Inv X pins σ H s) (B:Wz X sc) (cp:Zh X sc cap N') (hf:∀b∈fp,zeD X pins H b) (ig:∀b∈fp,b<s.heap.objs.size) (cE:acc=s.heap.objs.size) (ho:s₀.os=s.os) (ls:s₀.gens=s.gens)
  (h0:s₀.heap=s.heap.push {cls:= .type "list",data:= .seq #[]}) (hC:C=s₀.heap.objs.size)
  (df:h₁.Ns C m) (fW:∀b o,s₀.heap.get? b=some o->h₁.get? b=some o):
  Inv (wW X N' sc C s₀ (upd H acc (.lst [])) fp) [] (YK cap σ) (upd H acc (.lst [])) {s₀ with heap:=h₁,toks:=t'}:=by
 have n8:H acc=none:=I.hok.fresh (tJ cE.symm);have gf:∀b o,s.heap.get? b=some o->s₀.heap.get? b=some o:=λb o e=>by rw[h0];exact Heap.get?_push_of_some _ e
 have jR:s₀.heap.objs.size=s.heap.objs.size+1:=by rw[h0,Heap.size_push]
 have I0:Inv X pins σ (upd H acc (.lst [])) {s with heap:=s₀.heap,toks:=s.toks}:=I.laid gf (tJ cE.symm) ⟨tI _,[],0,.nil,by rw[h0,cE];exact Heap.get?_push_size _ rfl⟩;have CX':∀b,b<s.heap.objs.size->b≠C:=λb hb=>rA (by rw[hC,jR];exact Av hb);have CA:∀b,b<s.heap.objs.size->b≠acc:=λb hb=>rA (by rw[cE];exact hb);have cellLt:∀x c,X.env.cells.lookup x=some c->c<s.heap.objs.size:=λx c e=>by
  obtain⟨v,o,q,_⟩:=I.cell x c e;exact Heap.lt_size q
 refine⟨⟨I.ok.mod,B.kind,I.ok.glob,I.ok.blt,tJ hC.symm,λx y c h1 h2=>I.ok.inj x y c (wI h1) (wI h2),λx hx=> ?_,λx c h=>(h.elim (λz=>tU z) λz=>tU z),I.ok.hd,I.ok.frames,.inl rfl,λb hb=>⟨CX' b (ig b hb),λx c e=>(hf b hb).2.2.2.2.1 x c (wI e)⟩,
   λb o e=> ?_,?_,λb o e hb=> ?_,λb hb hz=> ?_,I0.stack,I0.stkFree⟩,
  rfl,?_,Un.kept fW,⟨m,df,λj x v h1 h2 h3=> ?_⟩,λx c e=> ?_,?_,λx c e=> ?_,λp hp=>absurd (show p∈([]:List (Addr×Obj)) from hp) (by simp),I0.hok.kept fW,?_⟩
 .have hm:(x,NameKind.free)∈sc.names:=by
   rcases hx with hx|hx
   .exact Xq (env:=X.env) (.inl rfl) B.cell hx
   .exact Xq (env:=X.env) (.inr rfl) B.cell hx
  obtain⟨c,hc⟩:=I.ok.has x (B.free _ hm rfl);exact⟨c,UX hm hc⟩
 .obtain⟨e1,e2⟩:=I.bs b o e;exact⟨gf b o e1,by show upd H acc (.lst []) b=none;rw[zO (CA b (Heap.lt_size e1))];exact e2⟩
 .exact rk I.ok.bsz (rk I.sz (by show _<=s₀.heap.objs.size;omega))
 .rcases (hf b hb).2.2.2.1 with z|z
  .exact I.ok.noex b o e z
  .exact absurd (rD (Heap.lt_size e) (rk I.ok.bsz z)) (sZ _)
 .rcases rQ.mp (I.stkSub b hz) with e|e
  .exact (hf b hb).2.1 e
  .exact (hf b hb).2.2.1 e
 .show AllBare s₀.gens;rw[ls];exact I.bare
 .obtain⟨i,e1,e2⟩:=zc1 h2;obtain⟨e3,e4⟩:=cp.at j i x e1 h1;have hm:(x,NameKind.free)∈sc.names:=rZ e4;have hk:=B.free _ hm rfl;obtain⟨m0,qo,hl⟩:=I.loc;obtain⟨u,r,l⟩:=hl i x v e3 e2 (by rcases hk with k|k;exact .inr (.inl k);exact .inr (.inr k));refine⟨u,r,.inr ?_⟩;rcases l with⟨k,_⟩|⟨_,c,hc,o,q,d⟩
  .rcases hk with k'|k'
   .rw[k] at k';cases k'
   .rw[k] at k';cases k'
  .exact⟨Ys (env:=X.env) e4,c,UX hm hc,o,fW c o (gf c o q),d⟩
 .obtain⟨v,o,q,d⟩:=I.cell x c (wI e);exact⟨v,o,fW c o (gf c o q),d⟩
 .show upd H acc (.lst []) C=none;rw[zO (by rw[hC,cE,jR];exact Nat.succ_ne_self _)];exact I.hok.fresh (by rw[hC,jR];exact ur _)
 .show upd H acc (.lst []) c=none\/(false=false/\∃o,upd H acc (.lst []) c=some (.frz o (.own 0)));rw[zO (CA c (cellLt x c (wI e)))];exact (I.freeC x c (wI e)).imp (λz=>z) λz=>⟨rfl,z.2⟩
 .show (YK cap σ).length=N'.length;unfold YK;rw[qV];exact cp.len
def Kp (σ0 σ:St):Prop:=σ.length=σ0.length/\∀(j:Nat) v,σ0[j]? =some (some v)->σ[j]? =some (some v)
def zli (cap:List (Option Nat)) (g:TG):Prop:=∀σ0 σ x H Q,Kp (YK cap σ0) σ->g x σ H Q->g x σ H λσ2 H2=>Q σ2 H2/\Kp (YK cap σ0) σ2
theorem yk {i:Nat} (h:cap[i]? =some none):zli cap (zgN i):=λσ0 σ x H Q k q=>by
 refine⟨q,by rw[sV];exact k.1,λj v e=> ?_⟩;have:j≠i:=by
  rintro rfl;obtain⟨i',e1,_⟩:=zc1 e;rw[h] at e1;cases e1
 rw[uG (sY this)];exact k.2 j v e
theorem zc2 {pins:List (Addr×Obj)} {σ:St} {H:Hp} {s:Shared} {use:Option (Value->Sem Unit)} {Q:Value->Shared->Prop} {R:Addr->Hp->Prop} {p:Pos}
  (hc:X.calm=true) (B:Wz X sc) (cp:Zh X sc cap N') (hi:PI X tg iter wi) (ow:zli cap g)
  (hg:∀C s₀ H₀ fp,PG (wW X N' sc C s₀ H₀ fp) tg g) (ht:∀C s₀ H₀ fp,PTs (wW X N' sc C s₀ H₀ fp) ifs tt) (he:∀C s₀ H₀ fp,PE (wW X N' sc C s₀ H₀ fp) elt te)
  (hs:∀x,foldedSetIterable iter X.env x=pure x)
  (I:Inv X pins σ H s) (h:wi σ H λJ H1=>∀acc,H1 acc=none->zi7 cap g tt te J σ acc H1 (R acc))
  (fin:∀(acc C:Addr) (H':Hp) (s':Shared) (m:Str->Option Value),Inv X pins σ H' s'->s'.heap.Ns C m->C≠X.env.locals->
   (∀{σ':St} {s'':Shared},Inv X pins σ' H' s''->∀h',Heap.SameBut C s''.heap h'->Inv X pins σ' H' {s'' with heap:=h'})->
   R acc H'->compPost (model X.prog X.w) X.A X.xe use Q (.ref acc) C (.ok .next) s'):
  wpAny (model X.prog X.w) X.A (comprehension (.ListComp elt [⟨tg,iter,ifs,0⟩] sc pos) sc X.env p (newList []) false (eval iter X.env) use) Q X.xe s:=by
 refine wpAny_comprehension_free rfl hs (I.closure B) B.kind B.names (thn (hi pins s σ H _ I h) λxv s1 h1=>thn h1 λke s2 h2=> ?_);obtain⟨it,fp,tn,J,H2,e,I2,T,iE,f2,r2⟩:=h2;subst e;have nB:∀b∈fp,b<s2.heap.objs.size:=λb hb=>by
  obtain⟨o,e,_⟩:=T.obj _ _ iE b hb;exact Heap.lt_size e
 refine wpAny_newObj_type (wpAny_newFunctionEnv B.cell (by intro y hy;simp at hy) (λh₁ hns₁ hsb₁=> ?_) B.kind);dsimp only at hns₁ hsb₁ ⊢;obtain⟨s₀,dc⟩:∃s₀:Shared,s₀={s2 with heap:=s2.heap.push {cls:= .type "list",dict:=none,data:= .seq ([]:List Value).toArray}}:=⟨_,rfl⟩;have e0h:s₀.heap=s2.heap.push {cls:= .type "list",data:= .seq #[]}:=by rw[dc]
 obtain⟨C,eC⟩:∃C:Addr,C=s₀.heap.objs.size:=⟨_,rfl⟩;obtain⟨acc,eA⟩:∃a:Addr,a=s2.heap.objs.size:=⟨_,rfl⟩;rw[show (s2.heap.push {cls:= .type "list",dict:=none,data:= .seq ([]:List Value).toArray}).objs.size=C by rw[eC,e0h]] at hns₁ hsb₁ ⊢;have keep₁:∀b o,s₀.heap.get? b=some o->h₁.get? b=some o:=λb o e=>by
  refine hsb₁.extBut b o ?_ ?_
  .rw[eC];exact rA (Heap.lt_size e)
  .rw[e0h] at e;exact Heap.get?_push_of_some _ e
 have jk:C=s2.heap.objs.size+1:=by rw[eC,e0h,Heap.size_push]
 have gf:∀b o,s2.heap.get? b=some o->s₀.heap.get? b=some o:=λb o e=>by rw[e0h];exact Heap.get?_push_of_some _ e
 have nA:H2 acc=none:=I2.hok.fresh (tJ eA.symm);show codeAny (model X.prog X.w) X.A (.compStart (.ListComp elt [⟨tg,iter,ifs,0⟩] sc pos) 0 (.ref it) (.ref s2.heap.objs.size) (compEnvC sc (Wy sc X.env) C X.env))
  (compPost (model X.prog X.w) X.A X.xe use Q (.ref s2.heap.objs.size) C) {s2 with heap:=h₁,toks:=s2.toks+([]:List (Str×Value)).length}
 rw[<-eA];have lQ:({s2 with heap:=h₁,toks:=s2.toks+([]:List (Str×Value)).length}:Shared)={s₀ with heap:=h₁,toks:=s2.toks+([]:List (Str×Value)).length}:=by rw[dc]
 rw[lQ];obtain⟨W,⟨m0,w0⟩,turn⟩:=r2 acc nA;have Ib:Inv (wW X N' sc C s₀ (upd H2 acc (.lst [])) fp) [] (YK cap σ) (upd H2 acc (.lst [])) {s₀ with heap:=h₁,toks:=s2.toks+([]:List (Str×Value)).length}:=
  zhY I2 B cp f2 nB eA (by rw[dc]) (by rw[dc]) e0h eC hns₁ keep₁
 have stat:∀{H':Hp},(∀b∈fp,H' b=none)->∀b∈fp,zeD (wW X N' sc C s₀ (upd H2 acc (.lst [])) fp) [] H' b:=λhn b hb=>
  ⟨hn b hb,(Ib.ok.exf b hb).1,Ib.ok.exfs b hb,.inl hb,λx c e=>(Ib.ok.exf b hb).2 x c e,λp hp=>absurd (show p∈([]:List (Addr×Obj)) from hp) (by simp)⟩
 have pO:∀b∈fp,upd H2 acc (.lst []) b=none:=λb hb=>by
  rw[zO (by rw[eA];exact rA (nB b hb))];exact (f2 b hb).1
 have loop:codeAny (model X.prog X.w) X.A (.compLoop (.ListComp elt [⟨tg,iter,ifs,0⟩] sc pos) 0 (.ref it) (.ref acc) (compEnvC sc (Wy sc X.env) C X.env))
   (compPost (model X.prog X.w) X.A X.xe use Q (.ref acc) C) {s₀ with heap:=h₁,toks:=s2.toks+([]:List (Str×Value)).length}:=by
  refine Vt (λn s'=>∃i ys H',Inv (wW X N' sc C s₀ (upd H2 acc (.lst [])) fp) [] (YK cap σ) H' s'/\tn i s'.heap/\(∀b∈fp,H' b=none)/\W i n ys H') ?_ m0
   ⟨0,[],_,Ib,T.keep _ _ _ iE λb hb o e=>keep₁ b o (gf b o e),pO,w0⟩
  rintro n s3 ⟨i,ys,H3,I3,iD,ji,w3⟩;rcases turn i n ys H3 w3 with⟨stop,qn⟩|⟨go,step⟩
  .refine thn (T.done (wW X N' sc C s₀ (upd H2 acc (.lst [])) fp) rfl rfl rfl hc i [] s3 _ H3 (λ_ _=>False) I3 (stat ji) iD stop) λr s4 ⟨hr,I4⟩=> ?_;subst hr;have u0:Un (frs X.stack) fp H2 (upd H2 acc (.lst [])) s2.heap s₀.heap:=Un.laid gf (tJ eA.symm) nA;have un:Un (frs X.stack) fp H2 H3 s2.heap s4.heap:=u0.trans I4.base;have I5:Inv X pins σ H3 s4:=I2.call' (by rw[I4.os];show s₀.os=_;rw[dc]) un I4.hok I4.bare λb hb=>⟨(f2 b hb).2.2.2.1,(f2 b hb).2.1,(f2 b hb).2.2.2.2.1,(f2 b hb).2.2.2.2.2⟩;obtain⟨m4,jx,_⟩:=I4.loc;have CL:C≠X.env.locals:=λz=>by
    have:=I2.lt;rw[<-z,jk] at this;exact absurd this (AO.mpr (ur _))
   refine fin acc C H3 s4 m4 I5 jx CL (λ{σ' s''} I6 h' sb=> ?_) qn;refine I6.turned (t':=s''.toks) (λb o hb e=>(sb.2 b hb).trans e) I4.free CL (.inr ?_) (λx c e z=> ?_) λp hp z=> ?_
   .have:=I2.sz;rw[jk];omega
   .obtain⟨v,o,q,_⟩:=I2.cell x c e;have:=Heap.lt_size q;rw[z,jk] at this;exact absurd this (AO.mpr (ur _))
   .obtain⟨q,_⟩:=I2.pin p hp;have:=Heap.lt_size q;rw[z,jk] at this;exact absurd this (AO.mpr (ur _))
  .refine thn (T.item (wW X N' sc C s₀ (upd H2 acc (.lst [])) fp) rfl rfl rfl hc i [] s3 _ H3 (λ_ _=>False) I3 (stat ji) iD go) λr s4 ⟨u,hr,h4⟩=> ?_;subst hr;refine thn h4 ?_;rintro _ s5 ⟨x,H5,I5,r5,y5,fK,lP⟩;have I5':=I5.pinned (stat lP) (T.obj _ _ fK);refine thn (hg C s₀ _ fp _ s5 _ H5 x u _ I5' r5 (ow σ _ x H5 _ ⟨rfl,λ_ _ e=>e⟩ (step x H5 y5))) ?_;rintro _ s6 ⟨σ6,H6,I6,q6,mh⟩;have again:∀{H7:Hp} {s7:Shared} {zs:List V},Inv (wW X N' sc C s₀ (upd H2 acc (.lst [])) fp) ([]++zbd fp s5.heap) σ6 H7 s7->(∃m',m'<n/\W (i+1) m' zs H7)->
     ∃m,m<n/\∃i ys H',Inv (wW X N' sc C s₀ (upd H2 acc (.lst [])) fp) [] (YK cap σ) H' s7/\tn i s7.heap/\(∀b∈fp,H' b=none)/\W i m ys H':=λ{H7 s7 zs} I7 w7=>by
    obtain⟨m',hm,w7⟩:=w7;refine⟨m',hm,i+1,zs,H7,(I7.unpinned).weak mh.1.symm mh.2,T.keep _ _ _ fK λb hb o e=>(I7.pin (b,o) (sj _ (sj _ (Wv hb e)))).1,λb hb=> ?_,w7⟩;obtain⟨o,e,d⟩:=T.obj _ _ fK b hb;exact (I7.pin (b,o) (sj _ (sj _ (Wv hb e)))).2.1
   refine thn (ht C s₀ _ fp _ s6 σ6 H6 _ I6 q6) ?_;rintro ok s7 ⟨H7,I7,q7⟩;cases ok with
   |false=>
    rw[if_neg rl] at q7 ⊢;exact again I7 q7
   |true=>
    rw[if_pos rfl] at q7 ⊢;refine thn (he C s₀ _ fp _ s7 σ6 H7 _ I7 q7) ?_;rintro xv s8 ⟨v,H8,I8,r8,jf,p7,w8⟩;refine thn (xC _ s8 σ6 H8 (.ref acc) [v] (.ref acc) [xv] (λ_ H9=>H9=upd H8 acc (.lst (ys++[v]))) I8 rfl (.cons r8 .nil) ⟨acc,ys,v,rfl,rfl,jf,p7,rfl⟩) ?_;rintro _ s9 ⟨_,H9,I9,_,e9⟩;subst e9;exact again I9 w8
 exact codeAny_compStart_list loop (T.self _ 0 _ _ _ (T.keep _ _ _ iE λb hb o e=>keep₁ b o (gf b o e)) loop)
theorem yY (hc:X.calm=true) (B:Wz X sc) (cp:Zh X sc cap N') (hi:PI X tg iter wi) (ow:zli cap g)
  (hg:∀C s₀ H₀ fp,PG (wW X N' sc C s₀ H₀ fp) tg g) (ht:∀C s₀ H₀ fp,PTs (wW X N' sc C s₀ H₀ fp) ifs tt) (he:∀C s₀ H₀ fp,PE (wW X N' sc C s₀ H₀ fp) elt te)
  (hs:∀x,foldedSetIterable iter X.env x=pure x:=by intro _;rfl):PE X (.ListComp elt [⟨tg,iter,ifs,0⟩] sc pos) (zi8 cap wi g tt te):=by
 intro pins s σ H Q I h;rw[eval_ListComp];refine zc2 (use:=none) (R:=λacc H2=>Q (.ref acc) H2) hc B cp hi ow hg ht he hs I h λacc C H' s' m I' hn CL mk r=> ?_;exact⟨m,hn,λh' sb=>⟨.ref acc,H',mk I' h' sb,rfl,r⟩⟩
theorem WA {i:Nat} {y:Str} {py iF:Pos} (hc:X.calm=true) (B:Wz X sc) (cp:Zh X sc cap N') (hi:PI X tg iter wi) (ow:zli cap g)
  (hg:∀C s₀ H₀ fp,PG (wW X N' sc C s₀ H₀ fp) tg g) (ht:∀C s₀ H₀ fp,PTs (wW X N' sc C s₀ H₀ fp) ifs tt) (he:∀C s₀ H₀ fp,PE (wW X N' sc C s₀ H₀ fp) elt te)
  (hN:X.N.Nodup) (hy:X.N[i]? =some y) (hl:X.env.scope.names.lookup y=some .local)
  (oG:swapsWith (.ListComp elt [⟨tg,iter,ifs,0⟩] sc pos) (some (.Name y py)) iF.line X.env=pure true:=by rfl)
  (hs:∀x,foldedSetIterable iter X.env x=pure x:=by intro _;rfl):PS X (.Assign [.Name y py] (.ListComp elt [⟨tg,iter,ifs,0⟩] sc pos) iF) (zeJ i cap wi g tt te):=by
 intro pins s σ H D I h;rw[exec_Assign_Name_used _ _ _ _ oG];refine wpAny_bind (wpAny_standAt (wpAny_bind ?_));show wpAny _ X.A (do let _ <-comprehension (.ListComp elt [⟨tg,iter,ifs,0⟩] sc pos) sc X.env _ (newList []) false (eval iter X.env) (some (assign (.Name y py) X.env))) _ _ s;refine wpAny_bind (thn (zc2 (use:=some (assign (.Name y py) X.env)) (Q:=λ_ s'=>SP X pins D .next s') (R:=λacc H2=>D.nx (σ.set i (some (.ref acc))) H2) hc B cp hi ow hg ht he hs I h λacc C H' s' m I' hn CL mk r=> ?_) λ_ s' hq=>wpAny_pure (wpAny_pure hq));show wpAny _ X.A (assign (.Name y py) X.env (.ref acc)) _ _ _;refine wpAny_assign_Name (zcR I' hN hy (.inl hl) (v:= .ref acc) rfl (λs'' I'' fW=> ?_) (.inr hl));obtain⟨a,sb,ha⟩:=fW;have pM:C≠a:=by
  rcases ha with ha|ha
  .rw[ha];exact CL
  .intro z;rw[<-z] at ha;obtain⟨v,o,q,d⟩:=I'.cell y C ha;obtain⟨o',es,ep,q',d',_⟩:=hn;rw[q] at q';cases q';rw[d] at d';cases d'
 exact⟨m,hn.sameBut sb pM,λh' sb'=>⟨_,H',mk I'' h' sb',r⟩⟩
end
def vB {α:Type}:Sem α->Prop
 | .pure _=>True
 | .raise _=>True
 | .unsupported _=>True
 | .finish _=>True
 | .rule _ k=>∀u,vB (k u)
 | .at _ k=>∀u,vB (k u)
 | .load _ _ k=>∀o,vB (k o)
 | .update _ _ f k=>(∀o,(f o).dict=o.dict/\(f o).cls=o.cls)/\∀u,vB (k u)
 | .alloc _ k=>∀a,vB (k a)
 | .loadIfAlive _ k=>∀o,vB (k o)
 | .point _ k=>∀u,vB (k u)
 | .stack k=>∀x,vB (k x)
 | .ask k=>∀x,vB (k x)
 |_=>False
def KD (h h':Heap):Prop:=∀(b:Nat) o,h.objs[b]? =some o->∃o',h'.objs[b]? =some o'/\o'.dict=o.dict/\o'.cls=o.cls
theorem KD.refl (h:Heap):KD h h:=λ_ o e=>⟨o,e,rfl,rfl⟩
theorem KD.trans {h h1 h2:Heap} (x:KD h h1) (y:KD h1 h2):KD h h2:=λb o e=>by
 obtain⟨o1,e1,d1,c1⟩:=x b o e;obtain⟨o2,e2,d2,c2⟩:=y b o1 e1;exact⟨o2,e2,d2.trans d1,c2.trans c1⟩
theorem KD.push (h:Heap) (o:Obj):KD h (h.push o):=λb o' e=>by
 refine⟨o',?_,rfl,rfl⟩;obtain⟨objs,l⟩:=h;show (objs.push o)[b]? =some o';have e:objs[b]? =some o':=e;rw[Array.getElem?_push];have hb:b<objs.size:=(Array.getElem?_eq_some_iff.mp e).1;rw[if_neg (rA hb)];exact e
theorem KD.update (h:Heap) (a:Addr) {f:Obj->Obj} (hf:∀o,(f o).dict=o.dict/\(f o).cls=o.cls):KD h (h.update a f):=λb o e=>by
 obtain⟨objs,l⟩:=h;show ∃o',(objs.modify a f)[b]? =some o'/\_;rw[Array.getElem?_modify];have e:objs[b]? =some o:=e;by_cases dX:a=b
 .rw[if_pos dX,e];exact⟨f o,rfl,hf o⟩
 .rw[if_neg dX,e];exact⟨o,rfl,rfl,rfl⟩
theorem zeK {h:Heap} {a:Addr} {o:Obj} (e:h.get? a=some o):h.objs[a]? =some o:=by
 unfold Heap.get? at e;split at e
 .cases e
 .exact e
theorem KD.at {h h':Heap} {a:Addr} {o o':Obj} (k:KD h h') (e:h.get? a=some o) (e':h'.get? a=some o'):o'.dict=o.dict/\o'.cls=o.cls:=by
 obtain⟨o1,e1,d⟩:=k a o (zeK e);rw[zeK e'] at e1;cases e1;exact d
theorem zlj {α:Type} {M:Model} {Γ:PySem.Ctx} {t:Sem α}:∀{Q:α->Pos->Shared->Prop} {E:Value->Pos->Shared->Prop} {p:Pos} {s:Shared} {h₀:Heap},vB t->KD h₀ s.heap->Sem.wp M Γ t Q E p s->
  Sem.wp M Γ t (λa p' s'=>Q a p' s'/\KD h₀ s'.heap) (λe p' s'=>E e p' s'/\KD h₀ s'.heap) p s:=by
 induction t with
 |pure a=>exact λ_ k h=>⟨h,k⟩
 |raise e=>exact λ_ k h=>⟨h,k⟩
 |unsupported w=>exact λ_ _ h=>h.elim
 |finish e=>exact λ_ _ h=>h.elim
 |rule _ k ih=>exact λt z h=>ih () (t ()) z h
 | «at» _ k ih=>exact λt z h=>ih () (t ()) z h
 |load a _ k ih=>
  intro Q E p s h₀ t z h;obtain⟨o,e,h⟩:=h;exact⟨o,e,ih o (t o) z h⟩
 |update a _ f k ih=>
  intro Q E p s h₀ t z h;obtain⟨e,h⟩:=h;exact⟨e,ih () (t.2 ()) (z.trans (KD.update _ _ t.1)) h⟩
 |alloc o k ih=>exact λt z h=>ih _ (t _) (z.trans (KD.push _ _)) h
 |loadIfAlive a k ih=>exact λt z h=>ih _ (t _) z h
 |point _ k ih=>exact λt z h=>ih () (t ()) z h
 |stack k ih=>exact λt z h=>ih _ (t _) z h
 |ask k ih=>exact λt z h=>ih _ (t _) z h
 |register _ _ _=>exact λt=>t.elim
 |fresh _ _=>exact λt=>t.elim
 |choose _ _ _ _=>exact λt=>t.elim
 |os _ _ _ _=>exact λt=>t.elim
 |call _ _ _ _ _ _=>exact λt=>t.elim
 |handled _ _ _=>exact λt=>t.elim
 |newGen _ _ _=>exact λt=>t.elim
 |genState _ _ _=>exact λt=>t.elim
 |resume _ _ _ _ _=>exact λt=>t.elim
 |yield _ _ _ _ _=>exact λt=>t.elim
 |fork _ _ _=>exact λt=>t.elim
 |thread _ _=>exact λt=>t.elim
 |await _ _ _ _ _ _=>exact λt=>t.elim
theorem zi9 {α:Type} {M:Model} {A:Around} {t:Sem α} {Q:α->Shared->Prop} {E:Value->Shared->Prop} {s:Shared} (T:vB t) (h:wpAny M A t Q E s):wpAny M A t (λa s'=>Q a s'/\KD s.heap s'.heap) (λe s'=>E e s'/\KD s.heap s'.heap) s:=
 λΓ p hΓ=>zlj T (KD.refl _) (h Γ p hΓ)
theorem zhZ {α β:Type} {f:α->Sem β} (hf:∀a,vB (f a)):∀{t:Sem α},vB t->vB (t.bind f):=by
 intro t
 induction t with
 |pure a=>exact λ_=>hf a
 |raise e=>exact λ_=>trivial
 |unsupported w=>exact λ_=>trivial
 |finish e=>exact λ_=>trivial
 |rule _ k ih=>exact λt u=>ih u (t u)
 | «at» _ k ih=>exact λt u=>ih u (t u)
 |load a _ k ih=>exact λt u=>ih u (t u)
 |update a _ f k ih=>exact λt=>⟨t.1,λu=>ih u (t.2 u)⟩
 |alloc o k ih=>exact λt u=>ih u (t u)
 |loadIfAlive a k ih=>exact λt u=>ih u (t u)
 |point _ k ih=>exact λt u=>ih u (t u)
 |stack k ih=>exact λt u=>ih u (t u)
 |ask k ih=>exact λt u=>ih u (t u)
 |register _ _ _=>exact λt=>t.elim
 |fresh _ _=>exact λt=>t.elim
 |choose _ _ _ _=>exact λt=>t.elim
 |os _ _ _ _=>exact λt=>t.elim
 |call _ _ _ _ _ _=>exact λt=>t.elim
 |handled _ _ _=>exact λt=>t.elim
 |newGen _ _ _=>exact λt=>t.elim
 |genState _ _ _=>exact λt=>t.elim
 |resume _ _ _ _ _=>exact λt=>t.elim
 |yield _ _ _ _ _=>exact λt=>t.elim
 |fork _ _ _=>exact λt=>t.elim
 |thread _ _=>exact λt=>t.elim
 |await _ _ _ _ _ _=>exact λt=>t.elim
theorem tb {α β:Type} {t:Sem α} {f:α->Sem β} (h:vB t) (hf:∀a,vB (f a)):vB (t>>=f):=zhZ hf h
theorem zct (v:Value):vB (fieldsOf v):=by
 unfold fieldsOf;split
 .refine tb (λo=>trivial) λo=> ?_;split<;>trivial
 .trivial
theorem WB (v:Value) (i:Nat):vB (field v i):=by
 unfold field;refine tb (zct v) λa=> ?_;split<;>trivial
theorem zbk (g:Array Value->Array Value) (o:Obj):(Obj.mapFields g o).dict=o.dict/\(Obj.mapFields g o).cls=o.cls:=by
 obtain⟨c,d,dt,sl⟩:=o;cases dt<;>exact⟨rfl,rfl⟩
theorem XM (v:Value) (i:Nat) (x:Value):vB (setField v i x):=by
 unfold setField;split
 .unfold updateField;refine tb (λo=>trivial) λo=> ?_;split
  .split
   .exact⟨λo=>zbk _ o,λ_=>trivial⟩
   .trivial
  .trivial
 .trivial
theorem zbl (e:Value) (f:Option Addr):vB (setFlight e f):=by
 unfold setFlight;refine tb (WB _ _) λtb'=> ?_;split
 .exact XM _ _ _
 .trivial
theorem zbm (ty:String) (vs:List Value):vB (newFields ty vs):=by
 have h:vB (newObjAsIs (Value.type ty) (Data.fields vs.toArray)):=by
  unfold newObjAsIs;exact tb (λa=>trivial) λa=>trivial
 unfold newFields newObj;show vB (if vs.toArray.size>sizeLine+2 then (unsupported "record:memory">>=λ_=>newObjAsIs (Value.type ty) (Data.fields vs.toArray)) else newObjAsIs (Value.type ty) (Data.fields vs.toArray));split
 .trivial
 .exact h
theorem zeL (env:Env) (outer:List Env):vB (behindIsImport env outer):=by
 unfold behindIsImport;split
 .trivial
 .split
  .trivial
  .exact tb (WB _ _) λ_=>trivial
theorem zf0:vB underTheClaimsCaller:=tb (λ_=>trivial) λ_=>trivial
theorem zcu (env:Env) (i:Bool) (outer:List Env):vB (keptBack env i outer):=by
 cases outer with
 |nil=>
  unfold keptBack;by_cases h:(env.scope.isGenerator||env.scope.isCoroutine)=true
  .rw[if_pos h];trivial
  .rw[if_neg h];refine tb zf0 λx=> ?_;trivial
 |cons c r=>
  unfold keptBack;trivial
theorem zbn:∀l:List Env,vB (readyFrames l)
 |[]=>trivial
 |env::outer=>by
  unfold readyFrames;split
  .refine tb (λo=>trivial) λo=> ?_;split
   .trivial
   .exact tb (zeL _ _) λi=>tb (zcu _ _ _) λb=>tb ⟨λo=>⟨rfl,rfl⟩,λ_=>trivial⟩ λ_=>zbn outer
  .trivial
theorem zdG (env:Env):vB (Ad env):=by
 unfold Ad;refine tb (λx=>trivial) λl=>tb ?_ λo=> ?_
 .generalize List.dropWhile _ l=l';unfold frameObject;cases l' with
  |nil=>trivial
  |cons a r=>exact tb (zbn _) λ_=>trivial
 .split<;>trivial
theorem zaL (f:Addr) (b:Bool):vB (entryPlaceOf f b):=by
 unfold entryPlaceOf;refine tb (λx=>trivial) λl=> ?_;split<;>trivial
theorem zbo (e:Value) (env:Env):vB (noteFrame e env):=by
 unfold noteFrame;split
 .rename_i f _;have last:∀head:Value,vB (do setField e 1 (<-EntryCells.newEntry head (<-Ad env) .none (rawInt f) .none (<-entryPlaceOf f (head != .none)))):=λhead=>
   tb (zdG env) λa=>tb (zaL _ _) λpl=>tb (zbm _ _) λb=>XM _ _ _
  refine tb (WB _ _) λhead=> ?_;split
  .refine tb (WB _ _) λx=> ?_;split
   .trivial
   .exact tb (XM _ _ _) λ_=>last head
  .exact last head
 .trivial
theorem zdH (env:Env) (e:Value):vB (leaving env e):=tb (zbo e env) λ_=>zbl _ _
theorem xE.there {P:Program} {w:World} {H:Hp} {h:Heap} {a:Addr} {o:HO} (x:xE P w H h a o):∃ob,h.get? a=some ob:=by
 cases o with
 |lst xs=>obtain⟨_,_,_,_,e⟩:=x;exact⟨_,e⟩
 |tup xs=>obtain⟨_,_,_,ob,e,_⟩:=x;exact⟨_,e⟩
 |dK ah=>obtain⟨_,_,_,_,o,_,_,e,_⟩:=x;exact⟨_,e⟩
 |dT ah=>obtain⟨_,_,_,_,o,_,_,e,_⟩:=x;exact⟨_,e⟩
 |dN ah=>obtain⟨_,_,_,_,o,_,_,e,_⟩:=x;exact⟨_,e⟩
 |set S n=>obtain⟨o,_,_,_,e,_⟩:=x;exact⟨_,e⟩
 |ins C dx fs=>obtain⟨_,_,_,e,_⟩:=x;exact⟨_,e⟩
 |own y=>obtain⟨_,e⟩:=x;exact⟨_,e⟩
 |xd fs=>obtain⟨_,⟨_,_,_,e,_⟩,_⟩:=x;exact⟨_,e⟩
 |rng lo hi=>obtain⟨_,_,_,e⟩:=x;exact⟨_,e⟩
 |frz ob u=>obtain⟨e,_⟩:=x;exact⟨_,e⟩
 |tbl ps=>exact⟨_,(show h.get? a=some _ from x)⟩
 |met f y=>exact⟨_,(show h.get? a=some _ from x)⟩
 |ext φ=>obtain⟨_,⟨_,e⟩,_⟩:=x;exact⟨_,e⟩
def Cov (outer:List Env) (H':Hp) (old h' B:Heap):Prop:=
 (∀b o,(∃o0,old.get? b=some o0)->b∉frs outer->h'.get? b=some o->B.get? b=some o)/\∀b u o,H' b=some u->h'.get? b=some o->B.get? b=some o
structure Fly (P:Program) (w:World) (outer:List Env) (H:Hp) (s:Shared) (e:Addr) (cls:Value) (H':Hp) (s':Shared):Prop where
 os:s'.os=s.os
 bare:AllBare s'.gens
 un:Un (frs outer) [] H H' s.heap s'.heap
 hok:HOk P w H' s'.heap
 fly:∃B t,Heap.FlyingW B outer e cls (.ref t) s'.heap/\Cov outer H' s.heap s'.heap B
 new:s.heap.get? e=none
 free:H' e=none
 nd:∀o,s'.heap.get? e=some o->o.dict=none
noncomputable def CXE (P:Program) (w:World):CXT:=λouter H s E ev s'=>∃e cls H',ev= .ref e/\Fly P w outer H s e cls H' s'/\E cls none H'
theorem Fly.moved {P:Program} {w:World} {outer:List Env} {H H':Hp} {s s':Shared} {e:Addr} {cls a0:Value} {B h2:Heap} (F:Fly P w outer H s e cls H' s') (fl:Heap.FlyingW B outer e cls a0 s'.heap) (cov:Cov outer H' s.heap s'.heap B)
  (st:B.StaysIn h2) (sm:s'.heap.UpToSlots h2):Un (frs outer) [] H H' s.heap h2/\HOk P w H' h2/\Cov outer H' s.heap h2 B:=by
 have nofs:∀b u,H' b=some u->∃o,s'.heap.get? b=some o/\B.get? b=some o/\h2.get? b=some o:=λb u q=>by
  obtain⟨o,e1⟩:=(F.hok b u q).there;have e2:=cov.2 b u o q e1;exact⟨o,e1,e2,st b o e2⟩
 have old:∀b o0,s.heap.get? b=some o0->b∉frs outer->∃o,s'.heap.get? b=some o/\B.get? b=some o/\h2.get? b=some o:=λb o0 q hb=>by
  obtain⟨o,e1⟩:=F.un.there b o0 q (by simp);have e2:=cov.1 b o ⟨o0,q⟩ hb e1;exact⟨o,e1,e2,st b o e2⟩
 have fr:∀b∈frs outer,∃o sl,s'.heap.get? b=some o/\h2.get? b=some {o with slots:=sl}:=λb hb=>by
  obtain⟨_,o,e1,d⟩:=fl.2.2.1.mem hb;obtain⟨sl,e2⟩:=sm b o e1 d;exact⟨o,sl,e1,e2⟩
 refine⟨⟨λb o q n hb _=> ?_,λb o q n hb _=> ?_,λb o q n hx=>F.un.free b o q n hx,λb o q _=> ?_,F.un.tups,F.un.frzs,F.un.tbls⟩,λa u q=> ?_,λb o q hb e1=> ?_,λb u o q e1=> ?_⟩
 .obtain⟨o1,e1,_,e3⟩:=old b o q hb;have e4:=F.un.keep b o q n hb (by simp);rw[e1] at e4;cases e4;exact e3
 .obtain⟨o1,lY,e1,e2⟩:=fr b hb;obtain⟨sl,e4⟩:=F.un.slot b o q n hb (by simp);rw[e1] at e4;cases e4;exact⟨lY,e2⟩
 .by_cases hb:b∈frs outer
  .obtain⟨o1,lY,e1,e2⟩:=fr b hb;exact⟨_,e2⟩
  .obtain⟨o1,_,_,e3⟩:=old b o q hb;exact⟨_,e3⟩
 .refine (F.hok a u q).stay (λb ob hb eb=> ?_) (λ_ z=>z) λ_ _ z=>z;have:∃u',H' b=some u':=by
   rcases hb with z|z
   .exact⟨u,z ▸ q⟩
   .exact⟨_,z⟩
  obtain⟨u',hu⟩:=this;obtain⟨o1,e1,_,e3⟩:=nofs b u' hu;rw[eb] at e1;cases e1;exact e3
 .obtain⟨o0,q⟩:=q;obtain⟨o1,_,e2,e3⟩:=old b o0 q hb;rw[e1] at e3;cases e3;exact e2
 .obtain⟨o1,_,e2,e3⟩:=nofs b u q;rw[e1] at e3;cases e3;exact e2
section
variable {P:Program} {w:World} {K:qP} {mg:Str->Option Value} {base:Heap} {N:List Str} {qual:Str} {scope:Scope} {f:Addr} {aS:Value} {A:Around} {outer:List Env} {s:Shared} {H:Hp} {E:XK}
theorem zH:UA (CXE P w) (zco (CXE P w) P w K mg base N qual scope f aS A outer s H E) E:=by
 rintro pins σ H1 s1 ev s' I ⟨e,cls,H',rfl,F,hE⟩;obtain⟨B,t,fl,cov⟩:=F.fly;have pj:∀b∈frs (envOfC qual scope s.heap.objs.size f aS::outer),b∈s.heap.objs.size::frs outer:=I.stkSub;refine wpAny_mono (zi9 (zdH _ _) (wpAny_leaves_onW (E:=λ_ _=>False) (Q:=λ_ s''=>∃h',s''={s' with heap:=h'}/\Heap.FlyingW B outer e cls (.ref t) h'/\s'.heap.UpToSlots h') (L:=s.heap.objs.size) I.ok.frames rfl fl λh' x1 x2=>⟨h',rfl,x1,x2⟩)) (λ_ s3 h3=> ?_) λ_ _ h3=>h3.1.elim;obtain⟨⟨h',rfl,x1,x2⟩,kd⟩:=h3;obtain⟨un,hok,cov'⟩:=F.moved fl cov x1.1 x2;have g9:∀b:Addr,b∉(zco (CXE P w) P w K mg base N qual scope f aS A outer s H E).ex:=λb z=>absurd (show b∈([]:List Addr) from z) (by simp);have m7:∀b o,s.heap.get? b=some o->b∉frs outer->b∉frs (envOfC qual scope s.heap.objs.size f aS::outer):=λb o q hb hz=>by
  rcases rQ.mp (pj b hz) with z|z
  .exact rA (Heap.lt_size q) z
  .exact hb z
 have sub:∀b∈frs outer,b∈frs (envOfC qual scope s.heap.objs.size f aS::outer):=λb hb=>by
  unfold frs at hb ⊢;rw[tM];exact r9 _ hb
 refine⟨e,cls,H',rfl,⟨F.os.trans I.os,F.bare,⟨λb o q n hb _=> ?_,λb o q n hb _=> ?_,λb o q n _=> ?_,λb o q _=> ?_,λb xs q=>un.tups b xs (I.base.tups b xs q),λb o xs q=>un.frzs b o xs (I.base.frzs b o xs q),λb ps q=> ?_⟩,hok,
  ⟨B,t,x1,λb o q hb e1=> ?_,cov'.2⟩,?_,F.free,λo q=> ?_⟩,hE⟩
 .exact un.keep b o (I.base.keep b o q n hb (g9 b)) (I.base.free b o q n (g9 b)) (m7 b o q hb) (by simp)
 .obtain⟨sl,e1⟩:=I.base.slot b o q n hb (g9 b);obtain⟨hZ,e2⟩:=un.slot b _ e1 (I.base.free b o q n (g9 b)) (sub b hb) (by simp);exact⟨hZ,e2⟩
 .obtain⟨o1,e1⟩:=I.base.there b o q (g9 b);exact un.free b o1 e1 (I.base.free b o q n (g9 b)) (by simp)
 .obtain⟨o1,e1⟩:=I.base.there b o q (g9 b);exact un.there b o1 e1 (by simp)
 .obtain⟨m1,e1⟩:=I.base.tbls b ps q;obtain⟨m2,e2⟩:=un.tbls b _ e1;exact⟨m1++m2,by rw[e2,uW]⟩
 .obtain⟨o0,q⟩:=q;obtain⟨o1,q1⟩:=I.base.there b o0 q (g9 b);exact cov'.1 b o ⟨o1,q1⟩ (m7 b o0 q hb) e1
 .cases q:s.heap.get? e with
  |none=>rfl
  |some o=>
   obtain⟨o',q'⟩:=I.base.there e o q (g9 e);have:=F.new;rw[q'] at this;cases this
 .obtain⟨ob,mU,_⟩:=fl.there;exact (kd.at mU q).1.trans (F.nd ob mU)
end
structure zpP (K:qP) (mg:Str->Option Value) (x:Str) (C:Addr) (pW:List Value) (newId:String):Prop where
 mg:mg x=some (.ref C)
 qd:PySem.W.excIn K C pW newId=true
theorem wX {P:Program} {w:World} {X:Cx}:UA (CXE P w) X E0:=λ_ _ _ _ _ _ _ ⟨_,_,_,_,_,h⟩=>h.elim
abbrev TEx:=St->Hp->VK->(Value->Hp->Prop)->Prop
abbrev TAx:=St->Hp->(List V->Hp->Prop)->(Value->Hp->Prop)->Prop
noncomputable abbrev TSx:=zac->(Value->Hp->Prop)->St->Hp->Prop
section
variable {X:Cx} {e:Expr} {es:List Expr} {te:TE}
end
noncomputable def znz (e:Addr) (cls:Value):HO:= .ext λh=>∃ob,h.get? e=some ob/\ob.cls=cls/\ob.dict=none/\∃vs,ob.data= .fields vs
noncomputable abbrev Cx.hand (X:Cx) (e:Addr):Cx:={X with A:=X.A.mark (some (.ref e)),calm:=false,xe:=λ_ _=>False}
section
variable {X:Cx} {pins:List (Addr×Obj)} {σ:St} {H:Hp} {s:Shared}
end
open PySem.Builtin.Int (intBits)
def zmN (i j:Int):Prop:=∃m n:Nat,intBits i<=m/\intBits j<=n/\m+n<=134217728
def zja (i j:Int):Prop:=j≠0/\intBits j<=9000
section
variable {X:Cx}
theorem xQ:OpR X (binaryOp .Mult) (rI zmN λi j=> .int (i*j)):=opI λ_ _ _ _ _ _ _ hc q=>by
 obtain⟨m,n,h1,h2,h3⟩:=hc;exact mul_int q (IntMulOk.of_le h1 h2 h3)
theorem zeM:OpR X (binaryOp .FloorDiv) (rI zja λi j=> .int (i.fdiv j)):=opI λi j _ _ _ _ _ hc q=>floordiv_int hc.1 q (.inl (PyProof.noPylong_of_log2 (by
 have h:=uJ.mp hc.2;by_cases z:j.natAbs=0
 .rw[z];decide
 .exact (Nat.log2_lt z).mpr h)))
noncomputable def znA (lo st:Int) (n:Nat):It:=⟨λi _=>i<n,λi H x H'=>H'=H/\x= .int (lo+i*st),λi _=>n<=i⟩
theorem zeN {P:Program} {w:World} {K:qP} {tg:Expr} (it:Addr) (lo sp:Int) (n:Nat):ziK P w K tg (znA lo sp n) [it] it (λi h=>IsRangeIter h it (lo+(i:Nat)*sp) ((n:Int)-(i:Nat)) sp) where
 mem:=by simp
 obj:=λi h st b hb=>by
  have e:b=it:=by simpa using hb
  subst e
  exact⟨_,st,λv z=>by
   have z':Data.fields _=Data.cell v:=z
   cases z'⟩
 keep:=λi h h' st k=>k it (by simp) _ st
 item:=by
  intro X hP hw hK hc i pins s σ H E I hf st hg;subst hP hw hK;obtain⟨f0,f1,f2,f3,f4,f5⟩:=hf it (by simp);have W:=Walks.range (prog:=X.prog) (w:=X.w) (I.ok.hd hc) it lo sp n;refine W.item i s _ _ hg st λv h' tk hv st' kk=> ?_;obtain⟨t,rfl⟩:=hv;have I1:Inv X pins σ H {s with heap:=h',toks:=tk}:=I.turned (λb o hb e=>kk b o (by simpa using hb) e) f0 f1 f3 f4 f5;exact⟨_,rfl,zgO (s:={s with heap:=h',toks:=tk}) (n:="range_iterator") st' rfl rfl ∅ ⟨.int _,H,I1,⟨t,rfl⟩,⟨rfl,rfl⟩,st',λb hb=>(hf b hb).1⟩⟩
 done:=by
  intro X hP hw hK hc i pins s σ H E I hf st hg;subst hP hw hK;obtain⟨f0,f1,f2,f3,f4,f5⟩:=hf it (by simp);exact wpAny_pyNext_range_end (I.ok.hd hc) st (by have:n<=i:=hg;omega) λh' eb=>⟨rfl,I.turned (t':=s.toks) (λb o hb e=>eb b o hb e) f0 f1 f3 f4 f5⟩
 self:=λ_ _ _ _ _ st h=>wpAny_pyIter_rangeiter st h
end
section
variable {prog:Program} {w:World} {A:Around} {E:Value->Shared->Prop} {s:Shared} {K:qP} {x D:Addr} {ox:Obj}
theorem zdI {M:Model} {nameV:Value} {Q:Unit->Shared->Prop} (X:K.In s.heap) (I:uR s.heap x ox D none) (be:tX K D (.type "BaseException")=some true) (hq:Q () s):
  wpAny M A (checkBuiltinCall "BaseException.__getattribute__" ⟨[.ref x,nameV],[]⟩) Q E s:=by
 obtain⟨hh,g,d,t,os⟩:=s;have hk:builtinKind "BaseException.__getattribute__"=some .slot:=by decide+kernel
 have hsplit:splitId "BaseException.__getattribute__"=some ("BaseException","__getattribute__"):=by decide+kernel
 have L0:=I.type (M:=M);have L1:=PySem.W.looks_mroIn (M:=M) X be;have ha:=F.args_bexc_ga (.ref x) nameV;simp only[checkBuiltinCall,hk,hsplit];refine wpAny_bind ?_;unfold isInstance;refine wpAny_bind (L0.at (L1.at ?_))
 repeat (first|wp_step)
 exact hq
theorem zh0 {Q:Option Value->Shared->Prop} (X:K.In s.heap) (I:uR s.heap x ox D none) (ga:rF K (.ref D) "__getattribute__"=some (some (.builtin "BaseException.__getattribute__"))) (noga:rF K (.ref D) "__getattr__"=some none)
  (be:tX K D (.type "BaseException")=some true) (hf:z5 K D none "__class__"=some (.bind (.builtin "getset_descriptor.__get__") (.builtin "object.__class__"))) (hm:tX K D (.type "object")=some true)
  (h:Q (some (.ref D)) {s with toks:=s.toks+1}):wpAny (model prog w) A (getAttr? (.ref x) "__class__") Q E s:=by
 obtain⟨hh,g,d,t,os⟩:=s;have L0:=I.type (M:=model prog w);have L1:=uI (M:=model prog w) X ga;have L2:=uI (M:=model prog w) X noga;have L3:=PySem.W.looks_find (M:=model prog w) X I hf;have hb:=F.attrBase_ValueError.ga.bind (.ref x);unfold getAttr? getAttrBy? getAttrBy;refine wpAny_bind (wpAny_mkText (wpAny_bind (wpAny_attempt (wpAny_holding (wpAny_bind (L0.at (wpAny_bind (L1.at ?_))))))));dsimp only;rw[if_neg (show ¬(onTheHeap (Value.ref D)&&(Value.builtin "BaseException.__getattribute__"==Value.builtin "object.__getattribute__"))=true by rw[show (Value.builtin "BaseException.__getattribute__"==Value.builtin "object.__getattribute__")=false by decide+kernel];simp)];unfold getAttrByItsOwn hookBefore;refine wpAny_bind ?_;show wpAny _ _ (typeLookup (.ref D) "__getattr__") _ _ _;refine L2.at ?_;refine wpAny_bind (wpAny_attempt (wpAny_holding ?_));unfold callGetattribute boundAndCalled;rw[if_neg ∅,hb];refine wpAny_bind (wpAny_pure ?_);dsimp only;refine wpAny_call (codeAny_call_builtin F.attrBase_ValueError.ga.plain F.entry_bexc_ga (zdI (ox:=ox) X I be ?_));unfold Builtin.«object.__getattribute__»;refine wpAny_bind (wpAny_of_eq (show slotArgs "__getattribute__" 1 {pos:=[Value.ref x]++[Value.str (Str.ofString "__class__") t]}=pure (.ref x,[Value.str (Str.ofString "__class__") t]) from rfl) ?_);dsimp only;refine wpAny_bind (wpAny_of_eq (show Builtin.ObjectAttr.attrName (Value.str (Str.ofString "__class__") t)=pure (Str.ofString "__class__") from rfl) ?_);refine wpAny_bind (L0.at (wpAny_bind (L3.at ?_)));dsimp only;show wpAny _ _ (do ret (<-holding [Value.builtin "object.__class__"] (call (.builtin "getset_descriptor.__get__") [.builtin "object.__class__",.ref x,.ref D]))) _ _ _;refine wpAny_bind (wpAny_holding (wpAny_call (PySem.W.class_get (ox:=ox) (od:=none) X I hm ?_)));exact wpAny_pure (PySem.W.handed_on rfl (wpAny_pure h))
end
section
variable {X:Cx}
structure zmO (K:qP) (D:Addr):Prop where
 ga:rF K (.ref D) "__getattribute__"=some (some (.builtin "BaseException.__getattribute__"))
 noga:rF K (.ref D) "__getattr__"=some none
 be:tX K D (.type "BaseException")=some true
 hc:(Ae K D).isSome=true
 ha:rF K (.ref D) "__class__"=some (some (.builtin "object.__class__"))
 hn:w6 K (.builtin "object.__class__") "__get__"=some (some (.builtin "getset_descriptor.__get__"))
 htk:AJ K (.builtin "object.__class__")=some true
 hm:tX K D (.type "object")=some true
theorem zjb {K:qP} {x D:Addr} (e:zmO K D):Bg K (.ref x) (.ref D) (λh=>∃ox,uR h x ox D none) where
 ty:=λ_ _ _ ⟨_,I⟩=>I.type
 it:=λ_ _ X _=>by
  obtain⟨cd,cQ⟩:=sD.mp e.hc;unfold Ae at cQ;split at cQ
  .rename_i ho;intro A' Q' E' s' k q;unfold isType loadHead;exact wpAny_bind (wpAny_loadPart (k _ _ (X _ _ ho)) (wpAny_pure q))
  .cases cQ
 ne:=λh tp dd ak n sl X oC=>by
  obtain⟨cd,cQ⟩:=sD.mp e.hc;refine Aw.mpr λq=> ?_;have z:D=tp:=Value.ref.inj (beq_iff_eq.mp q);subst z;unfold Ae at cQ;split at cQ
  .rename_i ho;have y:=(X _ _ ho).symm.trans oC;cases y
  .cases cQ
 ca:=λ{_ _ _ _ _ s} X I k=>by
  obtain⟨ox,I⟩:=I;obtain⟨cd,cQ⟩:=sD.mp e.hc;have hf:z5 K D none "__class__"=some (.bind (.builtin "getset_descriptor.__get__") (.builtin "object.__class__")):=by
   unfold z5;rw[cQ,r0,e.ha,r0];simp[e.hn,e.htk]
  exact zh0 X I e.ga e.noga e.be hf e.hm k
inductive TyX (K:qP) (H:Hp):V->Value->Prop where
 |of {x:V} {t:Value} (h:zaI K H x t):TyX K H x t
 |exc {e D:Addr} (h:H e=some (znz e (.ref D))) (k:zmO K D):TyX K H (.ref e) (.ref D)
 |sqt {a:Addr} {xs:List V} (h:SqT K H a xs):TyX K H (.ref a) (.type "tuple")
 |sql {a:Addr} {xs:List V} (h:SqL K H a xs):TyX K H (.ref a) (.type "list")
theorem TyX.kit {pins:List (Addr×Obj)} {σ:St} {H:Hp} {s:Shared} {x:V} {u t:Value} (I:Inv X pins σ H s) (rx:yn x u) (ty:TyX X.K H x t):∃Hh,Bg X.K u t Hh/\Hh s.heap:=by
 cases ty with
 |of ty=>
  cases ty with
  |non=>cases (show u=Value.none from rx);exact⟨_,PySem.W.kitx_none,sL⟩
  |bl y=>cases (show u=Value.bool y from rx);exact⟨_,PySem.W.kitx_bool,sL⟩
  |int i=>obtain⟨t,q⟩:=(show ∃t,u=Value.int i t from rx);cases q;exact⟨_,PySem.W.kitx_int,sL⟩
  |str y=>obtain⟨t,q⟩:=(show ∃t,u=Value.str y t from rx);cases q;exact⟨_,PySem.W.kitx_str,sL⟩
  |flt y=>obtain⟨t,q⟩:=(show ∃t,u=Value.float y t from rx);cases q;exact⟨_,PySem.W.kitx_float,sL⟩
  | @lst a xs ea=>
   cases (show u=Value.ref a from rx);obtain⟨_,_,n,_,h1⟩:=(show xE X.prog X.w H s.heap a (.lst xs) from I.hok a _ ea);exact⟨_,w9,⟨_,h1,rfl⟩⟩
  | @frz a ob xs ea=>
   cases (show u=Value.ref a from rx);obtain⟨_,_,_,n,_,h1⟩:=(show xE X.prog X.w H s.heap a (.frz ob (.lst xs)) from I.hok a _ ea);exact⟨_,w9,⟨_,h1,rfl⟩⟩
  | @tup a xs ea=>
   cases (show u=Value.ref a from rx);obtain⟨_,_,_,p⟩:=(show xE X.prog X.w H s.heap a (.tup xs) from I.hok a _ ea);obtain⟨o,h1,h2,_⟩:=p;exact⟨_,Ap,⟨o,h1,h2⟩⟩
  | @dK a ah ea=>
   cases (show u=Value.ref a from rx);obtain⟨_,_,vs,_,p⟩:=(show xE X.prog X.w H s.heap a (.dK ah) from I.hok a _ ea);obtain⟨o,es,ep,h1,h2,_⟩:=p;exact⟨_,Ax,⟨o,h1,h2.1⟩⟩
  | @dT a ah ea=>
   cases (show u=Value.ref a from rx);obtain⟨_,_,xs,_,o,es,ep,h1,h2,_⟩:=(show xE X.prog X.w H s.heap a (.dT ah) from I.hok a _ ea);exact⟨_,Ax,⟨o,h1,h2.1⟩⟩
  | @ins a C dx fs ea cl ha hn htk hm=>
   cases (show u=Value.ref a from rx);obtain⟨mA,O,_⟩:=zaV I.hok ea;obtain⟨od,J,_⟩:=O.look;exact⟨_,PySem.W.kitx_own (cl.get _) cl.hd ha hn htk hm,J⟩
 | @sqt a xs h=>
  cases (show u=Value.ref a from rx);obtain⟨ak,_,⟨o,h1,h2,_⟩,_⟩:=I.tuple h;exact⟨_,Ap,⟨o,h1,h2⟩⟩
 | @sql a xs h=>
  cases (show u=Value.ref a from rx);obtain⟨ak,_,⟨o,n,h1,h2,_⟩,_⟩:=I.list h;exact⟨_,w9,⟨o,h1,h2⟩⟩
 | @exc e D h k=>
  cases (show u=Value.ref e from rx);obtain⟨⟨ob,h1,h2,h3,vs,h4⟩,_⟩:=(show xE X.prog X.w H s.heap e (znz e (.ref D)) from I.hok e _ h);refine⟨_,zjb k,ob,h1,h2,?_,?_⟩
  .unfold PySem.W.notCls;rw[h4]
  .rw[h3];trivial
noncomputable def zoW:V->Option Value
 | .ref a=>some (.ref a)
 | .ty n=>some (.type n)
 |_=>none
theorem zjc {c:V} {cv u:Value} (h:zoW c=some cv) (r:yn c u):u=cv:=by
 cases c with
 |ref a=>cases h;exact r
 |ty n=>cases h;exact r
 |_=>cases h
theorem yn.nb {x:V} {u:Value} (r:yn x u):u≠ .builtin "__main__.__loader__#opaque":=by
 cases x with
 |non=>rintro rfl;cases r
 |bl b=>rintro rfl;cases r
 |int i=>rintro rfl;obtain⟨_,q⟩:=r;cases q
 |str i=>rintro rfl;obtain⟨_,q⟩:=r;cases q
 |byt i=>rintro rfl;obtain⟨_,q⟩:=r;cases q
 |flt i=>rintro rfl;obtain⟨_,q⟩:=r;cases q
 |ref a=>rintro rfl;cases r
 |ty a=>rintro rfl;cases r
def zlk (K:qP):List V->Hp->VK->Prop:=λxs H Q=>∃x c cv t b,xs=[x,c]/\zoW c=some cv/\TyX K H x t/\se K t cv=some b/\Q (.bl b) H
theorem zjd:Xo X (.builtin "isinstance") (zlk X.K):=by
 intro pins s σ H xs us Q I r h;obtain⟨x,c,cv,t,b,rfl,hc,ty,e,q⟩:=h;obtain⟨u,w',rfl,ru,rw'⟩:=zmE r;obtain rfl:=zjc hc rw';obtain⟨Hh,Z,p⟩:=ty.kit I ru;exact PySem.W.kia_one Z I.kIn p e ru.nb λtk=>⟨.bl b,H,I.tok tk,rfl,q⟩
end
theorem Vu {K:qP} {t:Value}:se K t t=some true:=by unfold se;rw[if_pos (by simp)]
theorem zdJ {K:qP}:se K (.type "bool") (.type "int")=some true:=by
 have h:(fastBuiltinMro "bool").map (·.contains (.type "int"))=some true:=by decide+kernel
 have hm:tG "int"=true:=by decide+kernel
 unfold se A4;rw[if_neg ∅];show (if tG "int"=true then v3 K (.type "bool") (.type "int") else none)=_;rw[if_pos hm];exact h
theorem zdK {K:qP}:se K (.type "int") (.type "bool")=some false:=by
 have h:(fastBuiltinMro "int").map (·.contains (.type "bool"))=some false:=by decide+kernel
 have hm:tG "bool"=true:=by decide+kernel
 unfold se A4;rw[if_neg ∅];show (if tG "bool"=true then v3 K (.type "int") (.type "bool") else none)=_;rw[if_pos hm];exact h
end L2
namespace L2
open PySem PySem.Spec PyProof.Rows
inductive D where
 |non|bl (b:Bool)|int (i:Int)|str (x:Str)|tup (l:List D)|lst (l:List D)|ins (C:Addr) (ns:List Str) (l:List D)
mutual
inductive Is (K:qP) (H:Hp):V->D->Prop where
 |non:Is K H .non .non
 |bl (b:Bool):Is K H (.bl b) (.bl b)
 |int (i:Int):Is K H (.int i) (.int i)
 |str (x:Str):Is K H (.str x) (.str x)
 |tup {a:Addr} {xs:List V} {ds:List D}:SqT K H a xs->IsL K H xs ds->Is K H (.ref a) (.tup ds)
 |lst {a:Addr} {xs:List V} {ds:List D}:SqL K H a xs->IsL K H xs ds->Is K H (.ref a) (.lst ds)
 |ins {a C dx:Addr} {ns:List Str} {xs:List V} {ds:List D}:H a=some (.ins C dx (ns.zip xs))->ns.length=xs.length->IsL K H xs ds->Is K H (.ref a) (.ins C ns ds)
inductive IsL (K:qP) (H:Hp):List V->List D->Prop where
 |nil:IsL K H [] []
 |cons {v:V} {d:D} {vs:List V} {ds:List D}:Is K H v d->IsL K H vs ds->IsL K H (v::vs) (d::ds)
end
theorem Zi {H:Hp} {p:Addr} {o:HO} (h:H p=none):Wh H (upd H p o):=λb u e=>by rw[zO (ZD e h)];exact e
theorem IsL.len {K:qP} {H:Hp}:∀{vs:List V} {ds:List D},IsL K H vs ds->vs.length=ds.length
 |_,_,.nil=>rfl
 |_,_,.cons _ l=>by rw[ra,ra,l.len]
theorem IsL.get {K:qP} {H:Hp}:∀{vs:List V} {ds:List D} {i:Nat} {d:D},IsL K H vs ds->ds[i]? =some d->∃v,vs[i]? =some v/\Is K H v d
 |_,_,_,_,.nil,e=>by simp at e
 |_,_,0,_,.cons h _,e=>by simp at e;subst e;exact⟨_,rfl,h⟩
 |_,_,i+1,d,.cons _ l,e=>by
  obtain⟨v,e1,e2⟩:=l.get (i:=i) (d:=d) (by simpa using e);exact⟨v,by simpa using e1,e2⟩
theorem Is.int_inv {K:qP} {H:Hp} {v:V} {i:Int} (h:Is K H v (.int i)):v= .int i:=by cases h;rfl
theorem Is.bl_inv {K:qP} {H:Hp} {v:V} {b:Bool} (h:Is K H v (.bl b)):v= .bl b:=by cases h;rfl
theorem Is.str_inv {K:qP} {H:Hp} {v:V} {b:Str} (h:Is K H v (.str b)):v= .str b:=by cases h;rfl
theorem Is.non_inv {K:qP} {H:Hp} {v:V} (h:Is K H v .non):v= .non:=by cases h;rfl
theorem Is.tup_inv {K:qP} {H:Hp} {v:V} {ds:List D} (h:Is K H v (.tup ds)):∃a xs,v= .ref a/\SqT K H a xs/\IsL K H xs ds:=by cases h with|tup a b=>exact⟨_,_,rfl,a,b⟩
theorem Is.lst_inv {K:qP} {H:Hp} {v:V} {ds:List D} (h:Is K H v (.lst ds)):∃a xs,v= .ref a/\SqL K H a xs/\IsL K H xs ds:=by cases h with|lst a b=>exact⟨_,_,rfl,a,b⟩
noncomputable abbrev dQ (a b:Int):D:= .tup [.int a,.int b]
section
variable {σ:St} {H:Hp} {Q:VK} {ta tb tc:TE} {D':zac} {v:V} {i:Nat}
end
local macro_rules | `(tactic| walk_at "rd") => `(tactic| repeat (first | refine mo ?_ | refine mF ?_ | refine jr ?_ | refine ml rfl ?_ | refine qe ?_ | refine o5 ?_ | refine o7 ?_ | refine qf ?_ | refine nY ?_ | refine mE ?_ | refine qh ?_ | refine qg ?_ | refine o6 ?_ | refine mw ?_ | refine mG ?_ | refine nZ ?_ | refine kr ?_ | refine mv ?_ | refine ki ?_ | refine mD ?_ | refine kj ?_ | refine km ?_ | refine mq ?_ | refine kg ?_ | refine mC ?_ | refine mz ?_ | refine ko ?_ | refine kq ?_ | refine o8 ?_ | refine mn ?_ | refine mB ?_ | refine mr ?_ | refine kh ?_ | refine jq ?_))
end L2
namespace L2
open PySem PySem.Spec PyProof.Rows
section
variable {σ:St} {H:Hp} {Q:VK} {D':zac} {E:XK}
end
theorem Fun.okE {P:Program} {w:World} {K:qP} {mg:Str->Option Value} {base:Heap} {x qual:Str} {st:Stmt} {f:Addr} {fd:FuncData} {N ps:List Str} {k:Nat} {sp:Sp} (F:Fun K x qual st f fd) (S:zE N ps (zi st)) (len:∀vs H Q E,sp vs H Q E->vs.length=ps.length)
  (d4:∀(aS:Value) (A:Around) (outer:List Env) (s:Shared) (H:Hp) (vs:List V) (Q:VK) (E:XK),wG k (A.deeper (envOfC qual (zi st) s.heap.objs.size f aS))->sp vs H Q E->
   ∃t,PSs (zco (CXE P w) P w K mg base N qual (zi st) f aS A outer s H E) (ZO st) t/\t {nx:=λ_ H'=>Q .non H',rt:=Q} (Xp N vs) H):yD P w K mg base (CXE P w) (k+1) f fd ps sp:=by
 obtain⟨oc,od,kV,doc,pm,an,aS,ct,eP,rfl,lk,cQ⟩:=F.ex;exact zoQ lk cQ S len λA outer s H vs Q E hr fV=>d4 aS A outer s H vs Q E hr fV
section
variable {σ:St} {H:Hp} {Q:VK} {D':zac} {E:XK} {EX:Value->Hp->Prop}
end
section
variable {X:Cx} {K:qP}
theorem zj (h:X.K=K:=by rfl):IxR X (zle K):=h ▸ ziY
theorem zt (h:X.K=K:=by rfl):IxR X (zld K):=h ▸ zgW
theorem wk (h:X.K=K:=by rfl):Xo X (.builtin "isinstance") (zlk K):=h ▸ zjd
theorem ym (h:X.K=K:=by rfl):Xo X (.builtin "len") (λxs H Q=>∃p ys,xs=[.ref p]/\(SqL K H p ys\/SqT K H p ys)/\Q (.int ys.length) H):=h ▸ zdE
theorem Xr (h:X.K=K:=by rfl):Xo X (.type "tuple") (λxs H Q=>∃p ys,xs=[.ref p]/\((SqL K H p ys/\∀l,H l=none->Q (.ref l) (upd H l (.tup ys)))\/(SqT K H p ys/\Q (.ref p) H))):=h ▸ zcr
theorem zh1 (h:X.K=K:=by rfl):OpR X (compareOp .NotIn) (rIn K true):=h ▸ zdD
theorem zeO (h:X.K=K:=by rfl):SlR X (zi0 K):=h ▸ zlf
variable {tg l:Expr} {tl:TE}
theorem wm (hl:PE X l tl) (h:X.K=K:=by rfl):PI X tg l (ziL K tl):=h ▸ zk5 hl
theorem WC (hl:PE X l tl) (h:X.K=K:=by rfl):PI X tg l (znj K tl):=h ▸ znk hl
theorem yL {sc:Scope}:Zh X sc [] []:=trivial
theorem yM {sc:Scope} {r:List (Option Nat)} {n:List Str} {x:Str} (h:Zh X sc r n):Zh X sc (none::r) (x::n):=h
theorem zT {sc:Scope} {r:List (Option Nat)} {n:List Str} {x:Str} {i:Nat} (h1:X.N[i]? =some x) (h2:sc.names.lookup x=some .free) (h:Zh X sc r n):Zh X sc (some i::r) (x::n):=⟨⟨h1,h2⟩,h⟩
end
noncomputable def zje (osc sc:Scope):Bool:=sc.names.all (λy=>y.2 != .cell)&&sc.kind== .function&&sc.names.all (λy=>y.2 != .local||sc.names.lookup y.1==some .local)&&
 sc.names.all (λy=>y.2 != .free||(osc.names.lookup y.1==some .cell||osc.names.lookup y.1==some .free))
theorem blk {X:Cx} {osc sc:Scope} (hs:X.env.scope=osc) (h:zje osc sc=true):Wz X sc:=by
 unfold zje at h;simp only[rV,sr,bne_iff_ne,ne_eq,beq_iff_eq,uK] at h;obtain⟨⟨⟨h1,h2⟩,h3⟩,h4⟩:=h;refine⟨h1,h2,λy hy e=>(h3 y hy).resolve_left λz=>z e,λy hy e=> ?_⟩;show X.env.scope.names.lookup y.1=_\/X.env.scope.names.lookup y.1=_;rw[hs];exact (h4 y hy).resolve_left λz=>z e
section
variable {g:TG} {tb:TS} {σ:St} {H:Hp} {nx:St->Hp->Prop} {rt:VK}
end
mutual
noncomputable def D.depth:D->Nat
 | .tup l=>D.depths l+1
 | .lst l=>D.depths l+1
 | .ins _ _ _=>1000
 |_=>0
noncomputable def D.depths:List D->Nat
 |[]=>0
 |d::r=>max (D.depth d) (D.depths r)
end
section
variable {X:Cx} {pins:List (Addr×Obj)} {σ:St} {H:Hp} {s:Shared}
end
section
variable {σ:St} {H:Hp} {Q:VK} {D':zac} {cap:List (Option Nat)} {wi:TI} {g:TG} {tt:TT} {te:TE}
variable {acc:Addr} {H0:Hp} {Qh:Hp->Prop}
end
section
variable {X:Cx}
end
section
variable {X:Cx} {pins:List (Addr×Obj)} {σ:List (Option V)} {H H':Hp} {s:Shared} {h':Heap}
end
section
variable {X:Cx}
end
structure ZA (z TI TO i1 i2:Addr):Prop where
 TIz:TI≠z
 TOz:TO≠z
 i1z:i1≠z
 i2z:i2≠z
 TITO:TI≠TO
 TIi1:TI≠i1
 TIi2:TI≠i2
 TOi1:TO≠i1
 TOi2:TO≠i2
 i12:i1≠i2
section
variable {X:Cx}
end
section
variable {σ:St} {H:Hp} {cap:List (Option Nat)} {g:TG} {tt:TT} {te:TE} {acc:Addr} {H0:Hp} {Qh:Hp->Prop}
structure zpU (J:It) (n:Nat) (f:Nat->Option (V×V)) (ok:Hp->Prop):Prop where
 go:∀i H,ok H->i<n->J.go i H
 stop:∀H,ok H->J.stop n H
 yld:∀i H x H',ok H->i<n->J.yld i H x H'->∃p u v,x= .ref p/\H p=none/\H'=upd H p (.tup [u,v])/\f i=some (u,v)
end
section
variable {σ:St} {H:Hp} {Q:VK} {D':zac}
end
section
variable {σ:St} {H:Hp} {Q:VK}
end
open Classical in
noncomputable def frG (H H':Hp):Hp:=λb=>match H' b with
 |some (.lst xs)=>if H b=none then some (.lst xs) else none
 |o=>o
def Dom (H H':Hp):Prop:=∀b,H' b=none->H b=none
structure Acc (K:qP) (H0:Hp) (acc:Addr) (ys:List V) (ds:List D) (H:Hp):Prop where
 at_:H acc=some (.lst ys)
 new:IsL K (frG (upd H0 acc (.lst [])) H) ys ds
 same:Wh H0 H
 dom:Dom (upd H0 acc (.lst [])) H
section
variable {X:Cx}
end
section
variable {σ:St} {H:Hp} {Q:VK}
end
section
variable {σ:St} {H:Hp} {v:V}
end
end L2
namespace L2
open PySem PySem.Spec PyProof.Rows PyProof
section
variable {X:Cx}
def zjf:V->List V->Hp->VK->Prop:=λx vs H Q=>∃(l:Addr) (xs:List V) (y:V) (j:Nat),x= .ref l/\vs=[y]/\H l=some (.lst xs)/\Wg y=true/\xs.all Wg=true/\(∃z,xs[j]? =some z/\eqV z y=true)/\(∀m z,m<j->xs[m]? =some z->eqV z y=false)/\Q (.int (j:Int)) H
theorem zjg:MtM X "list.index" zjf:=by
 intro pins s σ H x vs v us Q I rx rv h;obtain⟨l,xs,y,j,rfl,rfl,hH,fy,fs,⟨z,iJ,kx⟩,iS,q⟩:=h;cases rx;obtain⟨u,rfl,ru⟩:=rv.one;obtain⟨zl,ak,n,r,hl,e⟩:=I.lstM hH;have hn:=Uy;have hj:j<xs.length:=(qO.1 iJ).1;have fl:∀(m:Nat) (w:V),xs[m]? =some w->Wg w=true:=λm w hw=>sr.1 fs w (qS hw);have at_:∀(m:Nat) (w:V) (hm:m<ak.toArray.size),xs[m]? =some w->eqU y ak.toArray[m]=eqV w y:=λm w hm hw=>by
  obtain⟨c,hc,rc⟩:=r.get hw;have e1:ak.toArray[m]=c:=by
   have e2:ak[m]? =some ak[m]:=qN (by simpa using hm);rw[hc] at e2;simpa using (rp e2).symm
  rw[e1];exact zfX rc (fl m w hw)
 refine call_meets F.slot_list_index ⟨_,e,rfl⟩ F.entry_list_index (F.args_list_index_2 _ _) (SeqAt.list_indexAt l ak.toArray n none #[] u (eqU y) j (by rw[qZ];omega) ⋯ ?_ ?_) ⟨e,λc hc=>UW ru fy r fs c (by simpa using hc),?_⟩
 .rw[at_ j z (by rw[qZ];omega) iJ];exact kx
 .intro m hm di;have bX:m<xs.length:=by omega
  rw[at_ m xs[m] hm (qN bX)];exact iS m xs[m] di (qN bX)
 .exact⟨.int j,H,I.tok _,⟨_,rfl⟩,q⟩
def zll:V->Option Int->Option Int->Hp->VK->Prop:=λx lo hi H Q=>∃z,x= .str z/\z.length<=sizeLine/\Q (.str (Txt.slice z lo hi)) H
theorem zf1:SlR X zll:=by
 intro pins s σ H x v vl vu lo hi sl Q I rx hs pl pu h;obtain⟨z,rfl,hz,q⟩:=h;obtain⟨t,rfl⟩:=rx;refine⟨"str",_,F.slot_str_getitem.lookup,typeIs_str _ _ _,?_⟩;obtain⟨l,kY,fm⟩:∃l:Option (Int×Tok),vl=partValue l/\l.map (·.1)=lo:=by
  cases pl with
  |none=>exact⟨none,rfl,rfl⟩
  |int i t=>exact⟨some (i,t),rfl,rfl⟩
 obtain⟨u,oA,oz⟩:∃l:Option (Int×Tok),vu=partValue l/\l.map (·.1)=hi:=by
  cases pu with
  |none=>exact⟨none,rfl,rfl⟩
  |int i t=>exact⟨some (i,t),rfl,rfl⟩
 subst kY oA fm oz;exact wpAny_getItem_str_slice (l:=l) (u:=u) (st:=none) hs rfl (post_val_or_str ⟨rk (Txt.slice_le z _ _) hz,λt' k=>⟨.str _,H,I.tok _,⟨_,rfl⟩,q⟩⟩)
theorem znB {K:qP} {a b:String} (h1:(Value.type a==Value.type b)=false) (h:(fastBuiltinMro a).map (·.contains (.type b))=some false) (hm:tG b=true) (hs:v3 K (.type a) (.type b)=(fastBuiltinMro a).map (·.contains (.type b))):se K (.type a) (.type b)=some false:=by
 unfold se A4;rw[if_neg (by rw[h1];decide)];show (if tG b=true then v3 K (.type a) (.type b) else none)=_;rw[if_pos hm,hs,h]
end
end L2
namespace L2
open PySem PySem.Spec PyProof.Rows
open AutoSeq1 (wpAny_loadPart')
section
variable {prog:Program} {w:World} {A:Around} {E:Value->Shared->Prop} {s:Shared}
end
section
variable {X:Cx}
end
end L2
namespace L2
open PySem PySem.Spec PyProof.Rows
section
variable {prog:Program} {w:World} {A:Around} {E:Value->Shared->Prop} {s:Shared}
noncomputable abbrev zT1 (h:Heap) (l1:Addr):Heap:=h.push {cls:= .type "tuple_iterator",data:= .fields #[.ref l1,.int 0 0]}
noncomputable abbrev zT2 (h:Heap) (l1 l2:Addr):Heap:=(zT1 h l1).push {cls:= .type "tuple_iterator",data:= .fields #[.ref l2,.int 0 0]}
noncomputable abbrev zT3 (h:Heap) (l1 l2:Addr):Heap:=(zT2 h l1 l2).push {cls:= .type "tuple",data:= .seq #[.ref h.objs.size,.ref (zT1 h l1).objs.size]}
noncomputable abbrev zT4 (h:Heap) (l1 l2:Addr):Heap:=(zT3 h l1 l2).push {cls:= .type "tuple",data:= .seq #[.none,.none]}
noncomputable abbrev zT5 (h:Heap) (l1 l2:Addr):Heap:=(zT4 h l1 l2).push {cls:= .type "zip",data:= .fields #[.none,.bool false,.bool false,.ref (zT2 h l1 l2).objs.size,.ref (zT3 h l1 l2).objs.size]}
end
section
variable {X:Cx}
end
mutual
def D.small (n:Nat):D->Prop
 | .int i=>i.natAbs<2^n
 | .tup l=>D.smalls n l
 | .lst l=>D.smalls n l
 | .non=>True
 | .bl _=>True
 | .str _=>False
 | .ins _ _ _=>False
def D.smalls (n:Nat):List D->Prop
 |[]=>True
 |d::r=>D.small n d/\D.smalls n r
end
mutual
noncomputable def D.wt (n:Nat):D->Nat
 | .tup l=>D.wts n l
 | .lst l=>D.wts n l
 | .int _=>n
 |_=>0
noncomputable def D.wts (n:Nat):List D->Nat
 |[]=>0
 |d::r=>D.wt n d+1+D.wts n r
end
section
variable {X:Cx} {pins:List (Addr×Obj)} {σ:St} {H:Hp} {s:Shared}
end
structure zpQ (n:Nat) (d:D):Prop where
 seq:∃l,d= .tup l\/d= .lst l
 small:D.small n d
 n0:8<=n
 n1:n<=1900
 deep:D.depth d<=40
 size:(n+3)*D.wt n d+n+1<=16777216
section
variable {X:Cx}
end
noncomputable abbrev zoX (t:Addr) (i:Int):Obj:={cls:= .type "reversed",data:= .fields #[.ref t,rawInt i]}
noncomputable abbrev zpZ (h:Heap) (a t:Addr) (i:Int):Prop:=h.get? a=some (zoX t i)
section
variable {prog:Program} {w:World} {A:Around} {E:Value->Shared->Prop} {s:Shared}
end
section
variable {X:Cx} {tg:Expr}
def zmP (K:qP):R2:=λx y H Q=>∃a b xs ys,x= .ref a/\y= .ref b/\SqT K H a xs/\SqT K H b ys/\xs.length+ys.length<=sizeLine/\(xs=[]->Q (.ref b) H)/\(xs≠[]->ys=[]->Q (.ref a) H)/\(xs≠[]->ys≠[]->∀p,H p=none->Q (.ref p) (upd H p (.tup (xs++ys))))
theorem WD {K:qP} (hK:X.K=K:=by rfl):OpR X (binaryOp .Add) (zmP K):=by
 subst hK;intro pins s σ H x y v u Q I rx ry h;obtain⟨a,b,xs,ys,e1,e2,ha,hb,hz,q1,q2,q3⟩:=h;by_cases hx:xs=[]
 .subst e1 e2;cases rx;cases ry;obtain⟨ak,r1,p1,_⟩:=I.tuple ha;obtain⟨bz,r2,p2,_⟩:=I.tuple hb;obtain⟨⟨cls,dd,data,sl⟩,ho,hc,n,hd⟩:=id p1;obtain⟨⟨lR,jN,data2,hZ⟩,gP,eL,n2,hd2⟩:=id p2;simp only at hc hd eL hd2;subst hc hd eL hd2;exact concat_meets ⟨_,ho,rfl⟩ ⟨_,gP,rfl⟩ noFill_tuple_add seq_tuple_add uw ui (uf _ _) (tuple_addW0 a b ak.toArray bz.toArray n n2 dd jN sl hZ (by have:=r1.nil_iff.mpr hx;simp[this])) ⟨ho,gP,⟨.ref b,H,I,rfl,q1 hx⟩⟩
 .exact zlb pins s σ H x y v u Q I rx ry ⟨a,b,xs,ys,e1,e2,ha,hb,hx,hz,q2 hx,q3 hx⟩
end
end L2
namespace L2
open PySem PySem.Spec PyProof.Rows PyProof
section
variable {X:Cx}
end
end L2
namespace L2
open PySem PySem.Spec PyProof.Rows
section
variable {X:Cx}
def zoY (K:qP):List V->Hp->VK->Prop:=λxs H Q=>∃(p:Addr) (bs:List Bool),xs=[.ref p]/\SqL K H p (bs.map V.bl)/\Q (.bl (bs.any id)) H
def zoZ (K:qP):List V->Hp->VK->Prop:=λxs H Q=>∃(p:Addr) (bs:List Bool),xs=[.ref p]/\SqL K H p (bs.map V.bl)/\Q (.bl (bs.all id)) H
theorem zh2:∀(bs:List Bool),(sC bs.length).any (λi=>bs.getD i false)=bs.any id:=λbs=>by
 rw[sJ,y4,y4];constructor
 .rintro⟨i,hi,h⟩;have hi:=t8.1 hi;rw[rT,qN hi,tj] at h;exact⟨_,rq hi,h⟩
 .rintro⟨b,hb,h⟩;obtain⟨i,hi,e⟩:=A9.1 hb;refine⟨i,t8.2 hi,?_⟩;rw[rT,qN hi,tj,e];exact h
theorem zh3:∀(bs:List Bool),(sC bs.length).all (λi=>bs.getD i false)=bs.all id:=λbs=>by
 rw[sJ,sr,sr];constructor
 .intro h b hb;obtain⟨i,hi,e⟩:=A9.1 hb;have:=h i (t8.2 hi);rw[rT,qN hi,tj,e] at this;exact this
 .intro h i hi;have hi:=t8.1 hi;rw[rT,qN hi,tj];exact h _ (rq hi)
theorem zbp {pins:List (Addr×Obj)} {σ:St} {H:Hp} {s:Shared} {p:Addr} {bs:List Bool} (hc:X.calm=true) (I:Inv X pins σ H s) (hq:SqL X.K H p (bs.map V.bl)) {R:Value->Shared->Prop}
  (k:∀Ia fp wr G n P St tr (s₂:Shared),WalksS X.prog X.w X.A.in1 Ia fp wr G n P St->St 0 s₂->TruthOf X.prog X.w X.A.in1 P tr->n=bs.length->(tr=λi=>bs.getD i false)->(∀s',Moved wr G s₂ s'->Inv X pins σ H s')->R (.ref Ia) s₂):
  wpAny (model X.prog X.w) X.A.in1 (pyIter (.ref p)) R X.xe s:=by
 obtain⟨ak,rv,pl,hz⟩:=I.list hq;have lt:p<s.heap.objs.size:=by
  obtain⟨o,n,e,_⟩:=id pl;exact Heap.lt_size e
 have hl:=rv.length;rw[qV] at hl;refine wpAny_pyIter_list pl.isList ?_;have W:=(Walks.list (prog:=X.prog) (w:=X.w) (A:=X.A.in1) (I.ok.hd hc) s.heap.objs.size p (rA lt) ak.toArray).toS;refine k s.heap.objs.size _ _ _ _ _ _ (λi=>bs.getD i false) _ W ?_ ?_ ?_ rfl ?_
 .exact⟨⟨_,Heap.get?_push_size _ rfl,rfl,rfl⟩,Heap.IsList.push pl.isList _⟩
 .intro i v s Q E hv hQ;have hv:ak[i]? =some v:=by simpa using hv
  have hi:i<bs.length:=by rw[hl];exact (qO.1 hv).1
  obtain⟨u,hu,ru⟩:=rv.get (i:=i) (x:=V.bl bs[i]) (by rw[qY,qN hi];rfl);have e0:u=v:=by
   rw[hu] at hv;exact rp hv
  have ru:u=Value.bool bs[i]:=ru;rw[<-e0,ru];refine wpAny_truthy_bool ?_;have e:bs.getD i false=bs[i]:=by rw[rT,qN hi,tj]
  rw[<-e];exact hQ
 .rw[qZ,<-hl]
 .intro s' m
  have I1:Inv X pins σ H {s with heap:=s'.heap,toks:=s'.toks}:=I.kept λb o e=>m.heap b o (λz=>by
   have z:b=s.heap.objs.size:=by simpa using z
   exact absurd (Heap.lt_size e) (by rw[z];exact sZ _)) (Heap.get?_push_of_some _ e)
  have e:({s with heap:=s'.heap,toks:=s'.toks}:Shared)=s':=by
   have h1:=m.gens;have h2:=m.drawn;have h3:=m.os;cases s';simp only at h1 h2 h3;subst h1 h2 h3;rfl
  rw[e] at I1;exact I1
theorem zc3 {K:qP} (hc:X.calm=true) (hK:X.K=K:=by rfl):Xo X (.builtin "any") (zoY K):=by
 subst hK;intro pins s σ H xs us Q I r h;obtain⟨p,bs,rfl,hq,q⟩:=h;obtain⟨u,rfl,ru⟩:=UT r;cases ru;refine call_any_walkS (zbp hc I hq λIa fp wr G n P St tr s₂ W h0 ht hn fj hm=>⟨Ia,fp,wr,G,n,P,St,tr,rfl,W,h0,ht,λs' m=>⟨.bl _,H,hm s' m,rfl,?_⟩⟩);rw[hn,fj,zh2];exact q
theorem Wi {K:qP} (hc:X.calm=true) (hK:X.K=K:=by rfl):Xo X (.builtin "all") (zoZ K):=by
 subst hK;intro pins s σ H xs us Q I r h;obtain⟨p,bs,rfl,hq,q⟩:=h;obtain⟨u,rfl,ru⟩:=UT r;cases ru;refine call_all_walkS (zbp hc I hq λIa fp wr G n P St tr s₂ W h0 ht hn fj hm=>⟨Ia,fp,wr,G,n,P,St,tr,rfl,W,h0,ht,λs' m=>⟨.bl _,H,hm s' m,rfl,?_⟩⟩);rw[hn,fj,zh3];exact q
theorem Inv.lstR {pins:List (Addr×Obj)} {σ:St} {H:Hp} {s:Shared} {l:Addr} {xs:List V} (I:Inv X pins σ H s) (hH:SqX X.K H l xs):xs.length<=sizeLine/\∃(ak:List Value) (n:Nat),yr xs ak/\xs.length=ak.length/\s.heap.get? l=some {cls:= .type "list",data:= .seq ak.toArray n}:=by
 rcases hH with hH|⟨ak,n,hk,hz,r⟩
 .obtain⟨z,ak,n,r,e⟩:=hH.ok I.hok;exact⟨z,ak,n,r,r.length,e⟩
 .have hl:=r.length;have fm:ak.toList.length=ak.size:=u6;exact⟨⋯,ak.toList,n,r,r.length,I.kIn l _ hk⟩
def zmQ (K:qP):R2:=λx y H Q=>∃l b xs zs,x= .ref l/\y= .ref b/\SqX K H l xs/\SqX K H b zs/\xs.length+zs.length<=sizeLine/\∀p,H p=none->Q (.ref p) (upd H p (.lst (xs++zs)))
theorem zlm {K:qP} (hK:X.K=K:=by rfl):OpR X (binaryOp .Add) (zmQ K):=by
 subst hK;intro pins s σ H x y v u Q I rx ry h;obtain⟨l,b,xs,zs,rfl,rfl,hH,hB,hz,q⟩:=h;cases rx;cases ry;obtain⟨z,ak,n,r,hl,e⟩:=I.lstR hH;obtain⟨z2,bz,n2,r2,fm,e2⟩:=I.lstR hB;refine PySem.P.add_list e e2 ?_ (by rw[qZ,qZ];omega);have ea:ak.toArray++bz.toArray=(ak++bz).toArray:=by simp
 rw[ea];exact⟨.ref _,_,I.lnew (t':=s.toks) (r.append r2) (by rw[rd];omega),rfl,q _ I.fresh⟩
theorem zh4 (l:Addr) (items:Array Value) (n:Nat) (b:Addr) (ob:Obj) (T:String) (cD:Array Value) (n2:Nat) (hT:T="list"\/T="tuple") (oM:(!items.isEmpty&&Builtin.List.listTooLong (items.size+cD.size))=false) (fL:items.size<=sizeLine) (iN:items.size+cD.size<=sizeLine):
  Meets (Builtin.«list.extend» ⟨[.ref l,.ref b],[]⟩) (λ_ R s=>s.heap.get? l=some {cls:= .type "list",dict:=none,data:= .seq items n,slots:= #[]}/\s.heap.get? b=some ob/\ob.cls= .type T/\ob.data= .seq cD n2/\R (.ok (.ret Value.none)) {s with heap:=s.heap.update l (Obj.mapSeq λx=>x++cD),toks:=s.toks}):=by
 intro prog w A R s h;obtain⟨hl,hb,hc,hd,hR⟩:=h;show wpAny _ _ (Builtin.List.listExtendWith (.ref l) (.ref b) .none) _ _ s;unfold Builtin.List.listExtendWith;refine wpAny_bind (wpAny_typeOf (T:=T) ⟨ob,hb,hc⟩ ?_);have jc:(Builtin.List.listSameRef (.ref l) (.ref b)||Value.type T==Value.type "list"||Value.type T==Value.type "tuple")=true:=by
  rcases hT with rfl|rfl<;>simp
 rw[if_pos jc];refine wpAny_bind ?_;unfold Builtin.List.listItems;refine wpAny_bind (wpAny_seqItems hb hd (wpAny_pure ?_));refine wpAny_bind ?_;refine wpAny_bind (wpAny_seqItems hl rfl (wpAny_pure ?_));rw[if_neg (by rw[oM];exact rl)];have o9:(items++cD).size<=sizeLine+1:=by rw[Array.size_append];omega
 refine wpAny_bind (m:=Builtin.List.listUpdate (.ref l) (· ++cD)) ?_;show wpAny _ _ (updateSeq l (λx=>x++cD)) _ _ s;refine wpAny_updateSeq hl rfl (hz:=fL) (_hz':=o9) ?_;exact wpAny_pure hR
def zeP (K:qP):V->List V->Hp->VK->Prop:=λx vs H Q=>∃l b xs zs,x= .ref l/\vs=[.ref b]/\H l=some (.lst xs)/\(SqX K H b zs\/SqT K H b zs)/\xs.length+zs.length<=sizeLine/\Q .non (upd H l (.lst (xs++zs)))
theorem zf2 {K:qP} (hK:X.K=K:=by rfl):MtR X "list.extend" (zeP K):=by
 subst hK;intro pins s σ H x vs v us Q I rx rv h;obtain⟨l,b,xs,zs,rfl,rfl,hH,hB,hz,q⟩:=h;cases rx;obtain⟨u,rfl,ru⟩:=rv.one;cases ru;obtain⟨z,ak,n,r,hl,e⟩:=I.lstM hH;have key:∀{bz:List Value} {ob:Obj} {T:String} {n2:Nat},yr zs bz->(T="list"\/T="tuple")->s.heap.get? b=some ob->ob.cls= .type T->ob.data= .seq bz.toArray n2->
   wpAny (model X.prog X.w) X.A (call (.builtin "list.extend") [.ref l,.ref b]) (EP X pins σ Q) X.xe s:=by
  intro bz ob T n2 r2 hT hb hc hd;have fm:=r2.length;have hsz:ak.toArray.size+bz.toArray.size<=sizeLine:=by rw[qZ,qZ];omega
  refine call_meets F.slot_list_extend ⟨_,e,rfl⟩ F.entry_list_extend (F.args_list_extend_2 _ _)
   (zh4 l ak.toArray n b ob T bz.toArray n2 hT (by rw[zi2 hsz,Bool.and_false]) (by rw[qZ];omega) hsz) ⟨e,hb,hc,hd,?_⟩
  refine⟨.non,_,I.lset (its':=ak++bz) hH e (by simp) (r.append r2) ?_,rfl,q⟩;rw[rd];omega
 rcases hB with hB|hB
 .obtain⟨z2,bz,n2,r2,fm,e2⟩:=I.lstR hB;exact key r2 (.inl rfl) e2 rfl rfl
 .obtain⟨bz,r2,⟨ob,hb,hc,n2,hd⟩,_⟩:=I.tuple hB;exact key r2 (.inr rfl) hb hc hd
end
theorem zh5:typeLookup (.type "list_reverseiterator") "__len__"=pure none:=by rw[typeLookup_type,builtinLookup_eq_fast];kernel_rfl
theorem zjh:typeLookup (.type "list_reverseiterator") "__length_hint__"=pure (some (.builtin "list_reverseiterator.__length_hint__")):=by rw[typeLookup_type,builtinLookup_eq_fast];kernel_rfl
section
variable {prog:Program} {w:World} {A:Around} {E:Value->Shared->Prop} {s:Shared}
theorem zf3 {R:Result->Shared->Prop} (hh:A.handled=none) {it l:Addr} {items:Array Value} (hn:items.size<=sizeLine) (S:Addr) (res:Value) (c₀:Nat) (hS:s.heap.get? S=some {cls:= .type "list",data:= .seq #[] c₀})
  (hit:s.heap.IsRevIter it l ((items.size:Int)-1)) (hl:s.heap.IsList l items) (eI:l≠it) (ni:S≠it) (pI:S≠l)
  (hR:∀h' tk acc' c',(∀b o,b≠S->b≠it->s.heap.get? b=some o->h'.get? b=some o)->h'.get? S=some {cls:= .type "list",dict:=none,data:= .seq acc' c',slots:= #[]}->
   ItemsOf (λi v=>items[items.size-1-i]? =some v) acc' items.size->R (.ok (.ret res)) {s with heap:=h',toks:=tk}):
  wpAny (model prog w) A.in1 (Builtin.List.listExtendWith (.ref S) (.ref it) res)
   (λfin s'=>match fin with| .done f=>R (.ok f) s'| .again c'=>c'.quiet=true/\codeAny (model prog w) A c' R s') (λe s'=>R (.error e) s') s:=by
 have pJ:S∉[it,l]:=λhm=>by
  rcases rQ.mp hm with e|hm
  .exact ni e
  .exact pI (tD.mp hm)
 have W:=(Walks.listRev (prog:=prog) (w:=w) (A:=A.in1) hh it l eI items).toS;have eQ:0<=items.size/\s.heap.IsRevIter it l ((items.size:Int)-1-((0:Nat):Int))/\s.heap.IsList l items:=⟨tI _,by simpa using hit,hl⟩;unfold Builtin.List.listExtendWith;refine wpAny_bind (wpAny_typeOf (T:="list_reverseiterator") hit.typeIs ?_);have h1:Builtin.List.listSameRef (.ref S) (.ref it)=false:=by simp[Builtin.List.listSameRef,ni]
 rw[if_neg (by rw[h1];decide)];refine wpAny_bind (wpAny_pyIter_revIter hit ?_);refine wpAny_bind (wpAny_holding ?_);unfold Builtin.List.listLengthHint;refine wpAny_bind (wpAny_specialOf hit.typeIs zh5 ?_);show wpAny _ A.in1 (specialOf (Value.ref it) (Str.ofString "__length_hint__")>>=_) _ _ _;refine wpAny_bind (wpAny_specialOf hit.typeIs zjh ?_)
 (generalize lr:("list_reverseiterator.__length_hint__":String)=mj;(fail_if_success (clear lr mj));wp_delta;rw[show splitId mj=some ("list_reverseiterator","__length_hint__") from by subst lr;decide+kernel];subst lr)
 refine wpAny_bind (wpAny_isInstance (b:=true) hit.typeIs (by rw[isSubtype_type];kernel_rfl) ?_);refine wpAny_pure ?_;rw[if_neg ∅];refine wpAny_pure ⟨plainId_quiet F.plain_extend_loop _,codeAny_extend_loopS W hn _ pJ _ items.size 0 _ _ _ rfl (tI _) eQ hS (ItemsOf.nil _) λs' acc' c' hm jg cE=> ?_⟩;rw[Moved.eq_with hm];refine hR s'.heap s'.toks acc' c' (λb ob hb je e=>hm.heap b ob (λgS=> ?_) e) jg cE;rcases rQ.mp gS with e'|gS
 .exact hb e'
 .exact je (tD.mp gS)
theorem zcv {Q:Value->Shared->Prop} (hh:A.handled=none) {it l:Addr} {items:Array Value} (hn:items.size<=sizeLine) (hit:s.heap.IsRevIter it l ((items.size:Int)-1)) (hl:s.heap.IsList l items) (eI:l≠it)
  (hQ:∀h' tk acc' c',(∀b o,b≠it->s.heap.get? b=some o->h'.get? b=some o)->
   h'.get? s.heap.objs.size=some {cls:= .type "list",dict:=none,data:= .seq acc' c',slots:= #[]}->ItemsOf (λi v=>items[items.size-1-i]? =some v) acc' items.size->Q (.ref s.heap.objs.size) {s with heap:=h',toks:=tk}):
  wpAny (model prog w) A (call (.type "list") [.ref it]) Q E s:=by
 refine callType_codes (Q₁:=λobj s₁=>obj= .ref s.heap.objs.size/\s₁={s with heap:=s.heap.push {cls:= .type "list",data:= .seq #[]}}) F.called_list (F.typeCall_list_1 _) F.entry_list_init
  (code_list_new _ ⟨rfl,rfl⟩) λobj s₁ h₁=> ?_
 obtain⟨rfl,rfl⟩:=h₁;have hS:(s.heap.push {cls:= .type "list",data:= .seq #[]}).get? s.heap.objs.size=some {cls:= .type "list",data:= .seq #[]}:=Heap.get?_push_size _ rfl;refine⟨⟨_,hS,rfl⟩,F.args_list_init_2 _ _,?_⟩;show wpAny _ _ (do let old <-Builtin.List.listItems (.ref s.heap.objs.size);Builtin.List.listUpdate (.ref s.heap.objs.size) (λ_=> #[]);letGo old.toList.reverse;Builtin.List.listExtendWith (.ref s.heap.objs.size) (.ref it) .none) _ _ _;refine wpAny_bind ?_;unfold Builtin.List.listItems;refine wpAny_bind (wpAny_seqItems hS rfl (wpAny_pure ?_));show wpAny _ _ (updateSeq s.heap.objs.size (λ_=> #[])>>=λ_=>letGo (#[]:Array Value).toList.reverse>>=λ_=>Builtin.List.listExtendWith (.ref s.heap.objs.size) (.ref it) .none) _ _ _;refine wpAny_bind (wpAny_updateSeq hS rfl ?_);have pH:=Heap.get?_update_self (Obj.mapSeq (λ_=>(#[]:Array Value))) hS rfl;have ltI:it<s.heap.objs.size:=let ⟨_,ho,_⟩:=hit;Heap.lt_size ho;have nQ:l<s.heap.objs.size:=let ⟨_,ho,_⟩:=hl;Heap.lt_size ho;have nM:∀b o,b≠s.heap.objs.size->(s.heap.push {cls:= .type "list",data:= .seq #[]}).get? b=some o->((s.heap.push {cls:= .type "list",data:= .seq #[]}).update s.heap.objs.size (Obj.mapSeq (λ_=>(#[]:Array Value)))).get? b=some o:=
  λb o hb e=>(Heap.get?_update_other _ _ (sY hb)).trans e
 have old:∀b o,s.heap.get? b=some o->((s.heap.push {cls:= .type "list",data:= .seq #[]}).update s.heap.objs.size (Obj.mapSeq (λ_=>(#[]:Array Value)))).get? b=some o:=
  λb o e=>nM b o (rA (Heap.lt_size e)) (Heap.get?_push_of_some _ e)
 refine wpAny_bind (wpAny_letGo ?_);refine zf3 (A:=A.in1) (items:=items) hh hn s.heap.objs.size .none _ pH (hit.at λo e=>old _ o e) (hl.at λo e=>old _ o e) eI (sY (rA ltI)) (sY (rA nQ)) λh' tk acc' c' hk jg cE=> ?_;exact⟨rfl,hQ h' tk acc' c' (λb o hb e=>hk b o (rA (Heap.lt_size e)) hb (old b o e)) jg cE⟩
end
section
variable {X:Cx}
def zeQ (K:qP) (te:TE):TE:=λσ H Q=>te σ H λx H1=>∃p ys,x= .ref p/\SqX K H1 p ys/\∀l,H1 l=none->Q (.ref l) (upd H1 l (.lst ys.reverse))
theorem zf4 {K:qP} {e:Expr} {te:TE} {p p2 pos f9:Pos} (hc:X.calm=true) (hg:Gl X "list") (hm:X.mg "list"=none) (ph:Gl X "reversed") (kT:X.mg "reversed"=none) (ha:PE X e te) (hK:X.K=K:=by rfl)
  (n9:starEach [e] X.env=[(false,eval e X.env)]:=by rfl) (he:starEach [.Call (.Name "reversed" p2) [e] [] f9] X.env=[(false,eval (.Call (.Name "reversed" p2) [e] [] f9) X.env)]:=by rfl):
  PE X (.Call (.Name "list" p) [.Call (.Name "reversed" p2) [e] [] f9] [] pos) (zeQ K te):=by
 subst hK;intro pins s σ H Q I h;refine wpAny_Call_Name_kw (Ux I hg hm boot_list ?_ ∅ ∅);refine sP ?_ he rfl;rw[he];show wpAny _ _ (spliced ((false,eval (.Call (.Name "reversed" p2) [e] [] f9) X.env)::backTo pos [])) _ _ s;refine Calls.spliced_cons ?_;refine wpAny_Call_Name_kw (Ux I ph kT Boot.«reversed» ?_ ∅ ∅);refine sP ?_ n9 rfl;refine thn (zR ha ze n9 f9 pins s σ H (λvs H1=>∃p ys,vs=[.ref p]/\SqX X.K H1 p ys/\∀l,H1 l=none->Q (.ref l) (upd H1 l (.lst ys.reverse))) I ?_) λus s1 ⟨vs,H1,I1,r1,q1⟩=> ?_
 .have h:te σ H λx H1=>∃p ys,x= .ref p/\SqX X.K H1 p ys/\∀l,H1 l=none->Q (.ref l) (upd H1 l (.lst ys.reverse)):=h;show te σ H λx H1=>∃p ys,[x]=[V.ref p]/\SqX X.K H1 p ys/\∀l,H1 l=none->Q (.ref l) (upd H1 l (.lst ys.reverse));have e:(λ(x:V) (H1:Hp)=>∃p ys,[x]=[V.ref p]/\SqX X.K H1 p ys/\∀l,H1 l=none->Q (.ref l) (upd H1 l (.lst ys.reverse)))=λx H1=>∃p ys,x= .ref p/\SqX X.K H1 p ys/\∀l,H1 l=none->Q (.ref l) (upd H1 l (.lst ys.reverse)):=by
   funext x H1;simp
  rw[e];exact h
 obtain⟨p,ys,rfl,hq,q⟩:=q1;obtain⟨u,rfl,ru⟩:=UT r1;cases ru;obtain⟨z,ak,n,r,hl,e1⟩:=I1.lstR hq;have hL:s1.heap.IsList p ak.toArray:=⟨_,e1,rfl,n,rfl⟩;have nO:p<s1.heap.objs.size:=Heap.lt_size e1;refine call_reversed_list hL ?_;refine Calls.spliced_nil ?_;refine zcv (items:=ak.toArray) (I1.ok.hd hc) (by rw[qZ];omega) ⟨_,Heap.get?_push_size _ rfl,rfl,rfl⟩ (hL.push _) (rA nO) λh' tk acc' c' hk jg cE=> ?_;have kept:∀b o,s1.heap.get? b=some o->h'.get? b=some o:=λb o e=>hk b o (rA (Heap.lt_size e)) (Heap.get?_push_of_some _ e);have hsz:s1.heap.objs.size<=(s1.heap.push (revObj p ((ak.toArray.size:Int)-1))).objs.size:=by rw[Heap.size_push];exact ur _
 have ha:acc'.toList=ak.reverse:=by
  obtain⟨a1,a2⟩:=cE;refine tQ λi=> ?_;by_cases hi:i<ak.length
  .have gX:i<acc'.size:=by rw[a1,qZ];exact hi
   have e3:acc'.toList[i]? =some acc'[i]:=by simp[gX]
   have e4:=a2 i acc'[i] (by simp[gX]);rw[e3,List.getElem?_reverse hi,<-e4];simp
  .rw[r6 (by simp[a1];omega),r6 (by simp;omega)]
 have hv:yr ys.reverse ak.reverse:=r.reverse;refine⟨.ref _,_,I1.laid (o:= .lst ys.reverse) (t':=tk) kept hsz ⟨by rw[Ah];exact z,ak.reverse,c',hv,?_⟩,rfl,q _ (I1.hok.fresh hsz)⟩;rw[jg,<-ha]
end
end L2
namespace HT
open PySem PyProof.Rows
section
variable {prog:Program} {w:World} {A:Around} {E:Value->Shared->Prop} {s:Shared}
theorem Uf {t sl:Addr} {items:Array Value} {vl vu:Value} {lo hi:Option Int} {Q:Value->Shared->Prop} (ht:IsTup s.heap t items) (hs:s.heap.IsSliceOf sl vl vu .none) (pl:IsPart vl lo) (pu:IsPart vu hi)
  (hw:sIx items.size 0 lo=0/\sIx items.size items.size hi=items.size) (h:Q (.ref t) s):wpAny (model prog w) A (getItem (.ref t) (.ref sl)) Q E s:=by
 obtain⟨os,gM,fw,j8⟩:=id hs;have lI:s.TypeIs (.ref sl) "slice":=⟨os,gM,fw⟩;unfold getItem
 try with_reducible refine wpAny_holding ?_
 first|refine wpAny_bind (wpAny_pure ?_)|skip
 refine wpAny_bind (wpAny_sequenceKey ht.typeIs ∅ ?_)
 refine wpAny_bind (wpAny_callSpecial?_slot (name:=Str.ofString "__getitem__") ht.typeIs sx
  (wpAny_call_entry sx ht.typeIs entry_tuple_getitem ?_ (args_tuple_getitem _ _)))
 show wpAny _ _ (Builtin.Tuple.tupleItemsOf (.ref t)>>=_) _ _ s;refine wpAny_bind (tupleItemsOf_ ht ?_);refine wpAny_bind (wpAny_typeOf lI ?_);rw[if_pos ∅];refine wpAny_bind (Wf hs pl pu ?_);have ky:((((sIx items.size 0 lo:Nat):Int)==0&&(1:Int)==1&&(sIx items.size items.size hi-sIx items.size 0 lo)==items.size)=true):=by
  rw[hw.1,hw.2];simp
 show wpAny _ _ (if (((sIx items.size 0 lo:Nat):Int)==0&&(1:Int)==1&&(sIx items.size items.size hi-sIx items.size 0 lo)==items.size)=true then _ else _) _ _ s;rw[if_pos ky];refine wpAny_bind ?_;unfold Builtin.Tuple.tupleIsExact;refine wpAny_bind (wpAny_typeOf ht.typeIs ?_);refine wpAny_pure ?_;rw[if_pos ∅];refine wpAny_bind (wpAny_rule ?_);exact wpAny_pure ⟨_,rfl,wpAny_pure h⟩
end
end HT
namespace L2
open PySem PySem.Spec PyProof.Rows
section
variable {X:Cx}
def zln (K:qP):V->Option Int->Option Int->Hp->VK->Prop:=λx lo hi H Q=>∃a xs,x= .ref a/\SqT K H a xs/\
 (HT.sIx xs.length 0 lo=0/\HT.sIx xs.length xs.length hi=xs.length->Q (.ref a) H)/\(¬(HT.sIx xs.length 0 lo=0/\HT.sIx xs.length xs.length hi=xs.length)->∀p,H p=none->Q (.ref p) (upd H p (.tup (zcp xs lo hi))))
theorem zdL {K:qP} (hK:X.K=K:=by rfl):SlR X (zln K):=by
 subst hK;intro pins s σ H x v vl vu lo hi sl Q I rx hs pl pu h;obtain⟨a,xs,rfl,hx,q1,q2⟩:=h;by_cases hw:HT.sIx xs.length 0 lo=0/\HT.sIx xs.length xs.length hi=xs.length
 .cases rx;obtain⟨ak,r,ht,hz⟩:=I.tuple hx;have hlen:ak.toArray.size=xs.length:=by rw[qZ];exact r.length.symm
  refine⟨"tuple",_,sx.lookup,ht.typeIs,?_⟩;exact HT.Uf ht hs pl pu (by rw[hlen];exact hw) ⟨.ref a,H,I,rfl,q1 hw⟩
 .exact znr pins s σ H (.ref a) v vl vu lo hi sl Q I rx hs pl pu ⟨a,xs,rfl,hx,hw,q2 hw⟩
section
variable {X:Cx} {tg:Expr}
end
end
section
variable {env:Env} {r:List Expr}
theorem zji {a b c}:starEach (.Tuple a b c::r) env=(false,eval (.Tuple a b c) env)::starEach r env:=by rw[starEach];simp
theorem zlo {a b}:starEach (.List a b::r) env=(false,eval (.List a b) env)::starEach r env:=by rw[starEach];simp
theorem zeR {a b c}:starEach (.Constant a b c::r) env=(false,eval (.Constant a b c) env)::starEach r env:=by rw[starEach];simp
theorem zlp {a b}:starEach (.Name a b::r) env=(false,eval (.Name a b) env)::starEach r env:=by rw[starEach];simp
theorem zdM {a b c}:starEach (.Subscript a b c::r) env=(false,eval (.Subscript a b c) env)::starEach r env:=by rw[starEach];simp
theorem zjj {a b c d}:starEach (.BinOp a b c d::r) env=(false,eval (.BinOp a b c d) env)::starEach r env:=by rw[starEach];simp
theorem zf5 {a b c}:starEach (.UnaryOp a b c::r) env=(false,eval (.UnaryOp a b c) env)::starEach r env:=by rw[starEach];simp
theorem zf6 {a b c d}:starEach (.Compare a b c d::r) env=(false,eval (.Compare a b c d) env)::starEach r env:=by rw[starEach];simp
theorem zlq {a b c d}:starEach (.Call a b c d::r) env=(false,eval (.Call a b c d) env)::starEach r env:=by rw[starEach];simp
theorem zdN {a b c}:starEach (.Attribute a b c::r) env=(false,eval (.Attribute a b c) env)::starEach r env:=by rw[starEach];simp
end
end L2
namespace L2
open PySem PySem.Spec PyProof.Rows PySem.Builtin
section
variable {X:Cx}
end
end L2
namespace L2
open PySem PySem.Spec PyProof.Rows PySem.Calls
section
variable {X:Cx}
end
section
variable {prog:Program} {w:World} {A:Around} {E:Value->Shared->Prop} {s:Shared} {T:String} {r d:Addr} {n:Nat} {P:Nat->Value->Prop} {OK:Heap->Prop} {Q:Value->Shared->Prop}
end
section
variable {X:Cx}
end
section
variable {prog:Program} {w:World} {A:Around} {E:Value->Shared->Prop} {s:Shared} {T:String} {r d:Addr} {n:Nat} {P:Nat->Value->Prop} {OK:Heap->Prop} {Q:Value->Shared->Prop}
end
section
variable {X:Cx}
end
end L2
namespace L2
open PySem
structure Ug where
 C:Option Str
 m:Str
 d:Str
structure xR where
 id:Nat
 par:Arguments
 body:uL
 sc:Scope
 t:Ug
 fr:List Str
noncomputable def Ug.q (t:Ug):Str:=(t.d++".<locals>.")++"<lambda>"
noncomputable abbrev xR.q (L:xR):Str:=L.t.q
noncomputable def zjk (K:qP):Option Str->Str->Option Addr
 |none,m=>(match rz K mainGlobals m with
  |some (some (.ref f))=>some f
  |_=>none)
 |some C,m=>(match rz K mainGlobals C with
  |some (some (.ref g))=>(match rF K (.ref g) m with
   |some (some (.ref f))=>some f
   |_=>none)
  |_=>none)
noncomputable def zjl (K:qP) (f:Addr):Option (Addr×Addr):=match K.lookup f with
 |some ⟨_,_,.func fd,_⟩=>(match fd.code with
  | .ref c=>(match K.lookup c with
   |some ⟨_,_,.fields vs,_⟩=>(match (vs[11]? :Option Value) with
    |some (.ref P)=>if tV K c P then some (c,P) else none
    |_=>none)
   |_=>none)
  |_=>none)
 |_=>none
noncomputable def Yv (K:qP) (t:Ug):Option (Addr×Addr):=(zjk K t.C t.m).bind (zjl K)
inductive Xv where
 |non|bl (b:Bool)|int (i:Int)|str (x:Str)|tup (xs:List Xv)|ct (xs:List Xv)|ref (n:Nat)|lam (L:xR) (xs:List Xv)
inductive Ce where
 |lst (xs:List Xv)
 |frz (xs:List Xv)
 |dk (ah:List (Key×Xv))
 |dt (ah:List (List Key×Xv))
 |ins (nm:Str) (fs:List (Str×Xv))
 |fdk (ah:List (Key×Xv))
 |dn (ah:List (NK×Xv×Xv))
 |exc (nm:Str)
 |tab (t:Ug)
abbrev Sto:=List Ce
abbrev Rho:=List (Option Xv)
noncomputable def Ce.fz:Ce->Bool
 | .frz _=>true
 | .fdk _=>true
 | .exc _=>true
 |_=>false
noncomputable def HO.mu:HO->Bool
 | .lst _=>true
 | .dK _=>true
 | .dT _=>true
 | .dN _=>true
 | .ins _ _ _=>true
 | .set _ _=>true
 | .tbl _=>true
 |_=>false
def vw (H H':Hp):Prop:=∀b u,H b=some u->u.mu=false->H' b=some u
theorem vw.refl (H:Hp):vw H H:=λ_ _ e _=>e
theorem vw.trans {H H1 H2:Hp} (a:vw H H1) (b:vw H1 H2):vw H H2:=λx u e m=>b x u (a x u e m) m
theorem vw.same {H H':Hp} (S:Wh H H'):vw H H':=λb u e _=>S b u e
structure Ext (j:List Addr) (H:Hp) (j':List Addr) (H':Hp):Prop where
 pre:∀(n:Nat) a,j[n]? =some a->j'[n]? =some a
 imm:vw H H'
theorem Ext.refl {j:List Addr} {H:Hp}:Ext j H j H:=⟨λ_ _ e=>e,vw.refl _⟩
theorem Ext.trans {j j1 j2:List Addr} {H H1 H2:Hp} (a:Ext j H j1 H1) (b:Ext j1 H1 j2 H2):Ext j H j2 H2:=⟨λn x e=>b.pre n x (a.pre n x e),a.imm.trans b.imm⟩
theorem Ext.same {j:List Addr} {H H':Hp} (S:Wh H H'):Ext j H j H':=⟨λ_ _ e=>e,vw.same S⟩
def Up (H:Hp) (q:Str) (c:Addr):Prop:=∃(oc:Obj) (fs:Array Value) (t:Tok),H c=some (.frz oc (.own 0))/\oc.data= .fields fs/\fs[1]? =some (.str q t)
structure zbq (H:Hp) (L:xR) (f:Addr) (vs:List V):Prop where
 ex:∃(b7:List (Str×Addr)) (pm cR:Value) (c:Addr),H f=some (.frz (sW "<lambda>" L.q L.par L.body L.sc b7 pm c cR) (.own 0))/\Up H L.q c/\
  (∀(i:Nat) x v,L.fr[i]? =some x->vs[i]? =some v->∃(a:Addr) (o:Obj) (u:Value),b7.lookup x=some a/\H a=some (.frz o (.own 0))/\o.data= .cell (some u)/\yn v u)/\
  (∀x y a,b7.lookup x=some a->b7.lookup y=some a->x=y)/\(∀y∈L.sc.names,y.2= .free->∃a,b7.lookup y.1=some a)/\
  ∀x a,b7.lookup x=some a->∃(o:Obj) (u:Option Value),H a=some (.frz o (.own 0))/\o.data= .cell u
theorem Up.mono {H H':Hp} {q:Str} {c:Addr} (k:vw H H') (h:Up H q c):Up H' q c:=by
 obtain⟨oc,fs,t,e,r⟩:=h;exact⟨oc,fs,t,k _ _ e rfl,r⟩
theorem zbq.mono {H H':Hp} {L:xR} {f:Addr} {vs:List V} (k:vw H H') (h:zbq H L f vs):zbq H' L f vs:=by
 obtain⟨b7,pm,cR,c,h1,h2,h3,h4,h5,h6⟩:=h.ex;refine⟨b7,pm,cR,c,k _ _ h1 rfl,h2.mono k,λi x v e1 e2=> ?_,h4,h5,λx a e=> ?_⟩
 .obtain⟨a,o,u,e3,e4,r⟩:=h3 i x v e1 e2;exact⟨a,o,u,e3,k _ _ e4 rfl,r⟩
 .obtain⟨o,u,e3,r⟩:=h6 x a e;exact⟨o,u,k _ _ e3 rfl,r⟩
mutual
inductive Xis (K:qP) (j:List Addr) (H:Hp):Xv->V->Prop where
 |non:Xis K j H .non .non
 |bl (b:Bool):Xis K j H (.bl b) (.bl b)
 |int (i:Int):Xis K j H (.int i) (.int i)
 |str (x:Str):Xis K j H (.str x) (.str x)
 |tup {a:Addr} {vs:List V} {xs:List Xv}:H a=some (.tup vs)->yu K j H xs vs->Xis K j H (.tup xs) (.ref a)
 |ct {a:Addr} {vs:List V} {xs:List Xv}:(∀H,SqT K H a vs)->yu K j H xs vs->Xis K j H (.ct xs) (.ref a)
 |ref {n:Nat} {a:Addr}:j[n]? =some a->Xis K j H (.ref n) (.ref a)
 |lam {f:Addr} {vs:List V} {L:xR} {xs:List Xv}:zbq H L f vs->yu K j H xs vs->Xis K j H (.lam L xs) (.ref f)
inductive yu (K:qP) (j:List Addr) (H:Hp):List Xv->List V->Prop where
 |nil:yu K j H [] []
 |cons {x:Xv} {v:V} {xs:List Xv} {vs:List V}:Xis K j H x v->yu K j H xs vs->yu K j H (x::xs) (v::vs)
end
mutual
theorem Xis.mono {K:qP} {j j':List Addr} {H H':Hp} (S:Ext j H j' H'):∀{x:Xv} {v:V},Xis K j H x v->Xis K j' H' x v
 |_,_,.non=> .non
 |_,_,.bl b=> .bl b
 |_,_,.int i=> .int i
 |_,_,.str x=> .str x
 |_,_,.tup h l=> .tup (S.imm _ _ h rfl) (yu.mono S l)
 |_,_,.ct h l=> .ct h (yu.mono S l)
 |_,_,.ref h=> .ref (S.pre _ _ h)
 |_,_,.lam h l=> .lam (h.mono S.imm) (yu.mono S l)
theorem yu.mono {K:qP} {j j':List Addr} {H H':Hp} (S:Ext j H j' H'):∀{xs:List Xv} {vs:List V},yu K j H xs vs->yu K j' H' xs vs
 |_,_,.nil=> .nil
 |_,_,.cons h l=> .cons (Xis.mono S h) (yu.mono S l)
end
section
variable {K:qP} {j:List Addr} {H:Hp}
theorem yu.len:∀{xs:List Xv} {vs:List V},yu K j H xs vs->vs.length=xs.length
 |_,_,.nil=>rfl
 |_,_,.cons _ l=>by rw[ra,ra,l.len]
theorem yu.get:∀{xs:List Xv} {vs:List V} {i:Nat} {x:Xv},yu K j H xs vs->xs[i]? =some x->∃v,vs[i]? =some v/\Xis K j H x v
 |_,_,_,_,.nil,e=>by simp at e
 |_,_,0,_,.cons h _,e=>by simp at e;subst e;exact⟨_,rfl,h⟩
 |_,_,i+1,x,.cons _ l,e=>by
  obtain⟨v,e1,e2⟩:=l.get (i:=i) (x:=x) (by simpa using e);exact⟨v,by simpa using e1,e2⟩
theorem yu.append:∀{xs ys:List Xv} {vs ws:List V},yu K j H xs vs->yu K j H ys ws->yu K j H (xs++ys) (vs++ws)
 |_,_,_,_,.nil,h=>h
 |_,_,_,_,.cons h l,k=> .cons h (l.append k)
theorem yu.one {v:V} {x:Xv} (h:Xis K j H x v):yu K j H [x] [v]:= .cons h .nil
theorem yu.take:∀{xs:List Xv} {vs:List V} (n:Nat),yu K j H xs vs->yu K j H (xs.take n) (vs.take n)
 |_,_,0,_=> .nil
 |_,_,_+1,.nil=> .nil
 |_,_,n+1,.cons h l=> .cons h (l.take n)
theorem yu.drop:∀{xs:List Xv} {vs:List V} (n:Nat),yu K j H xs vs->yu K j H (xs.drop n) (vs.drop n)
 |_,_,0,h=>h
 |_,_,_+1,.nil=> .nil
 |_,_,n+1,.cons h l=>l.drop n
theorem yu.ints:∀ns:List Int,yu K j H (ns.map Xv.int) (ns.map V.int)
 |[]=> .nil
 |n::r=> .cons (.int n) (yu.ints r)
theorem yu.reverse:∀{xs:List Xv} {vs:List V},yu K j H xs vs->yu K j H xs.reverse vs.reverse
 |_,_,.nil=> .nil
 |_,_,.cons h l=>by
  rw[uo,uo];exact l.reverse.append (.one h)
theorem yu.set {v:V} {x:Xv} (hv:Xis K j H x v):∀{xs:List Xv} {vs:List V} (n:Nat),yu K j H xs vs->yu K j H (xs.set n x) (vs.set n v)
 |_,_,_,.nil=> .nil
 |_,_,0,.cons _ l=> .cons hv l
 |_,_,n+1,.cons h l=> .cons h (l.set hv n)
theorem yu.dropLast {xs:List Xv} {vs:List V} (h:yu K j H xs vs):yu K j H xs.dropLast vs.dropLast:=by
 rw[A5,A5,h.len];exact h.take _
theorem yu.at_ {xs:List Xv} {vs:List V} {i:Int} {x:Xv} (h:yu K j H xs vs) (e:atI xs i=some x):∃v,atI vs i=some v/\Xis K j H x v:=by
 unfold atI at e ⊢;rw[h.len];cases e1:ixN xs.length i with
 |none=>rw[e1] at e;cases e
 |some m=>
  rw[e1] at e;obtain⟨v,e3,e4⟩:=h.get (i:=m) e;exact⟨v,e3,e4⟩
theorem Xis.int_inv {v:V} {i:Int} (h:Xis K j H (.int i) v):v= .int i:=by cases h;rfl
theorem Xis.bl_inv {v:V} {b:Bool} (h:Xis K j H (.bl b) v):v= .bl b:=by cases h;rfl
theorem Xis.str_inv {v:V} {b:Str} (h:Xis K j H (.str b) v):v= .str b:=by cases h;rfl
theorem Xis.non_inv {v:V} (h:Xis K j H .non v):v= .non:=by cases h;rfl
theorem Xis.ref_inv {v:V} {n:Nat} (h:Xis K j H (.ref n) v):∃a,v= .ref a/\j[n]? =some a:=by cases h with|ref e=>exact⟨_,rfl,e⟩
theorem Xis.tup_inv {v:V} {xs:List Xv} (h:Xis K j H (.tup xs) v):∃a vs,v= .ref a/\H a=some (.tup vs)/\yu K j H xs vs:=by cases h with|tup a b=>exact⟨_,_,rfl,a,b⟩
theorem yu.cons_inv {vs:List V} {x:Xv} {xs:List Xv} (h:yu K j H (x::xs) vs):∃v r,vs=v::r/\Xis K j H x v/\yu K j H xs r:=by cases h with|cons a b=>exact⟨_,_,rfl,a,b⟩
theorem yu.nil_inv {vs:List V} (h:yu K j H [] vs):vs=[]:=by cases h;rfl
theorem yu.d1 {vs:List V} {a:Xv} (h:yu K j H [a] vs):∃x,vs=[x]/\Xis K j H a x:=by
 obtain⟨x,r,rfl,hx,h⟩:=h.cons_inv;obtain rfl:=h.nil_inv;exact⟨x,rfl,hx⟩
theorem yu.d2 {vs:List V} {a b:Xv} (h:yu K j H [a,b] vs):∃x y,vs=[x,y]/\Xis K j H a x/\Xis K j H b y:=by
 obtain⟨x,r,rfl,hx,h⟩:=h.cons_inv;obtain⟨y,rfl,hy⟩:=h.d1;exact⟨x,y,rfl,hx,hy⟩
noncomputable def Xv.tupOf:Xv->Option (List Xv)
 | .tup xs=>some xs
 | .ct xs=>some xs
 |_=>none
theorem Xis.tupO {v:V} {x:Xv} {xs:List Xv} (h:Xis K j H x v) (e:x.tupOf=some xs):∃a vs,v= .ref a/\SqT K H a vs/\yu K j H xs vs:=by
 cases h with
 |tup h l=>simp[Xv.tupOf] at e;subst e;exact⟨_,_,rfl,SqT.of h,l⟩
 |ct h l=>simp[Xv.tupOf] at e;subst e;exact⟨_,_,rfl,h H,l⟩
 |_=>simp[Xv.tupOf] at e
end
inductive KX {κ:Type} (K:qP) (j:List Addr) (H:Hp):List (κ×Xv)->List (κ×V)->Prop where
 |nil:KX K j H [] []
 |cons {k:κ} {x:Xv} {v:V} {r:List (κ×Xv)} {rs:List (κ×V)}:Xis K j H x v->KX K j H r rs->KX K j H ((k,x)::r) ((k,v)::rs)
theorem KX.mono {κ:Type} {K:qP} {j j':List Addr} {H H':Hp} (S:Ext j H j' H'):∀{xs:List (κ×Xv)} {vs:List (κ×V)},KX K j H xs vs->KX K j' H' xs vs
 |_,_,.nil=> .nil
 |_,_,.cons h l=> .cons (h.mono S) (l.mono S)
mutual
noncomputable def Xl:Xv->Option NK
 | .int i=>some (.int i)
 | .str x=>some (.str x)
 | .tup l=>(Xs l).map .tup
 | .ct l=>(Xs l).map .tup
 | .non=>none
 | .bl _=>none
 | .ref _=>none
 | .lam _ _=>none
noncomputable def Xs:List Xv->Option (List NK)
 |[]=>some []
 |x::r=>(Xl x).bind λk=>(Xs r).map (k:: ·)
end
inductive NX (K:qP) (j:List Addr) (H:Hp):List (NK×Xv×Xv)->List (NK×Addr×V)->Prop where
 |nil:NX K j H [] []
 |cons {k:NK} {x y:Xv} {b:Addr} {v:V} {r:List (NK×Xv×Xv)} {rs:List (NK×Addr×V)}:Xl x=some k/\ZC k<=8->Xis K j H x (.ref b)->Xis K j H y v->NX K j H r rs->NX K j H ((k,x,y)::r) ((k,b,v)::rs)
theorem NX.mono {K:qP} {j j':List Addr} {H H':Hp} (S:Ext j H j' H'):∀{xs:List (NK×Xv×Xv)} {vs:List (NK×Addr×V)},NX K j H xs vs->NX K j' H' xs vs
 |_,_,.nil=> .nil
 |_,_,.cons e h1 h2 l=> .cons e (h1.mono S) (h2.mono S) (l.mono S)
def zbr (K:qP) (j:List Addr) (H:Hp) (a:Addr):Ce->Prop
 | .lst xs=>∃vs,H a=some (.lst vs)/\yu K j H xs vs
 | .frz xs=>∃vs,((∃o,H a=some (.frz o (.lst vs)))\/∀H,SqX K H a vs)/\yu K j H xs vs
 | .dk ah=>∃ks:List (Key×V),H a=some (.dK ks)/\KX K j H ah ks
 | .dt ah=>∃ks:List (List Key×V),H a=some (.dT ks)/\KX K j H ah ks
 | .ins nm fs=>∃(C dx:Addr) (vs:List (Str×V)),rz K mainGlobals nm=some (some (.ref C))/\H a=some (.ins C dx vs)/\KX K j H fs vs
 | .fdk ah=>∃(o:Obj) (ks:List (Key×V)),H a=some (.frz o (.dK ks))/\KX K j H ah ks
 | .dn ah=>∃ks:List (NK×Addr×V),H a=some (.dN ks)/\NX K j H ah ks
 | .exc nm=>∃C:Addr,rz K mainGlobals nm=some (some (.ref C))/\H a=some (znz a (.ref C))
 | .tab t=>∃(ps:Array Value) (d:Addr),H a=some (.tbl ps)/\Yv K t=some (d,a)/\TriplesOk ps.toList/\∀pos cv,codeAmong pos ps.toList=some cv->∃c,cv= .ref c/\Up H t.q c
theorem zbr.mu {K:qP} {j:List Addr} {H:Hp} {a:Addr}:∀{c:Ce},zbr K j H a c->c.fz=false->∃o,H a=some o/\o.mu=true
 | .lst _,⟨_,e,_⟩,_=>⟨_,e,rfl⟩
 | .frz _,_,z=>by cases z
 | .dk _,⟨_,e,_⟩,_=>⟨_,e,rfl⟩
 | .dt _,⟨_,e,_⟩,_=>⟨_,e,rfl⟩
 | .ins _ _,⟨_,_,_,_,e,_⟩,_=>⟨_,e,rfl⟩
 | .fdk _,_,z=>by cases z
 | .dn _,⟨_,e,_⟩,_=>⟨_,e,rfl⟩
 | .exc _,_,z=>by cases z
 | .tab _,⟨_,_,e,_⟩,_=>⟨_,e,rfl⟩
theorem zbr.mono {K:qP} {j j':List Addr} {H H':Hp} {a:Addr} (S:Ext j H j' H'):∀{c:Ce},(c.fz=false->H' a=H a)->zbr K j H a c->zbr K j' H' a c
 | .lst _,h,⟨_,e,l⟩=>⟨_,(h rfl).trans e,l.mono S⟩
 | .frz _,_,⟨_,.inl ⟨o,e⟩,l⟩=>⟨_,.inl ⟨o,S.imm _ _ e rfl⟩,l.mono S⟩
 | .frz _,_,⟨_,.inr e,l⟩=>⟨_,.inr e,l.mono S⟩
 | .dk _,h,⟨_,e,l⟩=>⟨_,(h rfl).trans e,l.mono S⟩
 | .dt _,h,⟨_,e,l⟩=>⟨_,(h rfl).trans e,l.mono S⟩
 | .ins _ _,h,⟨_,_,_,n,e,l⟩=>⟨_,_,_,n,(h rfl).trans e,l.mono S⟩
 | .fdk _,_,⟨_,_,e,l⟩=>⟨_,_,S.imm _ _ e rfl,l.mono S⟩
 | .dn _,h,⟨_,e,l⟩=>⟨_,(h rfl).trans e,l.mono S⟩
 | .exc _,_,⟨C,n,e⟩=>⟨C,n,S.imm _ _ e rfl⟩
 | .tab _,h,⟨ps,d,e,x,t,r⟩=>⟨ps,d,(h rfl).trans e,x,t,λpos cv q=>by
  obtain⟨c,e1,e2⟩:=r pos cv q
  exact⟨c,e1,e2.mono S.imm⟩⟩
structure Fm where
 H0:Hp
 j0:List Addr
 S0:Sto
structure En (K:qP) (F:Fm) (j:List Addr) (H:Hp) (σ:St) (ρ:Rho) (S:Sto):Prop where
 len:σ.length=ρ.length
 slot:∀(i:Nat) x,ρ[i]? =some (some x)->∃v,σ[i]? =some (some v)/\Xis K j H x v
 jl:j.length=S.length
 inj:∀(n m:Nat) a c d,j[n]? =some a->j[m]? =some a->S[n]? =some c->S[m]? =some d->c.fz=false->d.fz=false->n=m
 cel:∀(n:Nat) c a,S[n]? =some c->j[n]? =some a->zbr K j H a c
 ext:Ext F.j0 F.H0 j H
 old:∀(n:Nat) c,F.S0[n]? =some c->∃c',S[n]? =some c'/\(c'.fz=false->c.fz=false)/\(c.fz=true->c'=c)
 l0:F.j0.length=F.S0.length
 keep:∀b u,F.H0 b=some u->H b=some u\/∃(n:Nat) (c:Ce),F.j0[n]? =some b/\F.S0[n]? =some c/\c.fz=false
 fresh:∀(n:Nat) a,F.j0.length<=n->j[n]? =some a->F.H0 a=none
 dom:∀b,H b=none->F.H0 b=none
section
variable {K:qP} {F:Fm} {j j':List Addr} {H H':Hp} {σ σ':St} {ρ ρ':Rho} {S S':Sto} {v:V} {x:Xv} {a p:Addr} {o:HO} {i n:Nat} {c c':Ce}
theorem En.heap (E:En K F j H σ ρ S) (Sm:Wh H H'):En K F j H' σ ρ S:=by
 have X:Ext j H j H':=Ext.same Sm;refine⟨E.len,λi x e=> ?_,E.jl,E.inj,λn c a e1 e2=> ?_,E.ext.trans X,E.old,E.l0,λb u e=> ?_,E.fresh,λb e=>E.dom b ?_⟩
 .obtain⟨v,e1,e2⟩:=E.slot i x e;exact⟨v,e1,e2.mono X⟩
 .have h:=E.cel n c a e1 e2;refine h.mono X λz=> ?_;obtain⟨o,e,_⟩:=h.mu z;exact (Sm _ _ e).trans e.symm
 .rcases E.keep b u e with h|h
  .exact .inl (Sm _ _ h)
  .exact .inr h
 .cases e':H b with
  |none=>rfl
  |some u=>rw[Sm b u e'] at e;cases e
theorem En.new (E:En K F j H σ ρ S) (h:H p=none):En K F j (upd H p o) σ ρ S/\Ext j H j (upd H p o):=⟨E.heap (Zi h),Ext.same (Zi h)⟩
theorem En.cell (E:En K F j H σ ρ S) (h:H p=none) (hc:zbr K (j++[p]) (upd H p o) p c):En K F (j++[p]) (upd H p o) σ ρ (S++[c])/\Ext j H (j++[p]) (upd H p o):=by
 have X:Ext j H (j++[p]) (upd H p o):=⟨λn a e=>by rw[qR (qO.1 e).1];exact e,vw.same (Zi h)⟩;have gk:∀{n:Nat} {a:Addr},(j++[p])[n]? =some a->j[n]? =some a\/(n=j.length/\a=p):=λ{n a} e=>by
  by_cases hn:n<j.length
  .rw[qR hn] at e;exact .inl e
  .rw[qU ⋯] at e;cases hm:n-j.length with
   |zero=>rw[hm] at e;simp at e;exact .inr ⟨⋯,e.symm⟩
   |succ m=>rw[hm] at e;simp at e
 have sat:∀{n:Nat} {d:Ce},(S++[c])[n]? =some d->S[n]? =some d\/(n=S.length/\d=c):=λ{n d} e=>by
  by_cases hn:n<S.length
  .rw[qR hn] at e;exact .inl e
  .rw[qU ⋯] at e;cases hm:n-S.length with
   |zero=>rw[hm] at e;simp at e;exact .inr ⟨⋯,e.symm⟩
   |succ m=>rw[hm] at e;simp at e
 have lt:∀{n:Nat} {d:Ce},S[n]? =some d->n<S.length:=λe=>(qO.1 e).1;have gF:∀{n:Nat} {a:Addr} {d:Ce},j[n]? =some a->S[n]? =some d->d.fz=false->a≠p:=λ{n a d} e1 e2 z q=>by
  subst q;obtain⟨o',e,_⟩:=(E.cel n d a e2 e1).mu z;rw[h] at e;cases e
 refine⟨⟨E.len,λi x e=> ?_,by simp[E.jl],λn m a c1 c2 e1 e2 e3 e4 z1 z2=> ?_,λn d a e1 e2=> ?_,E.ext.trans X,λn d e=> ?_,E.l0,λb u e=> ?_,λn a hn e=> ?_,λb e=> ?_⟩,X⟩
 .obtain⟨v,e1,e2⟩:=E.slot i x e;exact⟨v,e1,e2.mono X⟩
 .rcases sat e3 with e3|⟨e3,_⟩
  .have h1:j[n]? =some a:=by
    rcases gk e1 with h1|⟨h1,_⟩
    .exact h1
    .have:=lt e3;rw[E.jl] at h1;omega
   rcases sat e4 with e4|⟨e4,_⟩
   .have h2:j[m]? =some a:=by
     rcases gk e2 with h2|⟨h2,_⟩
     .exact h2
     .have:=lt e4;rw[E.jl] at h2;omega
    exact E.inj n m a c1 c2 h1 h2 e3 e4 z1 z2
   .have:a=p:=by
     rcases gk e2 with h2|⟨_,h2⟩
     .have:=(qO.1 h2).1;rw[E.jl] at this;omega
     .exact h2
    exact absurd this (gF h1 e3 z1)
  .have:a=p:=by
    rcases gk e1 with h2|⟨_,h2⟩
    .have:=(qO.1 h2).1;rw[E.jl] at this;omega
    .exact h2
   rcases sat e4 with e4|⟨e4,_⟩
   .have h2:j[m]? =some a:=by
     rcases gk e2 with h2|⟨h2,_⟩
     .exact h2
     .have:=lt e4;rw[E.jl] at h2;omega
    exact absurd this (gF h2 e4 z2)
   .rw[e3,e4]
 .rcases sat e1 with e1|⟨e1,rfl⟩
  .have h2:j[n]? =some a:=by
    rcases gk e2 with h2|⟨h2,_⟩
    .exact h2
    .have:=lt e1;rw[E.jl] at h2;omega
   have hh:=E.cel n d a e1 h2;exact hh.mono X λz=>zO (gF h2 e1 z)
  .have:a=p:=by
    rcases gk e2 with h2|⟨_,h2⟩
    .have:=(qO.1 h2).1;rw[E.jl] at this;omega
    .exact h2
   subst this;exact hc
 .obtain⟨d',e1,e2⟩:=E.old n d e;exact⟨d',by rw[qR (lt e1)];exact e1,e2⟩
 .rcases E.keep b u e with h'|h'
  .exact .inl (Zi h _ _ h')
  .exact .inr h'
 .rcases gk e with e|⟨_,rfl⟩
  .exact E.fresh n a hn e
  .exact E.dom _ h
 .refine E.dom b ?_;cases e':H b with
  |none=>rfl
  |some u=>rw[Zi h b u e'] at e;cases e
theorem En.writeF (E:En K F j H σ ρ S) (hs:S[n]? =some c) (z:c.fz=false) (hj:j[n]? =some a) (hc:∀X:Ext j H j (upd H a o),zbr K j (upd H a o) a c'):En K F j (upd H a o) σ ρ (S.set n c')/\Ext j H j (upd H a o):=by
 obtain⟨o0,h0,m0⟩:=(E.cel n c a hs hj).mu z
 have X:Ext j H j (upd H a o):=⟨λ_ _ e=>e,λb u e m=>by
  have:b≠a:=λq=>by subst q;rw[h0] at e;cases e;rw[m] at m0;cases m0
  rw[zO this];exact e⟩
 have sat:∀{m:Nat} {d:Ce},(S.set n c')[m]? =some d->(m=n/\d=c')\/(m≠n/\S[m]? =some d):=λ{m d} e=>by
  rw[rK] at e;split at e
  .rename_i q;split at e
   .cases e;exact .inl ⟨q.symm,rfl⟩
   .cases e
  .rename_i q;exact .inr ⟨λr=>q r.symm,e⟩
 have nu:∀{m:Nat} {d:Ce},(S.set n c')[m]? =some d->∃d',S[m]? =some d'/\(d.fz=false->d'.fz=false):=λ{m d} e=>by
  rcases sat e with⟨rfl,rfl⟩|⟨_,e⟩
  .exact⟨c,hs,λ_=>z⟩
  .exact⟨d,e,λy=>y⟩
 refine⟨⟨E.len,λi x e=> ?_,by simp[E.jl],λk m b c1 c2 e1 e2 e3 e4 z1 z2=> ?_,λm d b e1 e2=> ?_,E.ext.trans X,λm d e=> ?_,E.l0,λb u e=> ?_,E.fresh,λb e=> ?_⟩,X⟩
 .obtain⟨v,e1,e2⟩:=E.slot i x e;exact⟨v,e1,e2.mono X⟩
 .obtain⟨d1,f1,g1⟩:=nu e3;obtain⟨d2,f2,g2⟩:=nu e4;exact E.inj k m b d1 d2 e1 e2 f1 f2 (g1 z1) (g2 z2)
 .rcases sat e1 with⟨rfl,rfl⟩|⟨q,e1⟩
  .rw[hj] at e2;cases e2;exact hc X
  .refine (E.cel m d b e1 e2).mono X λzd=>zO λr=> ?_;subst r;exact q (E.inj m n b d c e2 hj e1 hs zd z)
 .obtain⟨d',e1,e2,e3⟩:=E.old m d e;by_cases q:m=n
  .subst q;rw[hs] at e1;cases e1;refine⟨c',by rw[rK,if_pos rfl,if_pos (qO.1 hs).1],λ_=>e2 z,λy=> ?_⟩;rw[e2 z] at y;cases y
  .exact⟨d',by rw[rK,if_neg (λr=>q r.symm)];exact e1,e2,e3⟩
 .by_cases q:b=a
  .subst q;by_cases hn:n<F.j0.length
   .have iW:F.j0[n]? =some b:=by
     have e1:F.j0[n]? =some F.j0[n]:=qN hn;have e2:=E.ext.pre n _ e1;rw[hj] at e2;cases e2;exact e1
    have dh:n<F.S0.length:=by rw[<-E.l0];exact hn
    obtain⟨d',f1,f2,_⟩:=E.old n _ (qN dh);rw[hs] at f1;cases f1;exact .inr ⟨n,_,iW,qN dh,f2 z⟩
   .rw[E.fresh n b ⋯ hj] at e;cases e
  .rcases E.keep b u e with h|h
   .exact .inl (by rw[zO q];exact h)
   .exact .inr h
 .by_cases q:b=a
  .subst q;rw[zZ] at e;cases e
  .rw[zO q] at e;exact E.dom b e
theorem En.write (E:En K F j H σ ρ S) (hs:S[n]? =some c) (z:c.fz=false) (hj:j[n]? =some a) (_:c'.fz=false) (hc:∀X:Ext j H j (upd H a o),zbr K j (upd H a o) a c'):En K F j (upd H a o) σ ρ (S.set n c')/\Ext j H j (upd H a o):=E.writeF hs z hj hc
theorem En.slots (E:En K F j H σ ρ S) (hl:σ'.length=ρ'.length) (h:∀(i:Nat) x,ρ'[i]? =some (some x)->∃v,σ'[i]? =some (some v)/\Xis K j H x v):En K F j H σ' ρ' S:=
 ⟨hl,h,E.jl,E.inj,E.cel,E.ext,E.old,E.l0,E.keep,E.fresh,E.dom⟩
theorem En.set (E:En K F j H σ ρ S) (h:Xis K j H x v):En K F j H (σ.set i (some v)) (ρ.set i (some x)) S:=E.slots (by simp[E.len]) λk y e=>by
 rw[rK] at e ⊢;split at e
 .rename_i q;subst q;split at e
  .rename_i hl;cases e;rw[if_pos rfl,if_pos (by rw[E.len];exact hl)];exact⟨v,rfl,h⟩
  .cases e
 .rename_i q;rw[if_neg q];exact E.slot k y e
theorem En.enter (E:En K F j H σ ρ S) (hl:σ'.length=ρ'.length) (h:∀(i:Nat) x,ρ'[i]? =some (some x)->∃v,σ'[i]? =some (some v)/\Xis K j H x v):En K ⟨H,j,S⟩ j H σ' ρ' S:=
 ⟨hl,h,E.jl,E.inj,E.cel,Ext.refl,λn c e=>⟨c,e,λz=>z,λ_=>rfl⟩,E.jl,λb u e=> .inl e,λn a hn e=>by have:=(qO.1 e).1;dsimp only at hn;omega,λb e=>e⟩
theorem En.leave (E:En K F j H σ ρ S) (X:En K ⟨H,j,S⟩ j' H' σ' ρ' S'):En K F j' H' σ ρ S'/\Ext j H j' H':=by
 have e:Ext j H j' H':=X.ext;refine⟨⟨E.len,λi x h=> ?_,X.jl,X.inj,X.cel,E.ext.trans e,λn c h=> ?_,E.l0,λb u h=> ?_,λn a hn h=> ?_,λb h=>E.dom b (X.dom b h)⟩,e⟩
 .obtain⟨v,e1,e2⟩:=E.slot i x h;exact⟨v,e1,e2.mono e⟩
 .obtain⟨c1,e1,e2,e3⟩:=E.old n c h;obtain⟨c2,f1,f2,f3⟩:=X.old n c1 e1;refine⟨c2,f1,λz=>e2 (f2 z),λz=> ?_⟩;obtain rfl:=e3 z;exact f3 z
 .rcases E.keep b u h with h1|h1
  .rcases X.keep b u h1 with h2|⟨n,c,h2,h3,h4⟩
   .exact .inl h2
   .by_cases hn:n<F.j0.length
    .have e1:F.j0[n]? =some F.j0[n]:=qN hn;have e2:=E.ext.pre n _ e1;have hW:j[n]? =some b:=h2;rw[hW] at e2;cases e2;have dh:n<F.S0.length:=by rw[<-E.l0];exact hn
     obtain⟨c1,f1,f2,_⟩:=E.old n _ (qN dh);have jh:S[n]? =some c:=h3;rw[jh] at f1;cases f1;exact .inr ⟨n,_,e1,qN dh,f2 h4⟩
    .have:=E.fresh n b ⋯ h2;rw[this] at h;cases h
  .exact .inr h1
 .by_cases hm:n<j.length
  .have e1:j[n]? =some j[n]:=qN hm;have e2:=e.pre n _ e1;rw[h] at e2;cases e2;exact E.fresh n _ hn e1
  .exact E.dom a (X.fresh n a (by dsimp only;omega) h)
theorem En.grow {k:Nat} (E:En K F j H σ ρ S):En K F j H (σ++rh k none) (ρ++rh k none) S:=E.slots (by simp[E.len]) λi x e=>by
 by_cases hi:i<ρ.length
 .rw[qR hi] at e;rw[qR (by rw[E.len];exact hi)];exact E.slot i x e
 .rw[qU ⋯,tN] at e;split at e
  .cases e
  .cases e
end
inductive Rs (α:Type) where
 |ok (a:α) (S:Sto)
 |ex (c:Str) (S:Sto)
abbrev TwE:=Rho->Sto->Option (Rs Xv)
abbrev TwT:=Rho->Sto->Option (Rs Bool)
abbrev TwL:=Rho->Sto->Option (Rs (List Xv))
abbrev TwO:=Rho->Sto->Option (Rs (Option Int))
abbrev TwG:=Xv->Rho->Sto->Option (Rs Rho)
abbrev zp0:=List Xv->Rho->Sto->Option (Rs Rho)
abbrev TwI:=Rho->Sto->Option (Rs (Sto->Option (List Xv)))
inductive Fl where
 |nx (ρ:Rho) (S:Sto)
 |bk (ρ:Rho) (S:Sto)
 |ct (ρ:Rho) (S:Sto)
 |rt (x:Xv) (S:Sto)
 |ex (c:Str) (S:Sto)
abbrev TwS:=Rho->Sto->Option Fl
noncomputable def rb {α β:Type} (m:Option (Rs α)) (f:α->Sto->Option (Rs β)):Option (Rs β):=match m with
 |some (.ok a S)=>f a S
 |some (.ex c S)=>some (.ex c S)
 |none=>none
noncomputable def sb {α:Type} (m:Option (Rs α)) (f:α->Sto->Option Fl):Option Fl:=match m with
 |some (.ok a S)=>f a S
 |some (.ex c S)=>some (.ex c S)
 |none=>none
theorem zD {α β:Type} {m:Option (Rs α)} {f:α->Sto->Option (Rs β)} {r:Rs β} (h:rb m f=some r):(∃a S,m=some (.ok a S)/\f a S=some r)\/∃c S,m=some (.ex c S)/\r= .ex c S:=by
 unfold rb at h;split at h
 .exact .inl ⟨_,_,rfl,h⟩
 .cases h;exact .inr ⟨_,_,rfl,rfl⟩
 .cases h
theorem xS {α:Type} {m:Option (Rs α)} {f:α->Sto->Option Fl} {r:Fl} (h:sb m f=some r):(∃a S,m=some (.ok a S)/\f a S=some r)\/∃c S,m=some (.ex c S)/\r= .ex c S:=by
 unfold sb at h;split at h
 .exact .inl ⟨_,_,rfl,h⟩
 .cases h;exact .inr ⟨_,_,rfl,rfl⟩
 .cases h
def PX (K:qP) (F:Fm) (j:List Addr) (H:Hp) (E:XK) (c:Str) (S':Sto):Prop:=
 ∀j' H' σ' ρ' C,Ext j H j' H'->En K F j' H' σ' ρ' S'->rz K mainGlobals c=some (some (.ref C))->E (.ref C) none H'
theorem PX.mono {K:qP} {F:Fm} {j j1:List Addr} {H H1:Hp} {E:XK} {c:Str} {S':Sto} (h:PX K F j H E c S') (e:Ext j H j1 H1):PX K F j1 H1 E c S':=λj' H' σ' ρ' C x y z=>h j' H' σ' ρ' C (e.trans x) y z
def Po {α:Type} (K:qP) (F:Fm) (j:List Addr) (H:Hp) (σ:St) (ρ:Rho) (E:XK) (P:α->List Addr->Hp->Prop):Rs α->Prop
 | .ok a S'=>∀j' H',Ext j H j' H'->En K F j' H' σ ρ S'->P a j' H'
 | .ex c S'=>PX K F j H E c S'
theorem Po.step {α:Type} {K:qP} {F:Fm} {j j1:List Addr} {H H1:Hp} {σ:St} {ρ:Rho} {E:XK} {P:α->List Addr->Hp->Prop}:∀{r:Rs α},Po K F j H σ ρ E P r->Ext j H j1 H1->Po K F j1 H1 σ ρ E P r
 | .ok a S',h,e=>λj' H' x y=>h j' H' (e.trans x) y
 | .ex c S',h,e=>PX.mono h e
noncomputable abbrev PoV (K:qP) (Q:VK):Xv->List Addr->Hp->Prop:=λx j' H'=>∀v,Xis K j' H' x v->Q v H'
def RE (K:qP) (E:XK) (t:TE) (m:TwE):Prop:=∀{F:Fm} {j:List Addr} {σ:St} {H:Hp} {ρ:Rho} {S:Sto} {r:Rs Xv} {Q:VK},En K F j H σ ρ S->m ρ S=some r->Po K F j H σ ρ E (PoV K Q) r->t σ H Q
def RT (K:qP) (E:XK) (t:TT) (m:TwT):Prop:=∀{F:Fm} {j:List Addr} {σ:St} {H:Hp} {ρ:Rho} {S:Sto} {r:Rs Bool} {Q:Bool->Hp->Prop},En K F j H σ ρ S->m ρ S=some r->Po K F j H σ ρ E (λb _ H'=>Q b H') r->t σ H Q
def RL (K:qP) (E:XK) (t:TA) (m:TwL):Prop:=∀{F:Fm} {j:List Addr} {σ:St} {H:Hp} {ρ:Rho} {S:Sto} {r:Rs (List Xv)} {Q:List V->Hp->Prop},En K F j H σ ρ S->m ρ S=some r->Po K F j H σ ρ E (λxs j' H'=>∀vs,yu K j' H' xs vs->Q vs H') r->t σ H Q
def RO (K:qP) (E:XK) (t:TO) (m:TwO):Prop:=∀{F:Fm} {j:List Addr} {σ:St} {H:Hp} {ρ:Rho} {S:Sto} {r:Rs (Option Int)} {Q:Option Int->Hp->Prop},En K F j H σ ρ S->m ρ S=some r->Po K F j H σ ρ E (λo _ H'=>Q o H') r->t σ H Q
def PoG (K:qP) (F:Fm) (j:List Addr) (H:Hp) (E:XK) (R:St->Hp->Prop):Rs Rho->Prop
 | .ok ρ' S'=>∀σ' j' H',Ext j H j' H'->En K F j' H' σ' ρ' S'->R σ' H'
 | .ex c S'=>PX K F j H E c S'
def RG (K:qP) (E:XK) (t:TG) (g:TwG):Prop:=∀{F:Fm} {j:List Addr} {σ:St} {H:Hp} {ρ:Rho} {S:Sto} {r:Rs Rho} {x:Xv} {v:V} {R:St->Hp->Prop},En K F j H σ ρ S->Xis K j H x v->g x ρ S=some r->PoG K F j H E R r->t v σ H R
def zlr (K:qP) (F:Fm) (j:List Addr) (H:Hp) (E:XK) (D':zac):Fl->Prop
 | .nx ρ S=>∀σ j' H',Ext j H j' H'->En K F j' H' σ ρ S->D'.nx σ H'
 | .bk ρ S=>∀σ j' H',Ext j H j' H'->En K F j' H' σ ρ S->D'.bk σ H'
 | .ct ρ S=>∀σ j' H',Ext j H j' H'->En K F j' H' σ ρ S->D'.ct σ H'
 | .rt x S=>∀v σ ρ j' H',Ext j H j' H'->En K F j' H' σ ρ S->Xis K j' H' x v->D'.rt v H'
 | .ex c S=>PX K F j H E c S
theorem zlr.step {K:qP} {F:Fm} {j j1:List Addr} {H H1:Hp} {E:XK} {D':zac}:∀{fl:Fl},zlr K F j H E D' fl->Ext j H j1 H1->zlr K F j1 H1 E D' fl
 | .nx _ _,h,e=>λσ j' H' x y=>h σ j' H' (e.trans x) y
 | .bk _ _,h,e=>λσ j' H' x y=>h σ j' H' (e.trans x) y
 | .ct _ _,h,e=>λσ j' H' x y=>h σ j' H' (e.trans x) y
 | .rt _ _,h,e=>λv σ ρ j' H' x y z=>h v σ ρ j' H' (e.trans x) y z
 | .ex _ _,h,e=>PX.mono h e
def RS (K:qP) (E:XK) (t:TS) (m:TwS):Prop:=∀{F:Fm} {j:List Addr} {D':zac} {σ:St} {H:Hp} {ρ:Rho} {S:Sto} {fl:Fl},En K F j H σ ρ S->m ρ S=some fl->zlr K F j H E D' fl->t D' σ H
def znC (K:qP) (j:List Addr) (H:Hp) (J:It) (get:Sto->Option (List Xv)):Prop:=∀{F:Fm} {j':List Addr} {H':Hp} {σ:St} {ρ:Rho} {S:Sto} {xs:List Xv} (i:Nat),Ext j H j' H'->En K F j' H' σ ρ S->get S=some xs->
 (∀x,xs[i]? =some x->J.go i H'/\∀v H'',J.yld i H' v H''->Wh H' H''/\Xis K j' H'' x v)/\(i=xs.length->J.stop i H')
def RI (K:qP) (E:XK) (t:TI) (m:TwI):Prop:=∀{F:Fm} {j:List Addr} {σ:St} {H:Hp} {ρ:Rho} {S:Sto} {r:Rs (Sto->Option (List Xv))} {R:It->Hp->Prop},En K F j H σ ρ S->m ρ S=some r->Po K F j H σ ρ E (λget j' H'=>∀J,znC K j' H' J get->R J H') r->t σ H R
abbrev Op2:=Xv->Xv->Sto->Option (Xv×Sto)
abbrev Opn:=List Xv->Sto->Option (Xv×Sto)
def YL (K:qP) (r:R2) (f:Op2):Prop:=∀{F:Fm} {j:List Addr} {σ:St} {H:Hp} {ρ:Rho} {S S':Sto} {x y z:Xv} {u v:V} {Q:VK},En K F j H σ ρ S->Xis K j H x u->Xis K j H y v->f x y S=some (z,S')->(∀w j' H',Ext j H j' H'->En K F j' H' σ ρ S'->Xis K j' H' z w->Q w H')->r u v H Q
def zo0 (K:qP) (r:V->Hp->VK->Prop) (f:Xv->Sto->Option (Xv×Sto)):Prop:=∀{F:Fm} {j:List Addr} {σ:St} {H:Hp} {ρ:Rho} {S S':Sto} {x z:Xv} {u:V} {Q:VK},En K F j H σ ρ S->Xis K j H x u->f x S=some (z,S')->(∀w j' H',Ext j H j' H'->En K F j' H' σ ρ S'->Xis K j' H' z w->Q w H')->r u H Q
def zbs (K:qP) (r:List V->Hp->VK->Prop) (f:Opn):Prop:=∀{F:Fm} {j:List Addr} {σ:St} {H:Hp} {ρ:Rho} {S S':Sto} {xs:List Xv} {z:Xv} {vs:List V} {Q:VK},En K F j H σ ρ S->yu K j H xs vs->f xs S=some (z,S')->(∀w j' H',Ext j H j' H'->En K F j' H' σ ρ S'->Xis K j' H' z w->Q w H')->r vs H Q
noncomputable def za (i:Nat):TwE:=λρ S=>match ρ[i]? with
 |some (some x)=>some (.ok x S)
 |_=>none
noncomputable def eC (x:Xv):TwE:=λ_ S=>some (.ok x S)
noncomputable def okP (o:Option (Xv×Sto)):Option (Rs Xv):=o.map λp=> .ok p.1 p.2
theorem YM {o:Option (Xv×Sto)} {r:Rs Xv} (h:okP o=some r):∃z S,o=some (z,S)/\r= .ok z S:=by
 cases o with
 |none=>cases h
 |some p=>cases h;exact⟨_,_,rfl,rfl⟩
noncomputable def eOp (f:Op2) (a b:TwE):TwE:=λρ S=>rb (a ρ S) λx S1=>rb (b ρ S1) λy S2=>okP (f x y S2)
noncomputable def eUn (f:Xv->Sto->Option (Xv×Sto)) (a:TwE):TwE:=λρ S=>rb (a ρ S) λx S1=>okP (f x S1)
noncomputable def bE (m:TwE):TwT:=λρ S=>rb (m ρ S) λx S1=>match x with
 | .bl b=>some (.ok b S1)
 |_=>none
noncomputable def eB (m:TwT):TwE:=λρ S=>rb (m ρ S) λb S1=>some (.ok (.bl b) S1)
noncomputable def zbt (a b:TwT):TwT:=λρ S=>rb (a ρ S) λx S1=>if x then b ρ S1 else some (.ok false S1)
noncomputable def bOr (a b:TwT):TwT:=λρ S=>rb (a ρ S) λx S1=>if x then some (.ok true S1) else b ρ S1
noncomputable def zbu (a:TwT):TwT:=λρ S=>rb (a ρ S) λx S1=>some (.ok (!x) S1)
noncomputable def zh6 (a b:TwE):TwE:=λρ S=>rb (bE a ρ S) λx S1=>if x then b ρ S1 else some (.ok (.bl false) S1)
noncomputable def eIf (c:TwT) (a b:TwE):TwE:=λρ S=>rb (c ρ S) λx S1=>if x then a ρ S1 else b ρ S1
noncomputable def evL:List TwE->TwL
 |[]=>λ_ S=>some (.ok [] S)
 |m::r=>λρ S=>rb (m ρ S) λx S1=>rb (evL r ρ S1) λxs S2=>some (.ok (x::xs) S2)
noncomputable def wO (ms:List TwE):TwE:=λρ S=>rb (evL ms ρ S) λxs S1=>some (.ok (.tup xs) S1)
noncomputable def Wj (ms:List TwE):TwE:=λρ S=>rb (evL ms ρ S) λxs S1=>some (.ok (.ref S1.length) (S1++[.lst xs]))
noncomputable def eFn (f:Opn) (ms:List TwE):TwE:=λρ S=>rb (evL ms ρ S) λxs S1=>okP (f xs S1)
noncomputable def zo1 (f:Xv->Xv->Option Xv):Op2:=λx y S=>(f x y).map λz=>(z,S)
noncomputable def zpR (f:Xv->Option Xv):Xv->Sto->Option (Xv×Sto):=λx S=>(f x).map λz=>(z,S)
theorem zjm {o:Option Xv} {S S':Sto} {z:Xv} (h:(o.map λz=>(z,S))=some (z,S')):o=some z/\S'=S:=by
 cases o with
 |none=>cases h
 |some p=>cases h;exact⟨rfl,rfl⟩
section
variable {K:qP} {E:XK} {F:Fm} {j:List Addr} {H:Hp} {σ:St} {ρ:Rho} {S:Sto}
theorem Po.val {Q:VK} {x:Xv} {v:V} (k:Po K F j H σ ρ E (PoV K Q) (.ok x S)) (En0:En K F j H σ ρ S) (h:Xis K j H x v):Q v H:=k j H Ext.refl En0 v h
theorem zb (i:Nat):RE K E (znb i) (za i):=by
 intro F j σ H ρ S r Q En0 e k;unfold za at e;split at e
 .rename_i x ex;cases e;obtain⟨v,e1,e2⟩:=En0.slot i _ ex;exact⟨v,e1,k.val En0 e2⟩
 .cases e
theorem zeS {v:V} {x:Xv} (h:∀j H,Xis K j H x v):RE K E (tC v) (eC x):=λEn0 e k=>by
 cases e;exact k.val En0 (h _ _)
theorem zF (i:Int):RE K E (tC (.int i)) (eC (.int i)):=zeS λ_ _=> .int i
theorem vC (x:Str):RE K E (tC (.str x)) (eC (.str x)):=zeS λ_ _=> .str x
theorem zg4 (b:Bool):RE K E (tC (.bl b)) (eC (.bl b)):=zeS λ_ _=> .bl b
theorem znD:RE K E (tC .non) (eC .non):=zeS λ_ _=> .non
theorem zx {r:R2} {f:Op2} {ta tb:TE} {a b:TwE} (ho:YL K r f) (ha:RE K E ta a) (hb:RE K E tb b):RE K E (tOp r ta tb) (eOp f a b):=by
 intro F j σ H ρ S r Q En0 e k;rcases zD e with⟨x,S1,e1,e⟩|⟨c,S1,e1,rfl⟩
 .refine ha En0 e1 λj1 H1 X1 E1 u hu=> ?_;rcases zD e with⟨y,S2,e2,e⟩|⟨c,S2,e2,rfl⟩
  .obtain⟨z,S3,e3,rfl⟩:=YM e;exact hb E1 e2 λj2 H2 X2 E2 v hv=>ho E2 (hu.mono X2) hv e3 λw j3 H3 X3 E3 hw=>k _ _ (X1.trans (X2.trans X3)) E3 _ hw
  .exact hb E1 e2 (PX.mono k X1)
 .exact ha En0 e1 k
theorem zjn {r:V->Hp->VK->Prop} {f:Xv->Sto->Option (Xv×Sto)} {ta:TE} {a:TwE} (ho:zo0 K r f) (ha:RE K E ta a):RE K E (tUn r ta) (eUn f a):=by
 intro F j σ H ρ S r Q En0 e k;rcases zD e with⟨x,S1,e1,e⟩|⟨c,S1,e1,rfl⟩
 .obtain⟨z,S3,e3,rfl⟩:=YM e;exact ha En0 e1 λj1 H1 X1 E1 u hu=>ho E1 hu e3 λw j3 H3 X3 E3 hw=>k _ _ (X1.trans X3) E3 _ hw
 .exact ha En0 e1 k
theorem WE {t:TE} {m:TwE} (h:RE K E t m):RT K E (tB t) (bE m):=by
 intro F j σ H ρ S r Q En0 e k;rcases zD e with⟨x,S1,e1,e⟩|⟨c,S1,e1,rfl⟩
 .split at e
  .cases e;exact h En0 e1 λj1 H1 X1 E1 u hu=>⟨_,hu.bl_inv,k _ _ X1 E1⟩
  .cases e
 .exact h En0 e1 k
theorem vn {t:TE} {m:TwE} (h:RE K E t m):RT K E (zmD t) (bE m):=WE h
theorem zf7 {t u:TT} {a b:TwT} (ha:RT K E t a) (hb:RT K E u b):RT K E (zoB t u) (zbt a b):=by
 intro F j σ H ρ S r Q En0 e k;rcases zD e with⟨x,S1,e1,e⟩|⟨c,S1,e1,rfl⟩
 .refine ha En0 e1 λj1 H1 X1 E1=> ?_;cases x with
  |true=>exact hb E1 e (k.step X1)
  |false=>cases e;exact k _ _ X1 E1
 .exact ha En0 e1 k
theorem zo2 {t u:TT} {a b:TwT} (ha:RT K E t a) (hb:RT K E u b):RT K E (tOr t u) (bOr a b):=by
 intro F j σ H ρ S r Q En0 e k;rcases zD e with⟨x,S1,e1,e⟩|⟨c,S1,e1,rfl⟩
 .refine ha En0 e1 λj1 H1 X1 E1=> ?_;cases x with
  |true=>cases e;exact k _ _ X1 E1
  |false=>exact hb E1 e (k.step X1)
 .exact ha En0 e1 k
theorem zf8 {t:TT} {a:TwT} (ha:RT K E t a):RT K E (zoC t) (zbu a):=by
 intro F j σ H ρ S r Q En0 e k;rcases zD e with⟨x,S1,e1,e⟩|⟨c,S1,e1,rfl⟩
 .cases e;exact ha En0 e1 λj1 H1 X1 E1=>k _ _ X1 E1
 .exact ha En0 e1 k
theorem znE {ta tb:TE} {a b:TwE} (ha:RE K E ta a) (hb:RE K E tb b):RE K E (zmy ta tb) (zh6 a b):=by
 intro F j σ H ρ S r Q En0 e k;rcases zD e with⟨x,S1,e1,e⟩|⟨c,S1,e1,rfl⟩
 .rcases zD e1 with⟨y,S2,e2,e1⟩|⟨c,S2,e2,z⟩
  .split at e1
   .cases e1;refine ha En0 e2 λj1 H1 X1 E1 u hu=>⟨_,hu.bl_inv,?_⟩;cases x with
    |true=>exact hb E1 e (k.step X1)
    |false=>cases e;exact k _ _ X1 E1 _ (.bl false)
   .cases e1
  .cases z
 .rcases zD e1 with⟨y,S2,e2,e1⟩|⟨c,S2,e2,z⟩
  .split at e1<;>cases e1
  .cases z;exact ha En0 e2 k
theorem znF {ta:TE} {a:TwE} (ha:RE K E ta a):RE K E (zmz ta) (eB (zbu (bE a))):=by
 intro F j σ H ρ S r Q En0 e k;rcases zD e with⟨x,S1,e1,e⟩|⟨c,S1,e1,rfl⟩
 .rcases zD e1 with⟨y,S2,e2,e1⟩|⟨c,S2,e2,z⟩
  .rcases zD e2 with⟨z,S3,e3,e2⟩|⟨c,S3,e3,z⟩
   .split at e2
    .cases e2;cases e1;cases e;exact ha En0 e3 λj1 H1 X1 E1 u hu=>⟨_,hu.bl_inv,k _ _ X1 E1 _ (.bl _)⟩
    .cases e2
   .cases z
  .cases z
 .rcases zD e1 with⟨y,S2,e2,e1⟩|⟨c,S2,e2,z⟩
  .cases e1
  .cases z;rcases zD e2 with⟨z,S3,e3,e2⟩|⟨c,S3,e3,z⟩
   .split at e2<;>cases e2
   .cases z;exact ha En0 e3 k
theorem zc4 {t:TT} {c:TwT} {ta tb:TE} {a b:TwE} (hc:RT K E t c) (ha:RE K E ta a) (hb:RE K E tb b):RE K E (tIf t ta tb) (eIf c a b):=by
 intro F j σ H ρ S r Q En0 e k;rcases zD e with⟨x,S1,e1,e⟩|⟨c,S1,e1,rfl⟩
 .refine hc En0 e1 λj1 H1 X1 E1=> ?_;cases x with
  |true=>exact ha E1 e (k.step X1)
  |false=>exact hb E1 e (k.step X1)
 .exact hc En0 e1 k
noncomputable def Xv.isNon:Xv->Bool
 | .non=>true
 |_=>false
noncomputable def zf9:Xv->Sto->Option (Xv×Sto):=zpR λx=>some (.bl x.isNon)
theorem zls {x:Xv} {v:V} (h:Xis K j H x v):decide (v= .non)=x.isNon:=by cases h<;>simp[Xv.isNon]
theorem zjo {ta:TE} {a:TwE} (ha:RE K E ta a):RE K E (zoA ta) (eUn zf9 a):=by
 intro F j σ H ρ S r Q En0 e k;rcases zD e with⟨x,S1,e1,e⟩|⟨c,S1,e1,rfl⟩
 .cases e;exact ha En0 e1 λj1 H1 X1 E1 u hu=>k _ _ X1 E1 _ (by rw[zls hu];exact .bl _)
 .exact ha En0 e1 k
theorem zo:RL K E ziT (evL []):=λEn0 e k=>by
 cases e;exact k _ _ Ext.refl En0 [] .nil
theorem zf {ta:TE} {tr:TA} {m:TwE} {ms:List TwE} (ha:RE K E ta m) (hr:RL K E tr (evL ms)):RL K E (zaw ta tr) (evL (m::ms)):=by
 intro F j σ H ρ S r Q En0 e k;rcases zD e with⟨x,S1,e1,e⟩|⟨c,S1,e1,rfl⟩
 .refine ha En0 e1 λj1 H1 X1 E1 u hu=> ?_;rcases zD e with⟨xs,S2,e2,e⟩|⟨c,S2,e2,rfl⟩
  .cases e;exact hr E1 e2 λj2 H2 X2 E2 vs hv=>k _ _ (X1.trans X2) E2 (u::vs) (.cons (hu.mono X2) hv)
  .exact hr E1 e2 (PX.mono k X1)
 .exact ha En0 e1 k
theorem WG:∀{ms:List TwE} {ρ:Rho} {S S':Sto} {xs:List Xv},evL ms ρ S=some (.ok xs S')->xs.length=ms.length
 |[],_,_,_,_,h=>by cases h;rfl
 |m::ms,ρ,S,S',xs,h=>by
  rcases zD h with⟨x,S1,e1,h⟩|⟨c,S1,e1,z⟩
  .rcases zD h with⟨ys,S2,e2,h⟩|⟨c,S2,e2,z⟩
   .cases h;simp[WG e2]
   .cases z
  .cases z
theorem Yh {t:TA} {ms:List TwE} (h:RL K E t (evL ms)) (hl:ms.length<=1000:=by simp):RE K E (zoO t) (wO ms):=by
 intro F j σ H ρ S r Q En0 e k;rcases zD e with⟨xs,S1,e1,e⟩|⟨c,S1,e1,rfl⟩
 .cases e;refine h En0 e1 λj1 H1 X1 E1 vs hv=>⟨?_,λp hp=> ?_⟩
  .rw[hv.len,WG e1];exact rk hl ∅
  .obtain⟨E2,X2⟩:=E1.new (o:= .tup vs) hp;exact k _ _ (X1.trans X2) E2 _ (.tup zZ (hv.mono X2))
 .exact h En0 e1 k
theorem En.lst {xs:List Xv} {vs:List V} {p:Addr} (En0:En K F j H σ ρ S) (hv:yu K j H xs vs) (hp:H p=none):En K F (j++[p]) (upd H p (.lst vs)) σ ρ (S++[.lst xs])/\Ext j H (j++[p]) (upd H p (.lst vs))/\Xis K (j++[p]) (upd H p (.lst vs)) (.ref S.length) (.ref p):=by
 have X:Ext j H (j++[p]) (upd H p (.lst vs)):=⟨λn a e=>by rw[qR (qO.1 e).1];exact e,vw.same (Zi hp)⟩;obtain⟨E1,_⟩:=En0.cell (o:= .lst vs) (c:= .lst xs) hp ⟨vs,zZ,hv.mono X⟩;exact⟨E1,X,.ref (by rw[<-En0.jl];simp)⟩
theorem YN {t:TA} {ms:List TwE} (h:RL K E t (evL ms)) (hl:ms.length<=1000:=by simp):RE K E (zoP t) (Wj ms):=by
 intro F j σ H ρ S r Q En0 e k;rcases zD e with⟨xs,S1,e1,e⟩|⟨c,S1,e1,rfl⟩
 .cases e;refine h En0 e1 λj1 H1 X1 E1 vs hv=>⟨?_,λp hp=> ?_⟩
  .rw[hv.len,WG e1];exact rk hl ∅
  .obtain⟨E2,X2,h2⟩:=E1.lst hv hp;exact k _ _ (X1.trans X2) E2 _ h2
 .exact h En0 e1 k
theorem Zj {t:TA} {ms:List TwE} {r:List V->Hp->VK->Prop} {f:Opn} (hr:zbs K r f) (h:RL K E t (evL ms)):RE K E (tCB r t) (eFn f ms):=by
 intro F j σ H ρ S r Q En0 e k;rcases zD e with⟨xs,S1,e1,e⟩|⟨c,S1,e1,rfl⟩
 .obtain⟨z,S3,e3,rfl⟩:=YM e;exact h En0 e1 λj1 H1 X1 E1 vs hv=>hr E1 hv e3 λw j3 H3 X3 E3 hw=>k _ _ (X1.trans X3) E3 _ hw
 .exact h En0 e1 k
end
noncomputable def yH (S:Sto):Xv->Option (List Xv)
 | .ref n=>match S[n]? with
  |some (.lst xs)=>some xs
  |some (.frz xs)=>some xs
  |_=>none
 |_=>none
noncomputable def Wk (S:Sto) (x:Xv):Option (List Xv):=match x.tupOf with
 |some xs=>some xs
 |none=>yH S x
noncomputable def Uh (S:Sto):Xv->Option (Nat×List Xv)
 | .ref n=>match S[n]? with
  |some (.lst xs)=>some (n,xs)
  |_=>none
 |_=>none
section
variable {K:qP} {E:XK} {F:Fm} {j:List Addr} {H:Hp} {σ:St} {ρ:Rho} {S:Sto} {x:Xv} {v:V}
theorem En.lstAt {xs:List Xv} (E0:En K F j H σ ρ S) (hx:Xis K j H x v) (h:L2.yH S x=some xs):∃a vs,v= .ref a/\SqX K H a vs/\yu K j H xs vs:=by
 cases x<;>simp only[L2.yH,reduceCtorEq] at h
 obtain⟨a,rfl,hj⟩:=hx.ref_inv;split at h
 .cases h;obtain⟨vs,e1,e2⟩:=E0.cel _ _ _ (by assumption) hj;exact⟨a,vs,rfl,SqX.of e1,e2⟩
 .cases h;obtain⟨vs,e1,e2⟩:=E0.cel _ _ _ (by assumption) hj;refine⟨a,vs,rfl,?_,e2⟩;rcases e1 with⟨o,e1⟩|e1
  .exact .inl (.inr ⟨o,e1⟩)
  .exact e1 H
 .cases h
theorem En.seqAt {xs:List Xv} (E0:En K F j H σ ρ S) (hx:Xis K j H x v) (h:L2.Wk S x=some xs):∃a vs,v= .ref a/\(SqX K H a vs\/SqT K H a vs)/\yu K j H xs vs:=by
 unfold L2.Wk at h;split at h
 .cases h;obtain⟨a,vs,e1,e2,e3⟩:=hx.tupO (by assumption);exact⟨a,vs,e1,.inr e2,e3⟩
 .obtain⟨a,vs,e1,e2,e3⟩:=E0.lstAt hx h;exact⟨a,vs,e1,.inl e2,e3⟩
theorem zc5 {n:Nat} {xs:List Xv} (h:Uh S x=some (n,xs)):x= .ref n/\S[n]? =some (.lst xs):=by
 cases x<;>simp only[Uh,reduceCtorEq] at h
 split at h
 .cases h;exact⟨rfl,by assumption⟩
 .cases h
theorem En.wl {n:Nat} {xs:List Xv} (E0:En K F j H σ ρ S) (hx:Xis K j H x v) (h:Uh S x=some (n,xs)):∃a vs,v= .ref a/\j[n]? =some a/\H a=some (.lst vs)/\yu K j H xs vs:=by
 obtain⟨rfl,hs⟩:=zc5 h;obtain⟨a,rfl,hj⟩:=hx.ref_inv;obtain⟨vs,e1,e2⟩:=E0.cel _ _ _ hs hj;exact⟨a,vs,rfl,hj,e1,e2⟩
theorem En.wr {n:Nat} {xs ys:List Xv} {ws:List V} {a:Addr} (E0:En K F j H σ ρ S) (h:Uh S x=some (n,xs)) (hj:j[n]? =some a) (hw:yu K j H ys ws):En K F j (upd H a (.lst ws)) σ ρ (S.set n (.lst ys))/\Ext j H j (upd H a (.lst ws)):=
 E0.write (zc5 h).2 rfl hj rfl λX=>⟨ws,zZ,hw.mono X⟩
theorem tyL {a:Addr} {vs:List V} (h:SqL K H a vs):tyV K "list" (.ref a) H:= .inl ⟨rfl,vs,h⟩
noncomputable def zB:Op2:=λx y S=>match x.tupOf,y with
 |some xs,.int i=>(atI xs i).map λz=>(z,S)
 |_,_=>none
noncomputable def yA:Op2:=λx y S=>match yH S x,y with
 |some xs,.int i=>(atI xs i).map λz=>(z,S)
 |_,_=>none
noncomputable def zh7:Op2:=zo1 λx y=>match x,y with
 | .str z,.int i=>if z.length<=sizeLine then (atI z.cps.toList i).map λc=> .str ⟨#[c]⟩ else none
 |_,_=>none
theorem yc:YL K (zle K) zB:=by
 intro F j σ H ρ S S' x y z u v Q E0 hx hy h k;unfold zB at h;split at h
 .rename_i xs i ex;cases e:atI xs i with
  |none=>rw[e] at h;cases h
  |some z'=>
   rw[e] at h;cases h;obtain⟨a,vs,rfl,h1,h2⟩:=hx.tupO ex;obtain⟨w,e1,e2⟩:=h2.at_ e;exact⟨a,vs,_,w,rfl,hy.int_inv,h1,e1,k _ _ _ Ext.refl E0 e2⟩
 .cases h
theorem yF:YL K (zld K) yA:=by
 intro F j σ H ρ S S' x y z u v Q E0 hx hy h k;unfold yA at h;split at h
 .rename_i xs i ex;cases e:atI xs i with
  |none=>rw[e] at h;cases h
  |some z'=>
   rw[e] at h;cases h;obtain⟨a,vs,rfl,h1,h2⟩:=E0.lstAt hx ex;obtain⟨w,e1,e2⟩:=h2.at_ e;exact⟨a,vs,_,w,rfl,hy.int_inv,h1.sql,e1,k _ _ _ Ext.refl E0 e2⟩
 .cases h
theorem zjp:YL K zns zh7:=by
 intro F j σ H ρ S S' x y z u v Q E0 hx hy h k;obtain⟨h',rfl⟩:=zjm h;dsimp only at h';split at h'
 .split at h'
  .rename_i zz i hz;cases e:atI zz.cps.toList i with
   |none=>rw[e] at h';cases h'
   |some c=>
    rw[e] at h';cases h';exact⟨zz,i,c,hx.str_inv,hy.int_inv,hz,e,k _ _ _ Ext.refl E0 (.str _)⟩
  .cases h'
 .cases h'
noncomputable def zeT:Op2:=λx y S=>match Wk S x,y with
 |some xs,.int i=>(atI xs i).map λz=>(z,S)
 |_,_=>none
theorem zjq:YL K (rIx K) zeT:=by
 intro F j σ H ρ S S' x y z u v Q E0 hx hy h k;unfold zeT at h;split at h
 .rename_i xs i ex;cases e:atI xs i with
  |none=>rw[e] at h;cases h
  |some z'=>
   rw[e] at h;cases h;obtain⟨a,vs,rfl,h1,h2⟩:=E0.seqAt hx ex;obtain⟨w,e1,e2⟩:=h2.at_ e;rcases h1 with h1|h1
   .exact .inl ⟨a,vs,_,w,rfl,hy.int_inv,h1.sql,e1,k _ _ _ Ext.refl E0 e2⟩
   .exact .inr (.inl ⟨a,vs,_,w,rfl,hy.int_inv,h1,e1,k _ _ _ Ext.refl E0 e2⟩)
 .cases h
noncomputable def oNo:TwO:=λ_ S=>some (.ok none S)
noncomputable def YO (m:TwE):TwO:=λρ S=>rb (m ρ S) λx S1=>match x with
 | .int i=>some (.ok (some i) S1)
 |_=>none
theorem zmR:RO K E zgU oNo:=λE0 e k=>by
 cases e;exact k _ _ Ext.refl E0
theorem zaY {t:TE} {m:TwE} (h:RE K E t m):RO K E (zmH t) (YO m):=by
 intro F j σ H ρ S r Q En0 e k;rcases zD e with⟨x,S1,e1,e⟩|⟨c,S1,e1,rfl⟩
 .split at e
  .cases e;exact h En0 e1 λj1 H1 X1 E1 u hu=>⟨_,hu.int_inv,k _ _ X1 E1⟩
  .cases e
 .exact h En0 e1 k
noncomputable def Ui {α:Type} (xs:List α) (lo hi:Option Int):List α:=(xs.drop (HT.sIx xs.length 0 lo)).take (HT.sIx xs.length xs.length hi-HT.sIx xs.length 0 lo)
theorem yu.cut {xs:List Xv} {vs:List V} (h:yu K j H xs vs) (lo hi:Option Int):yu K j H (Ui xs lo hi) (zcp vs lo hi):=by
 unfold zcp Ui;rw[h.len];exact (h.drop _).take _
noncomputable def eSl (f:Xv->Option Int->Option Int->Sto->Option (Xv×Sto)) (m:TwE) (lo hi:TwO):TwE:=λρ S=>rb (m ρ S) λx S1=>rb (lo ρ S1) λy S2=>rb (hi ρ S2) λz S3=>okP (f x y z S3)
def zg5 (K:qP) (r:V->Option Int->Option Int->Hp->VK->Prop) (f:Xv->Option Int->Option Int->Sto->Option (Xv×Sto)):Prop:=∀{F:Fm} {j:List Addr} {σ:St} {H:Hp} {ρ:Rho} {S S':Sto} {x z:Xv} {lo hi:Option Int} {u:V} {Q:VK},En K F j H σ ρ S->Xis K j H x u->f x lo hi S=some (z,S')->(∀w j' H',Ext j H j' H'->En K F j' H' σ ρ S'->Xis K j' H' z w->Q w H')->r u lo hi H Q
theorem zjr {r:V->Option Int->Option Int->Hp->VK->Prop} {f:Xv->Option Int->Option Int->Sto->Option (Xv×Sto)} {te:TE} {tl th:TO} {m:TwE} {lo hi:TwO} (ho:zg5 K r f) (hm:RE K E te m) (hl:RO K E tl lo) (hh:RO K E th hi):RE K E (tSl r te tl th) (eSl f m lo hi):=by
 intro F j σ H ρ S r Q En0 e k;rcases zD e with⟨x,S1,e1,e⟩|⟨c,S1,e1,rfl⟩
 .refine hm En0 e1 λj1 H1 X1 E1 u hu=> ?_;rcases zD e with⟨y,S2,e2,e⟩|⟨c,S2,e2,rfl⟩
  .refine hl E1 e2 λj2 H2 X2 E2=> ?_;rcases zD e with⟨z,S3,e3,e⟩|⟨c,S3,e3,rfl⟩
   .obtain⟨w,S4,e4,rfl⟩:=YM e;exact hh E2 e3 λj3 H3 X3 E3=>ho E3 (hu.mono (X2.trans X3)) e4 λw j4 H4 X4 E4 hw=>k _ _ (X1.trans (X2.trans (X3.trans X4))) E4 _ hw
   .exact hh E2 e3 (PX.mono k (X1.trans X2))
  .exact hl E1 e2 (PX.mono k X1)
 .exact hm En0 e1 k
noncomputable def zeU:Xv->Option Int->Option Int->Sto->Option (Xv×Sto):=λx lo hi S=>(yH S x).map λxs=>(.ref S.length,S++[.lst (Ui xs lo hi)])
theorem zo3:zg5 K (zi0 K) zeU:=by
 intro F j σ H ρ S S' x z lo hi u Q E0 hx h k;unfold zeU at h;cases e:yH S x with
 |none=>rw[e] at h;cases h
 |some xs=>
  rw[e] at h;cases h;obtain⟨a,vs,rfl,h1,h2⟩:=E0.lstAt hx e;refine⟨a,vs,rfl,h1.sql,λp hp=> ?_⟩;obtain⟨E1,X1,h3⟩:=E0.lst (h2.cut lo hi) hp;exact k _ _ _ X1 E1 h3
noncomputable def zbv:Xv->Option Int->Option Int->Sto->Option (Xv×Sto):=λx lo hi S=>match x with
 | .str z=>if z.length<=sizeLine then some (.str (Txt.slice z lo hi),S) else none
 |_=>none
theorem zo4:zg5 K zll zbv:=by
 intro F j σ H ρ S S' x z lo hi u Q E0 hx h k;unfold zbv at h;split at h
 .split at h
  .cases h;exact⟨_,hx.str_inv,by assumption,k _ _ _ Ext.refl E0 (.str _)⟩
  .cases h
 .cases h
noncomputable def zeV:Xv->Option Int->Option Int->Sto->Option (Xv×Sto):=λx lo hi S=>match x with
 | .tup xs=>some (.tup (Ui xs lo hi),S)
 |_=>none
theorem zh8 {α:Type} {xs:List α} {lo hi:Option Int} (h:HT.sIx xs.length 0 lo=0/\HT.sIx xs.length xs.length hi=xs.length):Ui xs lo hi=xs:=by
 unfold Ui;rw[h.1,h.2];simp
theorem zo5:zg5 K (zln K) zeV:=by
 intro F j σ H ρ S S' x z lo hi u Q E0 hx h k;unfold zeV at h;split at h
 .rename_i xs;cases h;obtain⟨a,vs,rfl,h1,h2⟩:=hx.tup_inv;refine⟨a,vs,rfl,SqT.of h1,λhw=>k _ _ _ Ext.refl E0 ?_,λ_ p hp=> ?_⟩
  .rw[h2.len] at hw;rw[zh8 hw];exact hx
  .obtain⟨E1,X1⟩:=E0.new (o:= .tup (zcp vs lo hi)) hp;exact k _ _ _ X1 E1 (.tup zZ ((h2.cut lo hi).mono X1))
 .cases h
theorem zjs {te:TE} {tl th:TO} {m:TwE} {lo hi:TwO} (hm:RE K E te m) (hl:RO K E tl lo) (hh:RO K E th hi):RE K E (tSl (zi0 K) te tl th) (eSl zeU m lo hi):= @zjr K E (zi0 K) zeU te tl th m lo hi (@zo3 K) hm hl hh
theorem znG {te:TE} {tl th:TO} {m:TwE} {lo hi:TwO} (hm:RE K E te m) (hl:RO K E tl lo) (hh:RO K E th hi):RE K E (tSl zll te tl th) (eSl zbv m lo hi):= @zjr K E zll zbv te tl th m lo hi (@zo4 K) hm hl hh
theorem znH {te:TE} {tl th:TO} {m:TwE} {lo hi:TwO} (hm:RE K E te m) (hl:RO K E tl lo) (hh:RO K E th hi):RE K E (tSl (zln K) te tl th) (eSl zeV m lo hi):= @zjr K E (zln K) zeV te tl th m lo hi (@zo5 K) hm hl hh
abbrev OpM:=Xv->List Xv->Sto->Option (Xv×Sto)
def zga (K:qP) (r:V->List V->Hp->VK->Prop) (f:OpM):Prop:=∀{F:Fm} {j:List Addr} {σ:St} {H:Hp} {ρ:Rho} {S S':Sto} {x z:Xv} {ys:List Xv} {u:V} {vs:List V} {Q:VK},En K F j H σ ρ S->Xis K j H x u->yu K j H ys vs->f x ys S=some (z,S')->(∀w j' H',Ext j H j' H'->En K F j' H' σ ρ S'->Xis K j' H' z w->Q w H')->r u vs H Q
noncomputable def eMt (f:OpM) (o:TwE) (ms:List TwE):TwE:=λρ S=>rb (o ρ S) λx S1=>(yH S1 x).bind λ_=>rb (evL ms ρ S1) λys S2=>okP (f x ys S2)
theorem UY {r:V->List V->Hp->VK->Prop} {f:OpM} {to:TE} {t:TA} {o:TwE} {ms:List TwE} (hr:zga K r f) (ho:RE K E to o) (ht:RL K E t (evL ms)):RE K E (tBM K "list" r to t) (eMt f o ms):=by
 intro F j σ H ρ S r Q En0 e k;rcases zD e with⟨x,S1,e1,e⟩|⟨c,S1,e1,rfl⟩
 .refine ho En0 e1 λj1 H1 X1 E1 u hu=> ?_;cases el:L2.yH S1 x with
  |none=>rw[el] at e;cases e
  |some l=>
   rw[el] at e;obtain⟨a,vs,rfl,h1,_⟩:=E1.lstAt hu el;refine⟨tyL h1.sql,?_⟩;rcases zD e with⟨ys,S2,e2,e⟩|⟨c,S2,e2,rfl⟩
   .obtain⟨z,S3,e3,rfl⟩:=YM e;exact ht E1 e2 λj2 H2 X2 E2 ws hw=>hr E2 (hu.mono X2) hw e3 λw j3 H3 X3 E3 hz=>k _ _ (X1.trans (X2.trans X3)) E3 _ hz
   .exact ht E1 e2 (PX.mono k X1)
 .exact ho En0 e1 k
theorem zjt {r:V->List V->Hp->VK->Prop} {f:OpM} {to:TE} {o:TwE} (hr:zga K r f) (ho:RE K E to o):RE K E (zoT K "list" r to) (eMt f o []):=by
 intro F j σ H ρ S r Q En0 e k;exact UY hr ho zo En0 e k
noncomputable def xx:OpM:=λx ys S=>match Uh S x,ys with
 |some (n,xs),[y]=>if xs.length<sizeLine then some (.non,S.set n (.lst (xs++[y]))) else none
 |_,_=>none
theorem vX:zga K zgX xx:=by
 intro F j σ H ρ S S' x z ys u vs Q E0 hx hy h k;unfold xx at h;split at h
 .rename_i n xs y e;split at h
  .rename_i hl;cases h;obtain⟨a,ws,rfl,hj,h1,h2⟩:=E0.wl hx e;obtain⟨w,rfl,hw⟩:=hy.d1;obtain⟨E1,X1⟩:=E0.wr e hj (h2.append (.one hw));exact⟨a,ws,w,rfl,rfl,h1,by rw[h2.len];exact hl,k _ _ _ X1 E1 .non⟩
  .cases h
 .cases h
noncomputable def zju:OpM:=λx ys S=>match Uh S x,ys with
 |some (n,xs),[]=>(xs[xs.length-1]?).map λy=>(y,S.set n (.lst xs.dropLast))
 |_,_=>none
theorem zjv:zga K zoU zju:=by
 intro F j σ H ρ S S' x z ys u vs Q E0 hx hy h k;unfold zju at h;split at h
 .rename_i n xs e;cases e1:xs[xs.length-1]? with
  |none=>rw[e1] at h;cases h
  |some y=>
   rw[e1] at h;cases h;obtain⟨a,ws,rfl,hj,h1,h2⟩:=E0.wl hx e;obtain rfl:=hy.nil_inv;obtain⟨w,f1,f2⟩:=h2.get e1;obtain⟨E1,X1⟩:=E0.wr e hj h2.dropLast;exact⟨a,ws,w,rfl,rfl,h1,by rw[h2.len];exact f1,k _ _ _ X1 E1 (f2.mono X1)⟩
 .cases h
noncomputable def UZ:OpM:=λx ys S=>match Uh S x,ys with
 |some (n,xs),[y]=>(Wk S y).bind λzs=>if xs.length+zs.length<=sizeLine then some (.non,S.set n (.lst (xs++zs))) else none
 |_,_=>none
theorem zc6:zga K (zeP K) UZ:=by
 intro F j σ H ρ S S' x z ys u vs Q E0 hx hy h k;unfold UZ at h;split at h
 .rename_i n xs y e;cases e1:Wk S y with
  |none=>rw[e1] at h;cases h
  |some zs=>
   rw[e1] at h;dsimp only[tZ] at h;split at h
   .rename_i hl;cases h;obtain⟨a,ws,rfl,hj,h1,h2⟩:=E0.wl hx e;obtain⟨w,rfl,hw⟩:=hy.d1;obtain⟨b,ts,rfl,g1,g2⟩:=E0.seqAt hw e1;obtain⟨E1,X1⟩:=E0.wr e hj (h2.append g2);exact⟨a,b,ws,ts,rfl,rfl,h1,g1,by rw[h2.len,g2.len];exact hl,k _ _ _ X1 E1 .non⟩
   .cases h
 .cases h
noncomputable def zu (a b:TwS):TwS:=λρ S=>match a ρ S with
 |some (.nx ρ1 S1)=>b ρ1 S1
 |r=>r
noncomputable def yo:TwS:=λρ S=>some (.nx ρ S)
noncomputable def zY (m:TwE) (g:TwG):TwS:=λρ S=>sb (m ρ S) λx S1=>sb (g x ρ S1) λρ1 S2=>some (.nx ρ1 S2)
noncomputable def Zz (m:TwE):TwS:=λρ S=>sb (m ρ S) λ_ S1=>some (.nx ρ S1)
noncomputable def yd (m:TwE):TwS:=λρ S=>sb (m ρ S) λx S1=>some (.rt x S1)
noncomputable def sIf (c:TwT) (a b:TwS):TwS:=λρ S=>sb (c ρ S) λx S1=>if x then a ρ S1 else b ρ S1
noncomputable def zaM (r:Option Fl) (go:Rho->Sto->Option Fl):Option Fl:=match r with
 |some (.nx ρ S)=>go ρ S
 |some (.ct ρ S)=>go ρ S
 |some (.bk ρ S)=>some (.nx ρ S)
 |r=>r
noncomputable def Uq (get:Sto->Option (List Xv)) (g:TwG) (b:TwS):Nat->Nat->Rho->Sto->Option Fl
 |0,_,_,_=>none
 |f+1,i,ρ,S=>(get S).bind λxs=>match xs[i]? with
  |none=>if i=xs.length then some (.nx ρ S) else none
  |some x=>sb (g x ρ S) λρ1 S1=>zaM (b ρ1 S1) λρ2 S2=>Uq get g b f (i+1) ρ2 S2
noncomputable def XN (m:TwI) (g:TwG) (b:TwS):TwS:=λρ S=>sb (m ρ S) λget S1=>(get S1).bind λxs=>Uq get g b (xs.length+1) 0 ρ S1
noncomputable def zai (c:TwT) (b:TwS):Nat->Rho->Sto->Option Fl
 |0,_,_=>none
 |n+1,ρ,S=>sb (c ρ S) λx S1=>if x then zaM (b ρ S1) λρ2 S2=>zai c b n ρ2 S2 else some (.nx ρ S1)
noncomputable def sWh (n:Nat) (c:TwT) (b:TwS):TwS:=λρ S=>zai c b n ρ S
noncomputable def gN (i:Nat):TwG:=λx ρ S=>some (.ok (ρ.set i (some x)) S)
noncomputable def zgb (o mi:TwE):TwG:=λd ρ S=>rb (o ρ S) λx S1=>rb (mi ρ S1) λy S2=>match Uh S2 x,y with
 |some (n,xs),.int i=>(ixN xs.length i).map λk=> .ok ρ (S2.set n (.lst (xs.set k d)))
 |_,_=>none
theorem zN {i:Nat}:RG K E (zgN i) (gN i):=λE0 hx e k=>by
 cases e;exact k _ _ _ Ext.refl (E0.set hx)
theorem zjw {to ti:TE} {o mi:TwE} (ho:RE K E to o) (hi:RE K E ti mi):RG K E (zoH to ti zmI) (zgb o mi):=by
 intro F j σ H ρ S r d vd R E0 hd e k;rcases zD e with⟨x,S1,e1,e⟩|⟨c,S1,e1,rfl⟩
 .refine ho E0 e1 λj1 H1 X1 E1 u hu=> ?_;rcases zD e with⟨y,S2,e2,e⟩|⟨c,S2,e2,rfl⟩
  .refine hi E1 e2 λj2 H2 X2 E2 w hw=> ?_;split at e
   .rename_i n xs i ex;cases e3:ixN xs.length i with
    |none=>rw[e3] at e;cases e
    |some m=>
     rw[e3] at e;cases e;obtain⟨a,vs,rfl,hj,h1,h2⟩:=E2.wl (hu.mono X2) ex;obtain⟨E3,X3⟩:=E2.wr ex hj (h2.set (hd.mono (X1.trans X2)) m);exact⟨a,vs,i,m,rfl,hw.int_inv,h1,by rw[h2.len];exact e3,k _ _ _ (X1.trans (X2.trans X3)) E3⟩
   .cases e
  .exact hi E1 e2 (PX.mono k X1)
 .exact ho E0 e1 k
theorem xj:RS K E zmA yo:=λE0 e k=>by
 cases e;exact k _ _ _ Ext.refl E0
theorem zJ {t u:TS} {a b:TwS} (ha:RS K E t a) (hb:RS K E u b):RS K E (zoD t u) (zu a b):=by
 intro F j D' σ H ρ S fl E0 e k;unfold zu at e;split at e
 .rename_i ρ1 S1 e1;exact ha (D':={D' with nx:=u D'}) E0 e1 λσ1 j1 H1 X1 E1=>hb E1 e (k.step X1)
 .rename_i hn;refine ha (D':={D' with nx:=u D'}) E0 e ?_;cases fl with
  |nx ρ1 S1=>exact absurd e (hn ρ1 S1)
  |bk ρ1 S1=>exact k
  |ct ρ1 S1=>exact k
  |rt x S1=>exact k
  |ex c S1=>exact k
theorem yO {te:TE} {g:TG} {m:TwE} {g':TwG} (h:RE K E te m) (hg:RG K E g g'):RS K E (zng te g) (zY m g'):=by
 intro F j D' σ H ρ S fl E0 e k;rcases xS e with⟨x,S1,e1,e⟩|⟨c,S1,e1,rfl⟩
 .refine h E0 e1 λj1 H1 X1 E1 u hu=> ?_;rcases xS e with⟨ρ1,S2,e2,e⟩|⟨c,S2,e2,rfl⟩
  .cases e;exact hg E1 hu e2 λσ2 j2 H2 X2 E2=>k _ _ _ (X1.trans X2) E2
  .exact hg E1 hu e2 (PX.mono k X1)
 .exact h E0 e1 k
theorem Xt {te:TE} {m:TwE} (h:RE K E te m):RS K E (zmB te) (Zz m):=by
 intro F j D' σ H ρ S fl E0 e k;rcases xS e with⟨x,S1,e1,e⟩|⟨c,S1,e1,rfl⟩
 .cases e;exact h E0 e1 λj1 H1 X1 E1 u hu=>k _ _ _ X1 E1
 .exact h E0 e1 k
theorem yv {te:TE} {m:TwE} (h:RE K E te m):RS K E (zoE te) (yd m):=by
 intro F j D' σ H ρ S fl E0 e k;rcases xS e with⟨x,S1,e1,e⟩|⟨c,S1,e1,rfl⟩
 .cases e;exact h E0 e1 λj1 H1 X1 E1 u hu=>k _ _ _ _ _ X1 E1 hu
 .exact h E0 e1 k
theorem vG {c:TT} {t u:TS} {m:TwT} {a b:TwS} (hc:RT K E c m) (ha:RS K E t a) (hb:RS K E u b):RS K E (zoF c t u) (sIf m a b):=by
 intro F j D' σ H ρ S fl E0 e k;rcases xS e with⟨x,S1,e1,e⟩|⟨c,S1,e1,rfl⟩
 .refine hc E0 e1 λj1 H1 X1 E1=> ?_;cases x with
  |true=>exact ha E1 e (k.step X1)
  |false=>exact hb E1 e (k.step X1)
 .exact hc E0 e1 k
theorem zc7 {r:Option Fl} {go:Rho->Sto->Option Fl} {fl:Fl} (h:zaM r go=some fl):∃f,r=some f/\((∃ρ S,(f= .nx ρ S\/f= .ct ρ S)/\go ρ S=some fl)\/(∃ρ S,f= .bk ρ S/\fl= .nx ρ S)\/(f=fl/\((∃x S,fl= .rt x S)\/∃c S,fl= .ex c S))):=by
 unfold zaM at h;split at h
 .exact⟨_,rfl,.inl ⟨_,_,.inl rfl,h⟩⟩
 .exact⟨_,rfl,.inl ⟨_,_,.inr rfl,h⟩⟩
 .cases h;exact⟨_,rfl,.inr (.inl ⟨_,_,rfl,rfl⟩)⟩
 .rename_i n1 n2 n3;refine⟨fl,h,.inr (.inr ⟨rfl,?_⟩)⟩;cases fl with
  |nx ρ S=>exact absurd h (n1 ρ S)
  |ct ρ S=>exact absurd h (n2 ρ S)
  |bk ρ S=>exact absurd h (n3 ρ S)
  |rt x S=>exact .inl ⟨x,S,rfl⟩
  |ex c S=>exact .inr ⟨c,S,rfl⟩
theorem UB {wi:TI} {g:TG} {tb:TS} {m:TwI} {g':TwG} {b:TwS} (hi:RI K E wi m) (hg:RG K E g g') (hb:RS K E tb b):RS K E (zoI wi g tb) (XN m g' b):=by
 intro F j D' σ H ρ S fl E0 e k;rcases xS e with⟨get,S1,e1,e⟩|⟨c,S1,e1,rfl⟩
 .refine hi E0 e1 λj1 H1 X1 E1 J ok=> ?_;cases eg:get S1 with
  |none=>rw[eg] at e;cases e
  |some xs=>
   rw[eg] at e;refine⟨λi n σ H=>∃j2 ρ2 S2,Ext j1 H1 j2 H/\En K F j2 H σ ρ2 S2/\Uq get g' b n i ρ2 S2=some fl,⟨xs.length+1,j1,ρ,S1,Ext.refl,E1,e⟩,?_⟩;rintro i n σ2 H2 ⟨j2,ρ2,S2,X2,E2,e2⟩;cases n with
   |zero=>cases e2
   |succ n=>
    unfold Uq at e2;cases hX:get S2 with
    |none=>rw[hX] at e2;cases e2
    |some ys=>
     rw[hX] at e2;dsimp only[tZ] at e2;obtain⟨go,stop⟩:=ok i X2 E2 hX;split at e2
     .split at e2
      .rename_i hl;cases e2;exact .inl ⟨stop hl,k _ _ _ (X1.trans X2) E2⟩
      .cases e2
     .rename_i x ex;obtain⟨g1,g2⟩:=go x ex;refine .inr ⟨g1,λσ' H'=>∃j3 ρ3 S3,Ext j1 H1 j3 H'/\En K F j3 H' σ' ρ3 S3/\Uq get g' b n (i+1) ρ3 S3=some fl,λ_ _ z=>⟨n,tf _,z⟩,λv H3 hy=> ?_⟩;obtain⟨Sm,hv⟩:=g2 v H3 hy;have E3:=E2.heap Sm;have X3:Ext j2 H2 j2 H3:=Ext.same Sm;rcases xS e2 with⟨ρ4,S4,e4,e2⟩|⟨c,S4,e4,rfl⟩
      .refine hg E3 hv e4 λσ4 j4 H4 X4 E4=> ?_;obtain⟨f5,e5,h5⟩:=zc7 e2;refine hb E4 e5 ?_;have X14:=X2.trans (X3.trans X4);rcases h5 with⟨ρ6,S6,h6,e6⟩|⟨ρ6,S6,rfl,rfl⟩|⟨rfl,h6⟩
       .rcases h6 with rfl|rfl
        .exact λσ5 j5 H5 X5 E5=>⟨j5,ρ6,S6,X14.trans X5,E5,e6⟩
        .exact λσ5 j5 H5 X5 E5=>⟨j5,ρ6,S6,X14.trans X5,E5,e6⟩
       .exact λσ5 j5 H5 X5 E5=>k _ _ _ (X1.trans (X14.trans X5)) E5
       .rcases h6 with⟨x6,S6,rfl⟩|⟨c6,S6,rfl⟩
        .exact λv σ5 ρ5 j5 H5 X5 E5 hv=>k v σ5 ρ5 _ _ (X1.trans (X14.trans X5)) E5 hv
        .exact PX.mono k (X1.trans X14)
      .exact hg E3 hv e4 (PX.mono k (X1.trans (X2.trans X3)))
 .exact hi E0 e1 k
theorem zbw {c:TT} {tb:TS} {m:TwT} {b:TwS} {n:Nat} (hc:RT K E c m) (hb:RS K E tb b):RS K E (ziJ c tb) (sWh n m b):=by
 intro F j D' σ H ρ S fl E0 e k;refine⟨λn σ2 H2=>∃j2 ρ2 S2,Ext j H j2 H2/\En K F j2 H2 σ2 ρ2 S2/\zai m b n ρ2 S2=some fl,⟨n,j,ρ,S,Ext.refl,E0,e⟩,?_⟩;rintro n σ2 H2 ⟨j2,ρ2,S2,X2,E2,e2⟩;cases n with
 |zero=>cases e2
 |succ n=>
  unfold zai at e2;rcases xS e2 with⟨x,S3,e3,e2⟩|⟨c,S3,e3,rfl⟩
  .refine hc E2 e3 λj3 H3 X3 E3=> ?_;have X13:=X2.trans X3;cases x with
   |false=>cases e2;exact k _ _ _ X13 E3
   |true=>
    obtain⟨f5,e5,h5⟩:=zc7 e2;refine⟨λσ' H'=>∃j3 ρ3 S3,Ext j H j3 H'/\En K F j3 H' σ' ρ3 S3/\zai m b n ρ3 S3=some fl,λσ' H' z=>⟨n,tf _,z⟩,hb E3 e5 ?_⟩;rcases h5 with⟨ρ6,S6,h6,e6⟩|⟨ρ6,S6,rfl,rfl⟩|⟨rfl,h6⟩
    .rcases h6 with rfl|rfl
     .exact λσ5 j5 H5 X5 E5=>⟨j5,ρ6,S6,X13.trans X5,E5,e6⟩
     .exact λσ5 j5 H5 X5 E5=>⟨j5,ρ6,S6,X13.trans X5,E5,e6⟩
    .exact λσ5 j5 H5 X5 E5=>k _ _ _ (X13.trans X5) E5
    .rcases h6 with⟨x6,S6,rfl⟩|⟨c6,S6,rfl⟩
     .exact λv σ5 ρ5 j5 H5 X5 E5 hv=>k v σ5 ρ5 _ _ (X13.trans X5) E5 hv
     .exact PX.mono k X13
  .exact hc E2 e3 (PX.mono k X2)
noncomputable def iL (m:TwE):TwI:=λρ S=>rb (m ρ S) λx S1=>(yH S1 x).map λ_=> .ok (λS=>yH S x) S1
noncomputable def iT (m:TwE):TwI:=λρ S=>rb (m ρ S) λx S1=>x.tupOf.map λl=> .ok (λ_=>some l) S1
theorem Ta {t:TE} {m:TwE} (h:RE K E t m):RI K E (ziL K t) (iL m):=by
 intro F j σ H ρ S r R En0 e k;rcases zD e with⟨x,S1,e1,e⟩|⟨c,S1,e1,rfl⟩
 .cases el:yH S1 x with
  |none=>rw[el] at e;cases e
  |some l=>
   rw[el] at e;cases e;refine h En0 e1 λj1 H1 X1 E1 u hu=> ?_;obtain⟨a,vs,rfl,h1,_⟩:=E1.lstAt hu el;refine⟨a,rfl,⟨vs,h1.sql⟩,k _ _ X1 E1 _ ?_⟩;intro F2 j2 H2 σ2 ρ2 S2 xs i X2 E2 e2;obtain⟨a',ws,ea,g1,g2⟩:=E2.lstAt (hu.mono X2) e2;cases ea;refine⟨λy ey=> ?_,λhle=>⟨ws,g1.sql,by rw[g2.len];omega⟩⟩;obtain⟨w,f1,f2⟩:=g2.get ey;refine⟨⟨ws,w,g1.sql,f1⟩,?_⟩;rintro v' H' ⟨rfl,hx⟩;have:=hx ws g1.sql;rw[f1] at this;cases this;exact⟨Wh.refl _,f2⟩
 .exact h En0 e1 k
theorem zbx {t:TE} {m:TwE} (h:RE K E t m):RI K E (znj K t) (iT m):=by
 intro F j σ H ρ S r R En0 e k;rcases zD e with⟨x,S1,e1,e⟩|⟨c,S1,e1,rfl⟩
 .cases el:x.tupOf with
  |none=>rw[el] at e;cases e
  |some l=>
   rw[el] at e;cases e;refine h En0 e1 λj1 H1 X1 E1 u hu=> ?_;obtain⟨a,vs,rfl,h1,_⟩:=hu.tupO el;refine⟨a,rfl,⟨vs,h1⟩,k _ _ X1 E1 _ ?_⟩;intro F2 j2 H2 σ2 ρ2 S2 xs i X2 E2 e2;cases e2;obtain⟨a',ws,ea,g1,g2⟩:=(hu.mono X2).tupO el;cases ea;refine⟨λy ey=> ?_,λhle=>⟨ws,g1,by rw[g2.len];omega⟩⟩;obtain⟨w,f1,f2⟩:=g2.get ey;refine⟨⟨ws,w,g1,f1⟩,?_⟩;rintro v' H' ⟨rfl,hx⟩;have:=hx ws g1;rw[f1] at this;cases this;exact⟨Wh.refl _,f2⟩
 .exact h En0 e1 k
noncomputable def xy (lo:Int) (n:Nat):List Xv:=(sC n).map λ(k:Nat)=>Xv.int (lo+(k:Int))
noncomputable def iR1 (m:TwE):TwI:=λρ S=>rb (m ρ S) λx S1=>match x with
 | .int j=>if -(2^62)<=j/\j<2^62 then some (.ok (λ_=>some (xy 0 j.toNat)) S1) else none
 |_=>none
theorem zjx {lo:Int} {n:Nat}:znC K j H (Itr lo n) (λ_=>some (xy lo n)):=by
 intro F2 j2 H2 σ2 ρ2 S2 xs i X2 E2 e2;cases e2;refine⟨λd hd=> ?_,λhle=> ?_⟩
 .unfold xy at hd;rw[qY] at hd;have hi:i<n:=by
   apply sS;intro hn;rw[r6 (by simp;omega)] at hd;cases hd
  rw[u9 hi] at hd;cases hd;refine⟨hi,?_⟩;rintro x H' ⟨rfl,rfl⟩;exact⟨Wh.refl _,.int _⟩
 .unfold xy at hle;simp at hle;show n<=i;omega
theorem vo {t:TE} {m:TwE} (h:RE K E t m):RI K E (zmC (zaw t ziT)) (iR1 m):=by
 intro F j σ H ρ S r R En0 e k;rcases zD e with⟨x,S1,e1,e⟩|⟨c,S1,e1,rfl⟩
 .split at e
  .split at e
   .rename_i hb;cases e;exact h En0 e1 λj1 H1 X1 E1 u hu=>⟨_,by rw[hu.int_inv],hb.1,hb.2,k _ _ X1 E1 _ zjx⟩
   .cases e
  .cases e
 .exact h En0 e1 k
end
noncomputable def rn {α β:Type} (m:Option (Rs α)) (f:α->Sto->Option β):Option β:=match m with
 |some (.ok a S)=>f a S
 |_=>none
theorem zdO {α β:Type} {m:Option (Rs α)} {f:α->Sto->Option β} {r:β} (h:rn m f=some r):∃a S,m=some (.ok a S)/\f a S=some r:=by
 unfold rn at h;split at h
 .exact⟨_,_,rfl,h⟩
 .cases h
noncomputable def xZ (cap:List (Option Nat)) (ρ:Rho):Rho:=cap.map λo=>o.bind λi=>(ρ[i]?).join
noncomputable def YQ (get:Sto->Option (List Xv)) (g:TwG) (c:TwT) (e:TwE) (ρc:Rho):Nat->Nat->List Xv->Sto->Option (Rs Xv)
 |0,_,_,_=>none
 |f+1,i,es,S=>(get S).bind λxs=>match xs[i]? with
  |none=>if i=xs.length then some (.ok (.ref S.length) (S++[.lst es])) else none
  |some x=>rn (g x ρc S) λρ1 S1=>rn (c ρ1 S1) λb S2=>if b then rn (e ρ1 S2) λy S3=>if es.length<sizeLine then YQ get g c e ρc f (i+1) (es++[y]) S3 else none
    else YQ get g c e ρc f (i+1) es S2
noncomputable def xm (cap:List (Option Nat)) (m:TwI) (g:TwG) (c:TwT) (e:TwE):TwE:=λρ S=>rb (m ρ S) λget S1=>(get S1).bind λxs=>YQ get g c e (xZ cap ρ) (xs.length+1) 0 [] S1
noncomputable def xi:TwT:=λ_ S=>some (.ok true S)
section
variable {K:qP} {E:XK} {F:Fm} {j j':List Addr} {H H':Hp} {σ σ':St} {ρ ρ':Rho} {S S':Sto} {x:Xv} {v:V} {a:Addr} {o:HO}
theorem vM:RT K E (λ_ H Q=>Q true H) xi:=λE1 e k=>by
 cases e;exact k _ _ Ext.refl E1
def Vf (j:List Addr) (S:Sto) (a:Addr):Prop:=∀(n:Nat) c,j[n]? =some a->S[n]? =some c->c.fz=true
theorem En.notIn (E1:En K F j H σ ρ S) (h:H a=none):Vf j S a:=λn c e1 e2=>by
 cases z:c.fz with
 |true=>rfl
 |false=>
  obtain⟨o,e,_⟩:=(E1.cel n c a e2 e1).mu z;rw[h] at e;cases e
theorem En.outside (E1:En K F j H σ ρ S) (h:Vf j S a) {o0:HO} (h0:H a=some o0) (m0:o0.mu=true) (hf:F.H0 a=none):En K F j (upd H a o) σ ρ S/\Ext j H j (upd H a o):=by
 have X:Ext j H j (upd H a o):=⟨λ_ _ e=>e,λb u e m=>by
  have:b≠a:=λq=>by subst q;rw[h0] at e;cases e;rw[m] at m0;cases m0
  rw[zO this];exact e⟩
 refine⟨⟨E1.len,λi x e=> ?_,E1.jl,E1.inj,λn c b e1 e2=> ?_,E1.ext.trans X,E1.old,E1.l0,λb u e=> ?_,E1.fresh,λb e=> ?_⟩,X⟩
 .obtain⟨v,e1,e2⟩:=E1.slot i x e;exact⟨v,e1,e2.mono X⟩
 .refine (E1.cel n c b e1 e2).mono X λz=>zO λq=> ?_;subst q;rw[h n c e2 e1] at z;cases z
 .have hb:b≠a:=λq=>by subst q;rw[hf] at e;cases e
  rcases E1.keep b u e with h|h
  .exact .inl (by rw[zO hb];exact h)
  .exact .inr h
 .have hb:b≠a:=λq=>by subst q;rw[zZ] at e;cases e
  rw[zO hb] at e;exact E1.dom b e
theorem En.adopt {c:Ce} (E1:En K F j H σ ρ S) (h:Vf j S a) (hf:F.H0 a=none) (hc:zbr K (j++[a]) H a c):En K F (j++[a]) H σ ρ (S++[c])/\Ext j H (j++[a]) H:=by
 have X:Ext j H (j++[a]) H:=⟨λn b e=>by rw[qR (qO.1 e).1];exact e,vw.refl _⟩;have lt:∀{n:Nat} {d:Ce},S[n]? =some d->n<S.length:=λe=>(qO.1 e).1;have at_:∀{n:Nat} {b:Addr} {d:Ce},(j++[a])[n]? =some b->(S++[c])[n]? =some d->(j[n]? =some b/\S[n]? =some d)\/(n=S.length/\b=a/\d=c):=λ{n b d} e1 e2=>by
  by_cases hn:n<S.length
  .rw[qR hn] at e2;rw[qR (by rw[E1.jl];exact hn)] at e1;exact .inl ⟨e1,e2⟩
  .rw[qU ⋯] at e2;rw[qU (by rw[E1.jl];omega),E1.jl] at e1;cases hm:n-S.length with
   |zero=>rw[hm] at e1 e2;simp at e1 e2;exact .inr ⟨⋯,e1.symm,e2.symm⟩
   |succ m=>rw[hm] at e1;simp at e1
 refine⟨⟨E1.len,λi x e=> ?_,by simp[E1.jl],λn m b c1 c2 e1 e2 e3 e4 z1 z2=> ?_,λn d b e1 e2=> ?_,E1.ext.trans X,λn d e=> ?_,E1.l0,E1.keep,λn b hn e=> ?_,E1.dom⟩,X⟩
 .obtain⟨v,e1,e2⟩:=E1.slot i x e;exact⟨v,e1,e2.mono X⟩
 .rcases at_ e1 e3 with⟨f1,f2⟩|⟨f1,f2,f3⟩
  .rcases at_ e2 e4 with⟨g1,g2⟩|⟨g1,g2,g3⟩
   .exact E1.inj n m b c1 c2 f1 g1 f2 g2 z1 z2
   .subst g2;rw[h n c1 f1 f2] at z1;cases z1
  .rcases at_ e2 e4 with⟨g1,g2⟩|⟨g1,g2,g3⟩
   .subst f2;rw[h m c2 g1 g2] at z2;cases z2
   .rw[f1,g1]
 .rcases at_ e2 e1 with⟨f1,f2⟩|⟨f1,rfl,rfl⟩
  .exact (E1.cel n d b f2 f1).mono X λ_=>rfl
  .exact hc
 .obtain⟨d',e1,e2⟩:=E1.old n d e;exact⟨d',by rw[qR (lt e1)];exact e1,e2⟩
 .by_cases hm:n<j.length
  .rw[qR hm] at e;exact E1.fresh n b hn e
  .rw[qU ⋯] at e;cases hk:n-j.length with
   |zero=>rw[hk] at e;simp at e;subst e;exact hf
   |succ m=>rw[hk] at e;simp at e
theorem zh9 {cap:List (Option Nat)} (E1:En K F j H σ ρ S):(YK cap σ).length=(xZ cap ρ).length/\∀(i:Nat) x,(xZ cap ρ)[i]? =some (some x)->∃v,(YK cap σ)[i]? =some (some v)/\Xis K j H x v:=by
 refine⟨by simp[YK,xZ],λi x h=> ?_⟩;unfold xZ at h;unfold YK;rw[qY] at h ⊢;cases e:cap[i]? with
 |none=>rw[e] at h;cases h
 |some o=>
  rw[e] at h;cases o with
  |none=>simp at h
  |some k=>
   simp only[sE,r0,rJ] at h ⊢;cases q:ρ[k]? with
   |none=>rw[q] at h;simp at h
   |some z=>
    rw[q] at h;simp at h;subst h;obtain⟨v,e1,e2⟩:=E1.slot k x q;exact⟨v,by rw[e1];rfl,e2⟩
theorem vN {cap:List (Option Nat)} {wi:TI} {g:TG} {tt:TT} {te:TE} {m:TwI} {g':TwG} {c:TwT} {e:TwE} (hi:RI K E wi m) (hg:RG K E0 g g') (hc:RT K E0 tt c) (he:RE K E0 te e):RE K E (zi8 cap wi g tt te) (xm cap m g' c e):=by
 intro F j σ H ρ S r Q En0 h k;rcases zD h with⟨get,S1,e1,h⟩|⟨c1,S1,e1,rfl⟩
 .refine hi En0 e1 λj1 H1 X1 E1 J ok acc cE=> ?_;cases eg:get S1 with
  |none=>rw[eg] at h;cases h
  |some xs=>
   rw[eg] at h;have hf:F.H0 acc=none:=E1.dom acc cE;obtain⟨Ea,Xa⟩:=E1.new (o:= .lst []) cE
   refine⟨λi n ys H2=>∃j2 S2 es,Ext j1 H1 j2 H2/\En K F j2 H2 σ ρ S2/\H2 acc=some (.lst ys)/\yu K j2 H2 es ys/\Vf j2 S2 acc/\YQ get g' c e (xZ cap ρ) n i es S2=some r,
    ⟨xs.length+1,j1,S1,[],Xa,Ea,zZ,.nil,E1.notIn cE,h⟩,?_⟩
   rintro i n ys H2 ⟨j2,S2,es,X2,E2,h2,jH,nin,e2⟩;cases n with
   |zero=>cases e2
   |succ n=>
    unfold YQ at e2;cases hX:get S2 with
    |none=>rw[hX] at e2;cases e2
    |some zs=>
     rw[hX] at e2;dsimp only[tZ] at e2;obtain⟨go,stop⟩:=ok i X2 E2 hX;split at e2
     .split at e2
      .rename_i hl;cases e2;obtain⟨E3,X3⟩:=E2.adopt (c:= .lst es) nin hf ⟨ys,h2,jH.mono ⟨λn b e=>by rw[qR (qO.1 e).1];exact e,vw.refl _⟩⟩;exact .inl ⟨stop hl,k _ _ (X1.trans (X2.trans X3)) E3 _ (.ref (by rw[<-E2.jl];simp))⟩
      .cases e2
     .rename_i x ex;obtain⟨g1,g2⟩:=go x ex;refine .inr ⟨g1,λv H3 hy=> ?_⟩;obtain⟨Sm,hv⟩:=g2 v H3 hy;have E3:=E2.heap Sm;have X3:Ext j2 H2 j2 H3:=Ext.same Sm;have h3:H3 acc=some (.lst ys):=Sm _ _ h2;obtain⟨cl,cs⟩:=zh9 (cap:=cap) E3;have I0:=E3.enter cl cs;obtain⟨ρ4,S4,e4,e2⟩:=zdO e2;obtain⟨b,S5,e5,e2⟩:=zdO e2;have behind:∀{j6:List Addr} {H6:Hp} {σ6:St} {ρ6:Rho} {S6:Sto},En K ⟨H3,j2,S2⟩ j6 H6 σ6 ρ6 S6->En K F j6 H6 σ ρ S6/\Ext j2 H2 j6 H6/\H6 acc=some (.lst ys)/\Vf j6 S6 acc:=λ{j6 H6 σ6 ρ6 S6} X=>by
       obtain⟨E6,X6⟩:=E3.leave X;refine⟨E6,X3.trans X6,?_,λn d q1 q2=> ?_⟩
       .rcases X.keep acc _ h3 with q|⟨n,d,q1,q2,q3⟩
        .exact q
        .rw[nin n d q1 q2] at q3;cases q3
       .by_cases hn:n<j2.length
        .have p1:j2[n]? =some j2[n]:=qN hn;have p2:=X6.pre n _ p1;rw[q1] at p2;cases p2;have dh:n<S2.length:=by rw[<-E2.jl];exact hn
         obtain⟨d',f1,_,f3⟩:=X.old n _ (qN dh);rw[q2] at f1;cases f1;have hz:=nin n _ p1 (qN dh);rw[f3 hz];exact hz
        .have q:=X.fresh n acc (by dsimp only;omega) q1;have q:H3 acc=none:=q;rw[h3] at q;cases q
      refine hg I0 hv e4 λσ4 j4 H4 X4 I4=>hc I4 e5 λj5 H5 X5 I5=> ?_;cases b with
      |true=>
       rw[if_pos rfl];rw[if_pos rfl] at e2;obtain⟨y,S6,e6,e2⟩:=zdO e2;split at e2
       .rename_i hsz;refine he I5 e6 λj6 H6 X6 I6 w hw=> ?_;obtain⟨E6,X26,h6,fU⟩:=behind I6;obtain⟨E7,X7⟩:=E6.outside (o:= .lst (ys++[w])) fU h6 rfl hf;refine⟨h6,by rw[jH.len];exact hsz,n,tf _,j6,S6,es++[y],X2.trans (X26.trans X7),E7,zZ,((jH.mono X26).append (.one hw)).mono X7,fU,e2⟩
       .cases e2
      |false=>
       rw[if_neg (by simp)];rw[if_neg (by simp)] at e2;obtain⟨E6,X26,h6,fU⟩:=behind I5;exact⟨n,tf _,j5,S5,es,X2.trans X26,E6,h6,jH.mono X26,fU,e2⟩
 .exact hi En0 e1 k
theorem WH {i:Nat} {cap:List (Option Nat)} {wi:TI} {g:TG} {tt:TT} {te:TE} {m:TwE} (h:RE K E (zi8 cap wi g tt te) m):RS K E (zeJ i cap wi g tt te) (zY m (gN i)):=by
 intro F j D' σ H ρ S fl E1 e k;rcases xS e with⟨x,S1,e1,e⟩|⟨c,S1,e1,rfl⟩
 .cases e;exact h (Q:=λv H2=>D'.nx (σ.set i (some v)) H2) E1 e1 λj1 H1 X1 E1 u hu=>k _ _ _ X1 (E1.set hu)
 .exact h (Q:=λv H2=>D'.nx (σ.set i (some v)) H2) E1 e1 k
abbrev TwF:=List Xv->Sto->Option (Rs Xv)
noncomputable def yi (n k:Nat) (b:TwS):TwF:=λxs S=>if xs.length=n then match b (xs.map some++rh k none) S with
  |some (.rt x S')=>some (.ok x S')
  |some (.nx _ S')=>some (.ok .non S')
  |some (.ex c S')=>some (.ex c S')
  |_=>none
 else none
def zo6 (K:qP) (F:Fm) (Q:VK) (E:XK):Rs Xv->Prop
 | .ok x S'=>∀v j' H' σ ρ,En K F j' H' σ ρ S'->Xis K j' H' x v->Q v H'
 | .ex c S'=>∀j' H' σ ρ C,En K F j' H' σ ρ S'->rz K mainGlobals c=some (some (.ref C))->E (.ref C) none H'
def sTw (K:qP) (n:Nat) (tw:TwF):Sp:=λvs H Q E=>vs.length=n/\∃(j:List Addr) (S:Sto) (xs:List Xv) (r:Rs Xv),En K ⟨H,j,S⟩ j H (vs.map some) (xs.map some) S/\tw xs S=some r/\zo6 K ⟨H,j,S⟩ Q E r
theorem yz {n k:Nat} {N:List Str} {t:TS} {b:TwS} {vs:List V} {Q:VK} (hN:N.length=n+k) (h:RS K E t b) (hs:sTw K n (yi n k b) vs H Q E):t {nx:=λ_ H'=>Q .non H',rt:=Q} (Xp N vs) H:=by
 obtain⟨hn,j,S,xs,r,E1,e,ret⟩:=hs;have es:Xp N vs=vs.map some++rh k none:=by
  unfold Xp;rw[hN,hn,Nat.add_sub_cancel_left]
 rw[es];unfold yi at e;split at e
 .split at e
  .rename_i x S' e1;cases e;exact h E1.grow e1 λv σ ρ j' H' X E' hv=>ret _ _ _ _ _ E' hv
  .rename_i ρ' S' e1;cases e;exact h E1.grow e1 λσ j' H' X E'=>ret _ _ _ _ _ E' .non
  .rename_i c S' e1;cases e;exact h E1.grow e1 λj' H' σ' ρ' C X E' hC=>ret _ _ _ _ _ E' hC
  .cases e
 .cases e
theorem VU {P:Program} {w:World} {mg:Str->Option Value} {base:Heap} {CX:CXT} {k n:Nat} {f:Addr} {fd:FuncData} {ps:List Str} (hl:ps.length=n:=by rfl):yD P w K mg base CX k f fd ps (sTw K n λ_ _=>none):=
 ⟨λvs H Q E h=>h.1.trans hl.symm,λA outer s H args us vs Q E hr he hb hv hs=>by
  obtain⟨_,_,_,_,_,_,z,_⟩:=hs
  cases z⟩
noncomputable def zP (tw:TwF) (ms:List TwE):TwE:=λρ S=>rb (evL ms ρ S) λxs S1=>tw xs S1
theorem zby {xs:List Xv} {vs:List V} (hv:yu K j H xs vs):(vs.map some).length=(xs.map some).length/\∀(i:Nat) x,(xs.map some)[i]? =some (some x)->∃v,(vs.map some)[i]? =some (some v)/\Xis K j H x v:=by
 refine⟨by simp[hv.len],λi x h=> ?_⟩;rw[qY] at h ⊢;cases e:xs[i]? with
 |none=>rw[e] at h;cases h
 |some y=>
  rw[e] at h;simp at h;subst h;obtain⟨v,e1,e2⟩:=hv.get e;exact⟨v,by rw[e1];rfl,e2⟩
theorem VW {n:Nat} {tw:TwF} {xs:List Xv} {vs:List V} {r:Rs Xv} {Q:VK} {E':XK} (E1:En K F j H σ ρ S) (hv:yu K j H xs vs) (hn:vs.length=n) (et:tw xs S=some r) (k:Po K F j H σ ρ E' (PoV K Q) r):sTw K n tw vs H Q E':=by
 obtain⟨l,s⟩:=zby hv;refine⟨hn,j,S,xs,r,E1.enter l s,et,?_⟩;cases r with
 |ok x S'=>
  intro v j' H' σ' ρ' X hx;obtain⟨E2,X2⟩:=E1.leave X;exact k j' H' X2 E2 v hx
 |ex c S'=>
  intro j' H' σ' ρ' C X hC;obtain⟨E2,X2⟩:=E1.leave X;exact k j' H' σ ρ C X2 E2 hC
theorem xG {n:Nat} {tw:TwF} {ms:List TwE} {t:TA} (h:RL K E t (evL ms)) (hn:ms.length=n:=by rfl):RE K E (zmF (sTw K n tw) [] E t) (zP tw ms):=by
 intro F j σ H ρ S r Q En0 e k;rcases zD e with⟨xs,S1,e1,e⟩|⟨c,S1,e1,rfl⟩
 .refine h En0 e1 λj1 H1 X1 E1 vs hv=> ?_;rw[tF];exact VW E1 hv (by rw[hv.len,WG e1,hn]) e (k.step X1)
 .exact h En0 e1 k
end
end L2
namespace L2
open PySem PySem.Spec PyProof.Rows
open PySem.Builtin.Int (intBits)
noncomputable def xI (g:Int->Int->Xv):Op2:=λx y S=>match x,y with
 | .int a,.int b=>some (g a b,S)
 |_,_=>none
noncomputable def xIC (c:Int->Int->Bool) (g:Int->Int->Xv):Op2:=λx y S=>match x,y with
 | .int a,.int b=>if c a b then some (g a b,S) else none
 |_,_=>none
noncomputable def Yb:Op2:=xI λi j=> .int (i+j)
noncomputable def zgc:Op2:=xI λi j=> .int (i-j)
noncomputable def zjy:Op2:=xIC (λi j=>decide ((-(2^64)<i/\i<2^64)\/(-(2^64)<j/\j<2^64))) λi j=> .int (i*j)
noncomputable def vY:Op2:=xIC (λi j=>decide (intBits i+intBits j<=134217728)) λi j=> .int (i*j)
noncomputable def WJ:Op2:=xIC (λ_ j=>decide (0<j)) λi j=> .int (i % j)
noncomputable def zaA:Op2:=xIC (λ_ j=>decide (0<j/\j<1073741824)) λi j=> .int (i / j)
noncomputable def zbz:Op2:=xIC (λ_ j=>decide (j≠0/\intBits j<=9000)) λi j=> .int (i.fdiv j)
noncomputable def zdP:Op2:=xIC (λi j=>decide (0<=j/\j<=1000000/\i.natAbs<2^64)) λi j=> .int (i^j.toNat)
noncomputable def dLt:Op2:=xI λi j=> .bl (decide (i<j))
noncomputable def dGt:Op2:=xI λi j=> .bl (decide (j<i))
noncomputable def dGe:Op2:=xI λi j=> .bl (decide (j<=i))
noncomputable def Vn:Op2:=xI λi j=> .bl (decide (i=j))
noncomputable def zcw:Op2:=xI λi j=> .bl (!decide (i=j))
noncomputable def zia:Xv->Sto->Option (Xv×Sto):=λx S=>match x with
 | .int i=>some (.int (-i),S)
 |_=>none
section
variable {K:qP} {E:XK} {F:Fm} {j j':List Addr} {H H':Hp} {σ σ':St} {ρ ρ':Rho} {S S':Sto} {x:Xv} {v:V} {ta tb:TE} {a b:TwE}
theorem zjz {g:Int->Int->V} {g':Int->Int->Xv} (hg:∀i k j H,Xis K j H (g' i k) (g i k)):YL K (rI0 g) (xI g'):=by
 intro F j σ H ρ S S' x y z u v Q E1 hx hy h k;unfold xI at h;split at h
 .cases h;exact⟨_,_,hx.int_inv,hy.int_inv,k _ _ _ Ext.refl E1 (hg _ _ _ _)⟩
 .cases h
theorem zgd {C:Int->Int->Prop} {c:Int->Int->Bool} {g:Int->Int->V} {g':Int->Int->Xv} (hc:∀i j,c i j=true->C i j) (hg:∀i k j H,Xis K j H (g' i k) (g i k)):YL K (rI C g) (xIC c g'):=by
 intro F j σ H ρ S S' x y z u v Q E1 hx hy h k;unfold xIC at h;split at h
 .split at h
  .cases h;exact⟨_,_,hx.int_inv,hy.int_inv,hc _ _ (by assumption),k _ _ _ Ext.refl E1 (hg _ _ _ _)⟩
  .cases h
 .cases h
theorem zbA {p:Int->Int->Bool} (ha:RE K E ta a) (hb:RE K E tb b):RE K E (zeC p ta tb) (eOp (xI λi j=> .bl (p i j)) a b):=
 zx (r:=rI0 λi j=> .bl (p i j)) (zjz λi k _ _=> .bl _) ha hb
theorem zbB:YL K (rI0 λi j=> .int (i+j)) Yb:=zjz λ_ _ _ _=> .int _
theorem zge:YL K (rI0 λi j=> .int (i-j)) zgc:=zjz λ_ _ _ _=> .int _
theorem zjA:YL K (rI ziO λi j=> .int (i*j)) zjy:=zgd (λi j h=>by simpa [ziO] using h) λ_ _ _ _=> .int _
theorem zaZ:YL K (rI zmN λi j=> .int (i*j)) vY:=zgd (λi j h=>⟨intBits i,intBits j,qT _,qT _,by simpa using h⟩) λ_ _ _ _=> .int _
theorem zjB:YL K (rI (λ_ j=>0<j) λi j=> .int (i % j)) WJ:=zgd (λi j h=>by simpa using h) λ_ _ _ _=> .int _
theorem zg6:YL K (rI znm λi j=> .int (i / j)) zaA:=zgd (λi j h=>by simpa [znm] using h) λ_ _ _ _=> .int _
theorem zbC:YL K (rI zja λi j=> .int (i.fdiv j)) zbz:=zgd (λi j h=>by simpa [zja] using h) λ_ _ _ _=> .int _
theorem zjC:YL K (rI znn λi j=> .int (i^j.toNat)) zdP:=zgd (λi j h=>by simpa [znn] using h) λ_ _ _ _=> .int _
theorem zmS (ha:RE K E ta a) (hb:RE K E tb b):RE K E (tLt ta tb) (eOp dLt a b):=zbA ha hb
theorem zmT (ha:RE K E ta a) (hb:RE K E tb b):RE K E (tGt ta tb) (eOp dGt a b):=zbA ha hb
theorem zo7 (ha:RE K E ta a) (hb:RE K E tb b):RE K E (tGe ta tb) (eOp dGe a b):=zbA ha hb
theorem zbD (ha:RE K E ta a) (hb:RE K E tb b):RE K E (zox ta tb) (eOp Vn a b):=zbA ha hb
theorem zjD (ha:RE K E ta a) (hb:RE K E tb b):RE K E (zoy ta tb) (eOp zcw a b):=zbA ha hb
theorem zdQ:zo0 K (rU λi=> .int (-i)) zia:=by
 intro F j σ H ρ S S' x z u Q E1 hx h k;unfold zia at h;split at h
 .cases h;exact⟨_,hx.int_inv,k _ _ _ Ext.refl E1 (.int _)⟩
 .cases h
noncomputable def Tc:Op2:=λx y S=>match x,y with
 | .str a,.str b=>if a.length+b.length<=sizeLine then some (.str (a++b),S) else none
 |_,_=>none
theorem zg7:YL K (λx y H Q=>∃i j,x= .str i/\y= .str j/\i.length+j.length<=sizeLine/\Q (.str (i++j)) H) Tc:=by
 intro F j σ H ρ S S' x y z u v Q E1 hx hy h k;unfold Tc at h;split at h
 .split at h
  .cases h;exact⟨_,_,hx.str_inv,hy.str_inv,by assumption,k _ _ _ Ext.refl E1 (.str _)⟩
  .cases h
 .cases h
noncomputable def Wl:Op2:=λx y S=>match x,y with
 | .tup a,.tup b=>if a.length+b.length<=sizeLine then some (.tup (a++b),S) else none
 |_,_=>none
theorem za0:YL K (zmP K) Wl:=by
 intro F j σ H ρ S S' x y z u v Q E1 hx hy h k;unfold Wl at h;split at h
 .split at h
  .rename_i hz;cases h;obtain⟨p,xs,rfl,h1,h2⟩:=hx.tup_inv;obtain⟨q,ys,rfl,g1,g2⟩:=hy.tup_inv;refine⟨p,q,xs,ys,rfl,rfl,SqT.of h1,SqT.of g1,by rw[h2.len,g2.len];exact hz,λe=> ?_,λ_ e=> ?_,λ_ _ l hl=> ?_⟩
   .subst e;obtain rfl:=y9.1 h2.len.symm;exact k _ _ _ Ext.refl E1 hy
   .subst e;obtain rfl:=y9.1 g2.len.symm;refine k _ _ _ Ext.refl E1 ?_;rw[tF];exact hx
   .obtain⟨E2,X2⟩:=E1.new (o:= .tup (xs++ys)) hl;exact k _ _ _ X2 E2 (.tup zZ ((h2.append g2).mono X2))
  .cases h
 .cases h
noncomputable def zaB:Op2:=λx y S=>match yH S x,yH S y with
 |some a,some b=>if a.length+b.length<=sizeLine then some (.ref S.length,S++[.lst (a++b)]) else none
 |_,_=>none
theorem zlt:YL K (zmQ K) zaB:=by
 intro F j σ H ρ S S' x y z u v Q E1 hx hy h k;unfold zaB at h;split at h
 .rename_i l1 l2 e1 e2;split at h
  .rename_i hz;cases h;obtain⟨p,xs,rfl,h1,h2⟩:=E1.lstAt hx e1;obtain⟨q,ys,rfl,g1,g2⟩:=E1.lstAt hy e2;refine⟨p,q,xs,ys,rfl,rfl,h1,g1,by rw[h2.len,g2.len];exact hz,λl hl=> ?_⟩;obtain⟨E2,X2,h3⟩:=E1.lst (h2.append g2) hl;exact k _ _ _ X2 E2 h3
  .cases h
 .cases h
noncomputable def zjE (g:Int->Xv):Opn:=λxs S=>match xs with
 |[.int i]=>some (g i,S)
 |_=>none
theorem zlu {g:Int->V} {g':Int->Xv} (hg:∀i j H,Xis K j H (g' i) (g i)):zbs K (λxs H Q=>∃i,xs=[V.int i]/\Q (g i) H) (zjE g'):=by
 intro F j σ H ρ S S' xs z vs Q E1 hv h k;unfold zjE at h;split at h
 .cases h;obtain⟨x,rfl,hx⟩:=hv.d1;exact⟨_,by rw[hx.int_inv],k _ _ _ Ext.refl E1 (hg _ _ _)⟩
 .cases h
noncomputable def zjF (g:Int->Int->Xv):Opn:=λxs S=>match xs with
 |[.int i,.int j]=>some (g i j,S)
 |_=>none
theorem zlv {g:Int->Int->V} {g':Int->Int->Xv} (hg:∀i k j H,Xis K j H (g' i k) (g i k)):zbs K (λxs H Q=>∃i j,xs=[V.int i,V.int j]/\Q (g i j) H) (zjF g'):=by
 intro F j σ H ρ S S' xs z vs Q E1 hv h k;unfold zjF at h;split at h
 .cases h;obtain⟨x,y,rfl,hx,hy⟩:=hv.d2;exact⟨_,_,by rw[hx.int_inv,hy.int_inv],k _ _ _ Ext.refl E1 (hg _ _ _ _)⟩
 .cases h
noncomputable def zgf:Opn:=zjE λi=> .int (if i<0 then -i else i)
noncomputable def znI:Opn:=zjF λi j=> .int (if j<i then j else i)
theorem zjG:zbs K (λxs H Q=>∃i,xs=[V.int i]/\Q (.int (if i<0 then -i else i)) H) zgf:=zlu λ_ _ _=> .int _
theorem zjH:zbs K (λxs H Q=>∃i j,xs=[V.int i,V.int j]/\Q (.int (if j<i then j else i)) H) znI:=zlv λ_ _ _ _=> .int _
noncomputable def wA:Opn:=λxs S=>match xs with
 |[x]=>(Wk S x).map λl=>(.int l.length,S)
 |_=>none
theorem ZE:zbs K (λxs H Q=>∃p ys,xs=[V.ref p]/\(SqL K H p ys\/SqT K H p ys)/\Q (.int ys.length) H) wA:=by
 intro F j σ H ρ S S' xs z vs Q E1 hv h k;unfold wA at h;split at h
 .rename_i x;cases e:Wk S x with
  |none=>rw[e] at h;cases h
  |some l=>
   rw[e] at h;cases h;obtain⟨w,rfl,hx⟩:=hv.d1;obtain⟨a,ws,rfl,h1,h2⟩:=E1.seqAt hx e;refine⟨a,ws,rfl,?_,k _ _ _ Ext.refl E1 (by rw[h2.len];exact .int _)⟩;rcases h1 with h1|h1
   .exact .inl h1.sql
   .exact .inr h1
 .cases h
noncomputable def Vv:Opn:=λxs S=>match xs with
 |[.tup l]=>some (.tup l,S)
 |[x]=>(yH S x).map λl=>(.tup l,S)
 |_=>none
theorem Td:zbs K (λxs H Q=>∃p ys,xs=[V.ref p]/\((SqL K H p ys/\∀l,H l=none->Q (.ref l) (upd H l (.tup ys)))\/(SqT K H p ys/\Q (.ref p) H))) Vv:=by
 intro F j σ H ρ S S' xs z vs Q E1 hv h k;unfold Vv at h;split at h
 .cases h;obtain⟨w,rfl,hx⟩:=hv.d1;obtain⟨a,ws,rfl,h1,h2⟩:=hx.tup_inv;exact⟨a,ws,rfl,.inr ⟨SqT.of h1,k _ _ _ Ext.refl E1 hx⟩⟩
 .rename_i x _;cases e:yH S x with
  |none=>rw[e] at h;cases h
  |some l=>
   rw[e] at h;cases h;obtain⟨w,rfl,hx⟩:=hv.d1;obtain⟨a,ws,rfl,h1,h2⟩:=E1.lstAt hx e;refine⟨a,ws,rfl,.inl ⟨h1.sql,λp hp=> ?_⟩⟩;obtain⟨E2,X2⟩:=E1.new (o:= .tup ws) hp;exact k _ _ _ X2 E2 (.tup zZ (h2.mono X2))
 .cases h
noncomputable def zc8:List Xv->Option (List Int)
 |[]=>some []
 | .int i::r=>(zc8 r).map (i:: ·)
 |_::_=>none
theorem zeW:∀{xs:List Xv} {ns:List Int} {vs:List V},zc8 xs=some ns->yu K j H xs vs->vs=ns.map V.int
 |[],ns,vs,e,h=>by cases e;exact h.nil_inv
 |x::r,ns,vs,e,h=>by
  obtain⟨v,ws,rfl,h1,h2⟩:=h.cons_inv;cases x<;>simp only[zc8,reduceCtorEq] at e
  cases e2:zc8 r with
  |none=>rw[e2] at e;cases e
  |some ms=>
   rw[e2] at e;cases e;rw[h1.int_inv,zeW e2 h2];rfl
noncomputable def Xu:List Xv->Option (List Bool)
 |[]=>some []
 | .bl i::r=>(Xu r).map (i:: ·)
 |_::_=>none
theorem zbE:∀{xs:List Xv} {ns:List Bool} {vs:List V},Xu xs=some ns->yu K j H xs vs->vs=ns.map V.bl
 |[],ns,vs,e,h=>by cases e;exact h.nil_inv
 |x::r,ns,vs,e,h=>by
  obtain⟨v,ws,rfl,h1,h2⟩:=h.cons_inv;cases x<;>simp only[Xu,reduceCtorEq] at e
  cases e2:Xu r with
  |none=>rw[e2] at e;cases e
  |some ms=>
   rw[e2] at e;cases e;rw[h1.bl_inv,zbE e2 h2];rfl
noncomputable def zib:Opn:=λxs S=>match xs with
 |[x]=>((yH S x).bind Xu).map λns=>(.bl (ns.any id),S)
 |_=>none
noncomputable def zbF:Opn:=λxs S=>match xs with
 |[x]=>((yH S x).bind Xu).map λns=>(.bl (ns.all id),S)
 |_=>none
theorem zgg:zbs K (zoY K) zib:=by
 intro F j σ H ρ S S' xs z vs Q E1 hv h k;unfold zib at h;split at h
 .rename_i x;cases e:yH S x with
  |none=>rw[e] at h;cases h
  |some l=>
   rw[e] at h;cases e2:Xu l with
   |none=>simp[e2] at h
   |some ns=>
    simp only[r0,e2,sE,rJ,v5] at h;obtain⟨rfl,rfl⟩:=h;obtain⟨w,rfl,hx⟩:=hv.d1;obtain⟨p,ws,rfl,h1,h2⟩:=E1.lstAt hx e;refine⟨p,ns,rfl,?_,k _ _ _ Ext.refl E1 (.bl _)⟩;rw[<-zbE e2 h2];exact h1.sql
 .cases h
theorem zbG:zbs K (zoZ K) zbF:=by
 intro F j σ H ρ S S' xs z vs Q E1 hv h k;unfold zbF at h;split at h
 .rename_i x;cases e:yH S x with
  |none=>rw[e] at h;cases h
  |some l=>
   rw[e] at h;cases e2:Xu l with
   |none=>simp[e2] at h
   |some ns=>
    simp only[r0,e2,sE,rJ,v5] at h;obtain⟨rfl,rfl⟩:=h;obtain⟨w,rfl,hx⟩:=hv.d1;obtain⟨p,ws,rfl,h1,h2⟩:=E1.lstAt hx e;refine⟨p,ns,rfl,?_,k _ _ _ Ext.refl E1 (.bl _)⟩;rw[<-zbE e2 h2];exact h1.sql
 .cases h
noncomputable def we (neg:Bool):Op2:=λx y S=>match x,y with
 | .int a,.int b=>some (.bl (neg !=decide (a=b)),S)
 | .str a,.str b=>some (.bl (neg !=decide (a=b)),S)
 | .bl a,.bl b=>some (.bl (neg !=decide (a=b)),S)
 | .non,.non=>some (.bl (neg !=true),S)
 | .int _,.str _=>some (.bl (neg !=false),S)
 | .str _,.int _=>some (.bl (neg !=false),S)
 |_,_=>none
theorem Zk:YL K rEq (we false):=by
 intro F j σ H ρ S S' x y z u v Q E1 hx hy h k;cases hx<;>cases hy<;>simp only[we,reduceCtorEq,rJ,v5,uS] at h<;>obtain⟨rfl,rfl⟩:=h<;>refine⟨rfl,k _ _ _ Ext.refl E1 ?_⟩<;>simp<;>exact .bl _
theorem zjI:YL K rNe (we true):=by
 intro F j σ H ρ S S' x y z u v Q E1 hx hy h k;cases hx<;>cases hy<;>simp only[we,reduceCtorEq,rJ,v5,B2] at h<;>obtain⟨rfl,rfl⟩:=h<;>refine⟨rfl,k _ _ _ Ext.refl E1 ?_⟩<;>simp<;>exact .bl _
noncomputable def ZB:Xv->Bool
 | .non=>true
 | .bl _=>true
 | .int _=>true
 | .str _=>true
 |_=>false
noncomputable def zdR:Xv->Xv->Bool
 | .non,.non=>true
 | .bl a,.bl b=>a==b
 | .bl a,.int b=>(if a then 1 else 0)==b
 | .int a,.bl b=>a==(if b then 1 else 0)
 | .int a,.int b=>a==b
 | .str a,.str b=>a==b
 |_,_=>false
noncomputable def dIn (neg:Bool):Op2:=λx y S=>(Wk S y).bind λl=>if ZB x&&l.all ZB then some (.bl (neg !=l.any λz=>zdR z x),S) else none
theorem zbH {v:V} {x:Xv} (h:Xis K j H x v):Wg v=ZB x:=by cases h<;>rfl
theorem zgh {v w:V} {x y:Xv} (h:Xis K j H x v) (g:Xis K j H y w) (fx:ZB x=true) (fy:ZB y=true):eqV v w=zdR x y:=by cases h<;>cases g<;>first|rfl|cases fx|cases fy
theorem zdS:∀{xs:List Xv} {vs:List V},yu K j H xs vs->vs.all Wg=xs.all ZB
 |_,_,.nil=>rfl
 |_,_,.cons h l=>by rw[tY,tY,zbH h,zdS l]
theorem zg8 {v:V} {x:Xv} (hx:Xis K j H x v) (fx:ZB x=true):∀{xs:List Xv} {vs:List V},yu K j H xs vs->xs.all ZB=true->inV v vs=xs.any λz=>zdR z x
 |_,_,.nil,_=>rfl
 |_,_,.cons h l,f=>by
  rw[tY,rV] at f;have:=zg8 hx fx l f.2;unfold inV at this ⊢;rw[t6,t6,zgh h hx f.1 fx,this]
theorem zo8 {neg:Bool}:YL K (rIn K neg) (dIn neg):=by
 intro F j σ H ρ S S' x y z u v Q E1 hx hy h k;unfold dIn at h;cases e:Wk S y with
 |none=>rw[e] at h;cases h
 |some l=>
  rw[e] at h;dsimp only[tZ] at h;split at h
  .rename_i hf;have hf:=Aa.1 hf;cases h;obtain⟨p,ws,rfl,h1,h2⟩:=E1.seqAt hy e;refine⟨p,ws,rfl,?_,by rw[zbH hx];exact hf.1,by rw[zdS h2];exact hf.2,k _ _ _ Ext.refl E1 ?_⟩
   .rcases h1 with h1|h1
    .exact .inl h1.sql
    .exact .inr h1
   .rw[zg8 hx hf.1 h2 hf.2];cases neg<;>simp<;>exact .bl _
  .cases h
noncomputable def vx (f:Xv->Option D):List Xv->Option (List D)
 |[]=>some []
 |x::r=>(f x).bind λd=>(vx f r).map (d:: ·)
noncomputable def vD (S:Sto):Nat->Xv->Option D
 |0,x=>match x with
  | .non=>some .non
  | .bl b=>some (.bl b)
  | .int i=>some (.int i)
  | .str s=>some (.str s)
  |_=>none
 |n+1,x=>match x with
  | .non=>some .non
  | .bl b=>some (.bl b)
  | .int i=>some (.int i)
  | .str s=>some (.str s)
  | .tup l=>(vx (vD S n) l).map .tup
  | .ct l=>(vx (vD S n) l).map .tup
  | .ref m=>(yH S (.ref m)).bind λl=>(vx (vD S n) l).map .lst
  | .lam _ _=>none
theorem Vw {f:Xv->Option D} {n:Nat} (hf:∀x v d,Xis K j H x v->f x=some d->Is K H v d/\D.depth d<=n):∀{xs:List Xv} {vs:List V} {ds:List D},yu K j H xs vs->vx f xs=some ds->IsL K H vs ds/\D.depths ds<=n
 |_,_,_,.nil,e=>by cases e;exact⟨.nil,by simp[D.depths]⟩
 |x::r,_,ds,.cons h l,e=>by
  unfold vx at e;cases e1:f x with
  |none=>rw[e1] at e;cases e
  |some d=>
   rw[e1] at e;cases e2:vx f r with
   |none=>simp[e2] at e
   |some es=>
    simp[e2] at e;subst e;obtain⟨a1,a2⟩:=hf _ _ _ h e1;obtain⟨b1,b2⟩:=Vw hf l e2;exact⟨.cons a1 b1,by unfold D.depths;omega⟩
theorem Te (E1:En K F j H σ ρ S):∀(n:Nat) (x:Xv) (v:V) (d:D),Xis K j H x v->vD S n x=some d->Is K H v d/\D.depth d<=n
 |0,x,v,d,h,e=>by
  cases h<;>simp only[vD,rJ,reduceCtorEq] at e<;>subst e<;>refine⟨by constructor,by simp[D.depth]⟩
 |n+1,x,v,d,h,e=>by
  have ih:=Te E1 n;cases h with
  |non=>simp only[vD,rJ] at e;subst e;exact⟨.non,by simp[D.depth]⟩
  |bl b=>simp only[vD,rJ] at e;subst e;exact⟨.bl b,by simp[D.depth]⟩
  |int b=>simp only[vD,rJ] at e;subst e;exact⟨.int b,by simp[D.depth]⟩
  |str b=>simp only[vD,rJ] at e;subst e;exact⟨.str b,by simp[D.depth]⟩
  |lam h l=>simp only[vD,reduceCtorEq] at e
  | @tup a vs l h1 h2=>
   simp only[vD] at e;cases e2:vx (vD S n) l with
   |none=>rw[e2] at e;cases e
   |some ds=>
    rw[e2] at e;cases e;obtain⟨a1,a2⟩:=Vw ih h2 e2;exact⟨.tup (SqT.of h1) a1,by unfold D.depth;omega⟩
  | @ct a vs l h1 h2=>
   simp only[vD] at e;cases e2:vx (vD S n) l with
   |none=>rw[e2] at e;cases e
   |some ds=>
    rw[e2] at e;cases e;obtain⟨a1,a2⟩:=Vw ih h2 e2;exact⟨.tup (h1 H) a1,by unfold D.depth;omega⟩
  | @ref m a h1=>
   simp only[vD] at e;cases e1:yH S (.ref m) with
   |none=>rw[e1] at e;cases e
   |some l=>
    rw[e1] at e;cases e2:vx (vD S n) l with
    |none=>simp[e2] at e
    |some ds=>
     simp[e2] at e;subst e;obtain⟨a',vs,ea,g1,g2⟩:=E1.lstAt (.ref h1) e1;cases ea;obtain⟨a1,a2⟩:=Vw ih g2 e2;exact⟨.lst g1.sql a1,by unfold D.depth;omega⟩
noncomputable def D.many:D->Bool
 | .tup _=>true
 | .lst _=>true
 |_=>false
noncomputable def zjJ (c:String) (S:Sto):Xv->Option Bool
 | .non=>some false
 | .int _=>some (c=="int")
 | .bl _=>some (c=="bool"||c=="int")
 | .str _=>some (c=="str")
 | .tup _=>some (c=="tuple")
 | .ct _=>some (c=="tuple")
 | .ref n=>(yH S (.ref n)).map λ_=>c=="list"
 | .lam _ _=>none
structure zbI (c:String):Prop where
 non:∀K,se K (.type "NoneType") (.type c)=some false
 bl:∀K,se K (.type "bool") (.type c)=some (c=="bool"||c=="int")
 int:∀K,se K (.type "int") (.type c)=some (c=="int")
 str:∀K,se K (.type "str") (.type c)=some (c=="str")
 tup:∀K,se K (.type "tuple") (.type c)=some (c=="tuple")
 lst:∀K,se K (.type "list") (.type c)=some (c=="list")
theorem YR (a b:String) (K:qP) (h1:(Value.type a==Value.type b)=false) (h:(fastBuiltinMro a).map (·.contains (.type b))=some false) (hm:tG b=true):se K (.type a) (.type b)=some false:=znB h1 h hm rfl
theorem zg9:zbI "int":=⟨λK=>YR _ _ K ∅ (by decide+kernel) (by decide+kernel),λK=>zdJ,λK=>Vu,λK=>YR _ _ K ∅ (by decide+kernel) (by decide+kernel),λK=>YR _ _ K ∅ (by decide+kernel) (by decide+kernel),λK=>YR _ _ K ∅ (by decide+kernel) (by decide+kernel)⟩
theorem zeX:zbI "bool":=⟨λK=>YR _ _ K ∅ (by decide+kernel) (by decide+kernel),λK=>Vu,λK=>zdK,λK=>YR _ _ K ∅ (by decide+kernel) (by decide+kernel),λK=>YR _ _ K ∅ (by decide+kernel) (by decide+kernel),λK=>YR _ _ K ∅ (by decide+kernel) (by decide+kernel)⟩
theorem zha:zbI "str":=⟨λK=>YR _ _ K ∅ (by decide+kernel) (by decide+kernel),λK=>YR _ _ K ∅ (by decide+kernel) (by decide+kernel),λK=>YR _ _ K ∅ (by decide+kernel) (by decide+kernel),λK=>Vu,λK=>YR _ _ K ∅ (by decide+kernel) (by decide+kernel),λK=>YR _ _ K ∅ (by decide+kernel) (by decide+kernel)⟩
theorem zc9:zbI "tuple":=⟨λK=>YR _ _ K ∅ (by decide+kernel) (by decide+kernel),λK=>YR _ _ K ∅ (by decide+kernel) (by decide+kernel),λK=>YR _ _ K ∅ (by decide+kernel) (by decide+kernel),λK=>YR _ _ K ∅ (by decide+kernel) (by decide+kernel),λK=>Vu,λK=>YR _ _ K ∅ (by decide+kernel) (by decide+kernel)⟩
theorem zeY:zbI "list":=⟨λK=>YR _ _ K ∅ (by decide+kernel) (by decide+kernel),λK=>YR _ _ K ∅ (by decide+kernel) (by decide+kernel),λK=>YR _ _ K ∅ (by decide+kernel) (by decide+kernel),λK=>YR _ _ K ∅ (by decide+kernel) (by decide+kernel),λK=>YR _ _ K ∅ (by decide+kernel) (by decide+kernel),λK=>Vu⟩
noncomputable def UC (c:String):Xv->Sto->Option (Xv×Sto):=λx S=>(zjJ c S x).map λb=>(.bl b,S)
theorem zlw {c:String} (ok:zbI c) (E1:En K F j H σ ρ S) {b:Bool} {Q:VK} (h:Xis K j H x v) (e:zjJ c S x=some b) (k:Q (.bl b) H):zlk K [v,.ty c] H Q:=by
 cases h with
 |non=>cases e;exact⟨_,_,_,_,_,rfl,rfl,.of .non,ok.non K,k⟩
 |bl b=>cases e;exact⟨_,_,_,_,_,rfl,rfl,.of (.bl b),ok.bl K,k⟩
 |int i=>cases e;exact⟨_,_,_,_,_,rfl,rfl,.of (.int i),ok.int K,k⟩
 |str z=>cases e;exact⟨_,_,_,_,_,rfl,rfl,.of (.str z),ok.str K,k⟩
 |tup h l=>cases e;exact⟨_,_,_,_,_,rfl,rfl,.sqt (SqT.of h),ok.tup K,k⟩
 |ct h l=>cases e;exact⟨_,_,_,_,_,rfl,rfl,.sqt (h H),ok.tup K,k⟩
 |lam h l=>cases e
 | @ref n a h=>
  simp only[zjJ] at e;cases e1:yH S (.ref n) with
  |none=>rw[e1] at e;cases e
  |some l=>
   rw[e1] at e;cases e;obtain⟨a',vs,ea,g1,g2⟩:=E1.lstAt (.ref h) e1;cases ea;exact⟨_,_,_,_,_,rfl,rfl,.sql g1.sql,ok.lst K,k⟩
theorem znJ {c:String} {t:TE} {m:TwE} (ok:zbI c) (h:RE K E t m):RE K E (tCB (zlk K) (zaw t (zaw (tC (.ty c)) ziT))) (eUn (UC c) m):=by
 intro F j σ H ρ S r Q En0 e k;rcases zD e with⟨x,S1,e1,e⟩|⟨c,S1,e1,rfl⟩
 .obtain⟨z,S3,e3,rfl⟩:=YM e;unfold UC at e3;cases e4:zjJ c S1 x with
  |none=>rw[e4] at e3;cases e3
  |some b=>
   rw[e4] at e3;cases e3;exact h En0 e1 λj1 H1 X1 E1 u hu=>zlw ok E1 hu e4 (k _ _ X1 E1 _ (.bl _))
 .exact h En0 e1 k
noncomputable def Vx:Xv->Sto->Option (Xv×Sto):=λx S=>(yH S x).map λl=>(.ref S.length,S++[.lst l.reverse])
theorem zgi {t:TE} {m:TwE} (h:RE K E t m):RE K E (zeQ K t) (eUn Vx m):=by
 intro F j σ H ρ S r Q En0 e k;rcases zD e with⟨x,S1,e1,e⟩|⟨c,S1,e1,rfl⟩
 .obtain⟨z,S3,e3,rfl⟩:=YM e;unfold Vx at e3;cases e4:yH S1 x with
  |none=>rw[e4] at e3;cases e3
  |some l=>
   rw[e4] at e3;cases e3;refine h En0 e1 λj1 H1 X1 E1 u hu=> ?_;obtain⟨p,ys,rfl,h1,h2⟩:=E1.lstAt hu e4;refine⟨p,ys,rfl,h1,λl hl=> ?_⟩;obtain⟨E2,X2,h3⟩:=E1.lst h2.reverse hl;exact k _ _ (X1.trans X2) E2 _ h3
 .exact h En0 e1 k
end
end L2
namespace L2
open PySem PySem.Spec PyProof.Rows
noncomputable def Tf:Xv->Option Key
 | .int i=>some (.inl i)
 | .str z=>some (.inr z)
 |_=>none
noncomputable def Tg (S:Sto):Xv->Option (Nat×List (Key×Xv))
 | .ref n=>match S[n]? with
  |some (.dk ah)=>some (n,ah)
  |_=>none
 |_=>none
noncomputable def zic (S:Sto):Xv->Option (Nat×List (Key×Xv))
 | .ref n=>match S[n]? with
  |some (.dk ah)=>some (n,ah)
  |some (.fdk ah)=>some (n,ah)
  |_=>none
 |_=>none
noncomputable def wU {κ:Type} [DecidableEq κ] (ah:List (κ×Xv)) (k:κ):Option Xv:=(ah.find? λkv=>decide (kv.1=k)).map (·.2)
noncomputable def zbJ {κ:Type} [DecidableEq κ] (ah:List (κ×Xv)) (k:κ) (x:Xv):List (κ×Xv):=
 if (ah.any λkv=>decide (kv.1=k))=true then ah.map (λkv=>if kv.1=k then (kv.1,x) else kv) else ah++[(k,x)]
section
variable {K:qP} {E:XK} {F:Fm} {j:List Addr} {H:Hp} {σ:St} {ρ:Rho} {S:Sto} {x:Xv} {v:V} {κ:Type}
theorem Th {k:Key} (h:Xis K j H x v) (e:Tf x=some k):v=kV k:=by
 cases h<;>simp only[Tf,rJ,reduceCtorEq] at e<;>subst e<;>rfl
theorem zaj {n:Nat} {ah:List (Key×Xv)} (h:Tg S x=some (n,ah)):x= .ref n/\S[n]? =some (.dk ah):=by
 cases x<;>simp only[Tg,reduceCtorEq] at h
 split at h
 .cases h;exact⟨rfl,by assumption⟩
 .cases h
theorem En.dk {n:Nat} {ah:List (Key×Xv)} (E1:En K F j H σ ρ S) (hx:Xis K j H x v) (h:Tg S x=some (n,ah)):∃a ks,v= .ref a/\j[n]? =some a/\H a=some (.dK ks)/\KX K j H ah ks:=by
 obtain⟨rfl,hs⟩:=zaj h;obtain⟨a,rfl,hj⟩:=hx.ref_inv;obtain⟨ks,e1,e2⟩:=E1.cel _ _ _ hs hj;exact⟨a,ks,rfl,hj,e1,e2⟩
theorem zlx {p:Nat×List (Key×Xv)} (h:Tg S x=some p):zic S x=some p:=by
 obtain⟨n,ah⟩:=p;obtain⟨rfl,e⟩:=zaj h;unfold zic;dsimp only;rw[e]
theorem En.dr {n:Nat} {ah:List (Key×Xv)} (E1:En K F j H σ ρ S) (hx:Xis K j H x v) (h:zic S x=some (n,ah)):∃a ks,v= .ref a/\j[n]? =some a/\Rd H a (.dK ks)/\KX K j H ah ks:=by
 cases x<;>simp only[zic,reduceCtorEq] at h
 obtain⟨a,rfl,hj⟩:=hx.ref_inv;split at h
 .rename_i hs;cases h;obtain⟨ks,e1,e2⟩:=E1.cel _ _ _ hs hj;exact⟨a,ks,rfl,hj,.inl e1,e2⟩
 .rename_i hs;cases h;obtain⟨o,ks,e1,e2⟩:=E1.cel _ _ _ hs hj;exact⟨a,ks,rfl,hj,.inr ⟨o,e1⟩,e2⟩
 .cases h
theorem zah.r {a:Addr} {ah:List (Key×V)} {k:Key} (e:Rd H a (.dK ah)):zah H a (kV k) (Vm ah k):= .inl ⟨ah,k,e,rfl,rfl⟩
theorem KX.len:∀{ah:List (κ×Xv)} {ks:List (κ×V)},KX K j H ah ks->ks.length=ah.length
 |_,_,.nil=>rfl
 |_,_,.cons _ l=>by rw[ra,ra,l.len]
theorem KX.val [DecidableEq κ] {k:κ}:∀{ah:List (κ×Xv)} {ks:List (κ×V)},KX K j H ah ks->(∀y,wU ah k=some y->∃w,Vm ks k=some w/\Xis K j H y w)/\(wU ah k=none->Vm ks k=none)
 |_,_,.nil=>⟨λ_ e=>by simp[wU] at e,λ_=>rfl⟩
 |(k1,y1)::r,(_,w1)::rs,.cons h l=>by
  obtain⟨i1,i2⟩:=KX.val (k:=k) l;by_cases e:k1=k
  .subst e;refine⟨λy ey=> ?_,λey=> ?_⟩
   .simp[wU] at ey;subst ey;exact⟨w1,by simp[Vm],h⟩
   .simp[wU] at ey
  .have e1:wU ((k1,y1)::r) k=wU r k:=by simp[wU,rG,e]
   have e2:Vm ((k1,w1)::rs) k=Vm rs k:=by simp[Vm,rG,e]
   rw[e1,e2];exact⟨i1,i2⟩
theorem KX.append:∀{ah r:List (κ×Xv)} {ks rs:List (κ×V)},KX K j H ah ks->KX K j H r rs->KX K j H (ah++r) (ks++rs)
 |_,_,_,_,.nil,h=>h
 |_,_,_,_,.cons h l,g=> .cons h (l.append g)
theorem KX.any {f:κ->Bool}:∀{ah:List (κ×Xv)} {ks:List (κ×V)},KX K j H ah ks->(ks.any λp=>f p.1)=ah.any λp=>f p.1
 |_,_,.nil=>rfl
 |_,_,.cons _ l=>by rw[t6,t6,l.any]
theorem KX.put [DecidableEq κ] {k:κ} (hx:Xis K j H x v) {ah:List (κ×Xv)} {ks:List (κ×V)} (h:KX K j H ah ks):KX K j H (zbJ ah k x) (zag ks k v):=by
 unfold zbJ zag;rw[h.any (f:=λa=>decide (a=k))];split
 .rename_i hc;clear hc
  induction h with
  |nil=>exact .nil
  | @cons k1 y w r rs h l ih=>
   rw[rC,rC];by_cases e:k1=k
   .rw[if_pos e,if_pos e];exact .cons hx ih
   .rw[if_neg e,if_neg e];exact .cons h ih
 .exact h.append (.cons hx .nil)
theorem En.wdk {n:Nat} {ah kvs':List (Key×Xv)} {ws:List (Key×V)} {a:Addr} (E1:En K F j H σ ρ S) (h:Tg S x=some (n,ah)) (hj:j[n]? =some a) (hw:KX K j H kvs' ws):En K F j (upd H a (.dK ws)) σ ρ (S.set n (.dk kvs'))/\Ext j H j (upd H a (.dK ws)):=
 E1.write (zaj h).2 rfl hj rfl λX=>⟨ws,zZ,hw.mono X⟩
noncomputable def zbK:TwE:=λ_ S=>some (.ok (.ref S.length) (S++[.dk []]))
theorem zdT:RE K E zi4 zbK:=by
 intro F j σ H ρ S r Q En0 e k p hp;cases e;have X:Ext j H (j++[p]) (upd H p (.dK [])):=⟨λn a e=>by rw[qR (qO.1 e).1];exact e,vw.same (Zi hp)⟩;obtain⟨E1,_⟩:=En0.cell (o:= .dK []) (c:= .dk []) hp ⟨[],zZ,.nil⟩;exact k _ _ X E1 _ (.ref (by rw[<-En0.jl];simp))
noncomputable def zhb (d k:TwE):TwE:=λρ S=>rb (d ρ S) λx S1=>rb (k ρ S1) λy S2=>match zic S2 x,Tf y with
 |some (_,ah),some key=>(wU ah key).map λz=> .ok z S2
 |_,_=>none
theorem zly {td ty:TE} {d k:TwE} (hd:RE K E td d) (hk:RE K E ty k):RE K E (zmL td ty) (zhb d k):=by
 intro F j σ H ρ S r Q En0 e kk;rcases zD e with⟨x,S1,e1,e⟩|⟨c,S1,e1,rfl⟩
 .refine hd En0 e1 λj1 H1 X1 E1 u hu=> ?_;rcases zD e with⟨y,S2,e2,e⟩|⟨c,S2,e2,rfl⟩
  .refine hk E1 e2 λj2 H2 X2 E2 w hw=> ?_;split at e
   .rename_i n ah key ed ek;cases ev:wU ah key with
    |none=>rw[ev] at e;cases e
    |some z=>
     rw[ev] at e;cases e;obtain⟨a,ks,rfl,hj,f1,f2⟩:=E2.dr (hu.mono X2) ed;obtain⟨z',g1,g2⟩:=f2.val.1 _ ev;refine⟨a,z',rfl,?_,kk _ _ (X1.trans X2) E2 _ g2⟩;rw[Th hw ek,<-g1];exact zah.r f1
   .cases e
  .exact hk E1 e2 (PX.mono kk X1)
 .exact hd En0 e1 kk
noncomputable def znK (neg:Bool) (k d:TwE):TwE:=λρ S=>rb (k ρ S) λy S1=>rb (d ρ S1) λx S2=>match Tg S2 x,Tf y with
 |some (_,ah),some key=>some (.ok (.bl (neg !=(wU ah key).isSome)) S2)
 |_,_=>none
theorem Ti {a:Addr} {ks:List (Key×V)} {ah:List (Key×Xv)} {key:Key} (f1:H a=some (.dK ks)) (f2:KX K j H ah ks):∃o,zah H a (kV key) o/\o.isSome=(wU ah key).isSome/\∀z zd,Xis K j H z zd->Xis K j H ((wU ah key).getD z) (o.getD zd):=by
 refine⟨_,zah.k f1,?_,λz zd hz=> ?_⟩
 .cases ev:wU ah key with
  |none=>rw[f2.val.2 ev];rfl
  |some y=>obtain⟨w,g1,_⟩:=f2.val.1 _ ev;rw[g1];rfl
 .cases ev:wU ah key with
  |none=>rw[f2.val.2 ev];exact hz
  |some y=>obtain⟨w,g1,g2⟩:=f2.val.1 _ ev;rw[g1];exact g2
theorem zid {td ty:TE} {d k:TwE} (hk:RE K E ty k) (hd:RE K E td d):RE K E (zg3 ty td) (znK true k d):=by
 intro F j σ H ρ S r Q En0 e kk;rcases zD e with⟨y,S1,e1,e⟩|⟨c,S1,e1,rfl⟩
 .refine hk En0 e1 λj1 H1 X1 E1 u hu=> ?_;rcases zD e with⟨x,S2,e2,e⟩|⟨c,S2,e2,rfl⟩
  .refine hd E1 e2 λj2 H2 X2 E2 w hw=> ?_;split at e
   .rename_i n ah key ed ek;cases e;obtain⟨a,ks,rfl,hj,f1,f2⟩:=E2.dk hw ed;obtain⟨o,g1,g2,_⟩:=Ti (key:=key) f1 f2;refine⟨a,o,rfl,by rw[Th (hu.mono X2) ek];exact g1,kk _ _ (X1.trans X2) E2 _ ?_⟩;rw[g2,B2];exact .bl _
   .cases e
  .exact hd E1 e2 (PX.mono kk X1)
 .exact hk En0 e1 kk
noncomputable def zgj (d k v:TwE):TwS:=λρ S=>sb (v ρ S) λz S1=>sb (d ρ S1) λx S2=>sb (k ρ S2) λy S3=>match Tg S3 x,Tf y with
 |some (n,ah),some key=>if ah.length<sizeLine then some (.nx ρ (S3.set n (.dk (zbJ ah key z)))) else none
 |_,_=>none
theorem zlz {td ty tv:TE} {d k v:TwE} (hd:RE K E td d) (hk:RE K E ty k) (hv:RE K E tv v):RS K E (zmM td ty tv) (zgj d k v):=by
 intro F j D' σ H ρ S fl E0 e kk;rcases xS e with⟨z,S1,e1,e⟩|⟨c,S1,e1,rfl⟩
 .refine hv E0 e1 λj1 H1 X1 E1 wz kD=> ?_;rcases xS e with⟨x,S2,e2,e⟩|⟨c,S2,e2,rfl⟩
  .refine hd E1 e2 λj2 H2 X2 E2 u hu=> ?_;rcases xS e with⟨y,S3,e3,e⟩|⟨c,S3,e3,rfl⟩
   .refine hk E2 e3 λj3 H3 X3 E3 w hw=> ?_;split at e
    .rename_i n ah key ed ek;split at e
     .rename_i hl;cases e;obtain⟨a,ks,rfl,hj,f1,f2⟩:=E3.dk (hu.mono X3) ed;obtain⟨E4,X4⟩:=E3.wdk ed hj (f2.put (k:=key) (kD.mono (X2.trans X3)));refine⟨a,_,rfl,?_,kk _ _ _ (X1.trans (X2.trans (X3.trans X4))) E4⟩;rw[Th hw ek];exact zfZ.k f1 (by rw[f2.len];exact hl)
     .cases e
    .cases e
   .exact hk E2 e3 (PX.mono kk (X1.trans X2))
  .exact hd E1 e2 (PX.mono kk X1)
 .exact hv E0 e1 kk
end
open PySem.Builtin.Int (intBits)
def W {α:Type} (r:Option (Rs α)) (P:α->Sto->Prop):Prop:=∃a S,r=some (.ok a S)/\P a S
def WO (r:Option (Xv×Sto)) (P:Xv->Sto->Prop):Prop:=∃a S,r=some (a,S)/\P a S
def WS (r:Option Fl) (N:Rho->Sto->Prop) (R:Xv->Sto->Prop):Prop:=(∃ρ S,r=some (.nx ρ S)/\N ρ S)\/∃x S,r=some (.rt x S)/\R x S
section
variable {ρ:Rho} {S S':Sto} {d x y:Xv} {a b m o:TwE} {c:TwT} {s t:TwS} {i k:Nat} {P:Xv->Sto->Prop} {PB:Bool->Sto->Prop} {PL:List Xv->Sto->Prop} {PO:Option Int->Sto->Prop} {N:Rho->Sto->Prop} {R:Xv->Sto->Prop}
theorem W.of {α:Type} {r:Option (Rs α)} {a:α} {P:α->Sto->Prop} (e:r=some (.ok a S)) (h:P a S):W r P:=⟨a,S,e,h⟩
theorem WO.of {r:Option (Xv×Sto)} (e:r=some (x,S)) (h:P x S):WO r P:=⟨x,S,e,h⟩
theorem W.imp {α:Type} {r:Option (Rs α)} {P Q:α->Sto->Prop} (h:W r P) (k:∀a S,P a S->Q a S):W r Q:=by
 obtain⟨a,S,e,h⟩:=h;exact⟨a,S,e,k _ _ h⟩
theorem WS.nx {r:Option Fl} (e:r=some (.nx ρ S)) (h:N ρ S):WS r N R:= .inl ⟨ρ,S,e,h⟩
theorem WS.rt {r:Option Fl} (e:r=some (.rt x S)) (h:R x S):WS r N R:= .inr ⟨x,S,e,h⟩
theorem W.bind {α β:Type} {r:Option (Rs α)} {f:α->Sto->Option (Rs β)} {P:β->Sto->Prop} (h:W r λa S=>W (f a S) P):W (rb r f) P:=by
 obtain⟨a,S,rfl,h⟩:=h;exact h
theorem WS.bind {α:Type} {r:Option (Rs α)} {f:α->Sto->Option Fl} (h:W r λa S=>WS (f a S) N R):WS (sb r f) N R:=by
 obtain⟨a,S,rfl,h⟩:=h;exact h
theorem W.okP {r:Option (Xv×Sto)} (h:WO r P):W (okP r) P:=by
 obtain⟨a,S,rfl,h⟩:=h;exact⟨a,S,rfl,h⟩
theorem zq (h:ρ[i]? =some (some d)) (k:P d S):W (za i ρ S) P:= .of (by unfold za;rw[h]) k
theorem zbL (k:P d S):W (eC d ρ S) P:= .of rfl k
theorem yw {f:Op2} (h:W (a ρ S) λx S1=>W (b ρ S1) λy S2=>WO (f x y S2) P):W (eOp f a b ρ S) P:=W.bind (h.imp λ_ _ h=>W.bind (h.imp λ_ _ h=>W.okP h))
theorem zjK {f:Xv->Sto->Option (Xv×Sto)} (h:W (a ρ S) λx S1=>WO (f x S1) P):W (eUn f a ρ S) P:=W.bind (h.imp λ_ _ h=>W.okP h)
theorem xT (h:W (a ρ S) λx S1=>∃v,x= .bl v/\PB v S1):W (bE a ρ S) PB:=W.bind (h.imp λx S1 h=>by obtain⟨v,rfl,k⟩:=h;exact .of rfl k)
theorem zo9 (h:W (c ρ S) λv S1=>P (.bl v) S1):W (eB c ρ S) P:=W.bind (h.imp λ_ _ k=> .of rfl k)
theorem zdU (h:W (c ρ S) λv S1=>PB (!v) S1):W (zbu c ρ S) PB:=W.bind (h.imp λ_ _ k=> .of rfl k)
theorem UD {c2:TwT} (h:W (c ρ S) λv S1=>(v=true->W (c2 ρ S1) PB)/\(v=false->PB false S1)):W (zbt c c2 ρ S) PB:=W.bind (h.imp λv S1 k=>by
 cases v with
 |true=>rw[if_pos rfl];exact k.1 rfl
 |false=>exact .of rfl (k.2 rfl))
theorem zjL {c2:TwT} (h:W (c ρ S) λv S1=>(v=true->PB true S1)/\(v=false->W (c2 ρ S1) PB)):W (bOr c c2 ρ S) PB:=W.bind (h.imp λv S1 k=>by
 cases v with
 |true=>exact .of rfl (k.1 rfl)
 |false=>rw[if_neg (by simp)];exact k.2 rfl)
theorem za1 (h:W (a ρ S) λx S1=>∃v,x= .bl v/\(v=true->W (b ρ S1) P)/\(v=false->P (.bl false) S1)):W (zh6 a b ρ S) P:=W.bind ((xT h).imp λv S1 k=>by
 cases v with
 |true=>rw[if_pos rfl];exact k.1 rfl
 |false=>exact .of rfl (k.2 rfl))
theorem WK (h:W (c ρ S) λv S1=>(v=true->W (a ρ S1) P)/\(v=false->W (b ρ S1) P)):W (eIf c a b ρ S) P:=W.bind (h.imp λv S1 k=>by
 cases v with
 |true=>rw[if_pos rfl];exact k.1 rfl
 |false=>rw[if_neg (by simp)];exact k.2 rfl)
theorem yI (k:PL [] S):W (evL [] ρ S) PL:= .of rfl k
theorem zm {ms:List TwE} (h:W (m ρ S) λd S1=>W (evL ms ρ S1) λds S2=>PL (d::ds) S2):W (evL (m::ms) ρ S) PL:=W.bind (h.imp λ_ _ h=>W.bind (h.imp λ_ _ k=> .of rfl k))
theorem zak {ms:List TwE} (h:W (evL ms ρ S) λds S1=>P (.tup ds) S1):W (wO ms ρ S) P:=W.bind (h.imp λ_ _ k=> .of rfl k)
theorem XO {ms:List TwE} (h:W (evL ms ρ S) λds S1=>P (.ref S1.length) (S1++[.lst ds])):W (Wj ms ρ S) P:=W.bind (h.imp λ_ _ k=> .of rfl k)
theorem wn {f:Opn} {ms:List TwE} (h:W (evL ms ρ S) λds S1=>WO (f ds S1) P):W (eFn f ms ρ S) P:=W.bind (h.imp λ_ _ h=>W.okP h)
theorem yZ {tw:TwF} {ms:List TwE} (h:W (evL ms ρ S) λds S1=>W (tw ds S1) P):W (zP tw ms ρ S) P:=W.bind h
theorem znL (k:PO none S):W (oNo ρ S) PO:= .of rfl k
theorem zjM (h:W (m ρ S) λx S1=>∃k,x= .int k/\PO (some k) S1):W (YO m ρ S) PO:=W.bind (h.imp λx S1 h=>by obtain⟨v,rfl,k⟩:=h;exact .of rfl k)
theorem zhc {f:Xv->Option Int->Option Int->Sto->Option (Xv×Sto)} {lo hi:TwO} (h:W (m ρ S) λx S1=>W (lo ρ S1) λu S2=>W (hi ρ S2) λv S3=>WO (f x u v S3) P):W (eSl f m lo hi ρ S) P:=
 W.bind (h.imp λ_ _ h=>W.bind (h.imp λ_ _ h=>W.bind (h.imp λ_ _ h=>W.okP h)))
theorem Yc {f:OpM} {ms:List TwE} (h:W (o ρ S) λx S1=>(∃l,yH S1 x=some l)/\W (evL ms ρ S1) λys S2=>WO (f x ys S2) P):W (eMt f o ms ρ S) P:=W.bind (h.imp λx S1 h=>by
 obtain⟨⟨l,e⟩,h⟩:=h;rw[e,r0]
 exact W.bind (h.imp λ_ _ h=>W.okP h))
theorem zjN (k:P (.ref S.length) (S++[.dk []])):W (zbK ρ S) P:= .of rfl k
theorem zjO (h:W (a ρ S) λx S1=>W (b ρ S1) λy S2=>∃n ah k z,zic S2 x=some (n,ah)/\Tf y=some k/\wU ah k=some z/\P z S2):W (zhb a b ρ S) P:=
 W.bind (h.imp λ_ _ h=>W.bind (h.imp λ_ _ h=>by obtain⟨n,ah,k,z,e1,e2,e3,q⟩:=h;rw[e1,e2];dsimp only;rw[e3];exact .of rfl q))
theorem zlA (h:W (a ρ S) λx S1=>W (b ρ S1) λy S2=>∃n ah k z,Tg S2 x=some (n,ah)/\Tf y=some k/\wU ah k=some z/\P z S2):W (zhb a b ρ S) P:=zjO (h.imp λ_ _ h=>h.imp λ_ _ ⟨n,ah,k,z,e,r⟩=>⟨n,ah,k,z,zlx e,r⟩)
theorem znM {neg:Bool} (h:W (a ρ S) λy S1=>W (b ρ S1) λx S2=>∃n ah k,Tg S2 x=some (n,ah)/\Tf y=some k/\P (.bl (neg !=(wU ah k).isSome)) S2):W (znK neg a b ρ S) P:=
 W.bind (h.imp λ_ _ h=>W.bind (h.imp λ_ _ h=>by obtain⟨n,ah,k,e1,e2,q⟩:=h;rw[e1,e2];exact .of rfl q))
theorem zlB (h:W (m ρ S) λz S1=>W (a ρ S1) λx S2=>W (b ρ S2) λy S3=>∃n ah k,Tg S3 x=some (n,ah)/\Tf y=some k/\ah.length<sizeLine/\N ρ (S3.set n (.dk (zbJ ah k z)))):WS (zgj a b m ρ S) N R:=
 WS.bind (h.imp λ_ _ h=>WS.bind (h.imp λ_ _ h=>WS.bind (h.imp λ_ _ h=>by obtain⟨n,ah,k,e1,e2,e3,q⟩:=h;rw[e1,e2];dsimp only;rw[if_pos e3];exact .nx rfl q)))
theorem zk (h:WS (s ρ S) (λρ1 S1=>WS (t ρ1 S1) N R) R):WS (zu s t ρ S) N R:=by
 unfold zu;rcases h with⟨ρ1,S1,e,h⟩|⟨x,S1,e,h⟩
 .rw[e];exact h
 .rw[e];exact .rt rfl h
theorem zr (h:N ρ S):WS (yo ρ S) N R:= .nx rfl h
theorem yB (h:W (m ρ S) λd S1=>N (ρ.set i (some d)) S1):WS (zY m (gN i) ρ S) N R:=WS.bind (h.imp λ_ _ k=> .nx rfl k)
theorem zjP (h:W (m ρ S) λd S1=>W (a ρ S1) λx S2=>W (b ρ S2) λy S3=>∃n l q j,Uh S3 x=some (n,l)/\y= .int q/\ixN l.length q=some j/\N ρ (S3.set n (.lst (l.set j d)))):WS (zY m (zgb a b) ρ S) N R:=
 WS.bind (h.imp λd S1 h=>WS.bind (W.bind (h.imp λx S2 h=>W.bind (h.imp λy S3 h=>by
  obtain⟨n,l,q,j,e1,rfl,e2,k⟩:=h;rw[e1];dsimp only;rw[e2]
  exact .of rfl (.nx rfl k)))))
theorem wB (h:W (m ρ S) λ_ S1=>N ρ S1):WS (Zz m ρ S) N R:=WS.bind (h.imp λ_ _ k=> .nx rfl k)
theorem yf (h:W (m ρ S) λd S1=>R d S1):WS (yd m ρ S) N R:=WS.bind (h.imp λ_ _ k=> .rt rfl k)
theorem zC (h:W (c ρ S) λv S1=>(v=true->WS (s ρ S1) N R)/\(v=false->WS (t ρ S1) N R)):WS (sIf c s t ρ S) N R:=WS.bind (h.imp λv S1 k=>by
 cases v with
 |true=>rw[if_pos rfl];exact k.1 rfl
 |false=>rw[if_neg (by simp)];exact k.2 rfl)
theorem YS {r:Option Fl} (I:Rho->Sto->Prop) (h:WS r I R) (k:∀ρ S,I ρ S->N ρ S):WS r N R:=by
 rcases h with⟨ρ,S,e,h⟩|h
 .exact .inl ⟨ρ,S,e,k ρ S h⟩
 .exact .inr h
theorem zhd {n:Nat} (h:WS (zai c s n ρ S) N R):WS (sWh n c s ρ S) N R:=h
theorem VX {n:Nat} (h:W (c ρ S) λv S1=>(v=true->WS (s ρ S1) (λρ2 S2=>WS (zai c s n ρ2 S2) N R) R)/\(v=false->N ρ S1)):WS (zai c s (n+1) ρ S) N R:=by
 unfold zai;refine WS.bind (h.imp λv S1 k=> ?_);cases v with
 |true=>
  rw[if_pos rfl];rcases k.1 rfl with⟨ρ2,S2,e2,h⟩|⟨x,S2,e2,h⟩
  .rw[e2];exact h
  .rw[e2];exact .rt rfl h
 |false=>exact .nx rfl (k.2 rfl)
theorem vR {n:TwI} {g:TwG} (h:W (n ρ S) λget S1=>∃xs,get S1=some xs/\WS (Uq get g s (xs.length+1) 0 ρ S1) N R):WS (XN n g s ρ S) N R:=WS.bind (h.imp λget S1 h=>by
 obtain⟨xs,e,h⟩:=h;rw[e,r0]
 exact h)
theorem wC {get:Sto->Option (List Xv)} {g:TwG} {xs:List Xv} (J:Nat->Rho->Sto->Prop) (hg:∀i ρ S,i<=xs.length->J i ρ S->get S=some xs)
  (h:∀(i:Nat) (x:Xv) ρ S,xs[i]? =some x->J i ρ S->W (g x ρ S) λρ1 S1=>WS (s ρ1 S1) (λρ2 S2=>J (i+1) ρ2 S2) R) (h0:J 0 ρ S) (k:∀ρ S,J xs.length ρ S->N ρ S):WS (Uq get g s (xs.length+1) 0 ρ S) N R:=by
 have aux:∀(n i:Nat) (ρ:Rho) (S:Sto),i+n=xs.length->J i ρ S->WS (Uq get g s (n+1) i ρ S) N R:=by
  intro n
  induction n with
  |zero=>
   intro i ρ S e hj;unfold Uq;rw[hg i ρ S ⋯ hj,r0,r6 ⋯];dsimp only;rw[if_pos ⋯];exact .nx rfl (k ρ S (by rw[show xs.length=i by omega];exact hj))
  |succ n ih=>
   intro i ρ S e hj;unfold Uq;have hi:i<xs.length:=by omega
   rw[hg i ρ S ⋯ hj,r0,qN hi];refine WS.bind ((h i _ ρ S (qN hi) hj).imp λρ1 S1 h1=> ?_);rcases h1 with⟨ρ2,S2,e2,h2⟩|⟨x,S2,e2,h2⟩
   .rw[e2];exact ih (i+1) ρ2 S2 ⋯ h2
   .rw[e2];exact .rt rfl h2
 exact aux xs.length 0 ρ S ⋯ h0
theorem zaC (h:W (m ρ S) λx S1=>∃l,yH S1 x=some l/\Q' (λS=>yH S x) S1):W (iL m ρ S) Q':=W.bind (h.imp λx S1 h=>by
 obtain⟨l,e,k⟩:=h;rw[e]
 exact .of rfl k)
theorem zeZ {Q':(Sto->Option (List Xv))->Sto->Prop} (h:W (m ρ S) λx S1=>∃l,x.tupOf=some l/\Q' (λ_=>some l) S1):W (iT m ρ S) Q':=W.bind (h.imp λx S1 h=>by
 obtain⟨l,e,k⟩:=h;rw[e]
 exact .of rfl k)
theorem wD {Q':(Sto->Option (List Xv))->Sto->Prop} (h:W (m ρ S) λx S1=>∃k:Int,x= .int k/\(-(2^62)<=k/\k<2^62)/\Q' (λ_=>some (xy 0 k.toNat)) S1):W (iR1 m ρ S) Q':=W.bind (h.imp λx S1 h=>by
 obtain⟨k,rfl,hk,q⟩:=h;dsimp only;rw[if_pos hk]
 exact .of rfl q)
theorem yX {lo:Int} {n i:Nat} {x:Xv} (h:(xy lo n)[i]? =some x):i<n/\x= .int (lo+i):=by
 unfold xy at h;rw[qY] at h;have hi:i<n:=by
  apply sS;intro hn;rw[r6 (by simp;omega)] at h;cases h
 rw[u9 hi] at h;cases h;exact⟨hi,rfl⟩
theorem yj {lo:Int} {n:Nat}:(xy lo n).length=n:=by simp[xy]
theorem xH {cap:List (Option Nat)} {n:TwI} {g:TwG} (h:W (n ρ S) λget S1=>∃xs,get S1=some xs/\W (YQ get g c m (xZ cap ρ) (xs.length+1) 0 [] S1) P):W (xm cap n g c m ρ S) P:=W.bind (h.imp λget S1 h=>by
 obtain⟨xs,e,h⟩:=h;rw[e,r0]
 exact h)
theorem xn {get:Sto->Option (List Xv)} {g:TwG} {ρc:Rho} {xs:List Xv} (hl:xs.length<=sizeLine) (J:Nat->List Xv->Sto->Prop) (hg:∀i es S,i<=xs.length->J i es S->get S=some xs)
  (h:∀(i:Nat) (x:Xv) es S,xs[i]? =some x->es.length=i->J i es S->W (g x ρc S) λρ1 S1=>W (c ρ1 S1) λb S2=>b=true/\W (m ρ1 S2) λy S3=>J (i+1) (es++[y]) S3) (h0:J 0 [] S)
  (k:∀es S,es.length=xs.length->J xs.length es S->P (.ref S.length) (S++[.lst es])):W (YQ get g c m ρc (xs.length+1) 0 [] S) P:=by
 have aux:∀(n i:Nat) (es:List Xv) (S:Sto),i+n=xs.length->es.length=i->J i es S->W (YQ get g c m ρc (n+1) i es S) P:=by
  intro n
  induction n with
  |zero=>
   intro i es S e el hj;unfold YQ;rw[hg i es S ⋯ hj,r0,r6 ⋯];dsimp only;rw[if_pos ⋯];exact .of rfl (k es S ⋯ (by rw[show xs.length=i by omega];exact hj))
  |succ n ih=>
   intro i es S e el hj;unfold YQ;have hi:i<xs.length:=by omega
   rw[hg i es S ⋯ hj,r0,qN hi];obtain⟨ρ1,S1,e1,b,S2,e2,rfl,y,S3,e3,q⟩:=h i _ es S (qN hi) el hj;dsimp only[rn];rw[e1];dsimp only[rn];rw[e2];dsimp only[rn];rw[if_pos rfl,e3];dsimp only[rn];rw[if_pos ⋯];exact ih (i+1) (es++[y]) S3 ⋯ (by simp[el]) q
 exact aux xs.length 0 [] S ⋯ rfl h0
theorem zlC (k:PB true S):W (xi ρ S) PB:= .of rfl k
theorem znN {n k:Nat} {xs:List Xv} {ρ0:Rho} (hn:xs.length=n) (h0:xs.map some++rh k none=ρ0) (h:WS (s ρ0 S) (λ_ S1=>P .non S1) P):W (yi n k s xs S) P:=by
 unfold yi;rw[if_pos hn,h0];rcases h with⟨ρ,S1,e,h⟩|⟨x,S1,e,h⟩
 .rw[e];exact .of rfl h
 .rw[e];exact .of rfl h
variable {p q:Int}
theorem znO (k:P (.int (p+q)) S):WO (Yb (.int p) (.int q) S) P:= .of rfl k
theorem znP (k:P (.int (p-q)) S):WO (zgc (.int p) (.int q) S) P:= .of rfl k
theorem znQ (k:P (.int (-p)) S):WO (zia (.int p) S) P:= .of rfl k
theorem zpa (k:P (.bl (decide (p<q))) S):WO (dLt (.int p) (.int q) S) P:= .of rfl k
theorem zpb (k:P (.bl (decide (q<p))) S):WO (dGt (.int p) (.int q) S) P:= .of rfl k
theorem zpc (k:P (.bl (decide (q<=p))) S):WO (dGe (.int p) (.int q) S) P:= .of rfl k
theorem znR (k:P (.bl (decide (p=q))) S):WO (Vn (.int p) (.int q) S) P:= .of rfl k
theorem znS (k:P (.bl (!decide (p=q))) S):WO (zcw (.int p) (.int q) S) P:= .of rfl k
theorem YT (h:0<q) (k:P (.int (p % q)) S):WO (WJ (.int p) (.int q) S) P:= .of (by unfold WJ xIC;exact if_pos (by simpa using h)) k
theorem xU (h:intBits p+intBits q<=134217728) (k:P (.int (p*q)) S):WO (vY (.int p) (.int q) S) P:= .of (by unfold vY xIC;exact if_pos (by simpa using h)) k
theorem znT (h:(-(2^64)<p/\p<2^64)\/(-(2^64)<q/\q<2^64)) (k:P (.int (p*q)) S):WO (zjy (.int p) (.int q) S) P:= .of (by unfold zjy xIC;exact if_pos (decide_eq_true h)) k
theorem znU (h:0<=q/\q<=1000000/\p.natAbs<2^64) (k:P (.int (p^q.toNat)) S):WO (zdP (.int p) (.int q) S) P:= .of (by unfold zdP xIC;exact if_pos (decide_eq_true h)) k
theorem zdV (h:0<q/\q<1073741824) (k:P (.int (p / q)) S):WO (zaA (.int p) (.int q) S) P:= .of (by unfold zaA xIC;exact if_pos (decide_eq_true h)) k
theorem ze0 (h:q≠0/\intBits q<=9000) (k:P (.int (p.fdiv q)) S):WO (zbz (.int p) (.int q) S) P:= .of (by unfold zbz xIC;exact if_pos (decide_eq_true h)) k
theorem znV (k:P (.int (if q<p then q else p)) S):WO (znI [.int p,.int q] S) P:= .of rfl k
theorem YU {l:List Xv} (h:yH S x=some l) (k:P (.int l.length) S):WO (wA [x] S) P:= .of (by
 unfold wA Wk;dsimp only;have:x.tupOf=none:=by cases x<;>first|rfl|cases h
 rw[this];dsimp only;rw[h]
 rfl) k
theorem zU {l:List Xv} {z:Xv} (h:yH S x=some l) (e:atI l p=some z) (k:P z S):WO (yA x (.int p) S) P:= .of (by unfold yA;rw[h];dsimp only;rw[e];rfl) k
theorem zG {l:List Xv} {z:Xv} (h:x.tupOf=some l) (e:atI l p=some z) (k:P z S):WO (zB x (.int p) S) P:= .of (by unfold zB;rw[h];dsimp only;rw[e];rfl) k
theorem Yt {β:Type} {x:β} {l:List β}:atI (x::l) 0=some x:=by
 unfold atI ixN;rw[if_pos (show (0:Int)<=0 by decide),if_pos (by simp only[ra];omega)];rfl
theorem vZ {β:Type} {x y:β} {l:List β}:atI (x::y::l) 1=some y:=by
 unfold atI ixN;rw[if_pos (show (0:Int)<=1 by decide),if_pos (by simp only[ra];omega)];rfl
theorem znW {l:List Xv} (k:P x S):WO (zB (.tup (x::l)) (.int 0) S) P:=zG rfl Yt k
theorem znX {l:List Xv} (k:P y S):WO (zB (.tup (x::y::l)) (.int 1) S) P:=zG rfl vZ k
theorem zbM {β:Type} {l:List β} {k:Int} {z:β} (h0:0<=k) (h:l[k.toNat]? =some z):atI l k=some z:=by
 have hk:=(qO.1 h).1;unfold atI ixN;rw[if_pos h0,if_pos ⋯];exact h
theorem vp {n:Nat} {l:List Xv} (h:Uh S x=some (n,l)) (hz:l.length<sizeLine) (k:P .non (S.set n (.lst (l++[y])))):WO (xx x [y] S) P:= .of (by unfold xx;rw[h];dsimp only;rw[if_pos hz]) k
theorem zjQ {l:List Xv} {lo hi:Option Int} (h:yH S x=some l) (k:P (.ref S.length) (S++[.lst (Ui l lo hi)])):WO (zeU x lo hi S) P:= .of (by unfold zeU;rw[h];rfl) k
theorem zpd {neg:Bool} {l:List Xv} (h:Wk S y=some l) (hf:(ZB x&&l.all ZB)=true) (k:P (.bl (neg !=l.any λz=>zdR z x)) S):WO (dIn neg x y S) P:= .of (by unfold dIn;rw[h,r0,if_pos hf]) k
theorem vS {c:String} {v:Bool} (h:zjJ c S x=some v) (k:P (.bl v) S):WO (UC c x S) P:= .of (by unfold UC;rw[h];rfl) k
end
theorem xN {S:Sto} {l:List Xv}:yH (S++[.lst l]) (.ref S.length)=some l:=by simp[yH]
theorem wQ {S:Sto} {n:Nat} {l:List Xv} (h:S[n]? =some (.lst l)):Uh S (.ref n)=some (n,l):=by simp[Uh,h]
theorem zh {S:Sto} {n:Nat} {l:List Xv} (h:S[n]? =some (.lst l)):yH S (.ref n)=some l:=by simp[yH,h]
theorem Tj {S:Sto} {n:Nat} {l:List (Key×Xv)} (h:S[n]? =some (.dk l)):Tg S (.ref n)=some (n,l):=by simp[Tg,h]
end L2
namespace L2
open PySem PySem.Spec PyProof.Rows PySem.Calls
section
variable {X:Cx}
end
section
variable {K:qP} {E:XK}
end
noncomputable def Yi (f:D->D->Option Bool):List D->List D->Option Bool
 |a::l,b::m=>(f a b).bind λx=>(Yi f l m).map (x&& ·)
 |_,_=>some true
theorem VY {f:D->D->Option Bool}:∀{l m:List D} {b:Bool},Yi f l m=some b->∃e:Nat->Bool,(∀(j:Nat) a c,l[j]? =some a->m[j]? =some c->f a c=some (e j))/\b=(sC (min l.length m.length)).all e
 |[],m,b,h=>by
  unfold Yi at h;cases h;exact⟨λ_=>true,λj a c ha=>by simp at ha,by simp⟩
 |a::l,[],b,h=>by
  unfold Yi at h;cases h;exact⟨λ_=>true,λj a c ha hc=>by simp at hc,by simp⟩
 |a::l,c::m,b,h=>by
  unfold Yi at h;cases e1:f a c with
  |none=>rw[e1] at h;cases h
  |some x=>
   rw[e1,r0] at h;cases e2:Yi f l m with
   |none=>rw[e2] at h;cases h
   |some y=>
    rw[e2] at h;cases h;obtain⟨e,k,rfl⟩:=VY e2
    refine⟨λj=>match j with
     |0=>x
     |j+1=>e j,λj p q hp hq=> ?_,?_⟩
    .cases j with
     |zero=>simp at hp hq;subst hp hq;exact e1
     |succ j=>exact k j p q (by simpa using hp) (by simpa using hq)
    .rw[ra,ra,Nat.succ_min_succ,List.range_succ_eq_map,tY,List.all_map];rfl
noncomputable def eqG:Nat->D->D->Option Bool
 |0,d,e=>match d,e with
  | .non,.non=>some true
  | .bl a,.bl b=>some (a==b)
  | .int a,.int b=>some (a==b)
  | .str a,.str b=>some (a==b)
  |_,_=>none
 |n+1,d,e=>match d,e with
  | .non,.non=>some true
  | .bl a,.bl b=>some (a==b)
  | .int a,.int b=>some (a==b)
  | .str a,.str b=>some (a==b)
  | .tup l,.tup m=>(Yi (eqG n) l m).map (· &&(l.length==m.length))
  | .lst l,.lst m=>if l.length=m.length then Yi (eqG n) l m else some false
  |_,_=>none
section
variable {X:Cx} {pins:List (Addr×Obj)} {σ:St} {H:Hp} {s:Shared}
theorem zie {n:Nat} {e:Nat->Bool} (h:∀j,j<n->e j=true):(sC n).all e=true:=sr.2 λj hj=>h j (t8.1 hj)
theorem zjR (I:Inv X pins σ H s):∀(n:Nat) {d e:D} {x:V} {b:Bool},eqG n d e=some b->Is X.K H x d->Is X.K H x e->b=true:=by
 intro n
 induction n with
 |zero=>
  intro d e x b h hx hy;unfold eqG at h;split at h
  .cases h;rfl
  .rw[hx.bl_inv] at hy;cases hy;cases h;simp
  .rw[hx.int_inv] at hy;cases hy;cases h;simp
  .rw[hx.str_inv] at hy;cases hy;cases h;simp
  .cases h
 |succ n ih=>
  intro d e x b h hx hy;unfold eqG at h;have items:∀{xs:List V} {l m:List D} {b:Bool},Yi (eqG n) l m=some b->IsL X.K H xs l->IsL X.K H xs m->b=true:=λ{xs l m b} ha hl hm=>by
   obtain⟨e,k,rfl⟩:=VY ha;refine zie λj hj=> ?_;have h1:j<l.length:=by omega
   have h2:j<m.length:=by omega
   obtain⟨x,kC,kB⟩:=hl.get (qN h1);obtain⟨y,jt,kz⟩:=hm.get (qN h2);rw[kC] at jt;cases jt;exact ih (k j _ _ (qN h1) (qN h2)) kB kz
  split at h
  .cases h;rfl
  .rw[hx.bl_inv] at hy;cases hy;cases h;simp
  .rw[hx.int_inv] at hy;cases hy;cases h;simp
  .rw[hx.str_inv] at hy;cases hy;cases h;simp
  .rename_i l m;cases ha:Yi (eqG n) l m with
   |none=>rw[ha] at h;cases h
   |some b'=>
    rw[ha] at h;cases h;obtain⟨a,xs,rfl,h1,h2⟩:=hx.tup_inv;obtain⟨a',ys,e,g1,g2⟩:=hy.tup_inv;cases e;obtain rfl:=I.tuple_inj h1 g1;rw[items ha h2 g2];have e3:=h2.len;have e4:=g2.len;simp;omega
  .rename_i l m;obtain⟨a,xs,rfl,h1,h2⟩:=hx.lst_inv;obtain⟨a',ys,e,g1,g2⟩:=hy.lst_inv;cases e;obtain rfl:=I.list_inj h1 g1;have e3:=h2.len;have e4:=g2.len;rw[if_pos ⋯] at h;exact items h h2 g2
  .cases h
theorem VZ {A:Around} {xs ys:List V} {ak bz:List Value} {l m:List D} {e:Nat->Bool} (rx:yr xs ak) (ry:yr ys bz) (hx:IsL X.K H xs l) (hy:IsL X.K H ys m)
  (k:∀{x y:V} {u v:Value} {d d':D} {j:Nat},l[j]? =some d->m[j]? =some d'->Is X.K H x d->Is X.K H y d'->yn x u->yn y v->SeqAt.EqAt A.in1 s u v (e j)):
  ∀j (h1:j<ak.toArray.size) (h2:j<bz.toArray.size),SeqAt.EqAt A.in1 s ak.toArray[j] bz.toArray[j] (e j):=by
 intro j h1 h2;have e1:j<xs.length:=by rw[rx.length];simpa using h1
 have e2:j<ys.length:=by rw[ry.length];simpa using h2
 have el:j<l.length:=by rw[<-hx.len];exact e1
 have em:j<m.length:=by rw[<-hy.len];exact e2
 obtain⟨x,kC,kB⟩:=hx.get (i:=j) (d:=l[j]) (qN el);obtain⟨y,jt,kz⟩:=hy.get (i:=j) (d:=m[j]) (qN em);obtain⟨u,hu,ru⟩:=rx.get kC;obtain⟨v,hv,rv⟩:=ry.get jt;have g1:ak.toArray[j]=u:=by
  have:ak[j]? =some ak[j]:=qN (by simpa using h1);rw[hu] at this;simpa using (rp this).symm
 have g2:bz.toArray[j]=v:=by
  have:bz[j]? =some bz[j]:=qN (by simpa using h2);rw[hv] at this;simpa using (rp this).symm
 rw[g1,g2];exact k (qN el) (qN em) kB kz ru rv
theorem zbN (I:Inv X pins σ H s):∀(n:Nat) {A:Around} {d d':D} {x y:V} {u v:Value} {b:Bool},eqG n d d'=some b->A.units+n<cLine->Is X.K H x d->Is X.K H y d'->yn x u->yn y v->SeqAt.EqAt A s u v b:=by
 intro n
 induction n with
 |zero=>
  intro A d d' x y u v b h hu hx hy ru rv;unfold eqG at h;split at h
  .cases h;rw[hx.non_inv] at ru;rw[hy.non_inv] at rv;cases ru;cases rv;exact SeqAt.EqAt.same _
  .cases h;rw[hx.bl_inv] at ru;rw[hy.bl_inv] at rv;cases ru;cases rv;exact SeqAt.EqAt.bool_bool _ _
  .cases h;rw[hx.int_inv] at ru;rw[hy.int_inv] at rv;obtain⟨t,rfl⟩:=ru;obtain⟨t',rfl⟩:=rv;exact SeqAt.EqAt.int_int _ _ _ _
  .cases h;rw[hx.str_inv] at ru;rw[hy.str_inv] at rv;obtain⟨t,rfl⟩:=ru;obtain⟨t',rfl⟩:=rv;exact SeqAt.EqAt.str_str _ _ _ _
  .cases h
 |succ n ih=>
  intro A d d' x y u v b h hu hx hy ru rv;have gn:=λ(e:x=y)=>zjR I (n+1) h hx (e ▸ hy);unfold eqG at h;split at h
  .cases h;rw[hx.non_inv] at ru;rw[hy.non_inv] at rv;cases ru;cases rv;exact SeqAt.EqAt.same _
  .cases h;rw[hx.bl_inv] at ru;rw[hy.bl_inv] at rv;cases ru;cases rv;exact SeqAt.EqAt.bool_bool _ _
  .cases h;rw[hx.int_inv] at ru;rw[hy.int_inv] at rv;obtain⟨t,rfl⟩:=ru;obtain⟨t',rfl⟩:=rv;exact SeqAt.EqAt.int_int _ _ _ _
  .cases h;rw[hx.str_inv] at ru;rw[hy.str_inv] at rv;obtain⟨t,rfl⟩:=ru;obtain⟨t',rfl⟩:=rv;exact SeqAt.EqAt.str_str _ _ _ _
  .rename_i l m;cases ha:Yi (eqG n) l m with
   |none=>rw[ha] at h;cases h
   |some b'=>
    rw[ha] at h;cases h;obtain⟨e,k,rfl⟩:=VY ha;obtain⟨a,xs,rfl,h1,h2⟩:=hx.tup_inv;obtain⟨a',ys,rfl,g1,g2⟩:=hy.tup_inv;cases ru;cases rv;by_cases dX:a=a'
    .subst dX;rw[gn rfl];exact SeqAt.EqAt.same _
    .obtain⟨ak,r1,p1,_⟩:=I.tuple h1;obtain⟨bz,r2,p2,_⟩:=I.tuple g1;refine SeqAt.EqAt.of_refs dX ?_;have:=SeqAt.RcAt.tuples (A:=A) (e:=e) p1 p2 ⋯ (VZ r1 r2 h2 g2 λhi hj hx hy ru rv=>ih (A:=A.in1) (k _ _ _ hi hj) (by show A.units+1+n<cLine;omega) hx hy ru rv);have s1:ak.toArray.size=l.length:=by have e1:=r1.length;have e3:=h2.len;simp;omega
     have s2:bz.toArray.size=m.length:=by have e1:=r2.length;have e3:=g2.len;simp;omega
     rwa [s1,s2] at this
  .rename_i l m;obtain⟨a,xs,rfl,h1,h2⟩:=hx.lst_inv;obtain⟨a',ys,rfl,g1,g2⟩:=hy.lst_inv;cases ru;cases rv;by_cases dX:a=a'
   .subst dX;rw[gn rfl];exact SeqAt.EqAt.same _
   .obtain⟨ak,r1,p1,_⟩:=I.list h1;obtain⟨bz,r2,p2,_⟩:=I.list g1;have s1:ak.toArray.size=l.length:=by have e1:=r1.length;have e3:=h2.len;simp;omega
    have s2:bz.toArray.size=m.length:=by have e1:=r2.length;have e3:=g2.len;simp;omega
    refine SeqAt.EqAt.of_refs dX ?_;split at h
    .rename_i i7;obtain⟨e,k,rfl⟩:=VY h;have:=SeqAt.RcAt.lists (A:=A) (e:=e) p1.isList p2.isList ⋯ ⋯ (VZ r1 r2 h2 g2 λhi hj hx hy ru rv=>ih (A:=A.in1) (k _ _ _ hi hj) (by show A.units+1+n<cLine;omega) hx hy ru rv);rw[s1] at this;rwa [show min l.length m.length=l.length by omega]
    .rename_i i7;cases h;exact SeqAt.RcAt.lists_lengths p1.isList p2.isList (by rw[s1,s2];simpa using i7) ⋯
  .cases h
def zpe (K:qP) (neg:Bool):R2:=λx y H Q=>∃(d e:D) (b:Bool),(∃l m,(d= .tup l/\e= .tup m)\/(d= .lst l/\e= .lst m))/\Is K H x d/\Is K H y e/\eqG 40 d e=some b/\Q (.bl (neg !=b)) H
theorem zjS {k:Nat} {K:qP} (hr:wG k X.A) (hK:X.K=K:=by rfl):OpR X (compareOp .Eq) (zpe K false):=by
 subst hK;intro pins s σ H x y v u Q I rx ry h;obtain⟨d,e,b,⟨l,m,hd⟩,hx,hy,hb,q⟩:=h;have hu:X.A.units+41<cLine:=rX ⋯ hr.units;rw[show (false !=b)=b by cases b<;>rfl] at q;unfold eqG at hb;rcases hd with⟨rfl,rfl⟩|⟨rfl,rfl⟩
 .dsimp only at hb;cases ha:Yi (eqG 39) l m with
  |none=>rw[ha] at hb;cases hb
  |some b'=>
   rw[ha] at hb;cases hb;obtain⟨e,k,rfl⟩:=VY ha;obtain⟨a,xs,rfl,h1,h2⟩:=hx.tup_inv;obtain⟨a',ys,rfl,g1,g2⟩:=hy.tup_inv;cases rx;cases ry;obtain⟨ak,r1,p1,_⟩:=I.tuple h1;obtain⟨bz,r2,p2,_⟩:=I.tuple g1;have s1:ak.toArray.size=l.length:=by have e1:=r1.length;have e3:=h2.len;simp;omega
   have s2:bz.toArray.size=m.length:=by have e1:=r2.length;have e3:=g2.len;simp;omega
   refine SeqAt.eq_tupleAt (e:=e) p1 p2 ⋯ (VZ r1 r2 h2 g2 λhi hj hx hy ru rv=>zbN I 39 (A:=X.A.in1) (k _ _ _ hi hj) (by show X.A.units+1+39<cLine;omega) hx hy ru rv) ?_;rw[s1,s2];exact⟨.bl _,H,I,rfl,q⟩
 .dsimp only at hb;obtain⟨a,xs,rfl,h1,h2⟩:=hx.lst_inv;obtain⟨a',ys,rfl,g1,g2⟩:=hy.lst_inv;cases rx;cases ry;obtain⟨ak,r1,p1,_⟩:=I.list h1;obtain⟨bz,r2,p2,_⟩:=I.list g1;have s1:ak.toArray.size=l.length:=by have e1:=r1.length;have e3:=h2.len;simp;omega
  have s2:bz.toArray.size=m.length:=by have e1:=r2.length;have e3:=g2.len;simp;omega
  split at hb
  .rename_i i7;obtain⟨e,k,rfl⟩:=VY hb;refine SeqAt.eq_listAt (e:=e) p1.isList p2.isList ⋯ ⋯ (VZ r1 r2 h2 g2 λhi hj hx hy ru rv=>zbN I 39 (A:=X.A.in1) (k _ _ _ hi hj) (by show X.A.units+1+39<cLine;omega) hx hy ru rv) ?_;rw[show min l.length m.length=l.length by omega] at q;rw[s1];exact⟨.bl _,H,I,rfl,q⟩
  .rename_i i7;cases hb;refine SeqAt.eq_list_lengthsAt p1.isList p2.isList (by rw[s1,s2];simpa using i7) ⋯ ?_;exact⟨.bl false,H,I,rfl,q⟩
end
end L2
namespace L2
open PySem PySem.Spec PyProof.Rows PySem.Calls PySem.W
section
variable {cmp:Nat->Nat->(Bool->Shared->Prop)->Shared->Prop} {r:Nat->Int} {n:Nat} {s:Shared}
end
section
variable {prog:Program} {w:World} {A:Around} {E:Value->Shared->Prop} {s:Shared}
end
open PySem.AutoSeq1 (wpAny_loadPart')
open PySem.MeetsSeq PySem.MeetsSeq2 PySem.MeetsSeq3
section
variable {prog:Program} {w:World} {A:Around} {E:Value->Shared->Prop} {s:Shared}
end
section
variable {X:Cx}
end
end L2
namespace L2
open PySem PySem.Spec PyProof.Rows PySem.Calls PySem.W
section
variable {X:Cx} {pins:List (Addr×Obj)} {σ:St} {H:Hp} {s:Shared} {a:Addr} {d:V} {u r:Value} {A:Around} {E:Value->Shared->Prop} {ah:List (Key×V)} {k:Key}
end
section
variable {X:Cx} {o e f:Expr} {apos bY:Pos} {td ty tx:TE}
end
open PySem.AutoSeq1 (wpAny_loadPart')
section
variable {prog:Program} {w:World} {A:Around} {E:Value->Shared->Prop} {s:Shared}
end
section
variable {X:Cx}
end
end L2
namespace L2
open PySem PySem.Spec PyProof.Rows PySem.Calls PySem.W
section
variable {prog:Program} {w:World} {A:Around} {E:Value->Shared->Prop} {s:Shared}
end
section
variable {X:Cx}
end
open PySem.AutoSeq1 (wpAny_loadPart')
section
variable {prog:Program} {w:World} {A:Around} {E:Value->Shared->Prop} {s:Shared}
end
section
variable {X:Cx}
end
end L2
namespace L2
open PySem PySem.Spec PyProof.Rows PySem.Calls
mutual
inductive Yj (h:Heap):NK->Value->Prop where
 |int (i:Int) (t:Tok):Yj h (.int i) (.int i t)
 |str (x:Str) (t:Tok):Yj h (.str x) (.str x t)
 |tup {a:Addr} {o:Obj} {items:Array Value} {n:Nat} {l:List NK}:h.get? a=some o->o.cls= .type "tuple"->o.data= .seq items n->vy h l items.toList->Yj h (.tup l) (.ref a)
inductive vy (h:Heap):List NK->List Value->Prop where
 |nil:vy h [] []
 |cons {k:NK} {v:Value} {ks:List NK} {vs:List Value}:Yj h k v->vy h ks vs->vy h (k::ks) (v::vs)
end
mutual
noncomputable def Ur:NK->Nat
 | .int _=>1
 | .str _=>1
 | .tup l=>Zl l+1
noncomputable def Zl:List NK->Nat
 |[]=>0
 |k::r=>Ur k+Zl r
end
section
variable {h h':Heap}
mutual
theorem Yj.inj:∀{x y:NK} {v:Value},Yj h x v->Yj h y v->x=y
 |_,_,_,.int i t,hy=>by cases hy;rfl
 |_,_,_,.str x t,hy=>by cases hy;rfl
 |_,_,_,.tup e1 e2 e3 l1,hy=>by
  cases hy with
  |tup f1 f2 f3 l2=>
   rw[e1] at f1;cases f1;rw[e3] at f3;injection f3 with g1 g2
   subst g1;rw[vy.inj l1 l2]
theorem vy.inj:∀{x y:List NK} {v:List Value},vy h x v->vy h y v->x=y
 |_,_,_,.nil,hy=>by cases hy;rfl
 |_,_,_,.cons a l,hy=>by
  cases hy with
  |cons b m=>rw[Yj.inj a b,vy.inj l m]
end
mutual
theorem Yj.keeps {d:Addr} {o:Obj} {es:Array DictEntry} {ep:Nat} (ho:h.get? d=some o) (hd:o.data= .dict es ep) (hs:Heap.SameBut d h h'):∀{x:NK} {v:Value},Yj h x v->Yj h' x v
 |_,_,.int i t=> .int i t
 |_,_,.str x t=> .str x t
 |_,_,.tup (a:=a) e1 e2 e3 l=>by
  have eV:a≠d:=by
   rintro rfl;rw[ho] at e1;cases e1;rw[hd] at e3;exact nomatch e3
  exact .tup ((hs.2 a eV).trans e1) e2 e3 (vy.keeps ho hd hs l)
theorem vy.keeps {d:Addr} {o:Obj} {es:Array DictEntry} {ep:Nat} (ho:h.get? d=some o) (hd:o.data= .dict es ep) (hs:Heap.SameBut d h h'):∀{x:List NK} {v:List Value},vy h x v->vy h' x v
 |_,_,.nil=> .nil
 |_,_,.cons a l=> .cons (Yj.keeps ho hd hs a) (vy.keeps ho hd hs l)
end
theorem vy.len:∀{x:List NK} {v:List Value},vy h x v->x.length=v.length
 |_,_,.nil=>rfl
 |_,_,.cons a l=>by simp[l.len]
theorem vy.get:∀{x:List NK} {v:List Value} {i:Nat} {k:NK},vy h x v->x[i]? =some k->∃u,v[i]? =some u/\Yj h k u
 |_,_,_,_,.nil,e=>by simp at e
 |_,_,0,_,.cons a l,e=>by simp at e;subst e;exact⟨_,rfl,a⟩
 |_,_,i+1,k,.cons a l,e=>by
  obtain⟨u,e1,e2⟩:=l.get (i:=i) (k:=k) (by simpa using e);exact⟨u,by simpa using e1,e2⟩
end
theorem Ua:∀{l:List NK} {k:NK},k∈l->ZC k<=We l
 |[],_,h=>by cases h
 |a::r,k,h=>by
  unfold We;rcases rQ.1 h with rfl|h
  .exact Nat.le_max_left _ _
  .exact rk (Ua h) (Nat.le_max_right _ _)
section
variable {prog:Program} {w:World} {E:Value->Shared->Prop}
theorem zlD:∀(n:Nat) {A:Around} {s:Shared} {k:NK} {v:Value} {Q:Int->Shared->Prop},ZC k<=n->A.units+n<cLine->Yj s.heap k v->Q (Ve w k) {s with toks:=s.toks+Ur k}->wpAny (model prog w) A (pyHash v) Q E s:=by
 intro n
 induction n with
 |zero=>
  intro A s k v Q hn hu hk h;cases hk with
  |int i t=>exact wpAny_pyHash_int (by simpa [Ve,Ur,zfF] using h)
  |str x t=>exact wpAny_pyHash_str (by simpa [Ve,Ur,zfF] using h)
  |tup _ _ _ _=>unfold ZC at hn;omega
 |succ n ih=>
  intro A s k v Q hn hu hk h;cases hk with
  |int i t=>exact wpAny_pyHash_int (by simpa [Ve,Ur,zfF] using h)
  |str x t=>exact wpAny_pyHash_str (by simpa [Ve,Ur,zfF] using h)
  | @tup a o items m ks ho hc hd hi=>
   have ty:s.TypeIs (.ref a) "tuple":=⟨o,ho,hc⟩;have eS:We ks<=n:=by unfold ZC at hn;omega
   have sl:=F.slot_tuple_hash;unfold pyHash
   (try unfold pyHashByItsType)
   have main:∀{R:Value->Shared->Prop},R (.int (Builtin.Tuple.tupleHashOf (XL w ks)) (s.toks+Zl ks)) {s with toks:=s.toks+Zl ks+1}->wpAny (model prog w) A.in1 (Builtin.«tuple.__hash__» ⟨[.ref a],[]⟩) (λfin s'=>∃v,fin=PySem.Fin.done (.ret v)/\R v s') E s:=λ{R} hR=>by
    refine wpAny_bind (m:=Builtin.Tuple.tupleItemsOf (.ref a)) (wpAny_tupleItemsOf ho hd (wpAny_bind ?_));rw[<-Aq];refine wpAny_forIn_list _ (λrest (acc:Array Int) s'=>∃pre post,ks=pre++post/\vy s.heap post rest/\acc.toList=XL w pre/\s'={s with toks:=s.toks+Zl pre}) _ ?_ ?_ _ _ ⟨[],ks,rfl,hi,by simp[XL],by simp[Zl]⟩
    .rintro v1 more acc _ ⟨pre,post,rfl,hl,hb,rfl⟩;cases hl with
     | @cons k _ post' _ h1 gU=>
      have app:∀(l:List NK) (k:NK),XL w (l++[k])=XL w l++[Ve w k]/\Zl (l++[k])=Zl l+Ur k:=λl k=>by
       induction l with
       |nil=>simp[XL,Zl]
       |cons a r ih=>refine⟨by simp[XL,ih.1],by simp[Zl,ih.2];omega⟩
      refine wpAny_bind (ih (rk (Ua (by simp)) eS) (show A.units+1+n<cLine by omega) (show Yj s.heap k v1 from h1) ?_);have goal:∃gE gg,pre++k::post'=gE++gg/\vy s.heap gg more/\(acc.push (Ve w k)).toList=XL w gE/\({s with toks:=s.toks+Zl pre+Ur k}:Shared)={s with toks:=s.toks+Zl gE}:=⟨pre++[k],post',by simp,gU,by rw[(app pre k).1];simp[hb],by rw[(app pre k).2,B3]⟩
      first|exact wpAny_pure goal|exact wpAny_bind (wpAny_pure (wpAny_pure goal))
    .rintro acc _ ⟨pre,post,rfl,hl,hb,rfl⟩;cases hl;rw[tF] at hR;show wpAny _ _ (retInt (Builtin.Tuple.tupleHashOf acc.toList)) _ _ _;rw[hb];refine wpAny_ret_mkInt ?_;exact hR
   refine wpAny_bind (wpAny_cRoomFor_or (.inr (show A.units<cLine by omega)) (wpAny_bind (wpAny_specialOf ty sl.lookup ?_)));refine wpAny_ite_split (λz=>absurd z (by rw[beq_builtin_none];decide)) λ_=>wpAny_bind (wpAny_specialOf ty sl.lookup ?_);refine wpAny_bind (m:=callSpecialIfBoundUnlessNone? (.ref a) "__hash__" _) (wpAny_callSpecialIfBoundUnlessNone?_slot ty sl (wpAny_call_entry sl ty F.entry_tuple_hash (main ?_) (F.args_tuple_hash_1 _)));unfold Ve Ur reduceHash at h;have en:({s with toks:=s.toks+Zl ks+1}:Shared)={s with toks:=s.toks+(Zl ks+1)}:=by rw[B3]
   rw[en];refine wpAny_ite_split (λz=> ?_) λz=>wpAny_bind (wpAny_rule ?_)
   .rw[if_pos z] at h;exact wpAny_pure h
   .rw[if_neg z] at h;exact wpAny_pure h
theorem Tl {A:Around} {s:Shared} {k j:NK} {v u:Value} (hu:A.units<cLine) (hk:Yj s.heap k v) (hj:Yj s.heap j u) (hd:(∀l,k≠ .tup l)\/∀l,j≠ .tup l):SeqAt.EqAt A s v u (decide (k=j)):=by
 have tp:∀{a:Addr} {o:Obj} {items:Array Value} {n:Nat},s.heap.get? a=some o->o.cls= .type "tuple"->o.data= .seq items n->s.heap.IsTuple a items:=λa b c=>⟨_,a,b,_,c⟩;cases hk with
 |int i t=>
  cases hj with
  |int j t'=>
   rw[show decide (NK.int i=NK.int j)=(i==j) by rw[sJ,decide_eq_true_iff,beq_iff_eq];exact⟨λe=>by cases e;rfl,λe=>by rw[e]⟩];exact SeqAt.EqAt.int_int _ _ _ _
  |str y t'=>rw[decide_eq_false (by intro e;cases e)];exact SeqAt.EqAt.int_str _ _ _ _
  |tup a b c _=>rw[decide_eq_false (by intro e;cases e)];exact SeqAt.EqAt.int_tuple _ _ (tp a b c) hu
 |str x t=>
  cases hj with
  |int j t'=>rw[decide_eq_false (by intro e;cases e)];exact SeqAt.EqAt.str_int _ _ _ _
  |str y t'=>
   rw[show decide (NK.str x=NK.str y)=(x==y) by rw[sJ,decide_eq_true_iff,beq_iff_eq];exact⟨λe=>by cases e;rfl,λe=>by rw[e]⟩];exact SeqAt.EqAt.str_str _ _ _ _
  |tup a b c _=>rw[decide_eq_false (by intro e;cases e)];exact SeqAt.EqAt.str_tuple _ _ (tp a b c) hu
 |tup a b c _=>
  cases hj with
  |int j t'=>rw[decide_eq_false (by intro e;cases e)];exact SeqAt.EqAt.tuple_int _ _ (tp a b c) hu
  |str y t'=>rw[decide_eq_false (by intro e;cases e)];exact SeqAt.EqAt.tuple_str _ _ (tp a b c) hu
  |tup _ _ _ _=>
   rcases hd with h|h
   .exact (h _ rfl).elim
   .exact (h _ rfl).elim
theorem ze1 {α:Type} (l m:List α) (e:Nat->Bool) (he:∀(j:Nat) a b,l[j]? =some a->m[j]? =some b->(e j=true↔a=b)):((sC (min l.length m.length)).all e&&(l.length==m.length))=true↔l=m:=by
 rw[rV,sr,beq_iff_eq];constructor
 .rintro⟨h1,h2⟩;refine tQ λj=> ?_;by_cases hj:j<l.length
  .have ie:j<m.length:=by omega
   rw[qN hj,qN ie];exact congrArg some ((he j _ _ (qN hj) (qN ie)).1 (h1 j (t8.2 ⋯)))
  .rw[r6 ⋯,r6 ⋯]
 .rintro rfl;refine⟨λj hj=> ?_,rfl⟩;have hj:=t8.1 hj;have hj:j<l.length:=by omega
  exact (he j _ _ (qN hj) (qN hj)).2 rfl
theorem zpf:∀(n:Nat) {A:Around} {s:Shared} {k j:NK} {v u:Value},ZC k<=n->A.units+n<cLine->Yj s.heap k v->Yj s.heap j u->SeqAt.EqAt A s v u (decide (k=j)):=by
 intro n
 induction n with
 |zero=>
  intro A s k j v u hn hu hk hj;refine Tl ⋯ hk hj (.inl λl e=> ?_);subst e;unfold ZC at hn;omega
 |succ n ih=>
  intro A s k j v u hn hu hk hj;cases hk with
  |int i t=>exact Tl ⋯ (.int i t) hj (.inl λl e=>by cases e)
  |str i t=>exact Tl ⋯ (.str i t) hj (.inl λl e=>by cases e)
  | @tup a o items m l ho hc hd hi=>
   cases hj with
   |int i t=>exact Tl ⋯ (.tup ho hc hd hi) (.int i t) (.inr λl e=>by cases e)
   |str i t=>exact Tl ⋯ (.tup ho hc hd hi) (.str i t) (.inr λl e=>by cases e)
   | @tup a' o' items' m' l' fM h8 ip gX=>
    have eS:We l<=n:=by unfold ZC at hn;omega
    by_cases dX:a=a'
    .subst dX;have e:=(Yj.tup ho hc hd hi).inj (Yj.tup fM h8 ip gX);rw[decide_eq_true e];exact SeqAt.EqAt.same _
    .refine SeqAt.EqAt.of_refs dX ?_;have s1:items.size=l.length:=by have:=hi.len;simpa using this.symm
     have s2:items'.size=l'.length:=by have:=gX.len;simpa using this.symm
     have:=SeqAt.RcAt.tuples (A:=A) (s:=s) (e:=λq=>decide (l[q]? =l'[q]?)) ⟨o,ho,hc,m,hd⟩ ⟨o',fM,h8,m',ip⟩ ⋯ (λq h1 h2=>by
      have q1:l[q]? =some l[q]:=qN ⋯;have q2:l'[q]? =some l'[q]:=qN ⋯;obtain⟨u1,f1,g1⟩:=hi.get q1;obtain⟨u2,f2,g2⟩:=gX.get q2;have e1:items[q]=u1:=by rw[uE] at f1;rw[x4 h1] at f1;exact rp f1
      have e2:items'[q]=u2:=by rw[uE] at f2;rw[x4 h2] at f2;exact rp f2
      rw[e1,e2];have:=ih (A:=A.in1) (rk (Ua (rq ⋯)) eS) (by show A.units+1+n<cLine;omega) g1 g2
      rwa [show decide (l[q]? =l'[q]?)=decide (l[q]=l'[q]) by rw[q1,q2,decide_eq_decide,rJ]])
     rw[s1,s2] at this;have lx:((sC (min l.length l'.length)).all (λq=>decide (l[q]? =l'[q]?))&&(l.length==l'.length))=decide (NK.tup l=NK.tup l'):=by
      rw[sJ,decide_eq_true_iff,ze1 l l' _ λj a b ha hb=>by rw[decide_eq_true_iff,ha,hb,rJ]];exact⟨λe=>by rw[e],λe=>by cases e;rfl⟩
     rwa [lx] at this
theorem zjT:∀(n:Nat) {A:Around} {s:Shared} {k:NK} {v:Value} {Q:Bool->Shared->Prop},ZC k<=n->Yj s.heap k v->Q true s->wpAny (model prog w) A (eqIsQuiet n v) Q E s:=by
 intro n
 induction n with
 |zero=>
  intro A s k v Q hn hk h;cases hk with
  |int i t=>rw[eqIsQuiet_byValue _ rfl];exact wpAny_pure h
  |str x t=>rw[eqIsQuiet_byValue _ rfl];exact wpAny_pure h
  |tup _ _ _ _=>unfold ZC at hn;omega
 |succ n ih=>
  intro A s k v Q hn hk h;cases hk with
  |int i t=>rw[eqIsQuiet_byValue _ rfl];exact wpAny_pure h
  |str x t=>rw[eqIsQuiet_byValue _ rfl];exact wpAny_pure h
  | @tup a o items m ks ho hc hd hi=>
   have ty:s.TypeIs (.ref a) "tuple":=⟨o,ho,hc⟩;have eS:We ks<=n:=by unfold ZC at hn;omega
   unfold eqIsQuiet;refine wpAny_bind (wpAny_specialOf ty F.slot_tuple_eq.lookup (wpAny_bind (m:=isInstance (.ref a) (.type "tuple")) (wpAny_isInstance ty isSubtype_tuple_tuple ?_)));refine wpAny_ite_split nofun λ_=>wpAny_bind (wpAny_seqItems ho hd (wpAny_bind (m:=forIn items _ _) ?_));rw[<-Aq];refine wpAny_forIn_list _ (λrest acc s'=>acc.1=none/\s'=s/\∃post,(∀k∈post,ZC k<=n)/\vy s.heap post rest) _ ?_ ?_ _ _ ⟨rfl,rfl,ks,λk hk=>rk (Ua hk) eS,hi⟩
   .rintro v1 rest acc _ ⟨ha,rfl,post,eX,hl⟩;cases hl with
    | @cons k _ post' _ h1 gU=>exact wpAny_bind (ih (eX k (by simp)) h1 (wpAny_ite_split nofun λ_=>wpAny_pure ⟨rfl,rfl,post',λu hu=>eX u (r9 _ hu),gU⟩))
   .rintro⟨a1,a2⟩ _ ⟨ha,rfl,_⟩;cases ha;exact wpAny_pure h
end
noncomputable def zaD (prog:Program) (w:World):HeapKind prog w NK where
 is:=λh k a=>Yj h k (.ref a)/\ZC k<=8
 hash:=Ve w
 draws:=Ur
 room:=λA=>A.units+8<cLine
 inj:=λhx hy=>hx.1.inj hy.1
 keeps:=λx ho hd hs=>⟨x.1.keeps ho hd hs,x.2⟩
 pyHash:=λhu hk h=>zlD 8 hk.2 hu hk.1 h
 eqBool:=λhu hx hy h=>zpf 8 hx.2 hu hx.1 hy.1 _ _ _ _ h
 quiet:=λhk h=>zjT 8 hk.2 hk.1 h
mutual
inductive NIs (K:qP) (H:Hp):V->NK->Prop where
 |int (i:Int):NIs K H (.int i) (.int i)
 |str (x:Str):NIs K H (.str x) (.str x)
 |tup {a:Addr} {vs:List V} {l:List NK}:SqT K H a vs->zdW K H vs l->NIs K H (.ref a) (.tup l)
inductive zdW (K:qP) (H:Hp):List V->List NK->Prop where
 |nil:zdW K H [] []
 |cons {v:V} {k:NK} {vs:List V} {ks:List NK}:NIs K H v k->zdW K H vs ks->zdW K H (v::vs) (k::ks)
end
section
variable {X:Cx} {pins:List (Addr×Obj)} {σ:St} {H:Hp} {s:Shared}
mutual
theorem NIs.isNK (I:Inv X pins σ H s):∀{v:V} {k:NK} {u:Value},NIs X.K H v k->yn v u->Yj s.heap k u
 |_,_,_,.int i,r=>by obtain⟨t,rfl⟩:=(show ∃t,_=Value.int i t from r);exact .int i t
 |_,_,_,.str x,r=>by obtain⟨t,rfl⟩:=(show ∃t,_=Value.str x t from r);exact .str x t
 |_,_,_,.tup (a:=a) h l,r=>by
  cases (show _=Value.ref a from r);obtain⟨ak,r1,⟨o,p1,p2,n,p3⟩,_⟩:=I.tuple h;exact .tup p1 p2 p3 (zdW.isNK I l (by simpa using r1))
theorem zdW.isNK (I:Inv X pins σ H s):∀{v:List V} {k:List NK} {u:List Value},zdW X.K H v k->yr v u->vy s.heap k u
 |_,_,_,.nil,r=>by cases r;exact .nil
 |_,_,_,.cons h l,r=>by
  cases r with
  |cons a b=>exact .cons (NIs.isNK I h a) (zdW.isNK I l b)
end
end
def zjU (K:qP) (H:Hp) (ks:List (NK×Addr×V)):Prop:=∀p∈ks,NIs K H (.ref p.2.1) p.1/\ZC p.1<=8
noncomputable def Vo (ks:List (NK×Addr×V)) (k:NK):Option V:=(ks.find? λp=>decide (p.1=k)).map (·.2.2)
noncomputable def zdX (ks:List (NK×Addr×V)) (k:NK) (b:Addr) (v:V):List (NK×Addr×V):=if (Vo ks k).isSome=true then ks.map (λp=>if p.1=k then (p.1,p.2.1,v) else p) else ks++[(k,b,v)]
theorem ze2 (ks:List (NK×Addr×V)) (k:NK) (b:Addr) (v:V):(zdX ks k b v).length<=ks.length+1:=by
 unfold zdX;split
 .rw[qV];omega
 .simp
noncomputable abbrev PN:List (NK×Addr×V)->List (NK×Addr×Value)->Prop:=Paired λ(p:NK×Addr×V) (q:NK×Addr×Value)=>p.1=q.1/\p.2.1=q.2.1/\yn p.2.2 q.2.2
theorem PN.val {ks:List (NK×Addr×V)} {xs:List (NK×Addr×Value)} (r:PN ks xs) (k:NK):Wu (Vo ks k) ((atKey xs k).map (·.2)):=by
 induction r with
 |nil=>exact sL
 | @cons p q ps qs h t ih=>
  obtain⟨h1,_,h2⟩:=h;by_cases e:p.1=k
  .have e':q.1=k:=h1.symm.trans e;have b:atKey (q::qs) k=some q.2:=by simp[atKey,rG,e']
   have a:Vo (p::ps) k=some p.2.2:=by simp[Vo,rG,e]
   rw[a,b];exact h2
  .have e':¬q.1=k:=λz=>e (h1.trans z);have b:atKey (q::qs) k=atKey qs k:=by simp[atKey,rG,e']
   have a:Vo (p::ps) k=Vo ps k:=by simp[Vo,rG,e]
   rw[a,b];exact ih
theorem PN.put {ks:List (NK×Addr×V)} {xs:List (NK×Addr×Value)} (r:PN ks xs) (k:NK) {b:Addr} {y:V} {u:Value} (ry:yn y u):PN (zdX ks k b y) (storedH xs k b u):=by
 have e:(Vo ks k).isSome=(atKey xs k).isSome:=by rw[(r.val k).isSome_eq,uq]
 unfold zdX storedH;rw[e];by_cases q:(atKey xs k).isSome=true
 .rw[if_pos q,if_pos q];clear q e
  induction r with
  |nil=>exact .nil
  | @cons p q ps qs h t ih=>
   rw[rC,rC];refine .cons ?_ ih;obtain⟨h1,h2,h3⟩:=h;unfold putAt;by_cases e:p.1=k
   .rw[if_pos e,if_pos (h1.symm.trans e)];exact⟨h1,h2,ry⟩
   .rw[if_neg e,if_neg (λz=>e (h1.trans z))];exact⟨h1,h2,h3⟩
 .rw[if_neg q,if_neg q];exact Paired.snoc r ⟨rfl,rfl,ry⟩
theorem PN.all {P:NK->Addr->Prop} {ks:List (NK×Addr×V)} {xs:List (NK×Addr×Value)} (r:PN ks xs) (h:∀p∈ks,P p.1 p.2.1):∀x∈xs,P x.1 x.2.1:=by
 induction r with
 |nil=>intro x hx;cases hx
 | @cons p q ps qs h' t ih=>
  intro x hx;rcases rQ.1 hx with rfl|hx
  .obtain⟨e1,e2,_⟩:=h';rw[<-e1,<-e2];exact h p (by simp)
  .exact ih (λp hp=>h p (by simp[hp])) x hx
section
variable {X:Cx} {pins:List (Addr×Obj)} {σ:St} {H:Hp} {s:Shared} {a:Addr}
theorem zmU {ks:List (NK×Addr×V)} (I:Inv X pins σ H s) (e:H a=some (.dN ks)) (hk:zjU X.K H ks):ks.length<=sizeLine/\(a==sysModules)=false/\∃xs,PN ks xs/\s.heap.DictOfH (zaD X.prog X.w) a xs:=by
 obtain⟨z,y,xs,r,o,es,ep,h1,h2,h3,h4,h5⟩:=(show xE X.prog X.w H s.heap a (.dN ks) from I.hok a _ e);refine⟨z,y,xs,r,o,es,ep,h1,h2,h3,h4,?_,h5⟩;exact PN.all r (P:=λk b=>(zaD X.prog X.w).is s.heap k b) λp hp=>⟨(hk p hp).1.isNK I rfl,(hk p hp).2⟩
theorem zjV (I:Inv X pins σ H s) (e:H a=some (.dK [])):(a==sysModules)=false/\s.heap.DictOfH (zaD X.prog X.w) a []:=by
 obtain⟨z,y,vs,r,o,es,ep,h1,h2,h3,h4,h5,_⟩:=zmK I.hok e;cases r;refine⟨y,o,es,ep,h1,h2,h3,?_,by simp,by simp⟩;have:es.toList=[]:=by
  have:=h5.length;simpa using this
 rw[this];rfl
end
def zda (K:qP) (H:Hp) (a:Addr) (y:V) (r:Option V):Prop:=
 zah H a y r\/∃k b,y= .ref b/\NIs K H y k/\ZC k<=8/\((∃ks,H a=some (.dN ks)/\zjU K H ks/\r=Vo ks k)\/(H a=some (.dK [])/\r=none))
def zjW (K:qP) (H:Hp) (a:Addr) (y v:V) (H':Hp):Prop:=
 zfZ H a y v H'\/∃k b,y= .ref b/\NIs K H y k/\ZC k<=8/\((∃ks,H a=some (.dN ks)/\zjU K H ks/\ks.length<sizeLine/\H'=upd H a (.dN (zdX ks k b v)))\/(H a=some (.dK [])/\H'=upd H a (.dN [(k,b,v)])))
section
variable {X:Cx} {pins:List (Addr×Obj)} {σ:St} {H:Hp} {s:Shared} {a:Addr} {y v d:V} {u r:Value} {o:Option V} {A:Around} {E:Value->Shared->Prop}
theorem dgN {k:NK} (I:Inv X pins σ H s) (h:(∃ks,H a=some (.dN ks)/\zjU X.K H ks/\o=Vo ks k)\/(H a=some (.dK [])/\o=none)):(a==sysModules)=false/\∃xs,s.heap.DictOfH (zaD X.prog X.w) a xs/\Wu o ((atKey xs k).map (·.2)):=by
 rcases h with⟨ks,e,hk,rfl⟩|⟨e,rfl⟩
 .obtain⟨_,hd,xs,rel,dd⟩:=zmU I e hk;exact⟨hd,xs,dd,rel.val k⟩
 .obtain⟨hd,dd⟩:=zjV I e;exact⟨hd,[],dd,sL⟩
theorem zgk {Q:Value->Shared->Prop} (hu:A.units+9<cLine) (I:Inv X pins σ H s) (g:zda X.K H a y (some v)) (ry:yn y u) (h:∀w' s',Inv X pins σ H s'->yn v w'->Q w' s'):wpAny (model X.prog X.w) A (getItem (.ref a) u) Q E s:=by
 rcases g with g|⟨k,b,rfl,hk,hd,g⟩
 .exact zcY ⋯ I g ry h
 .cases (show u=Value.ref b from ry);obtain⟨_,xs,dd,rel⟩:=dgN I g;obtain⟨w',hw,rw'⟩:=Wu.some_of rel;obtain⟨p,hp,kQ⟩:=rg.mp hw;refine wpAny_getItem_heap (knd:=zaD X.prog X.w) (by show A.units+1+8<cLine;omega) ⟨hk.isNK I rfl,hd⟩ dd hp ?_;rw[kQ];exact h w' _ (I.tok _) rw'
theorem zjX {Q:Value->Shared->Prop} (hu:A.units+9<cLine) (I:Inv X pins σ H s) (g:zda X.K H a y o) (ry:yn y u) (h:∀s',Inv X pins σ H s'->Q (.bool (!o.isSome)) s'):wpAny (model X.prog X.w) A (compareOp .NotIn u (.ref a)) Q E s:=by
 rcases g with g|⟨k,b,rfl,hk,hd,g⟩
 .exact zg1 ⋯ I g ry h
 .cases (show u=Value.ref b from ry);obtain⟨hs,xs,dd,rel⟩:=dgN I g;refine wpAny_notIn_heap (knd:=zaD X.prog X.w) (by show A.units+1+8<cLine;omega) ⟨hk.isNK I rfl,hd⟩ hs dd ?_;have q:=rel.isSome_eq;rw[uq] at q;rw[<-q];exact h _ (I.tok _)
theorem zgl {H':Hp} {Q:Unit->Shared->Prop} (hu:A.units+9<cLine) (I:Inv X pins σ H s) (g:zjW X.K H a y v H') (ry:yn y u) (rv:yn v r) (h:∀s',Inv X pins σ H' s'->Q () s'):
  wpAny (model X.prog X.w) A (setItem (.ref a) u r) Q E s:=by
 rcases g with g|⟨k,b,rfl,hk,hd,⟨ks,e,cM,hl,rfl⟩|⟨e,rfl⟩⟩
 .exact zcZ ⋯ I g ry rv h
 .cases (show u=Value.ref b from ry);obtain⟨z,hs,xs,rel,dd⟩:=zmU I e cM;have hz:xs.length<=sizeLine:=by rw[<-Paired.length rel];exact z
  have fm:(zdX ks k b v).length<=sizeLine:=by have:=ze2 ks k b v;omega
  refine wpAny_setItem_heap (knd:=zaD X.prog X.w) (hsz:=hz) (by show A.units+1+8<cLine;omega) ⟨hk.isNK I rfl,hd⟩ dd λh' dd' iO=>h _ ?_;obtain⟨q,es,ep,hq,h2,h3,h4,_,h5⟩:=dd';exact zaX I (by rw[e];exact sL) iO ⟨q,hq⟩ ⟨fm,hs,_,rel.put k rv,q,es,ep,hq,h2,h3,h4,h5⟩
 .cases (show u=Value.ref b from ry);obtain⟨hs,dd⟩:=zjV I e;refine wpAny_setItem_heap (knd:=zaD X.prog X.w) (hsz:=tI _) (by show A.units+1+8<cLine;omega) ⟨hk.isNK I rfl,hd⟩ dd λh' dd' iO=>h _ ?_;obtain⟨q,es,ep,hq,h2,h3,h4,_,h5⟩:=dd';refine zaX I (by rw[e];exact sL) iO ⟨q,hq⟩ ⟨by simp;decide,hs,_,?_,q,es,ep,hq,h2,h3,h4,h5⟩;exact .cons ⟨rfl,rfl,rv⟩ .nil
theorem zdY (I:Inv X pins σ H s) (g:zda X.K H a y o):s.TypeIs (.ref a) "dict":=by
 rcases g with g|⟨k,b,rfl,hk,hd,g⟩
 .exact zaz I g
 .obtain⟨_,xs,dd,_⟩:=dgN I g;exact dd.typeIs
end
def zjY (K:qP) (td ty:TE):TE:=λσ H Q=>td σ H λx H1=>ty σ H1 λy H2=>∃a v,x= .ref a/\zda K H2 a y (some v)/\Q v H2
def zmV (K:qP) (neg:Bool) (ty td:TE):TE:=λσ H Q=>ty σ H λy H1=>td σ H1 λx H2=>∃a o,x= .ref a/\zda K H2 a y o/\Q (.bl (neg !=o.isSome)) H2
def zjZ (K:qP) (td ty tv:TE):TS:=λD σ H=>tv σ H λv H1=>td σ H1 λx H2=>ty σ H2 λy H3=>∃a H4,x= .ref a/\zjW K H3 a y v H4/\D.nx σ H4
section
variable {X:Cx} {o i e f value:Expr} {pos pos' iz apos bY:Pos} {td ty tv tx:TE} {K:qP} {r:Nat}
theorem zj0 (hr:wG r X.A):X.A.units+9<cLine:=by have:=hr.un;omega
theorem ze3 (hr:wG r X.A) (ho:PE X o td) (hi:PE X i ty) (hs:zny i) (hK:X.K=K:=by rfl):PE X (.Subscript o i pos) (zjY K td ty):=by
 subst hK;intro pins s σ H Q I h;refine zg2 x3.lookup hs (thn (ho pins s σ H _ I h) ?_);rintro u s1 ⟨x,H1,I1,rx,q1⟩;refine thn (hi pins s1 σ H1 _ I1 q1) ?_;rintro iv s2 ⟨y,H2,I2,ry,a,v,ex,g,q2⟩;subst ex;obtain rfl:u=Value.ref a:=rx;exact⟨zdY I2 g,zgk (zj0 hr) I2 g ry λw' s3 I3 rw'=>⟨v,H2,I3,rw',q2⟩⟩
theorem zbO (hr:wG r X.A) (hi:PE X i ty) (ho:PE X o td) (hK:X.K=K:=by rfl):PC X .NotIn i o (zmV K true ty td):=by
 subst hK;intro pins s σ H Q I h;refine thn (hi pins s σ H _ I h) ?_;rintro iv s1 ⟨y,H1,I1,ry,q1⟩;refine thn (ho pins s1 σ H1 _ I1 q1) ?_;rintro u s2 ⟨x,H2,I2,rx,a,ov,ex,g,q2⟩;subst ex;obtain rfl:u=Value.ref a:=rx;exact zjX (zj0 hr) I2 g ry λs3 I3=>⟨.bl (true !=ov.isSome),H2,I3,by cases ov.isSome<;>rfl,q2⟩
theorem ze4 (hr:wG r X.A) (ho:PE X o td) (hi:PE X i ty) (hv:PE X value tv) (hs:swapsWith value (some (.Subscript o i pos')) pos.line X.env=pure false) (hK:X.K=K:=by rfl):
  PS X (.Assign [.Subscript o i pos'] value pos) (zjZ K td ty tv):=by
 subst hK;intro pins s σ H D I h;refine wpAny_Assign_Subscript (thn (hv pins s σ H _ I h) ?_) hs;rintro r s1 ⟨v,H1,I1,rv,q1⟩;refine thn (ho pins s1 σ H1 _ I1 q1) ?_;rintro u s2 ⟨x,H2,I2,rx,q2⟩;refine thn (hi pins s2 σ H2 _ I2 q2) ?_;rintro iv s3 ⟨y,H3,I3,ry,a,H4,ex,g,q3⟩;subst ex;obtain rfl:u=Value.ref a:=rx;exact zgl (zj0 hr) I3 g ry rv λs4 I4=>⟨σ,H4,I4,q3⟩
end
end L2
namespace L2
open PySem PySem.Spec PyProof.Rows PySem.Calls PySem.W
section
variable {prog:Program} {w:World} {A:Around} {E:Value->Shared->Prop} {s:Shared} {d it:Addr} {es:Array DictEntry} {ep i:Nat}
end
noncomputable def ltL:List Int->List Int->Bool
 |[],[]=>false
 |[],_::_=>true
 |_::_,[]=>false
 |a::x,b::y=>if a=b then ltL x y else decide (a<b)
section
variable {prog:Program} {w:World} {A:Around} {E:Value->Shared->Prop} {s:Shared}
end
section
variable {prog:Program} {w:World} {A:Around} {E:Value->Shared->Prop} {s:Shared} {T:String} {r d:Addr} {n:Nat} {P:Nat->Value->Prop} {OK:Heap->Prop} {Q:Value->Shared->Prop}
end
section
variable {X:Cx}
end
end L2
namespace L2
open PySem PySem.Spec PyProof.Rows PySem.Calls
open AutoSeq1 (wpAny_loadPart')
section
variable {prog:Program} {w:World} {A:Around} {E:Value->Shared->Prop} {s:Shared} {it t:Addr} {ak:Array Value}
end
section
variable {X:Cx}
end
end L2
namespace L2
open PySem PySem.Spec PyProof.Rows
section
variable {X:Cx}
def zmW (ta:TA):TI:=λσ H R=>ta σ H λvs H1=>∃i j c:Int,vs=[.int i,.int j,.int c]/\(c≠0/\c.natAbs<1000000)/\Builtin.Range.small i j c=true/\R (znA i c (Builtin.Range.rangeSize i j c).toNat) H1
theorem zif {tg a b c:Expr} {ta:TA} {p pos:Pos} (hg:Gl X "range") (hm:X.mg "range"=none) (ha:PA X [a,b,c] ta) (hs:starEach [a,b,c] X.env=(false,eval a X.env)::starEach [b,c] X.env:=by rfl)
  (iN:(backTo pos (starEach [b,c] X.env)).any (·.1)=false:=by rfl):
  PI X tg (.Call (.Name "range" p) [a,b,c] [] pos) (zmW ta):=by
 intro pins s σ H R I h;refine Call_ (Ux I hg hm boot_range (sP (thn (ha pos pins s σ H _ I h) ?_) hs iN));rintro us s1 ⟨vs,H1,I1,r1,q1⟩;obtain⟨i,j,c,e,⟨c0,c1⟩,sm,q⟩:=q1;subst e;cases r1 with
 |cons r rr=>
  cases rr with
  |cons r' rr=>
   cases rr with
   |cons r'' rr=>
    cases rr;obtain⟨t,rfl⟩:=r;obtain⟨t',rfl⟩:=r';obtain⟨t'',rfl⟩:=r'';refine call_range_3 c0 ?_ (.inl (z9 ⋯));refine wpAny_pyIter_range (IsRange.new ..) sm ?_;have I2:Inv X pins σ H1 {s1 with heap:=s1.heap.push {cls:= .type "range",data:= .fields #[.int i t,.int j t',.int c t'']},toks:=s1.toks}:=I1.kept λb o e=>Heap.get?_push_of_some _ e
    refine⟨(s1.heap.push {cls:= .type "range",data:= .fields #[.int i t,.int j t',.int c t'']}).objs.size,[(s1.heap.push {cls:= .type "range",data:= .fields #[.int i t,.int j t',.int c t'']}).objs.size],_,_,H1,rfl,
     I2.kept (t':=s1.toks) λb o e=>Heap.get?_push_of_some _ e,zeN _ i c (Builtin.Range.rangeSize i j c).toNat,?_,λb hb=> ?_,q⟩
    .have e1:i+((0:Nat):Int)*c=i:=by simp
     have nn:0<=Builtin.Range.rangeSize i j c:=by
      unfold Builtin.Range.rangeSize;split
      .split
       .have:=AQ (a:=j-i-1) (b:=c) ⋯ ⋯;omega
       .omega
      .split
       .have:=AQ (a:=i-j-1) (b:= -c) ⋯ ⋯;omega
       .omega
     have e2:(((Builtin.Range.rangeSize i j c).toNat:Nat):Int)-((0:Nat):Int)=Builtin.Range.rangeSize i j c:=by omega
     show IsRangeIter _ _ (i+((0:Nat):Int)*c) ((((Builtin.Range.rangeSize i j c).toNat:Nat):Int)-((0:Nat):Int)) c;rw[e1,e2];exact Heap.get?_push_size _ rfl
    .have e:b=(s1.heap.push {cls:= .type "range",data:= .fields #[.int i t,.int j t',.int c t'']}).objs.size:=by simpa using hb
     subst e;exact I2.fpOk (qT _) (I2.hok.fresh (qT _))
end
end L2
namespace L2
open PySem PySem.Spec PyProof.Rows PySem.Calls PySem.W
section
variable {cmp:Nat->Nat->(Bool->Shared->Prop)->Shared->Prop} {r:Nat->Int} {n:Nat} {s:Shared}
end
section
variable {prog:Program} {w:World} {A:Around} {E:Value->Shared->Prop} {κ:SortKind} {it:Array Keyed} {s:Shared}
end
section
variable {X:Cx} {pins:List (Addr×Obj)} {σ:St} {H:Hp} {s:Shared} {h':Heap}
end
def zpg (is:List (List Int)):Prop:=(2<=is.length->∀l∈is,l≠[])/\∀i j,i<j->j<is.length->ltL (is.getD j []) (is.getD i [])=true
section
variable {X:Cx} {k:Nat} {f:Addr} {fd:FuncData} {ps:List Str} {sp:Sp} {pins:List (Addr×Obj)} {σ:St} {H:Hp} {s:Shared}
end
section
variable {X:Cx}
end
end L2
namespace L2
open PySem PySem.Spec PyProof.Rows
namespace Sm
noncomputable def inB (b j:Nat):Bool:=b.testBit j
noncomputable def plL (b:Nat):List Nat:=(sC 8).filter (inB b)
noncomputable def pl (b:Nat):Array Nat:=(plL b).toArray
noncomputable def st (h:Int):Nat->Nat×Nat
 |0=>(SetTable.bits h % 8,SetTable.bits h)
 |n+1=>SetTable.leap 7 (st h n).1 (st h n).2
noncomputable def pos (h:Int) (n:Nat):Nat:=(st h n).1
noncomputable def mkP (s:Nat×Nat):SetTable.Probe:={j:=s.1,more:=0,i:=s.1,perturb:=s.2,dummy:=none}
structure Tb (t:SetTable) (b:Nat):Prop where
 mask:t.mask=7
 place:t.place=pl b
 qL:t.dummies= #[]
noncomputable def ix (b j:Nat):Nat:=((sC j).filter (inB b)).length
inductive zmX (f:Nat->Int) (b:Nat) (x:Int) (n:Nat):SetTable.Met->Prop
 |empty (m:Nat):n<=m->inB b (pos x m)=false->(∀k,n<=k->k<m->inB b (pos x k)=true/\f (pos x k)≠x)->zmX f b x n (.empty (pos x m) none)
 |pV (m:Nat):n<=m->inB b (pos x m)=true->f (pos x m)=x->(∀k,n<=k->k<m->inB b (pos x k)=true/\f (pos x k)≠x)->zmX f b x n (.candidate (pos x m) (ix b (pos x m)) (mkP (st x (m+1))))
def zph (b:Nat) (f:Nat->Int):Prop:=∀j<8,inB b j=true->∃n,pos (f j) n=j/\∀m,m<n->inB b (pos (f j) m)=true
end Sm
end L2
namespace L2
open PySem PySem.Spec PyProof.Rows PySem.Calls PySem.W
section
variable {prog:Program} {w:World} {E:Value->Shared->Prop}
structure zpV (w:World) (h:Heap) (a:Addr) (b:Nat) (f:Nat->Int×Value) (kf:Nat->NK) (o:Obj) (ep:Nat) (t:SetTable):Prop where
 get:h.get? a=some o
 ex:o.ExactSet
 data:o.data= .set ((Sm.pl b).map f) ep t
 tb:Sm.Tb t b
 plain:t.plain=true
 lt:b<256
 few:(Sm.plL b).length<=4
 chain:Sm.zph b λj=>(f j).1
 keys:∀j<8,Sm.inB b j=true->(f j).1=Ve w (kf j)/\(∃c,(f j).2= .ref c/\Yj h (kf j) (.ref c))/\ZC (kf j)<=8
 inj:∀i<8,∀j<8,Sm.inB b i=true->Sm.inB b j=true->kf i=kf j->i=j
variable {a:Addr} {b:Nat} {f:Nat->Int×Value} {kf:Nat->NK} {o:Obj} {ep:Nat} {t:SetTable} {A:Around} {s:Shared}
end
section
variable {h h':Heap}
end
section
variable {prog:Program} {w:World} {E:Value->Shared->Prop}
variable {a:Addr} {b:Nat} {f:Nat->Int×Value} {kf:Nat->NK} {o:Obj} {ep:Nat} {t:SetTable} {A:Around} {s:Shared}
end
section
variable {h h':Heap}
end
section
variable {prog:Program} {w:World}
variable {A:Around} {R:Result->Shared->Prop} {I:Addr} {fp wr:List Addr} {G:Array GenState->Array GenState->Prop} {n:Nat} {P:Nat->Value->Prop} {St:Nat->Shared->Prop}
end
section
variable {prog:Program} {w:World} {A:Around} {E:Value->Shared->Prop} {s:Shared}
end
end L2
set_option maxHeartbeats 3200000
namespace L2
open PySem PySem.Spec PyProof.Rows PySem.Calls PySem.W
section
variable {prog:Program} {w:World} {A:Around} {E:Value->Shared->Prop} {s:Shared}
end
structure zpW (h:Heap) (a:Addr) (b:Nat) (f:Nat->Int×Value) (o:Obj) (ep:Nat) (t:SetTable):Prop where
 get:h.get? a=some o
 ex:o.ExactSet
 data:o.data= .set ((Sm.pl b).map f) ep t
 tb:Sm.Tb t b
 plain:t.plain=true
 lt:b<256
 few:(Sm.plL b).length<=4
section
variable {prog:Program} {w:World} {A:Around} {E:Value->Shared->Prop} {s:Shared} {d it:Addr}
variable {b:Nat} {f:Nat->Int×Value} {o:Obj} {ep:Nat} {t:SetTable}
variable {b:Nat} {f:Nat->Int×Value} {o:Obj} {ep:Nat} {t:SetTable} {i:Nat}
end
mutual
noncomputable def cp:NK->NK->Bool
 | .int _,.int _=>true
 | .tup x,.tup y=>cpL x y
 |_,_=>false
noncomputable def cpL:List NK->List NK->Bool
 |a::x,b::y=>cp a b&&cpL x y
 |_,_=>true
end
section
open PySem.SeqAt
open PySem.AutoSeq1 (wpAny_loadPart')
open PySem.MeetsSeq PySem.MeetsSeq2 PySem.MeetsSeq3
variable {prog:Program} {w:World} {E:Value->Shared->Prop}
end
section
variable {prog:Program} {w:World} {A:Around} {E:Value->Shared->Prop} {s:Shared}
def znY (b:Bool):NK->Prop
 | .tup (.tup _::_)=>b=false
 | .tup (.int _::_)=>b=true
 |_=>False
end
structure KOk (b:Bool) (ks:List NK):Prop where
 cmp:∀x∈ks,∀y∈ks,cp x y=true
 qM:∀k∈ks,ZC k<=8
 fst:∀k∈ks,znY b k
section
variable {X:Cx}
end
section
variable {prog:Program} {w:World} {A:Around} {E:Value->Shared->Prop} {s:Shared}
end
section
variable {X:Cx}
end
theorem zhe:∀{v v':V} {u:Value},yn v u->yn v' u->v=v':=by
 intro v v' u h h';cases v<;>cases v'<;>simp only[yn] at h h'<;>first
  |rfl
  |(subst h;cases h';rfl)
  |(obtain⟨t,rfl⟩:=h;obtain⟨t',e⟩:=h';cases e;rfl)
  |(subst h;obtain⟨t',e⟩:=h';cases e;done)
  |(obtain⟨t,rfl⟩:=h;obtain⟨t',e⟩:=h';cases e;done)
  |(obtain⟨t,rfl⟩:=h;cases h';done)
  |(subst h;cases h';done)
theorem zdZ:∀{vs vs':List V} {us:List Value},yr vs us->yr vs' us->vs=vs'
 |_,_,_,.nil,.nil=>rfl
 |_,_,_,.cons a r,.cons b s=>by rw[zhe a b,zdZ r s]
section
variable {X:Cx} {pins:List (Addr×Obj)} {σ:St} {H:Hp} {s:Shared}
theorem znZ (I:Inv X pins σ H s) {a:Addr} {xs ys:List V} (h:SqT X.K H a xs) (g:SqT X.K H a ys):xs=ys:=by
 obtain⟨ak,r1,⟨o,p1,p2,n,p3⟩,_⟩:=I.tuple h;obtain⟨its',r2,⟨o',q1,q2,n',q3⟩,_⟩:=I.tuple g;rw[p1] at q1;cases q1;rw[p3] at q3;injection q3 with q3 _
 have:ak=its':=by simpa using congrArg y3 q3
 subst this;exact zdZ r1 r2
theorem zn0 (I:Inv X pins σ H s) {a:Addr} {xs ys:List V} (h:SqL X.K H a xs) (g:SqL X.K H a ys):xs=ys:=by
 obtain⟨ak,r1,⟨o,n,p1,_,_,p3⟩,_⟩:=I.list h;obtain⟨its',r2,⟨o',n',q1,_,_,q3⟩,_⟩:=I.list g;rw[p1] at q1;cases q1;rw[p3] at q3;injection q3 with q3 _
 have:ak=its':=by simpa using congrArg y3 q3
 subst this;exact zdZ r1 r2
theorem zhf {f:D->D->Option Bool} {K:qP} (hf:∀{v:V} {d d' e:D} {b b':Bool},f d e=some b->f d' e=some b'->Is K H v d->Is K H v d'->b=b'):∀{xs:List V} {l l' m:List D} {b b':Bool},Yi f l m=some b->Yi f l' m=some b'->IsL K H xs l->IsL K H xs l'->b=b':=by
 intro xs
 induction xs with
 |nil=>
  intro l l' m b b' h h' i i';cases i;cases i';rw[h] at h';exact rp h'
 |cons v xs ih=>
  intro l l' m b b' h h' i i';cases i with
  | @cons _ d _ l a i=>
   cases i' with
   | @cons _ d' _ l' a' i'=>
    cases m with
    |nil=>unfold Yi at h h';cases h;cases h';rfl
    |cons e m=>
     unfold Yi at h h';obtain⟨x,h1,h2⟩:=rB.1 h;obtain⟨x',iy,hW⟩:=rB.1 h';obtain⟨y,h3,rfl⟩:=rg.1 h2;obtain⟨y',jh,rfl⟩:=rg.1 hW;rw[hf h1 iy a a',ih h3 jh i i']
theorem zn1 (I:Inv X pins σ H s):∀(n:Nat) {v:V} {d d' e:D} {b b':Bool},eqG n d e=some b->eqG n d' e=some b'->Is X.K H v d->Is X.K H v d'->b=b':=by
 intro n;have flat:∀{n:Nat} {v:V} {d d' e:D} {b b':Bool},d=d'->eqG n d e=some b->eqG n d' e=some b'->b=b':=λ{n v d d' e b b'} q h h'=>by
  subst q;rw[h] at h';exact rp h'
 induction n with
 |zero=>
  intro v d d' e b b' h h' i i';cases i<;>cases i'<;>first
   |exact flat (v:= .non) rfl h h'
   |(cases e<;>simp[eqG] at h)
   |(cases e<;>simp[eqG] at h')
 |succ n ih=>
  intro v d d' e b b' h h' i i';cases i<;>cases i'<;>first
   |exact flat (v:= .non) rfl h h'
   |(cases e<;>simp[eqG] at h h';done)
   |skip
  .rename_i a xs l hs hl ys l' gl gs;have:=znZ I hs gs;subst this;cases e<;>simp only[eqG,reduceCtorEq] at h h'
   obtain⟨x,h1,rfl⟩:=rg.1 h;obtain⟨x',iy,rfl⟩:=rg.1 h';rw[zhf (f:=eqG n) (λa b c d=>ih a b c d) h1 iy hl gl,show l.length=l'.length by have:=hl.len;have:=gl.len;omega]
  .rename_i a xs l hs hl ys l' gl gs;have:=zn0 I hs gs;subst this;have gT:l.length=l'.length:=by have:=hl.len;have:=gl.len;omega
   cases e<;>simp only[eqG,reduceCtorEq] at h h'
   rw[gT] at h;split at h
   .rename_i hq;rw[if_pos hq] at h';exact zhf (f:=eqG n) (λa b c d=>ih a b c d) h h' hl gl
   .rename_i hq;rw[if_neg hq] at h';cases h;cases h';rfl
end
section
variable {X:Cx}
theorem zj1 {K:qP} {H:Hp}:∀{xs:List V} {ds:List D},IsL K H xs ds->∀{i:Nat} {v:V},xs[i]? =some v->∃d,ds[i]? =some d/\Is K H v d
 |_,_,.nil,_,_,e=>by simp at e
 |_,_,.cons h _,0,_,e=>by simp at e;subst e;exact⟨_,rfl,h⟩
 |_,_,.cons _ l,i+1,_,e=>by
  obtain⟨d,e1,e2⟩:=zj1 l (i:=i) (by simpa using e);exact⟨d,by simpa using e1,e2⟩
def zhg (X:Cx) (H:Hp) (d:D) (u:Value) (b:Bool):Prop:=∃v e,yn v u/\Is X.K H v e/\eqG 39 e d=some b
open Classical in
noncomputable def UE (X:Cx) (H:Hp) (d:D) (u:Value):Bool:=decide (zhg X H d u true)
open Classical in
theorem zdb {pins:List (Addr×Obj)} {σ:St} {H:Hp} {s:Shared} {d:D} {u:Value} {b:Bool} (I:Inv X pins σ H s) (h:zhg X H d u b):UE X H d u=b:=by
 unfold UE;obtain⟨v,e,h1,h2,h3⟩:=id h;cases b with
 |true=>exact decide_eq_true h
 |false=>
  refine decide_eq_false ?_;rintro⟨v',e',g1,g2,g3⟩;rw[zhe h1 g1] at h2;exact absurd (zn1 I 39 h3 g3 h2 g2) ∅
theorem ze5 {pins:List (Addr×Obj)} {σ:St} {H:Hp} {s:Shared} {xs:List V} {ds:List D} {bs:List Bool} {d:D} {ak:List Value} (I:Inv X pins σ H s) (r:yr xs ak) (hi:IsL X.K H xs ds) (hl:bs.length=ds.length) (he:∀(i:Nat) e b,ds[i]? =some e->bs[i]? =some b->eqG 39 e d=some b):
  ak.map (UE X H d)=bs/\∀u∈ak,zhg X H d u (UE X H d u):=by
 have qi:=hi.len;have eI:=r.length;have key:∀(i:Nat) u,ak[i]? =some u->∃b,bs[i]? =some b/\zhg X H d u b:=λi u e=>by
  have di:i<xs.length:=by rw[eI];exact (qO.1 e).1
  obtain⟨u',e1,e2⟩:=r.get (qN di);rw[e] at e1;cases e1;obtain⟨dd,e3,e4⟩:=zj1 hi (qN di);have hb:i<bs.length:=by omega
  exact⟨bs[i],qN hb,_,dd,e2,e4,he i dd _ e3 (qN hb)⟩
 refine⟨tQ λi=> ?_,λu hu=> ?_⟩
 .rw[qY];cases e:ak[i]? with
  |none=>rw[r6 (by have:=List.getElem?_eq_none_iff.1 e;omega)];rfl
  |some u=>
   obtain⟨b,h1,h2⟩:=key i u e;rw[h1];show some (UE X H d u)=_;rw[zdb I h2]
 .obtain⟨i,e⟩:=rL hu;obtain⟨b,h1,h2⟩:=key i u e;rw[zdb I h2];exact h2
end
section
variable {prog:Program} {w:World} {A:Around} {E:Value->Shared->Prop} {s:Shared}
end
section
variable {X:Cx} {pins:List (Addr×Obj)} {σ:St} {H H':Hp} {s:Shared} {h':Heap}
end
section
variable {X:Cx}
inductive zgm (H:Hp):List Addr->List (Int×V)->Prop
 |nil:zgm H [] []
 |cons {p:Addr} {x:Int×V} {ps:List Addr} {xs:List (Int×V)}:H p=some (.tup [.int x.1,x.2])->zgm H ps xs->zgm H (p::ps) (x::xs)
def zhh (K:qP):V->List V->Hp->VK->Prop:=λx vs H Q=>∃(l:Addr) (xs:List V) (y:V) (ds:List D) (d:D) (bs:List Bool) (j:Nat),x= .ref l/\vs=[y]/\H l=some (.lst xs)/\IsL K H xs ds/\Is K H y d/\bs.length=ds.length/\(∀(i:Nat) e b,ds[i]? =some e->bs[i]? =some b->eqG 39 e d=some b)/\bs[j]? =some true/\(∀m,m<j->bs[m]? =some false)/\Q (.int (j:Int)) H
theorem zdc {m:Nat} {K:qP} (hr:wG m X.A) (hK:X.K=K:=by rfl):MtM X "list.index" (zhh K):=by
 subst hK;intro pins s σ H x vs v us Q I rx rv h;obtain⟨l,xs,y,ds,d,bs,j,rfl,rfl,hH,hi,hy,hl,he,hj,iS,q⟩:=h;have hu:X.A.units+41<cLine:=rX ⋯ hr.units;cases rx;obtain⟨u,rfl,ru⟩:=rv.one;obtain⟨zl,ak,n,r,gT,e⟩:=I.lstM hH;obtain⟨e1,e2⟩:=ze5 I r hi hl he;have hn:=Uy;have fR:bs.length=ak.length:=by rw[<-e1,qV]
 have gq:j<ak.length:=by rw[<-fR];exact (qO.1 hj).1
 have at_:∀(m:Nat) (hm:m<ak.length),bs[m]? =some (UE X H d ak[m]):=λm hm=>by rw[<-e1,qY,qN hm];rfl
 refine call_meets F.slot_list_index ⟨_,e,rfl⟩ F.entry_list_index (F.args_list_index_2 _ _) (SeqAt.list_indexAt l ak.toArray n none #[] u (UE X H d) j (by rw[qZ];omega) ⋯ ?_ ?_) ⟨e,λc hc=> ?_,?_⟩
 .have:=at_ j gq;rw[hj] at this;simpa using (rp this).symm
 .intro m hm di;have bX:m<ak.length:=by rw[qZ] at hm;exact hm
  have:=at_ m bX;rw[iS m di] at this;simpa using (rp this).symm
 .obtain⟨v',e',g1,g2,g3⟩:=e2 c (by simpa using hc);exact zbN I 39 (A:=X.A.in1) g3 (by show X.A.units+1+39<cLine;omega) g2 hy g1 ru
 .exact⟨.int j,H,I.tok _,⟨_,rfl⟩,q⟩
end
open PySem.AutoSeq1 (wpAny_loadPart')
open PySem.MeetsSeq PySem.MeetsSeq2 PySem.MeetsSeq3
section
variable {prog:Program} {w:World} {E:Value->Shared->Prop}
end
section
variable {X:Cx}
end
end L2
namespace L2
open PySem PySem.Spec PyProof.Rows PySem.Calls
section
variable {X:Cx} {tg:Expr}
end
section
variable {prog:Program} {w:World} {A:Around} {I:Addr} {fp wr:List Addr} {G:Array GenState->Array GenState->Prop} {n:Nat} {P:Nat->Value->Prop} {St:Nat->Shared->Prop} {R:Result->Shared->Prop}
noncomputable abbrev zp1 (xs:Array Value) (c:Nat):Obj:={cls:= .type "list",dict:=none,data:= .seq xs c,slots:= #[]}
noncomputable abbrev zp2 (I S:Addr) (d:Value):Code:= .builtin "max.loop" ⟨[.ref I,.none,.ref S],[("default",d)]⟩
variable {E:Value->Shared->Prop} {s:Shared}
end
section
variable {X:Cx}
end
section
variable {prog:Program} {w:World} {A:Around} {E:Value->Shared->Prop} {s:Shared}
end
section
variable {X:Cx}
end
section
variable {prog:Program} {w:World} {A:Around} {E:Value->Shared->Prop} {h:Heap} {g:Array GenState} {d:Drawn} {t:Nat} {os:OsState} {a:Addr}
end
section
variable {prog:Program} {w:World} {A:Around} {I:Addr} {fp wr:List Addr} {G:Array GenState->Array GenState->Prop} {n:Nat} {P:Nat->Value->Prop} {St:Nat->Shared->Prop} {R:Result->Shared->Prop} {KK:Type} [DecidableEq KK] {knd:KeyKind prog w KK}
variable {E:Value->Shared->Prop} {s:Shared}
end
section
variable {X:Cx}
end
section
variable {prog:Program} {w:World} {A:Around} {I:Addr} {fp wr:List Addr} {G:Array GenState->Array GenState->Prop} {n:Nat} {P:Nat->Value->Prop} {St:Nat->Shared->Prop} {R:Result->Shared->Prop}
end
section
variable {prog:Program} {w:World} {A:Around} {E:Value->Shared->Prop} {s:Shared}
end
section
variable {X:Cx}
end
section
variable {K:qP} {E:XK}
noncomputable def za2:D->D->Bool
 | .tup _,.tup _=>true
 | .lst _,.lst _=>true
 |_,_=>false
noncomputable def zig (neg:Bool):Op2:=λx y S=>match vD S 40 x,vD S 40 y with
 |some d,some e=>if za2 d e then (eqG 40 d e).map λb=>(.bl (neg !=b),S) else none
 |_,_=>none
theorem zgn {d e:D} (h:za2 d e=true):∃l m,(d= .tup l/\e= .tup m)\/(d= .lst l/\e= .lst m):=by
 unfold za2 at h;split at h
 .exact⟨_,_,.inl ⟨rfl,rfl⟩⟩
 .exact⟨_,_,.inr ⟨rfl,rfl⟩⟩
 .cases h
theorem zj2 {neg:Bool}:YL K (zpe K neg) (zig neg):=by
 intro F j σ H ρ S S' x y z u v Q E1 hx hy h k;unfold zig at h;split at h
 .rename_i d e e1 e2;split at h
  .rename_i hb;cases hg:eqG 40 d e with
   |none=>rw[hg] at h;cases h
   |some b=>
    rw[hg] at h;cases h;exact⟨d,e,b,zgn hb,(Te E1 40 _ _ _ hx e1).1,(Te E1 40 _ _ _ hy e2).1,hg,k _ _ _ Ext.refl E1 (.bl _)⟩
  .cases h
 .cases h
end
section
variable {S:Sto} {x y:Xv} {P:Xv->Sto->Prop} {p q:Int}
theorem zj3 {neg b:Bool} {d e:D} (h1:vD S 40 x=some d) (h2:vD S 40 y=some e) (hs:za2 d e=true) (hb:eqG 40 d e=some b) (k:P (.bl (neg !=b)) S):WO (zig neg x y S) P:= .of (by unfold zig;rw[h1,h2];dsimp only;rw[if_pos hs,hb];rfl) k
theorem zdd {n:Nat}:∀(l m:List Int),l.length=m.length->Yi (eqG n) (l.map D.int) (m.map D.int)=some (decide (l=m))
 |[],[],_=>by simp[Yi]
 |[],_::_,h=>by simp at h
 |_::_,[],h=>by simp at h
 |a::l,b::m,h=>by
  have ih:=zdd (n:=n) l m (by simpa using h);have e:eqG n (.int a) (.int b)=some (a==b):=by cases n<;>rfl
  simp only[rC,Yi,e,r0,ih,sE];by_cases h1:a=b
  .subst h1;simp
  .simp[h1]
end
section
variable {K:qP} {E:XK}
end
noncomputable def UF (y:Xv):Option NK:=match y with
 | .tup l=>(Xl (.tup l)).bind λk=>if ZC k<=8 then some k else none
 | .ct l=>(Xl (.ct l)).bind λk=>if ZC k<=8 then some k else none
 |_=>none
noncomputable def xc (ah:List (NK×Xv×Xv)) (k:NK):Option Xv:=(ah.find? λp=>decide (p.1=k)).map (·.2.2)
noncomputable def Wm (ah:List (NK×Xv×Xv)) (k:NK) (x y:Xv):List (NK×Xv×Xv):=if (xc ah k).isSome=true then ah.map (λp=>if p.1=k then (p.1,p.2.1,y) else p) else ah++[(k,x,y)]
noncomputable def Vg (S:Sto) (x y:Xv):Option (Option Xv):=match x with
 | .ref n=>match S[n]? with
  |some (.dk ah)=>match Tf y with
   |some key=>some (wU ah key)
   |none=>if ah.isEmpty=true/\(UF y).isSome=true then some none else none
  |some (.dn ah)=>(UF y).map (xc ah)
  |_=>none
 |_=>none
noncomputable def Tn (S:Sto) (x y z:Xv):Option Sto:=match x with
 | .ref n=>match S[n]? with
  |some (.dk ah)=>match Tf y with
   |some key=>if ah.length<sizeLine then some (S.set n (.dk (zbJ ah key z))) else none
   |none=>if ah.isEmpty=true then (UF y).map λk=>S.set n (.dn [(k,y,z)]) else none
  |some (.dn ah)=>if ah.length<sizeLine then (UF y).map λk=>S.set n (.dn (Wm ah k y z)) else none
  |_=>none
 |_=>none
section
variable {K:qP} {E:XK} {F:Fm} {j:List Addr} {H:Hp} {σ:St} {ρ:Rho} {S:Sto} {x y z:Xv} {u v w:V}
mutual
theorem Xis.nis:∀{x:Xv} {v:V} {k:NK},Xis K j H x v->Xl x=some k->NIs K H v k
 |_,_,_,.non,e=>by simp[Xl] at e
 |_,_,_,.bl b,e=>by simp[Xl] at e
 |_,_,_,.int i,e=>by simp[Xl] at e;subst e;exact .int i
 |_,_,_,.str i,e=>by simp[Xl] at e;subst e;exact .str i
 |_,_,_,.tup h l,e=>by
  simp only[Xl,rg] at e;obtain⟨m,e1,rfl⟩:=e;exact .tup (SqT.of h) (yu.nis l e1)
 |_,_,_,.ct h l,e=>by
  simp only[Xl,rg] at e;obtain⟨m,e1,rfl⟩:=e;exact .tup (h H) (yu.nis l e1)
 |_,_,_,.ref h,e=>by simp[Xl] at e
 |_,_,_,.lam h l,e=>by simp[Xl] at e
theorem yu.nis:∀{x:List Xv} {v:List V} {k:List NK},yu K j H x v->Xs x=some k->zdW K H v k
 |_,_,_,.nil,e=>by simp[Xs] at e;subst e;exact .nil
 |_,_,_,.cons h l,e=>by
  simp only[Xs,rB,rg] at e;obtain⟨a,e1,b,e2,rfl⟩:=e;exact .cons (Xis.nis h e1) (yu.nis l e2)
end
theorem za3 {k:NK} (h:Xis K j H x v) (e:UF x=some k):∃b,v= .ref b/\NIs K H v k/\ZC k<=8/\Xl x=some k:=by
 cases h with
 |tup h l=>
  simp only[UF,rB] at e;obtain⟨k',e1,e2⟩:=e;split at e2
  .cases e2;exact⟨_,rfl,(Xis.tup h l).nis e1,by assumption,e1⟩
  .cases e2
 |ct h l=>
  simp only[UF,rB] at e;obtain⟨k',e1,e2⟩:=e;split at e2
  .cases e2;exact⟨_,rfl,(Xis.ct h l).nis e1,by assumption,e1⟩
  .cases e2
 |_=>simp[UF] at e
theorem NX.len:∀{ah:List (NK×Xv×Xv)} {ks:List (NK×Addr×V)},NX K j H ah ks->ks.length=ah.length
 |_,_,.nil=>rfl
 |_,_,.cons _ _ _ l=>by simp[l.len]
theorem NX.nis:∀{ah:List (NK×Xv×Xv)} {ks:List (NK×Addr×V)},NX K j H ah ks->zjU K H ks
 |_,_,.nil,p,hp=>by cases hp
 |_,_,.cons e h1 _ l,p,hp=>by
  rcases rQ.1 hp with rfl|hp
  .exact⟨h1.nis e.1,e.2⟩
  .exact l.nis p hp
theorem NX.val {k:NK}:∀{ah:List (NK×Xv×Xv)} {ks:List (NK×Addr×V)},NX K j H ah ks->(∀y,xc ah k=some y->∃w,Vo ks k=some w/\Xis K j H y w)/\(xc ah k=none->Vo ks k=none)
 |_,_,.nil=>⟨λ_ e=>by simp[xc] at e,λ_=>rfl⟩
 |(k1,x1,y1)::r,(_,b1,w1)::rs,.cons ek h1 h l=>by
  obtain⟨i1,i2⟩:=NX.val (k:=k) l;by_cases e:k1=k
  .subst e;refine⟨λy ey=> ?_,λey=> ?_⟩
   .simp[xc] at ey;subst ey;exact⟨w1,by simp[Vo],h⟩
   .simp[xc] at ey
  .have e1:xc ((k1,x1,y1)::r) k=xc r k:=by simp[xc,rG,e]
   have e2:Vo ((k1,b1,w1)::rs) k=Vo rs k:=by simp[Vo,rG,e]
   rw[e1,e2];exact⟨i1,i2⟩
theorem NX.append:∀{ah r:List (NK×Xv×Xv)} {ks rs:List (NK×Addr×V)},NX K j H ah ks->NX K j H r rs->NX K j H (ah++r) (ks++rs)
 |_,_,_,_,.nil,h=>h
 |_,_,_,_,.cons e h1 h l,g=> .cons e h1 h (l.append g)
theorem NX.put {k:NK} {b:Addr} (hk:Xl x=some k/\ZC k<=8) (hx:Xis K j H x (.ref b)) (hy:Xis K j H y v) {ah:List (NK×Xv×Xv)} {ks:List (NK×Addr×V)} (h:NX K j H ah ks):NX K j H (Wm ah k x y) (zdX ks k b v):=by
 have e:(Vo ks k).isSome=(xc ah k).isSome:=by
  cases ev:xc ah k with
  |none=>rw[h.val.2 ev];rfl
  |some z=>obtain⟨w,g,_⟩:=h.val.1 _ ev;rw[g];rfl
 unfold Wm zdX;rw[e];split
 .rename_i hc;clear hc e
  induction h with
  |nil=>exact .nil
  | @cons k1 x1 y1 b1 v1 r rs ek h1 h l ih=>
   rw[rC,rC];by_cases e:k1=k
   .rw[if_pos e,if_pos e];exact .cons ek h1 hy ih
   .rw[if_neg e,if_neg e];exact .cons ek h1 h ih
 .exact h.append (.cons hk hx hy .nil)
theorem En.dn {n:Nat} {ah:List (NK×Xv×Xv)} (E1:En K F j H σ ρ S) (hx:Xis K j H (.ref n) v) (h:S[n]? =some (.dn ah)):∃a ks,v= .ref a/\j[n]? =some a/\H a=some (.dN ks)/\NX K j H ah ks:=by
 obtain⟨a,rfl,hj⟩:=hx.ref_inv;obtain⟨ks,e1,e2⟩:=E1.cel _ _ _ h hj;exact⟨a,ks,rfl,hj,e1,e2⟩
theorem En.dgetN {r:Option Xv} (E1:En K F j H σ ρ S) (hx:Xis K j H x u) (hy:Xis K j H y w) (h:Vg S x y=some r):∃a o,u= .ref a/\zda K H a w o/\o.isSome=r.isSome/\(∀z zd,Xis K j H z zd->Xis K j H (r.getD z) (o.getD zd))/\∀z,r=some z->∃z',o=some z'/\Xis K j H z z':=by
 unfold Vg at h;split at h
 .rename_i n;split at h
  .rename_i ah hs;have hd:Tg S (.ref n)=some (n,ah):=Tj hs;obtain⟨a,ks,rfl,hj,f1,f2⟩:=E1.dk hx hd;split at h
   .rename_i key ek;cases h;obtain⟨o,g1,g2,g3⟩:=Ti (key:=key) f1 f2;refine⟨a,o,rfl,.inl (by rw[Th hy ek];exact g1),g2,g3,λz hz=> ?_⟩;have:=g3 .non .non .non;rw[hz] at this g2;cases o with
    |none=>cases g2
    |some z'=>exact⟨z',rfl,this⟩
   .split at h
    .rename_i hc;cases h;obtain⟨k,hk⟩:=sD.1 hc.2;obtain⟨b,rfl,hn,fZ,_⟩:=za3 hy hk;have:ah=[]:=AB.1 hc.1;subst this;cases f2;exact⟨a,none,rfl,.inr ⟨k,b,rfl,hn,fZ,.inr ⟨f1,rfl⟩⟩,rfl,λz zd hz=>hz,λz hz=>by cases hz⟩
    .cases h
  .rename_i ah hs;obtain⟨a,ks,rfl,hj,f1,f2⟩:=E1.dn hx hs;rw[rg] at h;obtain⟨k,hk,rfl⟩:=h;obtain⟨b,rfl,hn,fZ,_⟩:=za3 hy hk;refine⟨a,Vo ks k,rfl,.inr ⟨k,b,rfl,hn,fZ,.inl ⟨ks,f1,f2.nis,rfl⟩⟩,?_,λz zd hz=> ?_,λz hz=>f2.val.1 z hz⟩
   .cases ev:xc ah k with
    |none=>rw[f2.val.2 ev];rfl
    |some z=>obtain⟨w,g,_⟩:=f2.val.1 _ ev;rw[g];rfl
   .cases ev:xc ah k with
    |none=>rw[f2.val.2 ev];exact hz
    |some z=>obtain⟨w,g,g2⟩:=f2.val.1 _ ev;rw[g];exact g2
  .cases h
 .cases h
theorem En.dputN {S':Sto} (E1:En K F j H σ ρ S) (hx:Xis K j H x u) (hy:Xis K j H y w) (hz:Xis K j H z v) (h:Tn S x y z=some S'):∃a H',u= .ref a/\zjW K H a w v H'/\En K F j H' σ ρ S'/\Ext j H j H':=by
 unfold Tn at h;split at h
 .rename_i n;split at h
  .rename_i ah hs;have hd:Tg S (.ref n)=some (n,ah):=Tj hs;obtain⟨a,ks,rfl,hj,f1,f2⟩:=E1.dk hx hd;split at h
   .rename_i key ek;split at h
    .rename_i hl;cases h;obtain⟨E4,X4⟩:=E1.wdk hd hj (f2.put (k:=key) hz);refine⟨a,_,rfl,.inl ?_,E4,X4⟩;rw[Th hy ek];exact zfZ.k f1 (by rw[f2.len];exact hl)
    .cases h
   .split at h
    .rename_i hc;rw[rg] at h;obtain⟨k,hk,rfl⟩:=h;obtain⟨b,rfl,hn,fZ,kA⟩:=za3 hy hk;have:ah=[]:=AB.1 hc;subst this;cases f2;obtain⟨E4,X4⟩:=E1.write (o:= .dN [(k,b,v)]) (c':= .dn [(k,y,z)]) hs rfl hj rfl λX=>⟨_,zZ,.cons ⟨kA,fZ⟩ (hy.mono X) (hz.mono X) .nil⟩;exact⟨a,_,rfl,.inr ⟨k,b,rfl,hn,fZ,.inr ⟨f1,rfl⟩⟩,E4,X4⟩
    .cases h
  .rename_i ah hs;obtain⟨a,ks,rfl,hj,f1,f2⟩:=E1.dn hx hs;split at h
   .rename_i hl;rw[rg] at h;obtain⟨k,hk,rfl⟩:=h;obtain⟨b,rfl,hn,fZ,kA⟩:=za3 hy hk;obtain⟨E4,X4⟩:=E1.write (o:= .dN (zdX ks k b v)) (c':= .dn (Wm ah k y z)) hs rfl hj rfl λX=>⟨_,zZ,(f2.put ⟨kA,fZ⟩ hy hz).mono X⟩;exact⟨a,_,rfl,.inr ⟨k,b,rfl,hn,fZ,.inl ⟨ks,f1,f2.nis,by rw[f2.len];exact hl,rfl⟩⟩,E4,X4⟩
   .cases h
  .cases h
 .cases h
noncomputable def zd0 (d k:TwE):TwE:=λρ S=>rb (d ρ S) λx S1=>rb (k ρ S1) λy S2=>(Vg S2 x y).bind λo=>o.map λz=> .ok z S2
theorem ze6 {td ty:TE} {d k:TwE} (hd:RE K E td d) (hk:RE K E ty k):RE K E (zjY K td ty) (zd0 d k):=by
 intro F j σ H ρ S r Q En0 e kk;rcases zD e with⟨x,S1,e1,e⟩|⟨c,S1,e1,rfl⟩
 .refine hd En0 e1 λj1 H1 X1 E1 u hu=> ?_;rcases zD e with⟨y,S2,e2,e⟩|⟨c,S2,e2,rfl⟩
  .refine hk E1 e2 λj2 H2 X2 E2 w hw=> ?_;cases ed:Vg S2 x y with
   |none=>rw[ed] at e;cases e
   |some o=>
    rw[ed,r0] at e;cases o with
    |none=>cases e
    |some z=>
     cases e;obtain⟨a,o,rfl,g,_,_,g3⟩:=E2.dgetN (hu.mono X2) hw ed;obtain⟨z',rfl,hz⟩:=g3 z rfl;exact⟨a,z',rfl,g,kk _ _ (X1.trans X2) E2 _ hz⟩
  .exact hk E1 e2 (PX.mono kk X1)
 .exact hd En0 e1 kk
noncomputable def zhi (neg:Bool) (k d:TwE):TwE:=λρ S=>rb (k ρ S) λy S1=>rb (d ρ S1) λx S2=>(Vg S2 x y).map λo=> .ok (.bl (neg !=o.isSome)) S2
theorem zhj {neg:Bool} {td ty:TE} {d k:TwE} (hk:RE K E ty k) (hd:RE K E td d):RE K E (zmV K neg ty td) (zhi neg k d):=by
 intro F j σ H ρ S r Q En0 e kk;rcases zD e with⟨y,S1,e1,e⟩|⟨c,S1,e1,rfl⟩
 .refine hk En0 e1 λj1 H1 X1 E1 u hu=> ?_;rcases zD e with⟨x,S2,e2,e⟩|⟨c,S2,e2,rfl⟩
  .refine hd E1 e2 λj2 H2 X2 E2 w hw=> ?_;cases ed:Vg S2 x y with
   |none=>rw[ed] at e;cases e
   |some o=>
    rw[ed] at e;cases e;obtain⟨a,o',rfl,g,g1,_,_⟩:=E2.dgetN hw (hu.mono X2) ed;refine⟨a,o',rfl,g,kk _ _ (X1.trans X2) E2 _ ?_⟩;rw[g1];exact .bl _
  .exact hd E1 e2 (PX.mono kk X1)
 .exact hk En0 e1 kk
noncomputable def za4 (d k v:TwE):TwS:=λρ S=>sb (v ρ S) λz S1=>sb (d ρ S1) λx S2=>sb (k ρ S2) λy S3=>(Tn S3 x y z).map λS4=> .nx ρ S4
theorem ze7 {td ty tv:TE} {d k v:TwE} (hd:RE K E td d) (hk:RE K E ty k) (hv:RE K E tv v):RS K E (zjZ K td ty tv) (za4 d k v):=by
 intro F j D' σ H ρ S fl E0 e kk;rcases xS e with⟨z,S1,e1,e⟩|⟨c,S1,e1,rfl⟩
 .refine hv E0 e1 λj1 H1 X1 E1 wz kD=> ?_;rcases xS e with⟨x,S2,e2,e⟩|⟨c,S2,e2,rfl⟩
  .refine hd E1 e2 λj2 H2 X2 E2 u hu=> ?_;rcases xS e with⟨y,S3,e3,e⟩|⟨c,S3,e3,rfl⟩
   .refine hk E2 e3 λj3 H3 X3 E3 w hw=> ?_;cases ed:Tn S3 x y z with
    |none=>rw[ed] at e;cases e
    |some S4=>
     rw[ed] at e;cases e;obtain⟨a,H4,rfl,g,E4,X4⟩:=E3.dputN (hu.mono X3) hw (kD.mono (X2.trans X3)) ed;exact⟨a,H4,rfl,g,kk _ _ _ (X1.trans (X2.trans (X3.trans X4))) E4⟩
   .exact hk E2 e3 (PX.mono kk (X1.trans X2))
  .exact hd E1 e2 (PX.mono kk X1)
 .exact hv E0 e1 kk
end
section
variable {K:qP} {j:List Addr} {H:Hp}
end
section
variable {ρ:Rho} {S:Sto} {P:Xv->Sto->Prop} {N:Rho->Sto->Prop} {R:Xv->Sto->Prop} {a b m z:TwE} {x y:Xv}
theorem ze8 (h:W (a ρ S) λx S1=>W (b ρ S1) λy S2=>∃z,Vg S2 x y=some (some z)/\P z S2):W (zd0 a b ρ S) P:=
 W.bind (h.imp λ_ _ h=>W.bind (h.imp λ_ _ h=>by obtain⟨z,e1,q⟩:=h;rw[e1];exact .of rfl q))
theorem zhk {neg:Bool} (h:W (a ρ S) λy S1=>W (b ρ S1) λx S2=>∃o,Vg S2 x y=some o/\P (.bl (neg !=o.isSome)) S2):W (zhi neg a b ρ S) P:=
 W.bind (h.imp λ_ _ h=>W.bind (h.imp λ_ _ h=>by obtain⟨o,e1,q⟩:=h;rw[e1];exact .of rfl q))
theorem zbP (h:W (m ρ S) λz S1=>W (a ρ S1) λx S2=>W (b ρ S2) λy S3=>∃S4,Tn S3 x y z=some S4/\N ρ S4):WS (za4 a b m ρ S) N R:=
 WS.bind (h.imp λ_ _ h=>WS.bind (h.imp λ_ _ h=>WS.bind (h.imp λ_ _ h=>by obtain⟨S4,e1,q⟩:=h;rw[e1];exact .nx rfl q)))
end
noncomputable def zbQ (S:Sto) (x:Xv) (nm:Str):Option (Nat×List (Str×Xv)):=match x with
 | .ref n=>match S[n]? with
  |some (.ins nm' fs)=>if nm'=nm then some (n,fs) else none
  |_=>none
 |_=>none
theorem zde {S:Sto} {x:Xv} {nm:Str} {n:Nat} {fs:List (Str×Xv)} (h:zbQ S x nm=some (n,fs)):x= .ref n/\S[n]? =some (.ins nm fs):=by
 unfold zbQ at h;split at h
 .split at h
  .split at h
   .rename_i e1 e2;cases h;subst e2;exact⟨rfl,e1⟩
   .cases h
  .cases h
 .cases h
theorem zd1 {S:Sto} {nm:Str} {n:Nat} {fs:List (Str×Xv)} (h:S[n]? =some (.ins nm fs)):zbQ S (.ref n) nm=some (n,fs):=by
 unfold zbQ;dsimp only;rw[h];dsimp only;rw[if_pos rfl]
noncomputable def zcx (f:Str) (v:Xv):List (Str×Xv)->List (Str×Xv)
 |[]=>[(f,v)]
 |(g,x)::r=>if g=f then (g,v)::r else (g,x)::zcx f v r
section
variable {K:qP} {E:XK} {F:Fm} {j:List Addr} {H:Hp} {σ:St} {ρ:Rho} {S:Sto} {x:Xv} {v:V} {nm f m:Str} {C:Addr}
theorem KX.look:∀{fs:List (Str×Xv)} {vs:List (Str×V)},KX K j H fs vs->(∀y,fs.lookup f=some y->∃w,vs.lookup f=some w/\Xis K j H y w)/\(fs.lookup f=none->vs.lookup f=none)
 |_,_,.nil=>⟨(λ_ e=>by cases e),λ_=>rfl⟩
 |(g,y1)::r,(_,w1)::rs,.cons h l=>by
  obtain⟨i1,i2⟩:=KX.look l;rw[sq,sq];cases hb:(f==g) with
  |true=>exact⟨(λy e=>by cases e;exact⟨w1,rfl,h⟩),(λe=>by cases e)⟩
  |false=>exact⟨i1,i2⟩
theorem KX.putF (hx:Xis K j H x v):∀{fs:List (Str×Xv)} {vs:List (Str×V)},KX K j H fs vs->KX K j H (zcx f x fs) (Ww f v vs)
 |_,_,.nil=> .cons hx .nil
 |(g,y1)::r,(_,w1)::rs,.cons h l=>by
  unfold zcx L2.Ww;by_cases e:g=f
  .rw[if_pos e,if_pos e];exact .cons hx l
  .rw[if_neg e,if_neg e];exact .cons h (KX.putF hx l)
theorem En.ins {n:Nat} {fs:List (Str×Xv)} (df:rz K mainGlobals nm=some (some (.ref C))) (E1:En K F j H σ ρ S) (hx:Xis K j H x v) (h:zbQ S x nm=some (n,fs)):∃a dx vs,v= .ref a/\j[n]? =some a/\H a=some (.ins C dx vs)/\KX K j H fs vs:=by
 obtain⟨rfl,hs⟩:=zde h;obtain⟨a,rfl,hj⟩:=hx.ref_inv;obtain⟨C',dx,vs,e0,e1,e2⟩:=E1.cel _ _ _ hs hj;rw[df] at e0;cases e0;exact⟨a,dx,vs,rfl,hj,e1,e2⟩
noncomputable def vH (nm f:Str) (o:TwE):TwE:=λρ S=>rb (o ρ S) λx S1=>(zbQ S1 x nm).bind λp=>(p.2.lookup f).map λy=> .ok y S1
theorem xJ {to:TE} {o:TwE} (df:rz K mainGlobals nm=some (some (.ref C))) (hc:Cls K C) (hn:YJ K C f) (h:RE K E to o):RE K E (zoM K to f) (vH nm f o):=by
 intro F j σ H ρ S r Q En0 e k;rcases zD e with⟨x,S1,e1,e⟩|⟨c,S1,e1,rfl⟩
 .refine h En0 e1 λj1 H1 X1 E1 u hu=> ?_;rw[rB] at e;obtain⟨⟨n,fs⟩,e2,e⟩:=e;rw[rg] at e;obtain⟨y,e3,rfl⟩:=e;obtain⟨a,dx,vs,rfl,hj,f1,f2⟩:=E1.ins df hu e2;obtain⟨w,g1,g2⟩:=f2.look.1 y e3;exact⟨a,C,dx,vs,w,rfl,f1,hc,hn,g1,k _ _ X1 E1 _ g2⟩
 .exact h En0 e1 k
noncomputable def ze9 (nm f:Str) (o m:TwE):TwS:=λρ S=>sb (m ρ S) λy S1=>sb (o ρ S1) λx S2=>(zbQ S2 x nm).bind λp=>if p.2.length<1000 then some (.nx ρ (S2.set p.1 (.ins nm (zcx f y p.2)))) else none
theorem KX.len2:∀{fs:List (Str×Xv)} {vs:List (Str×V)},KX K j H fs vs->vs.length=fs.length
 |_,_,.nil=>rfl
 |_,_,.cons _ l=>by simp[l.len2]
theorem zd2 {to tv:TE} {o m:TwE} (df:rz K mainGlobals nm=some (some (.ref C))) (hc:Cls K C) (hn:YJ K C f) (ho:RE K E to o) (hv:RE K E tv m):RS K E (zoN K to tv f) (ze9 nm f o m):=by
 intro F j D' σ H ρ S fl E0 e kk;rcases xS e with⟨y,S1,e1,e⟩|⟨c,S1,e1,rfl⟩
 .refine hv E0 e1 λj1 H1 X1 E1 wy om=> ?_;rcases xS e with⟨x,S2,e2,e⟩|⟨c,S2,e2,rfl⟩
  .refine ho E1 e2 λj2 H2 X2 E2 u hu=> ?_;rw[rB] at e;obtain⟨⟨n,fs⟩,e3,e⟩:=e;dsimp only at e;split at e
   .rename_i hl;cases e;obtain⟨a,dx,vs,rfl,hj,f1,f2⟩:=E2.ins df hu e3;obtain⟨E4,X4⟩:=E2.write (o:= .ins C dx (L2.Ww f wy vs)) (c':= .ins nm (zcx f y fs)) (zde e3).2 rfl hj rfl λX=>⟨C,dx,_,df,zZ,(KX.putF (om.mono X2) f2).mono X⟩;exact⟨a,C,dx,vs,rfl,f1,hc,hn,by rw[f2.len2];exact hl,kk _ _ _ (X1.trans (X2.trans X4)) E4⟩
   .cases e
  .exact ho E1 e2 (PX.mono kk X1)
 .exact hv E0 e1 kk
noncomputable def yp (nm m:Str) (tw:TwF) (o:TwE) (ms:List TwE):TwE:=λρ S=>rb (o ρ S) λx S1=>(zbQ S1 x nm).bind λp=>if p.2.lookup m=none then rb (evL ms ρ S1) λxs S2=>tw (x::xs) S2 else none
theorem zM {n:Nat} {tw:TwF} {o:TwE} {to:TE} {ms:List TwE} {t:TA} (df:rz K mainGlobals nm=some (some (.ref C))) (ho:RE K E to o) (h:RL K E t (evL ms)) (hn:ms.length+1=n:=by rfl):RE K E (ziU C m (sTw K n tw) [] E to t) (yp nm m tw o ms):=by
 intro F j σ H ρ S r Q En0 e k;rcases zD e with⟨x,S1,e1,e⟩|⟨c,S1,e1,rfl⟩
 .refine ho En0 e1 λj1 H1 X1 E1 u hu=> ?_;rw[rB] at e;obtain⟨⟨q,fs⟩,e2,e⟩:=e;dsimp only at e;split at e
  .rename_i kW;obtain⟨a,dx,jQ,rfl,hj,f1,f2⟩:=E1.ins df hu e2;refine⟨a,dx,jQ,rfl,f1,f2.look.2 kW,?_⟩;rcases zD e with⟨xs,S2,e3,e⟩|⟨c,S2,e3,rfl⟩
   .refine h E1 e3 λj2 H2 X2 E2 vs hv=> ?_;rw[tF];exact VW E2 (.cons (hu.mono X2) hv) (by rw[ra,hv.len,WG e3,hn]) e (k.step (X1.trans X2))
   .exact h E1 e3 (k.step X1)
  .cases e
 .exact ho En0 e1 k
noncomputable def zbR (nm:Str) (tw:TwF) (ms:List TwE):TwE:=λρ S=>rb (evL ms ρ S) λxs S1=>match tw (.ref S1.length::xs) (S1++[.ins nm []]) with
 |some (.ok .non S2)=>some (.ok (.ref S1.length) S2)
 |_=>none
theorem zfa {n:Nat} {tw:TwF} {ms:List TwE} {t:TA} (df:rz K mainGlobals nm=some (some (.ref C))) (h:RL K E t (evL ms)) (hn:ms.length+1=n:=by rfl):RE K E (zmG C (sTw K n tw) [] E t) (zbR nm tw ms):=by
 intro F j σ H ρ S r Q En0 e k;rcases zD e with⟨xs,S1,e1,e⟩|⟨c,S1,e1,rfl⟩
 .refine h En0 e1 λj1 H1 X1 E1 vs hv=> ?_;intro x dx hx px eV;rw[tF];split at e
  .rename_i S2 e2;cases e;have iK:upd H1 dx (.own x) x=none:=by rw[zO (λz=>eV z.symm)];exact hx
   obtain⟨E2,X2⟩:=E1.new (p:=dx) (o:= .own x) px;obtain⟨E3,X3⟩:=E2.cell (p:=x) (o:= .ins C dx []) (c:= .ins nm []) iK ⟨C,dx,[],df,zZ,.nil⟩;have X23:=X2.trans X3;have hr:Xis K (j1++[x]) (upd (upd H1 dx (.own x)) x (.ins C dx [])) (.ref S1.length) (.ref x):= .ref (by rw[<-E1.jl];simp);refine VW E3 (.cons hr (hv.mono X23)) (by rw[ra,hv.len,WG e1,hn]) e2 λj' H' X E4 v hw=> ?_;exact⟨hw.non_inv,k _ _ (X1.trans (X23.trans X)) E4 _ (hr.mono X)⟩
  .cases e
 .exact h En0 e1 k
end
section
variable {ρ:Rho} {S:Sto} {P:Xv->Sto->Prop} {N:Rho->Sto->Prop} {R:Xv->Sto->Prop} {o m:TwE} {ms:List TwE} {nm f:Str}
theorem xK (h:W (o ρ S) λx S1=>∃n fs y,x= .ref n/\S1[n]? =some (.ins nm fs)/\fs.lookup f=some y/\P y S1):W (vH nm f o ρ S) P:=
 W.bind (h.imp λ_ _ h=>by obtain⟨n,fs,y,rfl,e1,e2,q⟩:=h;rw[zd1 e1,r0,e2];exact .of rfl q)
theorem zd3 (h:W (m ρ S) λy S1=>W (o ρ S1) λx S2=>∃n fs,x= .ref n/\S2[n]? =some (.ins nm fs)/\fs.length<1000/\N ρ (S2.set n (.ins nm (zcx f y fs)))):WS (ze9 nm f o m ρ S) N R:=
 WS.bind (h.imp λ_ _ h=>WS.bind (h.imp λ_ _ h=>by obtain⟨n,fs,rfl,e1,e2,q⟩:=h;rw[zd1 e1,r0,if_pos e2];exact .nx rfl q))
theorem zW {tw:TwF} (h:W (o ρ S) λx S1=>∃n fs,x= .ref n/\S1[n]? =some (.ins nm fs)/\fs.lookup f=none/\W (evL ms ρ S1) λxs S2=>W (tw (x::xs) S2) P):W (yp nm f tw o ms ρ S) P:=
 W.bind (h.imp λ_ _ h=>by obtain⟨n,fs,rfl,e1,e2,q⟩:=h;rw[zd1 e1,r0,if_pos e2];exact W.bind (q.imp λ_ _ h=>h))
theorem zlE {tw:TwF} (h:W (evL ms ρ S) λxs S1=>W (tw (.ref S1.length::xs) (S1++[.ins nm []])) λv S2=>v= .non/\P (.ref S1.length) S2):W (zbR nm tw ms ρ S) P:=
 W.bind (h.imp λxs S1 h=>by
  obtain⟨v,S2,e,rfl,q⟩:=h;rw[e]
  exact .of rfl q)
end
theorem za5 {K:qP} {X:Cx} (h:X.K=K:=by rfl):IxR X (rIx K):=h ▸ znt
noncomputable def Ut (lo:Int) (n:Nat):List Xv:=(sC n).map λ(k:Nat)=>Xv.int (lo-(k:Int))
noncomputable def iR3 (m n o:TwE):TwI:=λρ S=>rb (m ρ S) λx S1=>rb (n ρ S1) λy S2=>rb (o ρ S2) λz S3=>match x,y,z with
 | .int i,.int j,.int c=>if c= -1/\Builtin.Range.small i j (-1)=true then some (.ok (λ_=>some (Ut i (i-j).toNat)) S3) else none
 |_,_,_=>none
section
variable {K:qP} {E:XK} {j:List Addr} {H:Hp}
theorem zlF {lo:Int} {n:Nat}:znC K j H (znA lo (-1) n) (λ_=>some (Ut lo n)):=by
 intro F2 j2 H2 σ2 ρ2 S2 xs i X2 E2 e2;cases e2;refine⟨λd hd=> ?_,λhle=> ?_⟩
 .unfold Ut at hd;rw[qY] at hd;have hi:i<n:=by
   apply sS;intro hn;rw[r6 (by simp;omega)] at hd;cases hd
  rw[u9 hi] at hd;cases hd;refine⟨hi,?_⟩;rintro x H' ⟨rfl,rfl⟩;refine⟨Wh.refl _,?_⟩;dsimp only;rw[show lo-(i:Int)=lo+(i:Int)* -1 by omega];exact .int _
 .unfold Ut at hle;simp at hle;show n<=i;omega
theorem zih (i j:Int):(Builtin.Range.rangeSize i j (-1)).toNat=(i-j).toNat:=by
 unfold Builtin.Range.rangeSize;rw[if_neg ∅];split
 .rw[show -(-1:Int)=1 by decide,Ao];omega
 .omega
theorem zii {t u v:TE} {m n o:TwE} (h:RE K E t m) (h2:RE K E u n) (h3:RE K E v o):RI K E (zmW (zaw t (zaw u (zaw v ziT)))) (iR3 m n o):=by
 intro F j σ H ρ S r R En0 e k;rcases zD e with⟨x,S1,e1,e⟩|⟨c,S1,e1,rfl⟩
 .refine h En0 e1 λj1 H1 X1 E1 u hu=> ?_;rcases zD e with⟨y,S2,e2,e⟩|⟨c,S2,e2,rfl⟩
  .refine h2 E1 e2 λj2 H2 X2 E2 w hw=> ?_;rcases zD e with⟨z,S3,e3,e⟩|⟨c,S3,e3,rfl⟩
   .refine h3 E2 e3 λj3 H3 X3 E3 wz hz=> ?_;split at e
    .split at e
     .rename_i hb;cases e;obtain⟨rfl,oH⟩:=hb;refine⟨_,_, -1,by rw[hu.int_inv,hw.int_inv,hz.int_inv],⟨∅,∅⟩,oH,?_⟩;rw[zih];exact k _ _ (X1.trans (X2.trans X3)) E3 _ zlF
     .cases e
    .cases e
   .exact h3 E2 e3 (PX.mono k (X1.trans X2))
  .exact h2 E1 e2 (PX.mono k X1)
 .exact h En0 e1 k
end
theorem zij (lo:Int) (n:Nat):(Ut lo n).length=n:=by simp[Ut]
theorem zj4 {lo:Int} {n i:Nat} {x:Xv} (h:(Ut lo n)[i]? =some x):i<n/\x= .int (lo-i):=by
 unfold Ut at h;rw[qY] at h;have hi:i<n:=by
  apply sS;intro hn;rw[r6 (by simp;omega)] at h;cases h
 rw[u9 hi] at h;cases h;exact⟨hi,rfl⟩
theorem zn2 {ρ:Rho} {S:Sto} {Q':(Sto->Option (List Xv))->Sto->Prop} {m n o:TwE} (h:W (m ρ S) λx S1=>W (n ρ S1) λy S2=>W (o ρ S2) λz S3=>∃i j,x= .int i/\y= .int j/\z= .int (-1)/\Builtin.Range.small i j (-1)=true/\Q' (λ_=>some (Ut i (i-j).toNat)) S3):W (iR3 m n o ρ S) Q':=
 W.bind (h.imp λ_ _ h=>W.bind (h.imp λ_ _ h=>W.bind (h.imp λ_ _ h=>by
  obtain⟨i,j,rfl,rfl,rfl,e,q⟩:=h;dsimp only;rw[if_pos ⟨rfl,e⟩]
  exact .of rfl q)))
theorem zgo {i:Int} (h0: -1<=i) (h1:i<1000):Builtin.Range.small i (-1) (-1)=true:=by
 unfold Builtin.Range.small;have hs:Builtin.Range.rangeSize i (-1) (-1)=i+1:=by
  unfold Builtin.Range.rangeSize;rw[if_neg ∅];split
  .rw[show -(-1:Int)=1 by decide,Ao];omega
  .omega
 rw[hs];simp only[Builtin.Range.rangeFitsLong,rV,uK,decide_eq_true_eq,beq_iff_eq,show ¬((-1:Int)>0) by decide,if_false];omega
section
variable {K:qP} {E:XK} {F:Fm} {j:List Addr} {H:Hp} {σ:St} {ρ:Rho} {S:Sto} {x:Xv} {v:V} {c:Str} {C:Addr}
end
end L2
namespace L2
open PySem
section
variable {ρ:Rho} {S S':Sto} {x y:Xv} {a b m o:TwE} {c:TwT} {s t:TwS} {i k:Nat} {P:Xv->Sto->Prop} {PL:List Xv->Sto->Prop} {N:Rho->Sto->Prop} {R:Xv->Sto->Prop} {X:Str->Sto->Prop}
end
end L2
namespace L2
open PySem PySem.Spec PyProof.Rows PySem.Calls
section
variable {K:qP} {E:XK} {F:Fm} {j:List Addr} {H:Hp} {σ:St} {ρ:Rho} {S:Sto} {x:Xv} {v:V} {nm f:Str} {C:Addr}
noncomputable def zbS:OpM:=λx ys S=>match Uh S x,ys with
 |some (_,l),[y]=>if ZB y&&l.all ZB then (l.findIdx? λz=>zdR z y).map λ(k:Nat)=>(Xv.int (k:Int),S) else none
 |_,_=>none
theorem zfb:zga K zjf zbS:=by
 intro F j σ H ρ S S' x z ys u vs Q E0 hx hy h k;unfold zbS at h;split at h
 .rename_i n l y e;split at h
  .rename_i hf;have hf:=Aa.1 hf;rw[rg] at h;obtain⟨q,e3,h⟩:=h;cases h;obtain⟨a,ws,rfl,hj,h1,h2⟩:=E0.wl hx e;obtain⟨w0,rfl,hw⟩:=hy.d1;obtain⟨di,lh,ie⟩:=sF.1 e3;obtain⟨w,w1,w2⟩:=h2.get (qN di);have fl:∀(m:Nat) (hm:m<l.length),ZB l[m]=true:=λm hm=>sr.1 hf.2 _ (rq hm);refine⟨a,ws,w0,q,rfl,rfl,h1,?_,?_,⟨w,w1,?_⟩,λm z hm hz=> ?_,k _ _ _ Ext.refl E0 (.int _)⟩
   .rw[zbH hw];exact hf.1
   .rw[zdS h2];exact hf.2
   .rw[zgh w2 hw (fl _ di) hf.1];exact lh
   .have gQ:m<l.length:=by omega
    obtain⟨y',y1,y2⟩:=h2.get (qN gQ);rw[hz] at y1;cases y1;rw[zgh y2 hw (fl _ gQ) hf.1];have:=ie m hm;simpa using this
  .cases h
 .cases h
theorem zj5 {P:Xv->Sto->Prop} {n k:Nat} {l:List Xv} {y:Xv} (h:Uh S x=some (n,l)) (hf:(ZB y&&l.all ZB)=true) (e:(l.findIdx? λz=>zdR z y)=some k) (q:P (.int (k:Int)) S):WO (zbS x [y] S) P:= .of (by unfold zbS;rw[h];dsimp only;rw[if_pos hf,e];rfl) q
end
structure zpX (tw:TwF) (S:Sto) (l:List Xv) (is:List (List Int)):Prop where
 len:is.length=l.length
 key:∀(i:Nat) x,l[i]? =some x->∃k,tw [x] S=some (.ok k S)/\k.tupOf=some ((is.getD i []).map Xv.int)
 fall:zpg is
section
variable {K:qP} {E:XK} {j:List Addr} {H:Hp}
end
section
variable {K:qP} {E:XK} {F:Fm} {j:List Addr} {H:Hp} {σ:St} {ρ:Rho} {S:Sto}
noncomputable def Uu:Opn:=λxs S=>match xs with
 |[.bl b]=>some (.int (if b then 1 else 0),S)
 |[.int i]=>some (.int i,S)
 |_=>none
theorem zhl:zbs K (λxs H Q=>(∃i,xs=[.int i]/\Q (.int i) H)\/∃k,xs=[.bl k]/\Q (.int (if k then 1 else 0)) H) Uu:=by
 intro F j σ H ρ S S' xs z vs Q E1 hv h k;unfold Uu at h;split at h
 .cases h;obtain⟨w,rfl,hx⟩:=hv.d1;exact .inr ⟨_,by rw[hx.bl_inv],k _ _ _ Ext.refl E1 (.int _)⟩
 .cases h;obtain⟨w,rfl,hx⟩:=hv.d1;exact .inl ⟨_,by rw[hx.int_inv],k _ _ _ Ext.refl E1 (.int _)⟩
 .cases h
end
section
variable {K:qP} {E:XK}
end
noncomputable def zik (d:D):List D->Option (List Bool)
 |[]=>some []
 |e::r=>(eqG 39 e d).bind λb=>(zik d r).map (b:: ·)
theorem zhm {d:D}:∀{ds:List D} {bs:List Bool},zik d ds=some bs->bs.length=ds.length/\∀(i:Nat) e b,ds[i]? =some e->bs[i]? =some b->eqG 39 e d=some b
 |[],bs,h=>by cases h;exact⟨rfl,λi e b h=>by simp at h⟩
 |e::r,bs,h=>by
  unfold zik at h;rw[rB] at h;obtain⟨b,h1,h⟩:=h;rw[rg] at h;obtain⟨bs',h2,rfl⟩:=h;obtain⟨i1,i2⟩:=zhm h2;refine⟨by rw[ra,ra,i1],λi e' b' q1 q2=> ?_⟩;cases i with
  |zero=>simp at q1 q2;subst q1 q2;exact h1
  |succ i=>exact i2 i e' b' (by simpa using q1) (by simpa using q2)
noncomputable def Ub:OpM:=λx ys S=>match Uh S x,ys with
 |some (_,l),[y]=>(vx (vD S 40) l).bind λds=>(vD S 40 y).bind λd=>(zik d ds).bind λbs=>(bs.findIdx? id).map λ(k:Nat)=>(Xv.int (k:Int),S)
 |_,_=>none
section
variable {K:qP} {E:XK}
theorem zdf:zga K (zhh K) Ub:=by
 intro F j σ H ρ S S' x z ys u vs Q E0 hx hy h k;unfold Ub at h;split at h
 .rename_i n l y e;rw[rB] at h;obtain⟨ds,e2,h⟩:=h;rw[rB] at h;obtain⟨d,e3,h⟩:=h;rw[rB] at h;obtain⟨bs,e4,h⟩:=h;rw[rg] at h;obtain⟨q,e5,h⟩:=h;cases h;obtain⟨a,ws,rfl,hj,h1,h2⟩:=E0.wl hx e;obtain⟨w0,rfl,hw⟩:=hy.d1;obtain⟨i1,i2⟩:=zhm e4;obtain⟨di,lh,ie⟩:=sF.1 e5;refine⟨a,ws,w0,ds,d,bs,q,rfl,rfl,h1,(Vw (λa b c=>Te E0 40 a b c) h2 e2).1,(Te E0 40 _ _ _ hw e3).1,i1,i2,?_,λm hm=> ?_,k _ _ _ Ext.refl E0 (.int _)⟩
  .rw[qN di];exact congrArg some lh
  .rw[qN ⋯];have:=ie m hm;exact congrArg some (by simpa using this)
 .cases h
end
section
variable {S:Sto} {x y:Xv} {P:Xv->Sto->Prop}
end
section
variable {K:qP} {E:XK}
end
section
variable {m:TwE} {ρ:Rho} {S:Sto}
end
section
variable {K:qP} {E:XK}
end
section
variable {S:Sto} {x:Xv} {P:Xv->Sto->Prop}
end
section
variable {X:Cx} {tg:Expr}
end
section
variable {K:qP} {E:XK}
end
section
variable {m:TwE} {ρ:Rho} {S:Sto}
end
end L2
namespace L2
open PySem PySem.Spec PyProof.Rows PyProof
open Builtin Builtin.Str
section
variable {X:Cx}
end
end L2
namespace L2
open PySem PySem.Spec PyProof.Rows PyProof
section
variable {X:Cx}
inductive PJ (X:Cx):List Expr->List TE->Prop where
 |nil:PJ X [] []
 |cons {e:Expr} {es:List Expr} {t:TE} {ts:List TE}:PE X e t->PJ X es ts->PJ X (e::es) (t::ts)
end
end L2
namespace L2
open PySem PySem.Spec PyProof.Rows
section
variable {K:qP} {E:XK} {F:Fm} {j:List Addr} {H:Hp} {σ:St} {ρ:Rho} {S:Sto}
inductive RJ (K:qP) (E:XK):List TE->List TwE->Prop where
 |nil:RJ K E [] []
 |cons {t:TE} {ts:List TE} {m:TwE} {ms:List TwE}:RE K E t m->RJ K E ts ms->RJ K E (t::ts) (m::ms)
end
section
variable {K:qP} {E:XK} {j:List Addr} {H:Hp}
end
section
variable {ρ:Rho} {S:Sto} {P:Xv->Sto->Prop} {o m:TwE} {x y:Xv}
end
inductive Sh (n:Nat):List D->Nat->Nat->Prop where
 |nil:Sh n [] 0 0
 |int {i:Int} {r:List D} {w e:Nat}:i.natAbs<2^n->Sh n r w e->Sh n (.int i::r) (n+1+w) e
 |str {z:Str} {r:List D} {w e:Nat}:z.length<=n->(z.cps.toList.all λc=>decide (c<16^8))=true->Sh n r w e->Sh n (.str z::r) (n+1+w) e
 |tup {l r:List D} {w e w' e':Nat}:Sh n l w e->Sh n r w' e'->Sh n (.tup l::r) (w+1+w') (max (e+1) e')
 |lst {l r:List D} {w e w' e':Nat}:Sh n l w e->Sh n r w' e'->Sh n (.lst l::r) (w+1+w') (max (e+1) e')
section
variable {X:Cx} {pins:List (Addr×Obj)} {σ:St} {H:Hp} {s:Shared}
end
structure zpY (d:D):Prop where
 seq:∃l,d= .tup l\/d= .lst l
 sh:∃n w e,Sh n [d] w e/\8<=n/\n<=1900/\e<=100/\(n+3)*w+n+1<=16777216
section
variable {X:Cx}
end
section
variable {X:Cx} {K:qP}
end
end L2
namespace L2
open PySem PySem.Spec PyProof.Rows PyProof
section
variable {X:Cx} {K:qP} {E:XK}
end
end L2
namespace L2
open PySem PySem.Spec PyProof.Rows
theorem zdg {env:Env}:∀{ns:List (Str×NameKind)} {cs:List (Str×Addr)} {p:Str×Addr},p∈zaK env ns cs->p∈cs\/(p.1,NameKind.free)∈ns
 |[],_,_,h=> .inl h
 |(n,k)::r,cs,p,h=>by
  unfold zaK at h;rcases zdg h with h|h
  .by_cases hk:(k== .free)=true
   .rw[if_pos hk] at h;have ft:k= .free:=by simpa using hk
    cases e:env.cells.lookup n with
    |none=>rw[e] at h;exact .inl h
    |some c=>
     rw[e] at h;rcases rQ.mp h with rfl|h
     .exact .inr (by rw[ft];exact rE)
     .exact .inl h
   .rw[if_neg hk] at h;exact .inl h
  .exact .inr (r9 _ h)
theorem zgp {pos:Pos} {a b:Int} {c cv:Value} (l:List Value) (h:TriplesOk l):codeAmong pos (l++[rawInt a,rawInt b,c])=some cv->codeAmong pos l=some cv\/cv=c:=by
 fun_induction TriplesOk l with
 |case1=>
  intro e;simp only[AU,codeAmong,rawInt] at e;split at e
  .cases e;exact .inr rfl
  .cases e
 |case2 a t b u x rest ih=>
  intro e;simp only[sH,codeAmong] at e ⊢;split at e
  .rename_i hc;rw[if_pos hc];exact .inl e
  .rename_i hc;rw[if_neg hc];exact ih h e
 |case3 l h1 h2=>exact h.elim
section
variable {X:Cx} {pins:List (Addr×Obj)} {σ:St} {H H':Hp} {s:Shared}
theorem Inv.freeze {x:Str} {c:Addr} (I:Inv X pins σ H s) (hx:X.env.cells.lookup x=some c) (hz:X.zn x=true) (hf:X.fn x=false):∃H' o,Inv X pins σ H' s/\Wh H H'/\H' c=some (.frz o (.own 0))/\s.heap.get? c=some o:=by
 obtain⟨v,o,ho,hd⟩:=I.cell x c hx;rcases I.freeC x c hx with hn|⟨_,o',h'⟩
 .have dX:=I.ok.cab x c (.inr hz) hx;have ne:∀b u,H b=some u->b≠c:=λb u e z=>by rw[z,hn] at e;cases e
  refine⟨upd H c (.frz o (.own 0)),o,⟨I.ok,I.os,I.bare,⟨I.base.keep,I.base.slot,λb ob e n iK=> ?_,I.base.there,λb xs e=> ?_,λb ob u e=> ?_,λb ps e=> ?_⟩,I.loc,I.cell,?_,λy d e=> ?_,λp hp=> ?_,λb u e=> ?_,I.len⟩,Zi hn,zZ,ho⟩
  .rw[zO (rA (rD (Heap.lt_size e) dX))];exact I.base.free b ob e n iK
  .have:=I.base.tups b xs e;rw[zO (ne b _ this)];exact this
  .have:=I.base.frzs b ob u e;rw[zO (ne b _ this)];exact this
  .obtain⟨m,q⟩:=I.base.tbls b ps e;exact⟨m,by rw[zO (ne b _ q)];exact q⟩
  .rw[zO (sY (I.cne x c hx))];exact I.free
  .by_cases ja:d=c
   .subst ja;obtain rfl:=I.ok.inj y x d e hx;exact .inr ⟨hf,o,zZ⟩
   .rw[zO ja];exact I.freeC y d e
  .obtain⟨e,n,r1,r2,r3⟩:=I.pin p hp;refine⟨e,?_,r1,r2,r3⟩;rw[zO]
   .exact n
   .intro q;rw[q,ho] at e;cases e;exact r3 v hd
  .by_cases hb:b=c
   .subst hb;rw[zZ] at e;cases e;exact⟨ho,o,ho⟩
   .rw[zO hb] at e;exact (I.hok b u e).stay (λ_ _ _ q=>q) (λd q=>by rw[zO (ne d _ q)];exact q) λd xs q=>by rw[zO (ne d _ q)];exact q
 .exact⟨H,o',I,λ_ _ e=>e,h',(I.hok c _ h').1⟩
theorem Inv.freezeL (I:Inv X pins σ H s):∀(l:List (Str×Addr)),(∀p∈l,X.env.cells.lookup p.1=some p.2/\X.zn p.1=true/\X.fn p.1=false)->∃H',Inv X pins σ H' s/\Wh H H'/\∀p∈l,∃o,H' p.2=some (.frz o (.own 0))/\s.heap.get? p.2=some o
 |[],_=>⟨H,I,λ_ _ e=>e,λp hp=>nomatch hp⟩
 |p::r,h=>by
  obtain⟨H1,I1,S1,f1⟩:=I.freezeL r λq hq=>h q (r9 _ hq);obtain⟨a1,a2,a3⟩:=h p rE;obtain⟨H2,o,I2,S2,e1,e2⟩:=I1.freeze a1 a2 a3;refine⟨H2,I2,λb u e=>S2 b u (S1 b u e),λq hq=> ?_⟩;rcases rQ.mp hq with rfl|hq
  .exact⟨o,e1,e2⟩
  .obtain⟨o',e3,e4⟩:=f1 q hq;exact⟨o',S2 _ _ e3,e4⟩
theorem Inv.lamMade {P c f:Addr} {ps more:Array Value} {oc fo:Obj} {h':Heap} {t':Nat} (I:Inv X pins σ H s) (hP:H P=some (.tbl ps)) (hx:∀b o,b≠P->s.heap.get? b=some o->h'.get? b=some o)
  (nk:h'.get? P=some (tR (ps++more))) (hc:s.heap.objs.size<=c) (iq:h'.get? c=some oc) (hf:s.heap.objs.size<=f) (ig:h'.get? f=some fo) (qy:c≠f):
  Inv X pins σ (upd (upd (upd H P (.tbl (ps++more))) c (.frz oc (.own 0))) f (.frz fo (.own 0))) {s with heap:=h',toks:=t'}:=by
 have jo:P<s.heap.objs.size:=(I.hok P _ hP).lt;have gt:∀a b:Nat,a<s.heap.objs.size->s.heap.objs.size<=b->b≠a:=λa b h1 h2=>by omega
 have cP:c≠P:=gt P c jo hc;have fP:f≠P:=gt P f jo hf;have old:∀b,b<s.heap.objs.size->b≠P->upd (upd (upd H P (.tbl (ps++more))) c (.frz oc (.own 0))) f (.frz fo (.own 0)) b=H b:=λb hb hp=>by
  rw[zO (sY (gt b f hb hf)),zO (sY (gt b c hb hc)),zO hp]
 have iI:∀b u,H b=some u->b<s.heap.objs.size:=λb u e=>(I.hok b u e).lt;have pX:upd (upd (upd H P (.tbl (ps++more))) c (.frz oc (.own 0))) f (.frz fo (.own 0)) P=some (.tbl (ps++more)):=by
  rw[zO (sY fP),zO (sY cP),zZ]
 have nP:∀b,H b=none->b≠P:=λb n z=>by rw[z,hP] at n;cases n
 refine I.step (g':=s.gens) (d':=s.drawn) (ch:=[]) (λ_ z=>nomatch z) (λb o _ _ _ e n=>hx b o (nP b n) e) (λb o _ _ _ e n=>⟨o.slots,hx b o (nP b n) e⟩) (λb o _ e n=>by rw[old b (Heap.lt_size e) (nP b n)];exact n)
  (λb o _ e=> ?_) (λb xs e=> ?_) (λb o u e=> ?_) (λb qs e=> ?_) (λm hm=> ?_) (λb u e=> ?_) I.bare
 .by_cases hb:b=P
  .subst hb;exact⟨_,nk⟩
  .exact⟨o,hx b o hb e⟩
 .rw[old b (iI b _ e) (λz=>by rw[z,hP] at e;cases e)];exact e
 .rw[old b (iI b _ e) (λz=>by rw[z,hP] at e;cases e)];exact e
 .by_cases hb:b=P
  .subst hb;rw[hP] at e;cases e;exact⟨more,pX⟩
  .exact⟨#[],by rw[old b (iI b _ e) hb,e];simp⟩
 .obtain⟨o,es,ep,ho,r⟩:=hm;exact⟨o,es,ep,hx _ o (nP _ I.free) ho,r⟩
 .by_cases h1:b=f
  .subst h1;rw[zZ] at e;cases e;exact⟨ig,fo,ig⟩
  .rw[zO h1] at e;by_cases h2:b=c
   .subst h2;rw[zZ] at e;cases e;exact⟨iq,oc,iq⟩
   .rw[zO h2] at e;by_cases h3:b=P
    .subst h3;rw[zZ] at e;cases e;exact nk
    .rw[zO h3] at e;refine (I.hok b u e).stay (λd o q r=>hx d o ?_ r) (λd q=> ?_) λd xs q=> ?_
     .rcases q with q|q
      .rw[q];exact h3
      .intro z;rw[z,hP] at q;cases q
     .rw[old d (iI d _ q) (λz=>by rw[z,hP] at q;cases q)];exact q
     .rw[old d (iI d _ q) (λz=>by rw[z,hP] at q;cases q)];exact q
end
structure zn3 (X:Cx) (sc:Scope) (fr:List Str) (is:List Nat):Prop where
 blk:Wz X sc
 fre:∀(i:Nat) x,fr[i]? =some x->sc.names.lookup x=some .free/\∃k,is[i]? =some k/\X.N[k]? =some x
 all:∀y∈sc.names,y.2= .free->X.zn y.1=true/\X.fn y.1=false
def zn4 (L:xR) (P:Addr) (is:List Nat):TE:=λσ H Q=>∃(ps:Array Value) (vs:List V),H P=some (.tbl ps)/\TriplesOk ps.toList/\(∀pos cv,codeAmong pos ps.toList=some cv->∃c,cv= .ref c/\Up H L.q c)/\
 is.map (λi=>(σ[i]?).join)=vs.map some/\
 ∀f ps' H',Wh (upd H P (.tbl ps')) H'->TriplesOk ps'.toList->(∀pos cv,codeAmong pos ps'.toList=some cv->∃c,cv= .ref c/\Up H' L.q c)->zbq H' L f vs->Q (.ref f) H'
theorem zn5 {X:Cx} {id:Nat} {par:Arguments} {body:Expr} {sc:Scope} {pos:Pos} {tn:Ug} {fr:List Str} {is:List Nat} {c P:Addr} (S:zn3 X sc fr is) (hq:X.env.qual=tn.d++".<locals>.") (eK:X.env.code= .ref c) (hC:tV X.K c P=true)
  (gY:defaultsOf par X.env=([],[]):=by rfl):PE X (.Lambda par body sc pos) (zn4 ⟨id,par,body,sc,tn,fr⟩ P is):=by
 have hq:X.env.qual++"<lambda>"=tn.q:=by rw[hq];rfl
 generalize kO:tn.q=q at hq;intro pins s σ H Q I hh;obtain⟨ps,vs,hP,ht,fw,oo,k⟩:=hh;simp only[xR.q,kO] at fw k;have jM:s.heap.get? P=some (tR ps):=I.hok P _ hP;have hg:s.heap.Ns mainGlobals X.mg:=I.mod.glob.keeps I.bk;have pf:mainGlobals≠P:=λz=>by
  obtain⟨o,es,ep,e,hd,_⟩:=hg;rw[z,jM] at e;cases e;cases hd
 have C:PySem.W.CodeHd s.heap c P:=Ai I.kIn hC;have hb:s.heap.BuiltinsAt X.mg P:=by
  obtain⟨bm,ob,b1,b2,b3,b4,b5,b6⟩:=I.mod.bmn;have b3:=I.bk _ _ b3;refine⟨bm,ob,b1,b2,λz=> ?_,λz=> ?_,b3,b4,b5,b6⟩
  .obtain⟨o,es,ep,e,hd,_⟩:=hg;rw[z,e] at b3;cases b3;rw[hd] at b6;cases b6
  .rw[z,jM] at b3;cases b3;cases b4
 have fin:∀(f c':Addr) (pm cR:Value) (ps':Array Value) (H1:Hp) (s1:Shared),Inv X pins σ H1 s1->Wh (upd H P (.tbl ps')) H1->TriplesOk ps'.toList->(∀pos cv,codeAmong pos ps'.toList=some cv->∃c,cv= .ref c/\Up H1 q c)->
   H1 f=some (.frz (sW "<lambda>" q par body sc (Wy sc X.env) pm c' cR) (.own 0))->Up H1 q c'->EP X pins σ Q (.ref f) s1:=by
  intro f c' pm cR ps' H1 s1 I1 S1 t1 c1 hf h8;have cl:∀p∈Wy sc X.env,X.env.cells.lookup p.1=some p.2/\X.zn p.1=true/\X.fn p.1=false:=λp hp=>by
   refine⟨zbj (cs:=[]) (λp hp=>nomatch hp) p hp,?_⟩;rcases zdg hp with z|z
   .cases z
   .exact S.all _ z rfl
  obtain⟨H2,I2,S2,f2⟩:=I1.freezeL (Wy sc X.env) cl;refine⟨.ref f,H2,I2,rfl,k f ps' H2 (λb u e=>S2 b u (S1 b u e)) t1 (λp cv e=> ?_) ⟨Wy sc X.env,pm,cR,c',by rw[show xR.q ⟨id,par,body,sc,tn,fr⟩=q from kO];exact S2 _ _ hf,by rw[show xR.q ⟨id,par,body,sc,tn,fr⟩=q from kO];exact h8.mono (vw.same S2),λi x v e1 e2=> ?_,λx y a e1 e2=> ?_,λy hy e=> ?_,λx a e=> ?_⟩⟩
  .obtain⟨d,e1,e2⟩:=c1 p cv e;exact⟨d,e1,e2.mono (vw.same S2)⟩
  .obtain⟨h1,n,h2,h3⟩:=S.fre i x e1;have hm:(x,NameKind.free)∈sc.names:=rZ h1;have hs:σ[n]? =some (some v):=by
    have e:=congrArg (λl=>l[i]?) oo;simp only[qY,h2,e2,sE,rJ] at e;cases q:σ[n]? with
    |none=>rw[q] at e;cases e
    |some z=>rw[q] at e;exact congrArg some e
   obtain⟨m,hn,hl⟩:=I2.loc;have hk:=S.blk.free _ hm rfl;obtain⟨u,r,l⟩:=hl n x v h3 hs (by rcases hk with k|k;exact .inr (.inl k);exact .inr (.inr k));rcases l with⟨k',_⟩|⟨_,a,ha,o,ho,hd⟩
   .rcases hk with k''|k''
    .rw[k'] at k'';cases k''
    .rw[k'] at k'';cases k''
   .have jI:(Wy sc X.env).lookup x=some a:=UX hm ha;obtain⟨o',e3,e4⟩:=f2 (x,a) (rZ jI);rw[ho] at e4;cases e4;exact⟨a,o,u,jI,e3,hd,r⟩
  .exact I1.ok.inj x y a (wI e1) (wI e2)
  .obtain⟨a,ha⟩:=I1.ok.has y.1 (S.blk.free y hy e);exact⟨a,UX (by rw[<-e];exact hy) ha⟩
  .obtain⟨o,e3,e4⟩:=f2 (x,a) (rZ e);obtain⟨u,o',e5,hd⟩:=I2.cell x a (wI e);rw[e4] at e5;cases e5;exact⟨o,u,e3,hd⟩
 refine PySem.W.kla_eval gY ?_;rw[hq];cases lE:codeAmong pos ps.toList with
 |none=>
  refine PySem.W.kla_makeFunction (I.closure S.blk) I.ok.glob hg eK C jM ht lE pf hb λc' cR h' tk hx jE di kN oE=> ?_;obtain⟨c₂,oc,fs,t,e2,jv,hd,hv⟩:=kN;cases e2;have I1:=I.lamMade (t':=tk) (h':=h'.push (sW "<lambda>" q par body sc (Wy sc X.env) ((X.mg "__name__").getD .none) c' cR)) (fo:=sW "<lambda>" q par body sc (Wy sc X.env) ((X.mg "__name__").getD .none) c' cR) (more:= #[rawInt pos.line,rawInt pos.col,.ref c']) hP (λb o fS e=>Heap.get?_push_of_some _ (hx b o fS e)) (Heap.get?_push_of_some _ oE) jE (Heap.get?_push_of_some _ jv) (rk jE (rS di)) (Heap.get?_push_size _ rfl) (rA di);have jo:P<s.heap.objs.size:=(I.hok P _ hP).lt;have S1:Wh (upd H P (.tbl (ps++ #[rawInt pos.line,rawInt pos.col,.ref c']))) (upd (upd (upd H P (.tbl (ps++ #[rawInt pos.line,rawInt pos.col,.ref c']))) c' (.frz oc (.own 0))) h'.objs.size (.frz (sW "<lambda>" q par body sc (Wy sc X.env) ((X.mg "__name__").getD .none) c' cR) (.own 0))):=λb u e=>by
   have fS:b<s.heap.objs.size:=by
    by_cases fS:b=P
    .rw[fS];exact jo
    .rw[zO fS] at e;exact (I.hok b u e).lt
   rw[zO (rA (rD fS (rk jE (rS di)))),zO (rA (rD fS jE))];exact e
  have jJ:Up (upd (upd (upd H P (.tbl (ps++ #[rawInt pos.line,rawInt pos.col,.ref c']))) c' (.frz oc (.own 0))) h'.objs.size (.frz (sW "<lambda>" q par body sc (Wy sc X.env) ((X.mg "__name__").getD .none) c' cR) (.own 0))) q c':=⟨oc,fs,t,by rw[zO (rA di),zZ],hd,hv⟩;refine fin _ c' _ cR _ _ _ I1 S1 (by rw[Aj];exact TriplesOk_snoc _ _ _ _ ht) (λp cv e=> ?_) zZ jJ;rw[Aj] at e;rcases zgp ps.toList ht e with e|rfl
  .obtain⟨d,e1,oc',fs',t',e2,r⟩:=fw p cv e;refine⟨d,e1,oc',fs',t',S1 _ _ ?_,r⟩;rw[zO (λz=>by rw[z,hP] at e2;cases e2)];exact e2
  .exact⟨c',rfl,jJ⟩
 |some cv=>
  obtain⟨c',rfl,jJ⟩:=fw pos cv lE;refine PySem.W.kla_makeFunctionHit (I.closure S.blk) I.ok.glob hg eK C jM ht lE hb λcR h' tk hk hsz=> ?_;have n8:H h'.objs.size=none:=I.hok.fresh hsz;have I1:=I.laid (t':=tk) (a:=h'.objs.size) (o:= .frz (sW "<lambda>" q par body sc (Wy sc X.env) ((X.mg "__name__").getD .none) c' cR) (.own 0)) (λb o e=>Heap.get?_push_of_some _ (hk b o e)) hsz ⟨Heap.get?_push_size _ rfl,_,Heap.get?_push_size _ rfl⟩;have S1:Wh H (upd H h'.objs.size (.frz (sW "<lambda>" q par body sc (Wy sc X.env) ((X.mg "__name__").getD .none) c' cR) (.own 0))):=Zi n8;refine fin _ c' _ cR ps _ _ I1 (λb u e=>S1 b u ?_) ht (λp cv e=> ?_) zZ (jJ.mono (vw.same S1))
  .by_cases fS:b=P
   .subst fS;rw[zZ] at e;cases e;exact hP
   .rw[zO fS] at e;exact e
  .obtain⟨d,e1,e2⟩:=fw p cv e;exact⟨d,e1,e2.mono (vw.same S1)⟩
noncomputable def zdh (P:Program) (w:World) (K:qP) (mg:Str->Option Value) (base:Heap) (N:List Str) (L:xR) (b7:List (Str×Addr)) (f c:Addr) (A:Around) (outer:List Env) (s:Shared) (H:Hp):Cx where
 prog:=P
 w:=w
 K:=K
 mg:=mg
 base:=base
 A:=A.deeper (y6 L.q L.sc s.heap.objs.size f (.ref c) b7)
 N:=N
 s₀:=s
 H₀:=H
 env:=y6 L.q L.sc s.heap.objs.size f (.ref c) b7
 outer:=outer
 stack:=y6 L.q L.sc s.heap.objs.size f (.ref c) b7::outer
 ex:=[]
 calm:=true
 fn:=λ_=>false
 zn:=λ_=>false
 pn:=[]
 xe:=λ_ _=>False
structure zfc (ps fr:List Str) (sc:Scope):Prop where
 kind:sc.kind= .function
 co:sc.isCoroutine=false
 gen:sc.isGenerator=false
 nd:ps.Nodup
 par:∀x∈ps,sc.names.lookup x=some .local
 fre:∀x∈fr,sc.names.lookup x=some .free
 noc:∀y∈sc.names,y.2≠ .cell
theorem To {x:Str} {u:Value}:∀{l:List (Str×Value)},(l.map (·.1)).Nodup->(x,u)∈l->l.lookup x=some u
 |[],_,h=>by cases h
 |(y,v)::r,nd,h=>by
  rw[rC,sU] at nd;rw[sq];rcases rQ.mp h with h'|h'
  .cases h';simp
  .have:x≠y:=by
    intro z;subst z;exact nd.1 (tS.mpr ⟨_,h',rfl⟩)
   rw[show (x==y)=false by simpa using this];exact To nd.2 h'
theorem zj6 {ps:List Str} {us:List Value} {i:Nat} {x:Str} {u:Value} (nd:ps.Nodup) (hl:us.length=ps.length) (h1:ps[i]? =some x) (h2:us[i]? =some u):(ps.zip us).reverse.lookup x=some u:=by
 refine To ?_ (List.mem_reverse.mpr (qS (i:=i) ?_))
 .rw[AF,(List.reverse_perm _).nodup_iff,List.map_fst_zip ⋯];exact nd
 .rw[x5];exact⟨h1,h2⟩
def CL (outer:List Env) (P:Program) (w:World) (H:Hp) (s:Shared) (Q:VK) (r:Result) (s':Shared):Prop:=match r with
 | .ok (.ret u)=>CE outer P w H s Q u s'
 |_=>False
theorem zlG {P:Program} {w:World} {K:qP} {mg:Str->Option Value} {base:Heap} {L:xR} {ps:List Str} {k:Nat} (S:zfc ps L.fr L.sc)
  (hb:∀(b7:List (Str×Addr)) (pm cR:Value) (c:Addr) (us:List Value),us.length=ps.length->bindArgs (AZ "<lambda>" L.q L.par L.body L.sc b7 pm (.ref c) cR) ⟨us,[]⟩=pure (ps.zip us))
  {A:Around} {outer:List Env} {s:Shared} {H:Hp} {f:Addr} {vs as:List V} {us:List Value} {Q:VK} (hr:wG (k+1) A) (e0:zcn P w K mg base A outer s H) (hL:zbq H L f vs) (oq:vs.length=L.fr.length) (r:yr as us) (hl:as.length=ps.length)
  (d4:∀(b7:List (Str×Addr)) (c:Addr),wG k (zdh P w K mg base (ps++L.fr) L b7 f c A outer s H).A->∃t,PE (zdh P w K mg base (ps++L.fr) L b7 f c A outer s H) L.body t/\t ((as++vs).map some) H Q):
  codeAny (model P w) A (.call (.ref f) ⟨us,[]⟩) (CL outer P w H s Q) s:=by
 obtain⟨b7,pm,cR,c,h1,⟨oc,fs,t,iu,eL,jL⟩,h3,h4,h5,h6⟩:=hL.ex;have ig:=(e0.hok f _ h1).1;have iq:=(e0.hok c _ iu).1;have lim:s.heap.NoLimit:=e0.mod.nolimit.keeps λb o e=>(e0.bs b o e).1;have mN:us.length=ps.length:=by rw[<-r.length];exact hl
 refine PySem.W.kla_callFunE hr.depth ig rfl S.co S.gen rfl ⟨c,oc,fs,t,rfl,iq,eL,jL⟩ ?_;rw[hb b7 pm cR c us mN];refine wpAny_pure (wpAny_newFunctionEnv S.noc (λy hy=>S.par _ (uc hy).1) (λh₁ df fW=>⟨lim.fresh _ fW,?_⟩) S.kind);show codeAny _ _ (.expr L.body (y6 L.q L.sc s.heap.objs.size f (.ref c) b7)) _ _;have hk:∀b o,s.heap.get? b=some o->h₁.get? b=some o:=λb o e=>fW.extBut b o (rA (Heap.lt_size e)) (Heap.get?_push_of_some _ e);have fT:∀b:Addr,b∉(zdh P w K mg base (ps++L.fr) L b7 f c A outer s H).ex:=λb z=>absurd (show b∈([]:List Addr) from z) (by simp);have I:Inv (zdh P w K mg base (ps++L.fr) L b7 f c A outer s H) [] ((as++vs).map some) H {s with heap:=h₁,toks:=s.toks+(ps.zip us).length}:=by
  refine⟨⟨e0.mod,S.kind,rfl,rfl,qT _,λy z a e1 e2=>h4 y z a e1 e2,λy hy=> ?_,λy a z _=>(z.elim (λz=>tU z) λz=>tU z),λ_=>hr.hd,Around.frames_deeper e0.frames,.inr ⟨rfl,rfl⟩,λb z=>absurd z (fT b),e0.bs,e0.bsz,λb _ _=>fT b,λb z=>absurd z (fT b),e0.funs,e0.frf⟩,
   rfl,e0.bare,Un.kept hk,⟨_,df,λi y v e1 e2 e3=> ?_⟩,λy a e=> ?_,e0.hok.fresh (qT _),λy a e=> ?_,λp hp=>absurd (show p∈([]:List (Addr×Obj)) from hp) (by simp),e0.hok.kept hk,?_⟩
  .have hy:L.sc.names.lookup y=some .cell\/L.sc.names.lookup y=some .free:=hy;rcases hy with hy|hy
   .exact absurd rfl (S.noc _ (rZ hy))
   .exact h5 _ (rZ hy) rfl
  .have e1:(ps++L.fr)[i]? =some y:=e1;rw[qY,rg] at e2;obtain⟨v',e2,nE⟩:=e2;cases nE;by_cases hi:i<ps.length
   .rw[qR hi] at e1;rw[qR ⋯] at e2;obtain⟨u,hu,rv⟩:=r.get e2;exact⟨u,rv,.inl ⟨S.par y (qS e1),zj6 S.nd mN e1 hu⟩⟩
   .rw[qU ⋯] at e1;rw[qU ⋯,hl] at e2;obtain⟨a,o,u,g1,g2,g3,g4⟩:=h3 _ _ _ e1 e2;exact⟨u,g4,.inr ⟨.inr (S.fre y (qS e1)),a,g1,o,hk _ _ (e0.hok a _ g2).1,g3⟩⟩
  .obtain⟨o,u,g2,g3⟩:=h6 y a e;exact⟨u,o,hk _ _ (e0.hok a _ g2).1,g3⟩
  .obtain⟨o,u,g2,g3⟩:=h6 y a e;exact .inr ⟨rfl,o,g2⟩
  .show _=(ps++L.fr).length;rw[qV,rd,rd,hl,oq]
 obtain⟨tt,ht,hq⟩:=d4 b7 c (hr.deeper _);refine PySem.W.kla_codeExpr (wpAny_mono (ht [] _ _ H Q I hq) (λu s' hs=> ?_) λe s' z=>sv z);obtain⟨v,H',J,rv,q⟩:=hs;exact⟨v,H',J.os,J.bare,J.base,J.hok,rv,q⟩
def FnG (H:Hp) (x:V) (f:Addr):Prop:=x= .ref f/\∃(fd:FuncData),H f=some (.frz {cls:= .type "function",data:= .func fd} (.own 0))
def zpi (P:Program) (w:World) (K:qP) (mg:Str->Option Value) (base:Heap) (k:Nat) (R:V->List V->Hp->VK->Prop):Prop:=
 ∀(A:Around) (outer:List Env) (s:Shared) (H:Hp) (f:Addr) (as:List V) (us:List Value) (Q:VK),wG k A->zcn P w K mg base A outer s H->yr as us->R (.ref f) as H Q->codeAny (model P w) A (.call (.ref f) ⟨us,[]⟩) (CL outer P w H s Q) s
def zj7 (i:Nat) (R:V->List V->Hp->VK->Prop) (t:TA):TE:=λσ H Q=>∃x f,σ[i]? =some (some x)/\FnG H x f/\t σ H λas H2=>FnG H2 x f/\R x as H2 Q
theorem FnG.at {P:Program} {w:World} {H:Hp} {h:Heap} {x:V} {f:Addr} (g:FnG H x f) (hok:HOk P w H h):PySem.W.FnAt f h:=by
 obtain⟨_,fd,e⟩:=g;exact⟨_,_,_,_,(hok f _ e).1⟩
theorem zbT {X:Cx} {i k:Nat} {x:Str} {p pos:Pos} {e:Expr} {es:List Expr} {t:TA} {R:V->List V->Hp->VK->Prop} (hN:X.N[i]? =some x) (hv:Vis X.env.scope x) (F:zpi X.prog X.w X.K X.mg X.base k R) (hr:wG k X.A) (ha:PA X (e::es) t)
  (hd:(x==("__debug__":Str))=false:=by decide) (cQ:(x==("__classdict__":Str))=false:=by decide) (he:starEach (e::es) X.env=(false,eval e X.env)::starEach es X.env:=by rfl) (dH:(backTo pos (starEach es X.env)).any (·.1)=false:=by rfl):
  PE X (.Call (.Name x p) (e::es) [] pos) (zj7 i R t):=by
 intro pins s σ H Q I h;obtain⟨v,f,hs,hf,ht⟩:=h;obtain⟨rfl,_⟩:=id hf;refine wpAny_Call_Name_kw ?_;have hx:= @ziF X i x p hN hv hd cQ pins s σ H (λy H1=>y= .ref f/\H1=H) I ⟨.ref f,hs,rfl,rfl⟩;refine thn hx ?_;rintro u s1 ⟨y,H1,I1,r1,e1,e2⟩;subst e1;rw[e2] at I1;obtain rfl:u=Value.ref f:=r1;refine PySem.W.callWith_F (hf.at I1.hok) (thn (ha pos pins s1 σ H _ I1 ht) ?_) he dH;rintro us s2 ⟨as,H2,I2,r2,dO,q2⟩;refine⟨dO.at I2.hok,?_⟩;refine wpAny_call (codeAny_mono (F X.A X.stack s2 H2 f as us Q hr I2.env0 r2 q2) λr s' hq=> ?_);cases r with
 |error e=>exact sv hq
 |ok fl=>
  cases fl with
  |ret u=>exact I2.after hq
  |next=>exact sv hq
  |brk=>exact sv hq
  |cont=>exact sv hq
noncomputable def zgq (ρ:Rho):List Nat->Option (List Xv)
 |[]=>some []
 |i::r=>(ρ[i]?).join.bind λx=>(zgq ρ r).map (x:: ·)
noncomputable def zd4 (L:xR) (n:Nat) (is:List Nat):TwE:=λρ S=>match S[n]? with
 |some (.tab t)=> @ite _ (t=L.t) (uh _) ((zgq ρ is).map λxs=> .ok (.lam L xs) S) none
 |_=>none
noncomputable def Wn:List (xR×(List Xv->TwF))->xR->Option (List Xv->TwF)
 |[],_=>none
 |(M,t)::r,L=> @ite _ (M=L) (uh _) (some t) (Wn r L)
noncomputable def UG (fns:List (xR×(List Xv->TwF))) (i:Nat) (ms:List TwE):TwE:=λρ S=>match (ρ[i]?).join with
 |some (.lam L bw)=>rb (evL ms ρ S) λxs S1=>(Wn fns L).bind λtw=>match tw bw xs S1 with
  |some (.ok x S2)=>some (.ok x S2)
  |_=>none
 |_=>none
noncomputable def zd5 (n m:Nat) (e:TwE):List Xv->TwF:=λbw xs S=>if xs.length=n/\bw.length=m then e ((xs++bw).map some) S else none
section
variable {K:qP} {E:XK} {F:Fm} {j:List Addr} {H H':Hp} {σ:St} {ρ:Rho} {S:Sto}
theorem Tp {L:xR} {t:List Xv->TwF} {r:List (xR×(List Xv->TwF))}:Wn ((L,t)::r) L=some t:=by unfold Wn;exact if_pos rfl
theorem zd6 {L M:xR} {t:List Xv->TwF} {r:List (xR×(List Xv->TwF))} (h:M.id≠L.id):Wn ((M,t)::r) L=Wn r L:=by
 rw[Wn];exact if_neg λz=>h (congrArg xR.id z)
theorem zfd {L:xR} {t:List Xv->TwF}:∀{fns:List (xR×(List Xv->TwF))},Wn fns L=some t->(L,t)∈fns
 |[],h=>by cases h
 |(M,u)::r,h=>by
  unfold Wn at h;by_cases e:M=L
  .rw[if_pos e] at h;cases h;rw[e];exact rE
  .rw[if_neg e] at h;exact r9 _ (zfd h)
theorem En.writeS {n:Nat} {a:Addr} {c c':Ce} {o:HO} (E1:En K F j H σ ρ S) (hs:S[n]? =some c) (z:c.fz=false) (hj:j[n]? =some a) (Sm:Wh (upd H a o) H') (hc:zbr K j H' a c'):En K F j H' σ ρ (S.set n c')/\Ext j H j H':=by
 obtain⟨o0,h0,m0⟩:=(E1.cel n c a hs hj).mu z;have S1:Wh H (upd H' a o0):=λb u e=>by
  by_cases hb:b=a
  .subst hb;rw[zZ];rw[h0] at e;exact e
  .rw[zO hb];exact Sm b u (by rw[zO hb];exact e)
 have e2:upd (upd H' a o0) a o=H':=by
  funext b;by_cases hb:b=a
  .subst hb;rw[zZ];exact (Sm b o zZ).symm
  .rw[zO hb,zO hb]
 have E2:=E1.heap S1;obtain⟨E3,X3⟩:=E2.writeF (o:=o) (c':=c') hs z hj (λX=>by rw[e2];exact hc);rw[e2] at E3 X3;exact⟨E3,(Ext.same S1).trans X3⟩
theorem zfe (E1:En K F j H σ ρ S):∀{is:List Nat} {xs:List Xv},zgq ρ is=some xs->∃vs,is.map (λi=>(σ[i]?).join)=vs.map some/\yu K j H xs vs
 |[],xs,h=>by cases h;exact⟨[],rfl,.nil⟩
 |i::r,xs,h=>by
  unfold zgq at h;cases e:(ρ[i]?).join with
  |none=>rw[e] at h;cases h
  |some x=>
   rw[e] at h;dsimp only[tZ] at h;cases e2:zgq ρ r with
   |none=>rw[e2] at h;cases h
   |some ys=>
    rw[e2] at h;cases h;obtain⟨vs,h1,h2⟩:=zfe E1 e2;have e':ρ[i]? =some (some x):=by
     cases q:ρ[i]? with
     |none=>rw[q] at e;cases e
     |some z=>rw[q] at e;exact congrArg some e
    obtain⟨v,h3,h4⟩:=E1.slot i x e';exact⟨v::vs,by simp[h3,h1],.cons h4 h2⟩
theorem zbU {L:xR} {n:Nat} {is:List Nat} {c P:Addr} (hP:Yv K L.t=some (c,P)):RE K E (zn4 L P is) (zd4 L n is):=by
 intro F j σ H ρ S r Q En0 e k;unfold zd4 at e;split at e
 .rename_i t es;by_cases ht:t=L.t
  .rw[if_pos ht] at e;subst ht;cases e2:zgq ρ is with
   |none=>rw[e2] at e;cases e
   |some xs=>
    rw[e2] at e;cases e;have hn:n<j.length:=by rw[En0.jl];exact (qO.1 es).1
    have hj:j[n]? =some j[n]:=qN hn;obtain⟨ps,d,hH,htk,fj,fw⟩:=En0.cel n _ _ es hj;rw[hP] at htk;cases htk;obtain⟨vs,h1,h2⟩:=zfe En0 e2;refine⟨ps,vs,hH,fj,fw,h1,λf ps' H' Sm t' c' la=> ?_⟩;obtain⟨E2,X2⟩:=En0.writeS (c':= .tab L.t) es rfl hj Sm ⟨ps',c,Sm _ _ zZ,hP,t',c'⟩;have kL:S.set n (.tab L.t)=S:=by
     apply tQ;intro m;rw[rK];split
     .rename_i q;subst q;rw[if_pos (qO.1 es).1,es]
     .rfl
    rw[kL] at E2;exact k _ _ X2 E2 _ (.lam la (h2.mono X2))
  .rw[if_neg ht] at e;cases e
 .cases e
def zpj (K:qP) (fns:List (xR×(List Xv->TwF))):V->List V->Hp->VK->Prop:=λx as H Q=>∃(j:List Addr) (S S':Sto) (xs bw:List Xv) (L:xR) (tw:List Xv->TwF) (z:Xv),
 En K ⟨H,j,S⟩ j H (as.map some) (xs.map some) S/\Xis K j H (.lam L bw) x/\Wn fns L=some tw/\tw bw xs S=some (.ok z S')/\∀v j' H' σ ρ,En K ⟨H,j,S⟩ j' H' σ ρ S'->Xis K j' H' z v->Q v H'
def Xw (P:Program) (w:World) (K:qP) (mg:Str->Option Value) (base:Heap) (k:Nat) (L:xR) (tw:List Xv->TwF):Prop:=∀(A:Around) (outer:List Env) (s:Shared) (H:Hp) (f:Addr) (vs as:List V) (us:List Value) (Q:VK) (j:List Addr) (S S':Sto) (xs bw:List Xv) (z:Xv),
 wG k A->zcn P w K mg base A outer s H->zbq H L f vs->yu K j H bw vs->yr as us->En K ⟨H,j,S⟩ j H (as.map some) (xs.map some) S->tw bw xs S=some (.ok z S')->
 (∀v j' H' σ ρ,En K ⟨H,j,S⟩ j' H' σ ρ S'->Xis K j' H' z v->Q v H')->codeAny (model P w) A (.call (.ref f) ⟨us,[]⟩) (CL outer P w H s Q) s
theorem Xw.mono {P:Program} {w:World} {mg:Str->Option Value} {base:Heap} {i k:Nat} {L:xR} {tw:List Xv->TwF} (h:Xw P w K mg base i L tw) (hk:i<=k):Xw P w K mg base k L tw:=
 λA outer s H f vs as us Q j S S' xs bw z hr=>h A outer s H f vs as us Q j S S' xs bw z (hr.mono hk)
theorem zd7 {P:Program} {w:World} {mg:Str->Option Value} {base:Heap} {k:Nat} {fns:List (xR×(List Xv->TwF))} (h:∀p∈fns,Xw P w K mg base k p.1 p.2):zpi P w K mg base k (zpj K fns):=by
 rintro A outer s H f as us Q hr e0 r ⟨j,S,S',xs,bw,L,tw,z,E1,hx,hp,ht,q⟩;cases hx with
 |lam la l=>exact h (L,tw) (zfd hp) A outer s H f _ as us Q j S S' xs bw z hr e0 la l r E1 ht q
theorem zbV {P:Program} {w:World} {mg:Str->Option Value} {base:Heap} {k n mm:Nat} {L:xR} {ps:List Str} {m:TwE} (Sc:zfc ps L.fr L.sc) (hn:ps.length=n) (hm:L.fr.length=mm)
  (hb:∀(b7:List (Str×Addr)) (pm cR:Value) (c:Addr) (us:List Value),us.length=ps.length->bindArgs (AZ "<lambda>" L.q L.par L.body L.sc b7 pm (.ref c) cR) ⟨us,[]⟩=pure (ps.zip us))
  (mR:∀(b7:List (Str×Addr)) (f c:Addr) (A:Around) (outer:List Env) (s:Shared) (H:Hp),wG k (zdh P w K mg base (ps++L.fr) L b7 f c A outer s H).A->∃t,PE (zdh P w K mg base (ps++L.fr) L b7 f c A outer s H) L.body t/\RE K E0 t m):
  Xw P w K mg base (k+1) L (zd5 n mm m):=by
 intro A outer s H f vs as us Q j S S' xs bw z hr e0 la l r E1 ht q;unfold zd5 at ht;split at ht
 .rename_i hl;have lH:as.length=xs.length:=by have:=E1.len;simpa using this
  refine zlG Sc hb hr e0 la (by rw[l.len,hl.2,hm]) r (by rw[lH,hl.1,hn]) λb7 c oN=> ?_;obtain⟨t,h1,h2⟩:=mR b7 f c A outer s H oN;refine⟨t,h1,h2 (E1.slots (σ':=(as++vs).map some) (ρ':=(xs++bw).map some) (by simp[lH,l.len]) λi x e=> ?_) ht λj' H' X E' v hv=>q _ _ _ _ _ E' hv⟩;rw[qY,rg] at e;obtain⟨y,e,e'⟩:=e;cases e';by_cases hi:i<xs.length
  .rw[qR hi] at e;obtain⟨v,h3,h4⟩:=E1.slot i x (by rw[qY,e];rfl);rw[qY,rg] at h3;obtain⟨v',h3,jh⟩:=h3;cases jh;exact⟨v,by rw[qY,qR ⋯,h3];rfl,h4⟩
  .rw[qU ⋯] at e;obtain⟨v,h3,h4⟩:=l.get e;exact⟨v,by rw[qY,qU ⋯,lH,h3];rfl,h4⟩
 .cases ht
theorem zbW {fns:List (xR×(List Xv->TwF))} {i:Nat} {t:TA} {ms:List TwE} (h:RL K E t (evL ms)):RE K E (zj7 i (zpj K fns) t) (UG fns i ms):=by
 intro F j σ H ρ S r Q En0 e k;unfold UG at e;split at e
 .rename_i L bw er;have e':ρ[i]? =some (some (.lam L bw)):=by
   cases q:ρ[i]? with
   |none=>rw[q] at er;cases er
   |some z=>rw[q] at er;exact congrArg some er
  obtain⟨v,e1,hx⟩:=En0.slot i _ e';have iK:=hx;cases hx with
  | @lam f vs _ _ la l=>
   obtain⟨b7,pm,cR,c,h1,_⟩:=la.ex;refine⟨.ref f,f,e1,⟨rfl,_,h1⟩,?_⟩;rcases zD e with⟨xs,S1,e2,e⟩|⟨c,S1,e2,rfl⟩
   .refine h En0 e2 λj1 H1 X1 E1 as hv=>⟨⟨rfl,_,X1.imm _ _ h1 rfl⟩,?_⟩;cases hp:Wn fns L with
    |none=>rw[hp] at e;cases e
    |some tw=>
     rw[hp] at e;dsimp only[tZ] at e;split at e
     .rename_i x S2 e3;cases e;obtain⟨l1,s1⟩:=zby hv;refine⟨j1,S1,S2,xs,bw,L,tw,x,E1.enter l1 s1,iK.mono X1,hp,e3,λv j' H' σ' ρ' Ex hz=> ?_⟩;obtain⟨E2,X2⟩:=E1.leave Ex;exact k j' H' (X1.trans X2) E2 v hz
     .cases e
   .exact h En0 e2 k
 .cases e
theorem zbX {L:xR} {n:Nat} {is:List Nat} {xs:List Xv} {P:Xv->Sto->Prop} (h:S[n]? =some (.tab L.t)) (hc:zgq ρ is=some xs) (k:P (.lam L xs) S):W (zd4 L n is ρ S) P:= .of (by
 unfold zd4;rw[h];dsimp only;rw[if_pos rfl,hc]
 rfl) k
theorem zbY {fns:List (xR×(List Xv->TwF))} {i:Nat} {L:xR} {bw:List Xv} {tw:List Xv->TwF} {ms:List TwE} {P:Xv->Sto->Prop} (h:ρ[i]? =some (some (.lam L bw))) (hp:Wn fns L=some tw) (k:W (evL ms ρ S) λxs S1=>W (tw bw xs S1) P):W (UG fns i ms ρ S) P:=by
 unfold UG;rw[h];dsimp only[Option.join];refine W.bind (k.imp λxs S1 k=> ?_);rw[hp];obtain⟨x,S2,e,k⟩:=k;dsimp only[tZ];rw[e];exact .of rfl k
theorem Tq {n m:Nat} {e:TwE} {bw xs:List Xv} {P:Xv->Sto->Prop} (h1:xs.length=n) (h2:bw.length=m) (k:W (e ((xs++bw).map some) S) P):W (zd5 n m e bw xs S) P:=by
 unfold zd5;rw[if_pos ⟨h1,h2⟩];exact k
end
noncomputable def noE:Expr:= .Name Str.empty ⟨0,0,0,0⟩
noncomputable def zj8 (s:Stmt):Expr:=match s with
 | .Return (some e) _=>e
 |_=>noE
noncomputable def zj9 (e:Expr) (i:Nat):Expr:=match e with
 | .Call _ es _ _=>es.getD i noE
 |_=>noE
noncomputable def zka (s:Stmt) (i:Nat):Stmt:=(ZO s).getD i (.Pass ⟨0,0,0,0⟩)
noncomputable def zbZ (e:Expr):Arguments:=match e with
 | .Lambda a _ _ _=>a
 |_=>{posonlyargs:=[],args:=[],vararg:=none,kwonlyargs:=[],kw_defaults:=[],kwarg:=none,defaults:=[]}
noncomputable def Tr (e:Expr):Expr:=match e with
 | .Lambda _ b _ _=>b
 |_=>noE
noncomputable def zff (e:Expr):Scope:=match e with
 | .Lambda _ _ s _=>s
 |_=>{kind:= .function,names:=[],isGenerator:=false,isCoroutine:=false}
theorem YV {K:qP} {f c P:Addr} (h:zjl K f=some (c,P)):tV K c P=true/\∀{oc:Value} {od:Option Addr} {fd:FuncData} {sl:Array (Option Value)},K.lookup f=some ⟨oc,od,.func fd,sl⟩->fd.code= .ref c:=by
 unfold zjl at h;split at h
 .rename_i qI _ e1;split at h
  .rename_i c1 e2;split at h
   .split at h
    .split at h
     .rename_i hd;cases h;refine⟨hd,λe=> ?_⟩;rw[e1] at e;cases e;exact e2
     .cases h
    .cases h
   .cases h
  .cases h
 .cases h
noncomputable def zhn (fz:List Str) (CX:CXT) (P:Program) (w:World) (K:qP) (mg:Str->Option Value) (base:Heap) (N:List Str) (qual:Str) (scope:Scope) (f:Addr) (cd:Value) (A:Around) (outer:List Env) (s:Shared) (H:Hp) (E:XK):Cx:=
 {zco CX P w K mg base N qual scope f cd A outer s H E with fn:=λx=> !fz.contains x,zn:=λx=>fz.contains x}
theorem Inv.toZ {fz:List Str} {CX:CXT} {P:Program} {w:World} {K:qP} {mg:Str->Option Value} {base:Heap} {N:List Str} {qual:Str} {scope:Scope} {f:Addr} {cd:Value} {A:Around} {outer:List Env} {s s1:Shared} {H H1:Hp} {E:XK} {pins:List (Addr×Obj)} {σ:St}
  (I:Inv (zco CX P w K mg base N qual scope f cd A outer s H E) pins σ H1 s1):Inv (zhn fz CX P w K mg base N qual scope f cd A outer s H E) pins σ H1 s1:=
 ⟨⟨I.ok.mod,I.ok.kind,I.ok.glob,I.ok.blt,I.ok.above,I.ok.inj,I.ok.has,λx c _ e=>I.ok.cab x c (.inl rfl) e,I.ok.hd,I.ok.frames,I.ok.stk,I.ok.exf,I.ok.bs,I.ok.bsz,I.ok.noex,I.ok.exfs,I.ok.funs,I.ok.frf⟩,I.os,I.bare,I.base,I.loc,I.cell,I.free,
  λx c e=> .inl ((I.freeC x c e).elim (λz=>z) λz=>tU (show true=false from z.1)),I.pin,I.hok,I.len⟩
theorem Fun.okZ {P:Program} {w:World} {K:qP} {mg:Str->Option Value} {base:Heap} {x qual:Str} {st:Stmt} {f c T:Addr} {fd:FuncData} {N ps:List Str} {k:Nat} {sp:Sp} {fz:List Str} (F:Fun K x qual st f fd) (hT:zjl K f=some (c,T)) (S:zE N ps (zi st)) (len:∀vs H Q E,sp vs H Q E->vs.length=ps.length)
  (d4:∀(A:Around) (outer:List Env) (s:Shared) (H:Hp) (vs:List V) (Q:VK) (E:XK),wG k (A.deeper (envOfC qual (zi st) s.heap.objs.size f (.ref c)))->sp vs H Q E->
   ∃t,PSs (zhn fz (CXE P w) P w K mg base N qual (zi st) f (.ref c) A outer s H E) (ZO st) t/\t {nx:=λ_ H'=>Q .non H',rt:=Q} (Xp N vs) H):yD P w K mg base (CXE P w) (k+1) f fd ps sp:=by
 obtain⟨oc,od,kV,doc,pm,an,aS,ct,eP,rfl,lk,cQ⟩:=F.ex;have hc:aS= .ref c:=(YV hT).2 lk;subst hc;refine⟨len,λA outer s H args us vs Q E hr e0 hb r fV=> ?_⟩;have hl:=len _ _ _ _ fV;have KX:K.In s.heap:=e0.mod.kin.keeps λb o e=>(e0.bs b o e).1;have lim:s.heap.NoLimit:=e0.mod.nolimit.keeps λb o e=>(e0.bs b o e).1;have fq:∀y∈ps.zip us,(zi st).names.lookup y.1=some .local\/((zi st).names.lookup y.1=some .cell/\((cellsFrom (s.heap.objs.size+1) (zi st).names []).lookup y.1).isSome=true):=λ⟨n,v⟩ hy=>by
  rcases S.par n (uc hy).1 with q|q
  .exact .inl q
  .exact .inr ⟨q,uv _ _ _ (.inl q)⟩
 refine codeAny_call_function hr.depth (KX _ _ lk) rfl S.co S.gen rfl (An KX cQ) (hb _ _ _ _ ?_);refine wpAny_newFunctionEnv_cells S.kind fq λenv he s1 x=> ?_;subst he;refine⟨lim.keeps x.toInCall.keep,codeAny_func ?_⟩;obtain⟨t,ht,hq⟩:=d4 A outer s H vs Q E (hr.deeper _) fV;have I:Inv (zhn fz (CXE P w) P w K mg base N qual (zi st) f (.ref c) A outer s H E) [] (Xp N vs) H s1:=(zcW S hr.hd e0 hl r x).toZ;refine wpAny_mono (ht [] s1 (Xp N vs) H _ I hq) (λfl s' hs=> ?_) λe s' hs=>hs;have fin:∀{σ':St} {H':Hp} {v:V} {u:Value},Inv (zhn fz (CXE P w) P w K mg base N qual (zi st) f (.ref c) A outer s H E) [] σ' H' s'->yn v u->Q v H'->CE outer P w H s Q u s':=
  λ{σ' H' v u} J rv q=>⟨v,H',J.os,J.bare,J.base,J.hok,rv,q⟩
 cases fl with
 |ret u=>
  obtain⟨v,σ',H',J,rv,q⟩:=hs;exact fin J rv q
 |next=>
  obtain⟨σ',H',J,q⟩:=hs;exact fin (v:=V.non) (u:=Value.none) J rfl q
 |brk=>
  obtain⟨_,_,_,q⟩:=hs;exact sv q
 |cont=>
  obtain⟨_,_,_,q⟩:=hs;exact sv q
noncomputable def zkb (osc sc:Scope) (N fz fr:List Str) (is:List Nat):Bool:=zje osc sc&&fr.length==is.length&&(fr.zip is).all (λp=>sc.names.lookup p.1==some .free&&N[p.2]? ==some p.1)&&sc.names.all (λy=>y.2 != .free||fz.contains y.1)
theorem Tt {X:Cx} {osc sc:Scope} {N fz fr:List Str} {is:List Nat} (hs:X.env.scope=osc) (hN:X.N=N) (hf:X.fn=λx=> !fz.contains x) (hz:X.zn=λx=>fz.contains x) (h:zkb osc sc N fz fr is=true):zn3 X sc fr is:=by
 unfold zkb at h;simp only[rV,sr,beq_iff_eq,bne_iff_ne,ne_eq,uK] at h;obtain⟨⟨⟨h1,h2⟩,h3⟩,h4⟩:=h;refine⟨blk hs h1,λi x e=> ?_,λy hy e=> ?_⟩
 .have hi:i<is.length:=by rw[<-h2];exact (qO.1 e).1
  have e2:is[i]? =some is[i]:=qN hi;obtain⟨g1,g2⟩:=h3 (x,is[i]) (qS (i:=i) (by rw[x5];exact⟨e,e2⟩));exact⟨g1,is[i],e2,by rw[hN];exact g2⟩
 .have g:=(h4 y hy).resolve_left λz=>z e;rw[hf,hz];exact⟨g,by dsimp only;rw[g];rfl⟩
theorem Tu {X:Cx} {L:xR} {e:Expr} {pos:Pos} {is:List Nat} {c P:Addr} (S:zn3 X L.sc L.fr is) (hq:X.env.qual=L.t.d++".<locals>.") (eK:X.env.code= .ref c) (hC:tV X.K c P=true)
  (hL:e= .Lambda L.par L.body L.sc pos:=by rfl) (gY:defaultsOf L.par X.env=([],[]):=by rfl):PE X e (zn4 L P is):=by
 rw[hL];exact zn5 (id:=L.id) S hq eK hC gY
section
variable {P:Program} {w:World} {K:qP} {mg:Str->Option Value} {base:Heap} {k i:Nat}
theorem zb0:∀p∈([]:List (xR×(List Xv->TwF))),Xw P w K mg base k p.1 p.2:=λp hp=>nomatch hp
theorem Wo {L:xR} {tw:List Xv->TwF} {fns:List (xR×(List Xv->TwF))} (h:Xw P w K mg base i L tw) (hk:i<=k) (r:∀p∈fns,Xw P w K mg base k p.1 p.2):∀p∈(L,tw)::fns,Xw P w K mg base k p.1 p.2:=λp hp=>by
 rcases rQ.mp hp with rfl|hp
 .exact h.mono hk
 .exact r p hp
end
noncomputable def WL (nm m:Str) (tw:TwF) (o:TwE) (ms:List TwE):TwE:=λρ S=>rb (o ρ S) λx S1=>(zbQ S1 x nm).bind λp=>if p.2.lookup m=none then rb (evL ms ρ S1) λxs S2=>(match tw (x::xs) S2 with
  |some (.ok y S3)=>some (.ok y S3)
  |_=>none) else none
section
variable {K:qP} {E:XK} {C:Addr} {nm m:Str} {ρ:Rho} {S:Sto}
theorem Wp {n:Nat} {tw:TwF} {o:TwE} {to:TE} {ms:List TwE} {t:TA} (df:rz K mainGlobals nm=some (some (.ref C))) (ho:RE K E to o) (h:RL K E t (evL ms)) (hn:ms.length+1=n:=by rfl):RE K E (ziU C m (sTw K n tw) [] E0 to t) (WL nm m tw o ms):=by
 intro F j σ H ρ S r Q En0 e k;rcases zD e with⟨x,S1,e1,e⟩|⟨c,S1,e1,rfl⟩
 .refine ho En0 e1 λj1 H1 X1 E1 u hu=> ?_;rw[rB] at e;obtain⟨⟨q,fs⟩,e2,e⟩:=e;dsimp only at e;split at e
  .rename_i kW;obtain⟨a,dx,jQ,rfl,hj,f1,f2⟩:=E1.ins df hu e2;refine⟨a,dx,jQ,rfl,f1,f2.look.2 kW,?_⟩;rcases zD e with⟨xs,S2,e3,e⟩|⟨c,S2,e3,rfl⟩
   .refine h E1 e3 λj2 H2 X2 E2 vs hv=> ?_;rw[tF];split at e
    .rename_i y S3 e4;cases e;exact VW E2 (.cons (hu.mono X2) hv) (by rw[ra,hv.len,WG e3,hn]) e4 (λj' H' X E3 v hw=>k _ _ ((X1.trans X2).trans X) E3 v hw)
    .cases e
   .exact h E1 e3 (k.step X1)
  .cases e
 .exact ho En0 e1 k
theorem Vy {tw:TwF} {o:TwE} {ms:List TwE} {P:Xv->Sto->Prop} (h:W (o ρ S) λx S1=>∃n fs,x= .ref n/\S1[n]? =some (.ins nm fs)/\fs.lookup m=none/\W (evL ms ρ S1) λxs S2=>W (tw (x::xs) S2) P):W (WL nm m tw o ms ρ S) P:=
 W.bind (h.imp λx S1 h=>by
  obtain⟨n,fs,rfl,e1,e2,k⟩:=h;have e3:zbQ S1 (.ref n) nm=some (n,fs):=by unfold zbQ;simp[e1]
  rw[e3,r0];dsimp only;rw[if_pos e2];refine W.bind (k.imp λxs S2 k=> ?_);obtain⟨y,S3,e,k⟩:=k;rw[e]
  exact .of rfl k)
end
theorem Wq {K:qP} {C m d:Str} {g f:Addr} (h1:rz K mainGlobals C=some (some (.ref g))) (h2:rF K (.ref g) m=some (some (.ref f))) (h:(Yv K ⟨some C,m,d⟩).isSome=true):∃c P,zjl K f=some (c,P)/\Yv K ⟨some C,m,d⟩=some (c,P):=by
 obtain⟨⟨c,P⟩,e⟩:=sD.1 h;refine⟨c,P,?_,e⟩;unfold Yv zjk at e;dsimp only at e;rw[h1] at e;dsimp only at e;rw[h2] at e;exact e
noncomputable def Vz (K:qP) (cT:List Ug):List Addr:=cT.filterMap λt=>(Yv K t).map (·.2)
noncomputable def zd8:List Addr->Bool
 |[]=>true
 |a::r=> !r.contains a&&zd8 r
noncomputable def zdi (K:qP) (ts:List Addr) (cT:List Ug):Bool:=cT.all (λt=>match Yv K t with
 |some (_,P)=>ts.contains P&&(K.lookup P).isNone
 |none=>false)&&zd8 (Vz K cT)
theorem zdj:∀{l:List Addr},zd8 l=true->l.Nodup
 |[],_=>A6
 |a::r,h=>by
  unfold zd8 at h;simp only[rV,Bool.not_eq_true',Ab,decide_eq_false_iff_not] at h;exact sU.mpr ⟨h.1,zdj h.2⟩
structure zlH (K:qP) (ts:List Addr) (cT:List Ug) (c7:List Addr):Prop where
 at_:∀(i:Nat) t,cT[i]? =some t->∃c P,c7[i]? =some P/\Yv K t=some (c,P)
 len:c7.length=cT.length
 nd:c7.Nodup
 sub:∀P∈c7,P∈ts/\K.lookup P=none/\∃t c,Yv K t=some (c,P)
theorem zho {K:qP} {ts:List Addr} {cT:List Ug} (h:zdi K ts cT=true):zlH K ts cT (Vz K cT):=by
 unfold zdi at h;rw[rV,sr] at h;obtain⟨h1,h2⟩:=h;have key:∀(l:List Ug),(∀t∈l,t∈cT)->(∀(i:Nat) t,l[i]? =some t->∃c P,(Vz K l)[i]? =some P/\Yv K t=some (c,P))/\(Vz K l).length=l.length/\∀P∈Vz K l,P∈ts/\K.lookup P=none/\∃t c,Yv K t=some (c,P):=by
  intro l
  induction l with
  |nil=>intro _;exact⟨λi t e=>by simp at e,rfl,λP hP=>by cases hP⟩
  |cons t r ih=>
   intro hs;obtain⟨g1,g2,g3⟩:=ih λt ht=>hs t (r9 _ ht);have ht:=h1 t (hs t rE);cases e:Yv K t with
   |none=>rw[e] at ht;cases ht
   |some p=>
    obtain⟨c,P⟩:=p;rw[e] at ht;simp only[rV,Ab,decide_eq_true_eq,Option.isNone_iff_eq_none] at ht;have e2:Vz K (t::r)=P::Vz K r:=by unfold Vz;rw[tM,e];rfl
    rw[e2];refine⟨λi u eu=> ?_,by simp[g2],λQ hQ=> ?_⟩
    .cases i with
     |zero=>simp at eu;subst eu;exact⟨c,P,rfl,e⟩
     |succ i=>
      obtain⟨c',P',a,b⟩:=g1 i u (by simpa using eu);exact⟨c',P',by simpa using a,b⟩
    .rcases rQ.mp hQ with rfl|hQ
     .exact⟨ht.1,ht.2,t,c,e⟩
     .exact g3 Q hQ
 obtain⟨g1,g2,g3⟩:=key cT λ_ h=>h;exact⟨g1,g2,zdj h2,g3⟩
theorem zlI {K:qP} {t:Ug} {c P:Addr} (h:Yv K t=some (c,P)):tV K c P=true:=by
 unfold Yv at h;rw[rB] at h;obtain⟨f,_,h⟩:=h;exact (YV h).1
structure zkc (c7:List Addr) (H:Hp):Prop where
 all:∀b,H b=none\/(∃o xs,H b=some (.frz o (.lst xs)))\/(b∈c7/\H b=some (.tbl #[]))
 tb:∀P∈c7,H P=some (.tbl #[])
def zb1 (K:qP) (c7:List Addr):Sp:=λvs H Q _=>∃(a:Addr) (ns:List Int),vs=[V.ref a]/\zkc c7 H/\SqX K H a (ns.map V.int)/\ns.length<=63/\∀H',Q (.bl true) H'
theorem zlJ {P:Program} {w:World} {K:qP} {mg:Str->Option Value} {base:Heap} {CX:CXT} {k:Nat} {f:Addr} {fd:FuncData} {ps:List Str} {tw:TwF} {ts c7:List Addr} {cT:List Ug} (Fn:yD P w K mg base CX k f fd ps (sTw K 1 tw)) (hT:zlH K ts cT c7)
  (h:∀ns:List Int,ns.length<=63->∃S,tw [.ref 0] (.frz (ns.map Xv.int)::cT.map .tab)=some (.ok (.bl true) S)):yD P w K mg base CX k f fd ps (zb1 K c7):=by
 refine Fn.imp ?_;rintro vs H Q E ⟨a,ns,rfl,hO,hS,hl,q⟩;obtain⟨S',e⟩:=h ns hl;have hlen:(a::c7).length=(Ce.frz (ns.map Xv.int)::cT.map Ce.tab).length:=by simp[hT.len]
 refine⟨rfl,a::c7,.frz (ns.map Xv.int)::cT.map .tab,[.ref 0],_,?_,e,λv j' H' σ ρ E' hv=> ?_⟩
 .refine⟨rfl,λi x e=> ?_,hlen,λn m b c d e1 e2 e3 e4 z1 z2=> ?_,λn c b e1 e2=> ?_,Ext.refl,λn c e=>⟨c,e,λz=>z,λ_=>rfl⟩,hlen,λb u e=> .inl e,λn b hn e=> ?_,λb e=>e⟩
  .cases i with
   |zero=>simp at e;subst e;exact⟨_,rfl,.ref rfl⟩
   |succ i=>simp at e
  .cases n with
   |zero=>simp at e3;subst e3;cases z1
   |succ n=>
    cases m with
    |zero=>simp at e4;subst e4;cases z2
    |succ m=>
     simp only[z0] at e1 e2;obtain⟨h1,g1⟩:=qO.1 e1;obtain⟨h2,g2⟩:=qO.1 e2;rw[(y0 hT.nd).mp (g1.trans g2.symm)]
  .cases n with
   |zero=>
    simp at e1 e2;subst e1 e2;refine⟨ns.map V.int,?_,yu.ints ns⟩;rcases hS with (hS|⟨o,hS⟩)|hS
    .rcases hO.all a with z|⟨o,xs,z⟩|⟨_,z⟩
     .rw[z] at hS;cases hS
     .rw[z] at hS;cases hS
     .rw[z] at hS;cases hS
    .exact .inl ⟨o,hS⟩
    .exact .inr λH=> .inr hS
   |succ n=>
    simp only[z0,qY,rg] at e1 e2;obtain⟨t,e1,rfl⟩:=e1;obtain⟨c,P',g1,g2⟩:=hT.at_ n t e1;rw[g1] at e2;cases e2;exact⟨#[],c,hO.tb _ (qS g1),g2,trivial,λpos cv q=>by cases q⟩
  .dsimp only at hn;have:=(qO.1 e).1;omega
 .rw[hv.bl_inv];exact q H'
theorem zil {P:Program} {w:World} {K:qP} {mg mb:Str->Option Value} {CX:CXT} {k:Nat} {fa a:Addr} {fd:FuncData} {x:Str} {sp:Sp} {s₁:Shared} {vs:List Value} {ns:List Int} {ts c7:List Addr} {cT:List Ug}
  (KX:K.In s₁.heap) (hT:zlH K ts cT c7) (kH:∀P∈ts,s₁.heap.get? P=some (tR #[])) (df:s₁.heap.Ns mainGlobals mg) (hb:s₁.heap.Ns builtinsNs mb) (ng:∀x:Str,x≠"__name__"->mb x=bootBuiltins x) (kX:s₁.heap.NoLimit)
  (nc:∃bm ob,mg "__builtins__"=some (.ref bm)/\bm≠builtinsNs/\s₁.heap.get? bm=some ob/\ob.cls= .type "module"/\ob.dict=some builtinsNs/\ob.data= .plain) (mQ:s₁.heap.NoSeer) (fj:P.given.tree=none) (hg:s₁.gens= #[])
  (ha:s₁.heap.get? a=some {cls:= .type "list",data:= .seq vs.toArray}) (hi:IntsAre vs ns) (hl:ns.length<=sizeLine) (hr:wG k callerA)
  (F:∀base:Heap,K.In base->base.Ns mainGlobals mg->yD P w K mg base CX k fa fd [x] sp) (jd:∀(s:Shared) (u:Value),BindsTo s fd ⟨[u],[]⟩ [(x,u)])
  (fV:∀H:Hp,zkc c7 H->SqX K H a (ns.map V.int)->sp [.ref a] H (λv _=>v= .bl true) λ_ _ _=>False)
  (lL:∀H e s',CX [] H s₁ (λ_ _ _=>False) e s'->False):
  codeAny (model P w) callerA (.call (.ref fa) ⟨[.ref a],[]⟩) (λr s'=>r= .ok (.ret (.bool true))/\OldK s₁.heap s'.heap/\s'.os=s₁.os/\AllBare s'.gens) s₁:=by
 have rv:=zc0 hi;have jY:=hi.length;have iB:∀P∈c7,s₁.heap.get? P=some (tR #[]):=λP hP=>kH P (hT.sub P hP).1;have core:∀H:Hp,zkc c7 H->SqX K H a (ns.map V.int)->HOk P w H s₁.heap->(∀b,H b≠none->b=a\/b∈c7)->(H a≠none->K.lookup a=none)->
   codeAny (model P w) callerA (.call (.ref fa) ⟨[.ref a],[]⟩) (λr s'=>r= .ok (.ret (.bool true))/\OldK s₁.heap s'.heap/\s'.os=s₁.os/\AllBare s'.gens) s₁:=by
  intro H hO hS hok hA hK;have cS:∀{b:Addr} {o:Obj},s₁.heap.get? b=some o->H b=none->(zdw s₁.heap H).get? b=some o:=λe n=>ziE e n;have m5:∀{b:Addr} {o:Obj},s₁.heap.get? b=some o->o.cls≠ .type "list"->(o.cls≠ .none\/∀ps,o.data≠ .fields ps)->H b=none:=λ{b o} e d d'=>by
   cases q:H b with
   |none=>rfl
   |some u=>
    rcases hA b (by rw[q];simp) with rfl|hm
    .rw[ha] at e;cases e;exact absurd rfl d
    .rw[iB b hm] at e;cases e;rcases d' with d'|d'
     .exact absurd rfl d'
     .exact absurd rfl (d' _)
  have fT:∀{b:Addr} {o:Obj} {es:Array DictEntry} {ep:Nat},s₁.heap.get? b=some o->o.data= .dict es ep->H b=none:=λ{b o es ep} e d=>by
   cases q:H b with
   |none=>rfl
   |some u=>
    rcases hA b (by rw[q];simp) with rfl|hm
    .rw[ha] at e;cases e;have d':Data.seq vs.toArray _=Data.dict es ep:=d;cases d'
    .rw[iB b hm] at e;cases e;cases d
  have gi:∀{b:Addr} {m:Str->Option Value},s₁.heap.Ns b m->(zdw s₁.heap H).Ns b m:=λ{b m} ⟨o,es,ep,e,d,r⟩=>⟨o,es,ep,cS e (fT e d),d,r⟩
  have nq:K.In (zdw s₁.heap H):=λb o e=>cS (KX b o e) (by
   cases q:H b with
   |none=>rfl
   |some u=>
    rcases hA b (by rw[q];simp) with rfl|hm
    .rw[hK (by rw[q];simp)] at e;cases e
    .rw[(hT.sub b hm).2.1] at e;cases e)
  have hM:Mod P K mg (zdw s₁.heap H):=⟨nq,gi df,⟨mb,gi hb,ng⟩,let ⟨mc,h1,h2⟩:=kX;⟨mc,gi h1,h2⟩,let ⟨bm,ob,b1,b2,b3,b4,b5,b6⟩:=nc;⟨bm,ob,b1,b2,cS b3 (m5 b3 (by rw[b4];simp) (.inl (by rw[b4];simp))),b4,b5,b6⟩,let ⟨bm,ob,b1,b2,b3,b4,b5,b6⟩:=nc;let ⟨mc,c1,c2⟩:=mQ.statics;let ⟨mm,m1,m2⟩:=mQ.mods;⟨⟨mc,gi c1,c2⟩,⟨mm,gi m1,m2⟩,⟨mb,gi hb,ng⟩,⟨mg,bm,ob,gi df,b1,cS b3 (m5 b3 (by rw[b4];simp) (.inl (by rw[b4];simp))),b4,b5⟩⟩,fj⟩;have e0:zcn P w K mg (zdw s₁.heap H) callerA [] s₁ H:=⟨rfl,hM,λb o e=>zk3 e,tJ (zhP _ _),trivial,λb hb=>absurd (show b∈([]:List Addr) from hb) (by simp),hok,.of_eq hg⟩;refine codeAny_mono ((F _ nq (gi df)).run callerA [] s₁ H ⟨[.ref a],[]⟩ [.ref a] [.ref a] _ _ hr e0 (jd s₁ (.ref a)) (.cons rfl .nil) (fV H hO hS)) λr s' h=> ?_;cases r with
  |error e=>exact (lL H e s' h).elim
  |ok fl=>
   cases fl with
   |next=>exact sv h
   |brk=>exact sv h
   |cont=>exact sv h
   |ret u=>
    obtain⟨v,H',os,bare,un,iR,r',q⟩:=h;have q':v= .bl true:=q;subst q';obtain rfl:u=Value.bool true:=r';have old:∀b o,s₁.heap.get? b=some o->b∉c7->s'.heap.get? b=some o:=λb o e nb=>by
     cases q:H b with
     |none=>exact un.keep b o e q (by intro z;exact absurd (show b∈([]:List Addr) from z) (by simp)) (by simp)
     |some u=>
      rcases hO.all b with z|⟨ob,xs,z⟩|⟨z,_⟩
      .rw[q] at z;cases z
      .have z2:=un.frzs b ob _ z;obtain⟨e1,_⟩:=hok b _ z;obtain⟨e2,_⟩:=iR b _ z2;rw[e] at e1;cases e1;exact e2
      .exact absurd z nb
    refine⟨rfl,⟨λb o e=> ?_,λb o e=>un.there b o e (by simp)⟩,os,bare⟩;by_cases hb:b∈c7
    .obtain⟨_,_,t,c,ht⟩:=hT.sub b hb;obtain⟨o2,nG,_,_,_,_,_,_,_,c1,c2,c3,c4,_⟩:=Ai KX (zlI ht);obtain⟨more,e1⟩:=un.tbls b _ (hO.tb b hb);have e2:=iR b _ e1;have e3:=iB b hb;rw[e] at e3;cases e3;exact .inr (.inl ⟨⟨c,o2,nG,c1,c2,c3,c4⟩,rfl,#[],more,rfl,e2⟩)
    .exact .inl (old b o e hb)
 have aT:a∉c7:=λhm=>by
  have e:=iB a hm;rw[ha] at e;cases e
 have tH:∀(H:Hp),(∀P∈c7,H P=some (.tbl #[]))->∀b∈c7,∀u,H b=some u->xE P w H s₁.heap b u:=λH h b hb u e=>by
  rw[h b hb] at e;cases e;exact iB b hb
 cases hk:K.lookup a with
 |some o=>
  have e:=KX a o hk;rw[ha] at e;cases e;have qu:∀b,b∈c7->(if b∈c7 then some (HO.tbl #[]) else none)=some (HO.tbl #[]):=λb h=>if_pos h;refine core (λb=>if b∈c7 then some (.tbl #[]) else none) ⟨λb=> ?_,λb h=>if_pos h⟩ (.inr ⟨vs.toArray,_,hk,by rw[qZ,jY];exact hl,by simpa using rv⟩) (λb u z=> ?_) (λb z=> ?_) λz=>absurd (if_neg aT) z
  .by_cases hb:b∈c7
   .exact .inr (.inr ⟨hb,if_pos hb⟩)
   .exact .inl (if_neg hb)
  .by_cases hb:b∈c7
   .exact tH (λb=>if b∈c7 then some (.tbl #[]) else none) (λb h=>if_pos h) b hb u z
   .have z':=(if_neg hb).symm.trans z;cases z'
  .by_cases hb:b∈c7
   .exact .inr hb
   .exact absurd (if_neg hb) z
 |none=>
  have h1:∀b,b∈c7->(if b=a then some (HO.frz {cls:= .type "list",data:= .seq vs.toArray} (.lst (ns.map V.int))) else if b∈c7 then some (.tbl #[]) else none)=some (HO.tbl #[]):=λb h=>by
   have ne:b≠a:=λz=>aT (by rw[<-z];exact h);rw[if_neg ne,if_pos h]
  refine core (λb=>if b=a then some (.frz {cls:= .type "list",data:= .seq vs.toArray} (.lst (ns.map V.int))) else if b∈c7 then some (.tbl #[]) else none) ⟨λb=> ?_,h1⟩ (.inl (.inr ⟨{cls:= .type "list",data:= .seq vs.toArray},if_pos rfl⟩)) (λb u z=> ?_) (λb z=> ?_) λ_=>hk
  .by_cases hb:b=a
   .exact .inr (.inl ⟨_,_,if_pos hb⟩)
   .by_cases hm:b∈c7
    .exact .inr (.inr ⟨hm,h1 b hm⟩)
    .exact .inl ((if_neg hb).trans (if_neg hm))
  .by_cases hb:b=a
   .have z':=(if_pos hb).symm.trans z;cases z';subst hb;exact⟨ha,by rw[qV];exact hl,vs,_,rv,ha⟩
   .by_cases hm:b∈c7
    .exact tH _ h1 b hm u z
    .have z':=((if_neg hb).trans (if_neg hm)).symm.trans z;cases z'
  .by_cases hb:b=a
   .exact .inl hb
   .by_cases hm:b∈c7
    .exact .inr hm
    .exact absurd ((if_neg hb).trans (if_neg hm)) z
theorem zkd {l:z6} {n k:Nat} {q:Program} {loose:List Str} {XP:(Str->Option Value)->Heap->Prop} {YP:World->Heap->Prop} {d:DefRec} {K:Params->qP} {CX:World->CXT} {x:Str} {ts:List Addr} {cT:List Ug}
  (hn:l.most=some n) (dh:n<=63) (j9:d.params.defaults=[]) (hr:wG k callerA)
  (hY:∀(w:World) (h:Heap),YP w h->(K w.params).In h/\∀P∈ts,h.get? P=some (tR #[])) (hB:∀w:World,zdi (K w.params) ts cT=true)
  (F:∀(w:World) (mg:Str->Option Value) (fa:Addr) (h:Heap),(K w.params).In h->h.Ns mainGlobals mg->mg d.name=some (.ref fa)->
   ∃fd:FuncData,(∀(s:Shared) (u:Value),BindsTo s fd ⟨[u],[]⟩ [(x,u)])/\
    ∀base:Heap,(K w.params).In base->base.Ns mainGlobals mg->yD l.prog w (K w.params) mg base (CX w) k fa fd [x] (zb1 (K w.params) (Vz (K w.params) cT)))
  (lL:∀(w:World) (H:Hp) (s:Shared) (e:Value) (s':Shared),CX w [] H s (λ_ _ _=>False) e s'->False) (lq:importsNone q=true) (fj:l.prog.given.tree=none):
  B4 q loose XP YP l.row.toRowW d [] (λf vs=>AK f vs):=by
 refine Att.zeG hn j9 λw s₀ s₁ mg mb fa o pm cd doc a vs ns G Y ho hd cQ gR gO hints hlen hg=> ?_;obtain⟨KX,kH⟩:=hY w _ Y;obtain⟨fd,hb,hF⟩:=F w mg fa _ KX G.T.g gR;exact zil KX (zho (hB w)) kH G.T.g G.T.b G.T.builtins G.T.nolimit G.T.bmain (G.T.seer lq) fj hg gO hints (rk (rk hlen dh) ∅) hr hF hb (λH hO hS=>⟨a,ns,rfl,hO,hS,rk hlen dh,λ_=>rfl⟩) λH e s'=>lL w H s₁ e s'
end L2
namespace L2
open PySem PySem.Spec PyProof.Rows PySem.Calls PySem.W
section
variable {X:Cx}
noncomputable def zim (ns:List Int):Int:=ns.foldl (λa b=>if b<a then b else a) (ns.headD 0)
theorem zke (ns:List Int):∀k,k<ns.length->ns.getD (argBest (λi j=>decide (ns.getD i 0<ns.getD j 0)) k) 0=(ns.take (k+1)).foldl (λa b=>if b<a then b else a) (ns.headD 0)/\argBest (λi j=>decide (ns.getD i 0<ns.getD j 0)) k<=k:=by
 intro k
 induction k with
 |zero=>
  intro h;cases ns with
  |nil=>simp at h
  |cons a r=>simp[argBest]
 |succ k ih=>
  intro h;obtain⟨h1,h2⟩:=ih ⋯;have hg:ns[k+1]? =some (ns.getD (k+1) 0):=by rw[rT,qN h];rfl
  obtain⟨hi,e⟩:=qO.1 hg;rw[si hi,e,List.foldl_append,<-h1];have hb:∀f:Nat->Nat->Bool,argBest f (k+1)=if f (k+1) (argBest f k)=true then k+1 else argBest f k:=λf=>rfl
  rw[hb,AV,B1];by_cases q:ns.getD (k+1) 0<ns.getD (argBest (λi j=>decide (ns.getD i 0<ns.getD j 0)) k) 0
  .rw[if_pos (decide_eq_true q),if_pos q];exact⟨rfl,qT _⟩
  .rw[if_neg (by rw[decide_eq_false q];decide),if_neg q];exact⟨rfl,⋯⟩
def zmY (K:qP):List V->Hp->VK->Prop:=λxs H Q=>∃(p:Addr) (ns:List Int),xs=[.ref p]/\SqL K H p (ns.map V.int)/\ns≠[]/\Q (.int (zim ns)) H
theorem zin {K:qP} (hc:X.calm=true) (hK:X.K=K:=by rfl):Xo X (.builtin "min") (zmY K):=by
 subst hK;intro pins s σ H xs us Q I r h;obtain⟨p,ns,rfl,hq,eV,q⟩:=h;obtain⟨u,rfl,ru⟩:=UT r;cases ru;obtain⟨ak,rv,pl,hz⟩:=I.list hq;have lt:p<s.heap.objs.size:=by
  obtain⟨o,n,e,_⟩:=id pl;exact Heap.lt_size e
 have hl:=rv.length;rw[qV] at hl;have dg:0<ns.length:=List.length_pos_iff.2 eV;have at_:∀(i:Nat) (v:Value),ak.toArray[i]? =some v->i<ns.length/\∃t,v=Value.int (ns.getD i 0) t:=λi v hv=>by
  have hv:ak[i]? =some v:=by simpa using hv
  have hi:i<ns.length:=by rw[hl];exact (qO.1 hv).1
  obtain⟨u,hu,t,ru⟩:=rv.get (i:=i) (x:=V.int ns[i]) (by rw[qY,qN hi];rfl);rw[hu] at hv;cases hv;exact⟨hi,t,by rw[ru,rT,qN hi];rfl⟩
 refine call_min_walkS (wpAny_pyIter_list pl.isList ?_);have W:=(Walks.list (prog:=X.prog) (w:=X.w) (A:=X.A.in1) (I.ok.hd hc) s.heap.objs.size p (rA lt) ak.toArray).toS;refine⟨s.heap.objs.size,_,_,_,_,_,_,λi j=>decide (ns.getD i 0<ns.getD j 0),rfl,W,?_,?_,?_,?_,?_⟩
 .exact⟨⟨_,Heap.get?_push_size _ rfl,rfl,rfl⟩,Heap.IsList.push pl.isList _⟩
 .intro b hb;rw[Heap.size_push];rcases (by simpa using hb:b=s.heap.objs.size\/b=p) with rfl|rfl
  .exact tf _
  .exact Av lt
 .rw[qZ];omega
 .exact CmpOf.ints_lt (λi=>ns.getD i 0) (λi v hv=>(at_ i v hv).2)
 .intro v s' hv m
  have I1:Inv X pins σ H {s with heap:=s'.heap,toks:=s'.toks}:=I.kept λb o e=>m.heap b o (λz=>by
   have z:b=s.heap.objs.size:=by simpa using z
   exact absurd (Heap.lt_size e) (by rw[z];exact sZ _)) (Heap.get?_push_of_some _ e)
  have e:({s with heap:=s'.heap,toks:=s'.toks}:Shared)=s':=by
   have h1:=m.gens;have h2:=m.drawn;have h3:=m.os;cases s';simp only at h1 h2 h3;subst h1 h2 h3;rfl
  rw[e] at I1;obtain⟨_,t,rfl⟩:=at_ _ v hv;refine⟨.int (zim ns),H,I1,⟨t,?_⟩,q⟩;have:=(zke ns (ns.length-1) ⋯).1;rw[show ns.length-1+1=ns.length by omega,tL] at this;rw[qZ,<-hl,this];rfl
end
end L2
namespace L2
open PySem PySem.Spec PyProof.Rows
noncomputable def zfg:Opn:=λxs S=>match xs with
 |[x]=>((yH S x).bind zc8).bind λns=>if ns=[] then none else some (.int (zim ns),S)
 |_=>none
section
variable {K:qP} {S:Sto} {x:Xv} {P:Xv->Sto->Prop}
theorem zlK:zbs K (zmY K) zfg:=by
 intro F j σ H ρ S S' xs z vs Q E1 hv h k;unfold zfg at h;split at h
 .rename_i x;rw[rB] at h;obtain⟨ns,e,h⟩:=h;rw[rB] at e;obtain⟨l,e,e2⟩:=e;split at h
  .cases h
  .rename_i eV;cases h;obtain⟨w,rfl,hx⟩:=hv.d1;obtain⟨p,ws,rfl,h1,h2⟩:=E1.lstAt hx e;refine⟨p,ns,rfl,?_,eV,k _ _ _ Ext.refl E1 (.int _)⟩;rw[<-zeW e2 h2];exact h1.sql
 .cases h
theorem zlL {l:List Xv} {ns:List Int} (h1:yH S x=some l) (h2:zc8 l=some ns) (h3:ns≠[]) (k:P (.int (zim ns)) S):WO (zfg [x] S) P:= .of (by
 unfold zfg;dsimp only
 rw[h1,r0,h2,r0,if_neg h3]) k
end
open PySem.Builtin.Int (intBits)
theorem Tv {X:Cx} {k:Nat} (hr:wG k X.A) (hk:32<=k:=by decide) (eQ:X.stack=X.env::X.outer:=by rfl) (hg:X.env.scope.isGenerator=false:=by rfl) (iq:X.env.scope.isCoroutine=false:=by rfl):
  OpR X (binaryOp .FloorDiv) (rI (λ_ j=>j≠0) λi j=> .int (i.fdiv j)):=by
 intro pins s σ H x y v u Q I rx ry h;obtain⟨i,j,rfl,rfl,hc,q⟩:=h;obtain⟨t,rfl⟩:=rx;obtain⟨t',rfl⟩:=ry;exact floordiv_int hc ⟨.int _,H,I.tok _,⟨_,rfl⟩,q⟩ (.inr (PylongRoom.of I.nolimit (by have:=hr.dp;show X.A.depth+100<_;omega) (SeerAt.of (I.ok.mod.seer.keeps I.bk) I.ok.mod.tree (by rw[I.ok.frames,eQ]) hg iq I.ok.blt I.ok.glob)))
noncomputable def UH:Op2:=xIC (λ_ j=>decide (j≠0)) λi j=> .int (i.fdiv j)
theorem zfh {K:qP}:YL K (rI (λ_ j=>j≠0) λi j=> .int (i.fdiv j)) UH:=zgd (λi j h=>by simpa using h) λ_ _ _ _=> .int _
theorem Tw {S:Sto} {P:Xv->Sto->Prop} {p q:Int} (h:q≠0) (k:P (.int (p.fdiv q)) S):WO (UH (.int p) (.int q) S) P:= .of (by unfold UH xIC;exact if_pos (decide_eq_true h)) k
end L2
namespace Mth
open PySem.Builtin.Int (intBits)
end Mth
namespace Prf
open PySem PySem.Spec PyProof.Rows L2
open PySem.Builtin.Int (intBits)
set_option maxHeartbeats 4000000
local macro_rules | `(tactic| walk_at "sc") => `(tactic| exact ⟨rfl, rfl, rfl, by decide +kernel, rfl, by decide +kernel, by decide +kernel⟩)
structure Fi (K:qP) (mg:Str->Option Value) (nm:Str) (st:Stmt) (ps:List Str) where
 a:Addr
 fd:FuncData
 F:Fun K nm nm st a fd
 m:mg nm=some (.ref a)
 b:Um K fd ps []
structure Mi (K:qP) (g:Addr) (nm qn:Str) (st:Stmt) (ps:List Str) where
 a:Addr
 fd:FuncData
 F:Fun K nm qn st a fd
 b:Um K fd ps []
 mt:zno K g nm a
def LoN (K:qP) (x qual:Str) (st:Stmt) (f:Addr):Prop:=∃fd,Fun K x qual st f fd
def FL (K:qP) (nm:Str) (st:Stmt):Prop:=∃f,rz K mainGlobals nm=some (some (.ref f))/\LoN K nm nm st f
def ML (K:qP) (g:Addr) (nm qn:Str) (st:Stmt):Prop:=∃f,rF K (.ref g) nm=some (some (.ref f))/\uH K (.ref f)=true/\LoN K nm qn st f
theorem zpk {K:qP} {x:Str} {st:Stmt} {f:Addr} {oc:Value} {od an:Option Addr} {eP:Array (Option Value)} {kV doc pm aS ct:Value} (a:rz K mainGlobals x=some (some (.ref f)))
  (l:K.lookup f=some ⟨oc,od,.func (tq x x (Wx st) (ZO st) (zi st) .none kV doc pm an aS ct),eP⟩) (c:ug K aS x=true) (k:t9 K (.ref f)=true):FL K x st:=⟨f,a,_,zi5 l c k⟩
theorem zpl {K:qP} {g:Addr} {x qn:Str} {st:Stmt} {f:Addr} {oc:Value} {od an:Option Addr} {eP:Array (Option Value)} {kV doc pm aS ct:Value} (a:rF K (.ref g) x=some (some (.ref f))) (i:uH K (.ref f)=true)
  (l:K.lookup f=some ⟨oc,od,.func (tq x qn (Wx st) (ZO st) (zi st) .none kV doc pm an aS ct),eP⟩) (c:ug K aS qn=true) (k:t9 K (.ref f)=true):ML K g x qn st:=⟨f,a,i,_,zi5 l c k⟩
def BA (x qual:Str) (st:Stmt) (ps:List Str):Prop:=∀(kV doc pm:Value) (an:Option Addr) (aS ct:Value) (us:List Value),us.length=ps.length->bindArgs (tq x qual (Wx st) (ZO st) (zi st) .none kV doc pm an aS ct) ⟨us,[]⟩=pure (ps.zip us)
noncomputable def FL.to {K:qP} {h:Heap} {mg:Str->Option Value} {x:Str} {st:Stmt} {ps:List Str} (H:FL K x st) (X:K.In h) (G:h.Ns mainGlobals mg) (B:BA x x st ps):Fi K mg x st ps:=
 ⟨H.choose,H.choose_spec.2.choose,H.choose_spec.2.choose_spec,uz X G H.choose_spec.1,H.choose_spec.2.choose_spec.binds B⟩
noncomputable def ML.to {K:qP} {g:Addr} {x qn:Str} {st:Stmt} {ps:List Str} (H:ML K g x qn st) (B:BA x qn st ps):Mi K g x qn st ps:=
 ⟨H.choose,H.choose_spec.2.2.choose,H.choose_spec.2.2.choose_spec,H.choose_spec.2.2.choose_spec.binds B,⟨H.choose_spec.1,H.choose_spec.2.1,H.choose_spec.2.2.choose_spec.kp⟩⟩
theorem at0 {P:List Value->Prop} (h:P []):∀us:List Value,us.length=0->P us
 |[],_=>h
theorem at_ {P:List Value->Prop} {n:Nat} (h:∀(a:Value) (us:List Value),us.length=n->P (a::us)):∀us:List Value,us.length=n+1->P us
 |a::us,e=>h a us (Nat.succ.inj e)
theorem zn6 {K:qP} {mg:Str->Option Value} {st:Stmt} {x:Str} {fa:Addr} (f:Fi K mg "law" st [x]) (hK:∀s:Shared,K.In s.heap->True) (h:mg "law"=some (.ref fa)):fa=f.a:=by
 have e:=h.symm.trans f.m;injection e with e
 injection e
section
variable {P:Program} {w:World} {K:qP} {mg:Str->Option Value} {base:Heap} {fu:Nat}
noncomputable def top (i:Nat):Stmt:=PySem.Challenge.pw_lots_k43_whole_one_function_one_node.main.body.getD i (.Pass ⟨0,0,0,0⟩)
noncomputable abbrev zhp:Stmt:=top 0
noncomputable abbrev XQ:Stmt:=top 4
noncomputable abbrev zb2:Stmt:=top 5
noncomputable abbrev zgr:Stmt:=top 6
noncomputable abbrev zd9:Stmt:=top 7
noncomputable abbrev zea:Stmt:=top 8
noncomputable abbrev zal:Stmt:=top 9
noncomputable abbrev WM:Stmt:=top 11
noncomputable abbrev zeb:Stmt:=top 12
noncomputable abbrev zec:Stmt:=top 13
noncomputable abbrev ZF:Stmt:=yS (top 15) 0
noncomputable abbrev Zm:Stmt:=yS (top 15) 1
noncomputable abbrev WN:Stmt:=yS (top 15) 2
noncomputable abbrev Yw:Stmt:=yS (top 15) 3
noncomputable abbrev Tz:Stmt:=yS (top 15) 4
noncomputable abbrev ZG:Stmt:=yS (top 15) 5
noncomputable abbrev Yk:Stmt:=yS (top 15) 6
noncomputable abbrev YW:Stmt:=yS (top 15) 7
noncomputable abbrev ZH:Stmt:=yS (top 15) 8
noncomputable abbrev vI:Stmt:=yS (top 15) 9
noncomputable abbrev xF:Stmt:=yS (top 15) 10
noncomputable abbrev wY:Stmt:=yS (top 15) 11
noncomputable abbrev xw:Stmt:=yS (top 15) 12
noncomputable abbrev Xx:Stmt:=yS (top 15) 13
noncomputable abbrev YX:Stmt:=yS (top 15) 14
noncomputable abbrev xo:Stmt:=yS (top 15) 15
noncomputable abbrev xO:Stmt:=yS (top 15) 16
noncomputable abbrev Yd:Stmt:=yS (top 15) 17
noncomputable abbrev XR:Stmt:=yS (top 15) 18
noncomputable abbrev wg:Stmt:=yS (top 15) 19
noncomputable abbrev wZ:Stmt:=yS (top 15) 20
noncomputable abbrev WP:Stmt:=yS (top 15) 21
noncomputable abbrev wj:Stmt:=yS (top 15) 22
noncomputable abbrev ZP:Stmt:=yS (top 15) 23
noncomputable abbrev Yu:Stmt:=yS (top 15) 24
noncomputable abbrev VB:Stmt:=top 17
noncomputable abbrev VC:Stmt:=top 18
noncomputable abbrev vq:Stmt:=top 19
noncomputable abbrev WQ:Stmt:=top 20
noncomputable abbrev Yx:Stmt:=top 21
noncomputable abbrev YY:Stmt:=top 22
noncomputable abbrev VD:Stmt:=top 23
noncomputable abbrev UI:Stmt:=top 24
noncomputable abbrev Ye:Stmt:=top 25
noncomputable abbrev WR:Stmt:=top 26
noncomputable abbrev XS:Stmt:=top 27
noncomputable abbrev WT:Stmt:=top 28
noncomputable abbrev ZQ:Stmt:=top 29
noncomputable abbrev WU:Stmt:=top 30
noncomputable abbrev Yy:Stmt:=top 31
noncomputable abbrev Xy:Stmt:=top 32
noncomputable abbrev WV:Stmt:=top 33
noncomputable abbrev vT:Stmt:=top 34
noncomputable abbrev VE:Stmt:=top 35
noncomputable abbrev Yz:Stmt:=top 36
noncomputable abbrev WW:Stmt:=top 37
noncomputable abbrev zhq:Stmt:=top 38
theorem wo:zE ["one","other","rest"] ["one","other"] (zi XQ):=by walk_at "sc"
theorem zam:zE ["top","bottom","part"] ["top","bottom"] (zi zb2):=by walk_at "sc"
theorem zlM:zE ["one","other"] ["one","other"] (zi zgr):=by walk_at "sc"
theorem zkf:zE ["one","other"] ["one","other"] (zi zd9):=by walk_at "sc"
theorem zkg:zE ["one","other"] ["one","other"] (zi zea):=by walk_at "sc"
theorem zgs:zE ["one","other"] ["one","other"] (zi zal):=by walk_at "sc"
theorem zfi:zE ["boxes","name"] ["boxes","name"] (zi WM):=by walk_at "sc"
theorem zkh:zE ["boxes","state","operand"] ["boxes","state","operand"] (zi zeb):=by walk_at "sc"
theorem zb3:zE ["boxes","state","test","one","other"] ["boxes","state","test"] (zi zec):=by walk_at "sc"
theorem TB:zE ["self","boxes"] ["self","boxes"] (zi ZF):=by walk_at "sc"
theorem UJ:zE ["self","fact"] ["self","fact"] (zi Zm):=by walk_at "sc"
theorem zcy:zE ["self","one"] ["self","one"] (zi WN):=by walk_at "sc"
theorem Uv:zE ["self","level","kids","first"] ["self","level","kids"] (zi Yw):=by walk_at "sc"
theorem Xz:zE ["self","node","fact"] ["self","node"] (zi ZG):=by walk_at "sc"
theorem Wr:zE ["self","node","fact"] ["self","node"] (zi Yk):=by walk_at "sc"
theorem zaN:zE ["self","node","level","number"] ["self","node","level","number"] (zi YW):=by walk_at "sc"
theorem XA:zE ["self","node","state"] ["self","node","state"] (zi ZH):=by walk_at "sc"
theorem zb4:zE ["self","one","other"] ["self","one","other"] (zi vI):=by walk_at "sc"
theorem Uj:zE ["self","one","other"] ["self","one","other"] (zi xF):=by walk_at "sc"
theorem zaO:zE ["self","one","other"] ["self","one","other"] (zi wY):=by walk_at "sc"
theorem VF:zE ["self","nodes","rule"] ["self","nodes","rule"] (zi xw):=by walk_at "sc"
theorem Vh:zE ["self","nodes","settle","known","settled"] ["self","nodes","settle","known"] (zi YX):=by walk_at "sc"
theorem xf:zE ["self","nodes","settle","known","level","kids","number","these"] ["self","nodes","settle","known"] (zi xo):=by walk_at "sc"
theorem Ws:zE ["self","nodes","rule","facts"] ["self","nodes","rule"] (zi xO):=by walk_at "sc"
theorem zb5:zE ["self","node","level","number"] ["self","node","level","number"] (zi XR):=by walk_at "sc"
theorem vc:zE ["self","node","level","number","known","here","kids"] ["self","node","level","number","known"] (zi wg):=by walk_at "sc"
theorem zaP:zE ["self","test"] ["self","test"] (zi wZ):=by walk_at "sc"
theorem zcz:zE ["self","names","rule"] ["self","names","rule"] (zi WP):=by walk_at "sc"
theorem ve:zE ["self","names","rule","numbers","level","size"] ["self","names","rule","numbers"] (zi wj):=by walk_at "sc"
theorem wq:zE ["self","state","nought","node","level","kids"] ["self","state"] (zi ZP):=by walk_at "sc"
theorem zed:zE ["_law_left","_law_many"] ["_law_left","_law_many"] (zi VB):=by walk_at "sc"
theorem Zn:zE ["_law_number","_law_size","_law_word_here","_law_k"] ["_law_number","_law_size"] (zi VC):=by walk_at "sc"
theorem xz:zE ["_law_left","_law_many","_law_way_here","_law_some","_law_turn","_law_word_here","_law_cell","_law_size","_law_at"] ["_law_left","_law_many"] (zi vq):=by walk_at "sc"
theorem yP:zE ["_law_left","_law_most","_law_many","_law_boxes_here","_law_states_here","_law_name","_law_size"] ["_law_left","_law_most"] (zi WQ):=by walk_at "sc"
theorem zcA:zE ["_law_left","_law_boxes_here"] ["_law_left","_law_boxes_here"] (zi Yx):=by walk_at "sc"
theorem Vi:zE ["_law_left","_law_boxes_here","_law_way_here"] ["_law_left","_law_boxes_here"] (zi YY):=by walk_at "sc"
theorem WX:zE ["_law_left","_law_boxes_here","_law_one","_law_sign"] ["_law_left","_law_boxes_here"] (zi VD):=by walk_at "sc"
theorem Za:zE ["_law_top","_law_bottom","_law_one","_law_other","_law_kept"] ["_law_top","_law_bottom"] (zi UI):=by walk_at "sc"
theorem zee:zE ["_law_found","_law_due_here"] ["_law_found","_law_due_here"] (zi Ye):=by walk_at "sc"
theorem zcB:zE ["_law_found"] ["_law_found"] (zi WR):=by walk_at "sc"
theorem vf:zE ["_law_word_here","_law_one","_law_other","_law_found","_law_j","_law_left","_law_right"] ["_law_word_here","_law_one","_law_other"] (zi XS):=by walk_at "sc"
theorem zcC:zE ["_law_left"] ["_law_left"] (zi WT):=by walk_at "sc"
theorem wu:zE ["_law_boxes_here","_law_states_here","_law_box","_law_longer","_law_state_here"] ["_law_boxes_here"] (zi ZQ):=by walk_at "sc"
theorem vJ:zE ["_law_store","_law_boxes_here","_law_level","_law_table","_law_size","_law_part","_law_kids","_law_k"] ["_law_store","_law_boxes_here","_law_level","_law_table"] (zi WU):=by walk_at "sc"
theorem zcD:zE ["_law_store","_law_states_here","_law_node","_law_table"] ["_law_store","_law_states_here","_law_node","_law_table"] (zi Yy):=by walk_at "sc"
theorem YA:zE ["_law_boxes_here","_law_state_here","_law_test_here","_law_some","_law_k"] ["_law_boxes_here","_law_state_here","_law_test_here"] (zi Xy):=by walk_at "sc"
theorem XB:zE ["_law_left","_law_boxes_here","_law_many","_law_way_here","_law_level","_law_one"] ["_law_left","_law_boxes_here","_law_many"] (zi WV):=by walk_at "sc"
theorem vg:zE ["_law_boxes_here","_law_states_here","_law_way_here","_law_tables","_law_found","_law_state_here","_law_held","_law_pick"] ["_law_boxes_here","_law_states_here","_law_way_here","_law_tables"] (zi vT):=by walk_at "sc"
theorem vr:zE ["_law_store","_law_way_here","_law_nodes","_law_kids","_law_pick","_law_kid","_law_level"] ["_law_store","_law_way_here","_law_nodes"] (zi VE):=by walk_at "sc"
theorem zcE:zE ["_law_table"] ["_law_table"] (zi Yz):=by walk_at "sc"
theorem XT:zE ["_law_store","_law_states_here","_law_nodes","_law_tables","_law_j","_law_k"] ["_law_store","_law_states_here","_law_nodes","_law_tables"] (zi WW):=by walk_at "sc"
theorem Yl:zE ["_law_script","_law_left","_law_boxes_here","_law_states_here","_law_stores","_law_nodes","_law_tables","_law_way_here","_law_table","_law_k","_law_node"] ["_law_script"] (zi zhq):=by walk_at "sc"
noncomputable abbrev zgt:uL:=zj9 (zj8 (zka vI 0)) 1
noncomputable def TC:xR:=⟨1,zbZ zgt,Tr zgt,zff zgt,⟨some "Store","added","Store.added"⟩,[]⟩
noncomputable abbrev zgu:uL:=zj9 (zj8 (zka xF 0)) 1
noncomputable def TD:xR:=⟨2,zbZ zgu,Tr zgu,zff zgu,⟨some "Store","multiplied","Store.multiplied"⟩,[]⟩
noncomputable abbrev zgv:uL:=zj9 (zj8 (zka wY 0)) 1
noncomputable def TF:xR:=⟨3,zbZ zgv,Tr zgv,zff zgv,⟨some "Store","higher","Store.higher"⟩,[]⟩
noncomputable abbrev zgw:uL:=zj9 (zj8 (zka xw 0)) 1
noncomputable def zaE:xR:=⟨4,zbZ zgw,Tr zgw,zff zgw,⟨some "Store","reckoned_of","Store.reckoned_of"⟩,["self","rule"]⟩
noncomputable abbrev zgx:uL:=zj9 (zj8 (zka wZ 0)) 1
noncomputable def zaF:xR:=⟨5,zbZ zgx,Tr zgx,zff zgx,⟨some "Store","marked","Store.marked"⟩,["self","test"]⟩
noncomputable abbrev Vj:List Ug:=[⟨some "Store","added","Store.added"⟩,⟨some "Store","multiplied","Store.multiplied"⟩,⟨some "Store","higher","Store.higher"⟩,⟨some "Store","reckoned_of","Store.reckoned_of"⟩,⟨some "Store","marked","Store.marked"⟩]
set_option genInjectivity false in
set_option genSizeOf false in
structure Tx (K:qP) (mg:Str->Option Value) where
 g6:Fi K mg "_wall" zhp ["k"]
 bj:Fi K mg "common_part" XQ ["one","other"]
 c9:Fi K mg "lowest" zb2 ["top","bottom"]
 d9:Fi K mg "plus" zgr ["one","other"]
 cI:Fi K mg "times" zd9 ["one","other"]
 cH:Fi K mg "under" zea ["one","other"]
 cb:Fi K mg "greater" zal ["one","other"]
 bS:Fi K mg "place_of" WM ["boxes","name"]
 cz:Fi K mg "worth" zeb ["boxes","state","operand"]
 cJ:Fi K mg "holds" zec ["boxes","state","test"]
 ai:Fi K mg "_law_take" VB ["_law_left","_law_many"]
 bu:Fi K mg "_law_word" VC ["_law_number","_law_size"]
 bD:Fi K mg "_law_names" vq ["_law_left","_law_many"]
 bG:Fi K mg "_law_boxes" WQ ["_law_left","_law_most"]
 bB:Fi K mg "_law_state" Yx ["_law_left","_law_boxes_here"]
 aW:Fi K mg "_law_operand" YY ["_law_left","_law_boxes_here"]
 bL:Fi K mg "_law_test" VD ["_law_left","_law_boxes_here"]
 b8:Fi K mg "_law_low" UI ["_law_top","_law_bottom"]
 aQ:Fi K mg "_law_same" Ye ["_law_found","_law_due_here"]
 bA:Fi K mg "_law_whole" WR ["_law_found"]
 bp:Fi K mg "_law_joined" XS ["_law_word_here","_law_one","_law_other"]
 bC:Fi K mg "_law_small" WT ["_law_left"]
 bo:Fi K mg "_law_states" ZQ ["_law_boxes_here"]
 aR:Fi K mg "_law_built" WU ["_law_store","_law_boxes_here","_law_level","_law_table"]
 b9:Fi K mg "_law_tells" Yy ["_law_store","_law_states_here","_law_node","_law_table"]
 bM:Fi K mg "_law_mark" Xy ["_law_boxes_here","_law_state_here","_law_test_here"]
 bT:Fi K mg "_law_way" WV ["_law_left","_law_boxes_here","_law_many"]
 bU:Fi K mg "_law_due" vT ["_law_boxes_here","_law_states_here","_law_way_here","_law_tables"]
 bN:Fi K mg "_law_made" VE ["_law_store","_law_way_here","_law_nodes"]
 bF:Fi K mg "_law_great" Yz ["_law_table"]
 bH:Fi K mg "_law_apart" WW ["_law_store","_law_states_here","_law_nodes","_law_tables"]
 cO:Fi K mg "law" zhq ["_law_script"]
 dM:mg "abs"=none
 dq:mg "all"=none
 fe:mg "any"=none
 dU:mg "bool"=none
 cX:mg "int"=none
 aE:mg "isinstance"=none
 aX:mg "len"=none
 dA:mg "list"=none
 fc:mg "min"=none
 aI:mg "range"=none
 cW:mg "reversed"=none
 eD:mg "str"=none
 cf:mg "tuple"=none
 aq:Addr
 dB:mg "Store"=some (.ref aq)
 af:Cls K aq
 ae:rz K mainGlobals "Store"=some (some (.ref aq))
 az:YJ K aq "boxes"
 aA:YJ K aq "facts"
 aF:YJ K aq "numbers"
 aJ:Mi K aq "__init__" "Store.__init__" ZF ["self","boxes"]
 cY:Mk K aq aJ.a
 aC:Mi K aq "number_of" "Store.number_of" Zm ["self","fact"]
 au:Mi K aq "leaf" "Store.leaf" WN ["self","one"]
 ay:Mi K aq "fork" "Store.fork" Yw ["self","level","kids"]
 dD:Mi K aq "told" "Store.told" Tz ["self","node"]
 ax:Mi K aq "level_of" "Store.level_of" ZG ["self","node"]
 aB:Mi K aq "kids_of" "Store.kids_of" Yk ["self","node"]
 aK:Mi K aq "kid_at" "Store.kid_at" YW ["self","node","level","number"]
 aM:Mi K aq "value_at" "Store.value_at" ZH ["self","node","state"]
 aU:Mi K aq "added" "Store.added" vI ["self","one","other"]
 cC:(Yv K ⟨some "Store","added","Store.added"⟩).isSome=true
 aG:Mi K aq "multiplied" "Store.multiplied" xF ["self","one","other"]
 bR:(Yv K ⟨some "Store","multiplied","Store.multiplied"⟩).isSome=true
 aO:Mi K aq "higher" "Store.higher" wY ["self","one","other"]
 cm:(Yv K ⟨some "Store","higher","Store.higher"⟩).isSome=true
 ao:Mi K aq "reckoned_of" "Store.reckoned_of" xw ["self","nodes","rule"]
 bO:(Yv K ⟨some "Store","reckoned_of","Store.reckoned_of"⟩).isSome=true
 cK:Mi K aq "chosen_by" "Store.chosen_by" Xx ["self","chooser","nodes"]
 aD:Mi K aq "joined" "Store.joined" YX ["self","nodes","settle","known"]
 aH:Mi K aq "joined_below" "Store.joined_below" xo ["self","nodes","settle","known"]
 aP:Mi K aq "leaf_by" "Store.leaf_by" xO ["self","nodes","rule"]
 cx:Mi K aq "choice_among" "Store.choice_among" Yd ["self","nodes"]
 aL:Mi K aq "fixed" "Store.fixed" XR ["self","node","level","number"]
 av:Mi K aq "fixed_below" "Store.fixed_below" wg ["self","node","level","number","known"]
 aN:Mi K aq "marked" "Store.marked" wZ ["self","test"]
 ck:(Yv K ⟨some "Store","marked","Store.marked"⟩).isSome=true
 bg:Mi K aq "made" "Store.made" WP ["self","names","rule"]
 aj:Mi K aq "made_behind" "Store.made_behind" wj ["self","names","rule","numbers"]
 b0:Mi K aq "point" "Store.point" ZP ["self","state"]
 cB:Mi K aq "nodes_below" "Store.nodes_below" Yu ["self","node"]
 bI:Addr
 cZ:mg "NOUGHT"=some (.ref bI)
 de:∀H,SqT K H bI [.int 0,.int 1]
 cL:Addr
 fg:mg "ONE"=some (.ref cL)
 fC:∀H,SqT K H cL [.int 1,.int 1]
local macro_rules | `(tactic| walk_at "q1") => `(tactic| first | exact .inl rfl | exact .inr rfl | assumption)
local macro_rules | `(tactic| walk_at "q2") => `(tactic| ((try simp only [Nat.add_eq]); omega))
local macro_rules | `(tactic| walk_at "q3") => `(tactic| first | with_reducible exact zdN | with_reducible exact zjj | with_reducible exact zlq | with_reducible exact zf6 | with_reducible exact zeR | with_reducible exact zlo | with_reducible exact zlp | with_reducible exact zdM | with_reducible exact zji | with_reducible exact zf5)
local macro_rules | `($f \ ($o,$h,$p,$x)) => `(zk9 $o $h rfl ($f).m ($f).F.kp ($f).b .nil $p $x) | `($a \ $b) => `(@zR _ _ _ _ _ $a $b (by walk_at "q3"))
local macro_rules | `($a <|> $b) => `(@ziI _ _ _ _ _ $a $b)
local macro_rules | `(¬$a) => `(@zk4 _ _ _ $a)
local macro_rules | `(!$a) => `(@znd _ _ _ _ $a)
local macro_rules | `(~~~$a) => `(@znp _ _ _ _ _ $a)
local macro_rules | `($r % ($a,$b)) => `(@zoS _ _ _ _ _ _ _ $r $a $b fun _ _ => rfl)
local macro_rules | `(tactic| walk_at "re") => `(tactic| repeat first | with_reducible apply zb | with_reducible apply zf | with_reducible apply zx | with_reducible apply zF | with_reducible apply zo | with_reducible apply zJ | with_reducible apply zN | with_reducible apply yc | with_reducible apply yv | with_reducible apply yO | with_reducible apply xG | with_reducible apply vG | with_reducible apply vC | with_reducible apply WE | with_reducible apply xj | with_reducible apply Zj | with_reducible apply yF | with_reducible apply Yh | with_reducible apply zbB | with_reducible apply zaZ | with_reducible apply vN | with_reducible apply vM | with_reducible apply Zk | with_reducible apply ZE | with_reducible apply vn | with_reducible apply vo | with_reducible apply zbD | with_reducible apply zjB | with_reducible apply znJ | with_reducible apply UY | with_reducible apply UB | with_reducible apply Ta | with_reducible apply zmT | with_reducible apply zmS | with_reducible apply YN | with_reducible apply zaY | with_reducible apply Xt | with_reducible apply zjC | with_reducible apply vX | with_reducible apply zjD | with_reducible apply zmR | with_reducible apply za0 | with_reducible apply zg4 | with_reducible apply zjG | with_reducible apply zfh | with_reducible apply zjq | with_reducible apply znE | with_reducible apply zge | with_reducible apply zhl | with_reducible apply zbx | with_reducible apply zha | with_reducible apply zg7 | with_reducible apply zg6 | with_reducible apply zf7 | with_reducible apply znG | with_reducible apply zo2 | with_reducible apply zf8 | with_reducible apply znH | with_reducible apply zbw | with_reducible apply zc4 | with_reducible apply zjp | with_reducible apply Td | with_reducible apply zjA | with_reducible apply zc9 | with_reducible apply zbG | with_reducible apply zeY | with_reducible apply zjo | with_reducible apply zg9 | with_reducible apply znF | with_reducible apply zeX | with_reducible apply zj2 | with_reducible apply zdf | with_reducible apply zjn | with_reducible apply zdQ | with_reducible apply zfb | with_reducible apply zjt | with_reducible apply zjv | with_reducible apply zjH | with_reducible apply zbC | with_reducible apply zc6 | with_reducible apply WH | with_reducible apply zgg | with_reducible apply zjI | exact rfl | exact Nat.le_of_ble_eq_true rfl | exact yc | exact yF | exact zbB | exact zaZ | exact Zk | exact ZE | exact zjB | exact zjC | exact vX | exact za0 | exact zjG | exact zfh | exact zjq | exact zge | exact zhl | exact zha | exact zg7 | exact zg6 | exact zjp | exact Td | exact zjA | exact zc9 | exact zbG | exact zeY | exact zg9 | exact zeX | exact zj2 | exact zdf | exact zdQ | exact zfb | exact zjv | exact zjH | exact zbC | exact zc6 | exact zgg | exact zjI | apply UY | apply zjt)
local macro_rules | `($s ^^^ ($i,$o,$e)) => `(@zni _ _ $i _ _ _ _ ($s).nd rfl $o $e (by rfl) (by walk_at "q1"))
noncomputable def Zo (fu:Nat):TwS:=(zu (zY (eFn zgf [(za 0)]) (gN 0)) (zu (zY (eFn zgf [(za 1)]) (gN 1)) (zu (sWh fu (bE (eOp zcw (za 1) (eC (.int 0)))) (zu (zY (eOp WJ (za 0) (za 1)) (gN 2)) (zu (zY (za 1) (gN 0)) (zY (za 2) (gN 1))))) (yd (za 0)))))
noncomputable def VG (fu:Nat):TwF:=yi 2 1 (Zo fu)
theorem zb6 (T:Tx K mg):yD P w K mg base (CXE P w) 1 T.bj.a T.bj.fd ["one","other"] (sTw K 2 (VG fu)):=
 T.bj.F.okE wo (λvs H Q E h=>h.1) (λaS A outer s H vs Q E hr h=>⟨_,((wo^^^(0,qX rfl,zA UU rfl T.dM boot_abs (pv 0\ze)))<|>(wo^^^(1,qX rfl,zA UU rfl T.dM boot_abs (pv 1\ze)))<|>UR PassesOwn.leaving (yG (zad (pv 1) zg)) ((wo^^^(2,qX rfl,zL YI (pv 0) (pv 1)))<|>(wo^^^(0,qX rfl,pv 1))<|>¬(wo^^^(1,qX rfl,pv 2)))<|>¬(!pv 0)),yz (n:=2) (k:=1) (b:=Zo fu) rfl (by unfold Zo;walk_at "re") h⟩)
noncomputable def Uc (fu:Nat):TwS:=(zu (zY (zP (VG fu) [(za 0),(za 1)]) (gN 2)) (zu (sIf (bE (eOp dLt (za 1) (eC (.int 0)))) (zY (eUn zia (za 2)) (gN 2)) yo) (yd (wO [(eOp UH (za 0) (za 2)),(eOp UH (za 1) (za 2))]))))
noncomputable def Ud (fu:Nat):TwF:=yi 2 1 (Uc fu)
theorem zdk (T:Tx K mg):yD P w K mg base (CXE P w) 33 T.c9.a T.c9.fd ["top","bottom"] (sTw K 2 (Ud fu)):=
 T.c9.F.okE zam (λvs H Q E h=>h.1) (λaS A outer s H vs Q E hr h=>⟨_,((zam^^^(2,qX rfl,T.bj\(zb6 (fu:=fu) T,hr.mono ∅,zH,pv 0\(pv 1\ze))))<|>yt (yG (zat (pv 1) zg)) (¬(zam^^^(2,qX rfl,ziN zfL (pv 2)))) zI<|>¬(!(~~~(zL (Tv hr) (pv 0) (pv 2)\(zL (Tv hr) (pv 1) (pv 2)\ze))))),yz (n:=2) (k:=1) (b:=Uc fu) rfl (by unfold Uc;walk_at "re") h⟩)
noncomputable def za6 (fu:Nat):TwS:=(yd (zP (Ud fu) [(eOp Yb (eOp vY (eOp zB (za 0) (eC (.int 0))) (eOp zB (za 1) (eC (.int 1)))) (eOp vY (eOp zB (za 1) (eC (.int 0))) (eOp zB (za 0) (eC (.int 1))))),(eOp vY (eOp zB (za 0) (eC (.int 1))) (eOp zB (za 1) (eC (.int 1))))]))
noncomputable def zef (fu:Nat):TwF:=yi 2 0 (za6 fu)
theorem zlN (T:Tx K mg):yD P w K mg base (CXE P w) 34 T.d9.a T.d9.fd ["one","other"] (sTw K 2 (zef fu)):=
 T.d9.F.okE zlM (λvs H Q E h=>h.1) (λaS A outer s H vs Q E hr h=>⟨_,(¬(!(T.c9\(zdk (fu:=fu) T,hr.mono ∅,zH,zL xY (zL xQ (zj (K:=K)%(pv 0,zg)) (zj (K:=K)%(pv 1,zg))) (zL xQ (zj (K:=K)%(pv 1,zg)) (zj (K:=K)%(pv 0,zg)))\(zL xQ (zj (K:=K)%(pv 0,zg)) (zj (K:=K)%(pv 1,zg))\ze))))),yz (n:=2) (k:=0) (b:=za6 fu) rfl (by unfold za6;walk_at "re") h⟩)
noncomputable def TH (fu:Nat):TwS:=(yd (zP (Ud fu) [(eOp vY (eOp zB (za 0) (eC (.int 0))) (eOp zB (za 1) (eC (.int 0)))),(eOp vY (eOp zB (za 0) (eC (.int 1))) (eOp zB (za 1) (eC (.int 1))))]))
noncomputable def zb7 (fu:Nat):TwF:=yi 2 0 (TH fu)
theorem zki (T:Tx K mg):yD P w K mg base (CXE P w) 34 T.cI.a T.cI.fd ["one","other"] (sTw K 2 (zb7 fu)):=
 T.cI.F.okE zkf (λvs H Q E h=>h.1) (λaS A outer s H vs Q E hr h=>⟨_,(¬(!(T.c9\(zdk (fu:=fu) T,hr.mono ∅,zH,zL xQ (zj (K:=K)%(pv 0,zg)) (zj (K:=K)%(pv 1,zg))\(zL xQ (zj (K:=K)%(pv 0,zg)) (zj (K:=K)%(pv 1,zg))\ze))))),yz (n:=2) (k:=0) (b:=TH fu) rfl (by unfold TH;walk_at "re") h⟩)
noncomputable def TJ (fu:Nat):TwS:=(yd (eOp dLt (eOp vY (eOp zB (za 0) (eC (.int 0))) (eOp zB (za 1) (eC (.int 1)))) (eOp vY (eOp zB (za 1) (eC (.int 0))) (eOp zB (za 0) (eC (.int 1))))))
noncomputable def zfj (fu:Nat):TwF:=yi 2 0 (TJ fu)
theorem zkj (T:Tx K mg):yD P w K mg base (CXE P w) 1 T.cH.a T.cH.fd ["one","other"] (sTw K 2 (zfj fu)):=
 T.cH.F.okE zkg (λvs H Q E h=>h.1) (λaS A outer s H vs Q E hr h=>⟨_,(¬(!YG (zat (zL xQ (zj (K:=K)%(pv 0,zg)) (zj (K:=K)%(pv 1,zg))) (zL xQ (zj (K:=K)%(pv 1,zg)) (zj (K:=K)%(pv 0,zg)))))),yz (n:=2) (k:=0) (b:=TJ fu) rfl (by unfold TJ;walk_at "re") h⟩)
noncomputable def WY (fu:Nat):TwS:=(yd (eIf (bE (zP (zfj fu) [(za 0),(za 1)])) (za 1) (za 0)))
noncomputable def UK (fu:Nat):TwF:=yi 2 0 (WY fu)
theorem zgy (T:Tx K mg):yD P w K mg base (CXE P w) 2 T.cb.a T.cb.fd ["one","other"] (sTw K 2 (UK fu)):=
 T.cb.F.okE zgs (λvs H Q E h=>h.1) (λaS A outer s H vs Q E hr h=>⟨_,(¬(!YH (Zg (T.cH\(zkj (fu:=fu) T,hr.mono ∅,zH,pv 0\(pv 1\ze)))) (pv 1) (pv 0))),yz (n:=2) (k:=0) (b:=WY fu) rfl (by unfold WY;walk_at "re") h⟩)
noncomputable def XC (fu:Nat):TwS:=(yd (eMt zbS (xm [none] (iT (za 0)) (gN 0) xi (eOp zB (za 0) (eC (.int 0)))) [(za 1)]))
noncomputable def VH (fu:Nat):TwF:=yi 2 0 (XC fu)
theorem zfk (T:Tx K mg):yD P w K mg base (CXE P w) 1 T.bS.a T.bS.fd ["boxes","name"] (sTw K 2 (VH fu)):=
 T.bS.F.okE zfi (λvs H Q E h=>h.1) (λaS A outer s H vs Q E hr h=>⟨_,(¬(!Yr rm uj uk zjg (yY (N':=["box"]) rfl (blk (osc:=zi WM) rfl (by decide+kernel)) (yM yL) (WC (K:=K) (pv 0)) (yk rfl) (λC s₀ H₀ fp=>zX (i:=0) (show (["box"]:List Str).Nodup from by decide+kernel) rfl (qX rfl)) (λC s₀ H₀ fp=>yK) (λC s₀ H₀ fp=>(zj (K:=K)%(pv 0,zg)))) (pv 1\ze))),yz (n:=2) (k:=0) (b:=XC fu) rfl (by unfold XC;walk_at "re") h⟩)
noncomputable def TK (fu:Nat):TwS:=(zu (sIf (bE (eUn (UC "str") (za 2))) (yd (eOp zB (za 1) (zP (VH fu) [(za 0),(za 2)]))) yo) (yd (za 2)))
noncomputable def TL (fu:Nat):TwF:=yi 3 0 (TK fu)
theorem zfl (T:Tx K mg):yD P w K mg base (CXE P w) 2 T.cz.a T.cz.fd ["boxes","state","operand"] (sTw K 3 (TL fu)):=
 T.cz.F.okE zkh (λvs H Q E h=>h.1) (λaS A outer s H vs Q E hr h=>⟨_,(yt (Zg (zA (wk (K:=K)) rfl T.aE boot_isinstance (zR (pv 2) (zR (Zf (v:= .ty "str") rfl T.eD boot_str rfl) ze)))) (¬(!(zj (K:=K)%(pv 1,T.bS\(zfk (fu:=fu) T,hr.mono ∅,zH,pv 0\(pv 2\ze)))))) zI<|>¬(!pv 2)),yz (n:=3) (k:=0) (b:=TK fu) rfl (by unfold TK;walk_at "re") h⟩)
noncomputable def TM (fu:Nat):TwS:=(zu (zY (zP (TL fu) [(za 0),(za 1),(eOp zB (za 2) (eC (.int 0)))]) (gN 3)) (zu (zY (zP (TL fu) [(za 0),(za 1),(eOp zB (za 2) (eC (.int 2)))]) (gN 4)) (zu (sIf (bE (eOp (we false) (eOp zB (za 2) (eC (.int 1))) (eC (.str "=")))) (yd (eOp Vn (za 3) (za 4))) yo) (zu (sIf (bE (eOp (we false) (eOp zB (za 2) (eC (.int 1))) (eC (.str "<")))) (yd (eOp dLt (za 3) (za 4))) yo) (yd (eOp zcw (za 3) (za 4)))))))
noncomputable def zb8 (fu:Nat):TwF:=yi 3 2 (TM fu)
theorem zkk (T:Tx K mg):yD P w K mg base (CXE P w) 3 T.cJ.a T.cJ.fd ["boxes","state","test"] (sTw K 3 (zb8 fu)):=
 T.cJ.F.okE zb3 (λvs H Q E h=>h.1) (λaS A outer s H vs Q E hr h=>⟨_,((zb3^^^(3,qX rfl,T.cz\(zfl (fu:=fu) T,hr.mono ∅,zH,pv 0\(pv 1\((zj (K:=K)%(pv 2,zg))\ze)))))<|>(zb3^^^(4,qX rfl,T.cz\(zfl (fu:=fu) T,hr.mono ∅,zH,pv 0\(pv 1\((zj (K:=K)%(pv 2,zg))\ze)))))<|>yt (yR wx (zj (K:=K)%(pv 2,zg)) ye (by rfl)) (¬(!YG (vz (pv 3) (pv 4)))) zI<|>yt (yR wx (zj (K:=K)%(pv 2,zg)) ye (by rfl)) (¬(!YG (zat (pv 3) (pv 4)))) zI<|>¬(!YG (zad (pv 3) (pv 4)))),yz (n:=3) (k:=2) (b:=TM fu) rfl (by unfold TM;walk_at "re") h⟩)
noncomputable def Zp (fu:Nat):TwS:=(zu (ze9 "Store" "boxes" (za 0) (za 1)) (zu (ze9 "Store" "facts" (za 0) (Wj [])) (ze9 "Store" "numbers" (za 0) zbK)))
noncomputable def xV (fu:Nat):TwF:=yi 2 0 (Zp fu)
theorem XD (T:Tx K mg):yD P w K mg base (CXE P w) 1 T.aJ.a T.aJ.fd ["self","boxes"] (sTw K 2 (xV fu)):=
 T.aJ.F.okE TB (λvs H Q E h=>h.1) (λaS A outer s H vs Q E hr h=>⟨_,(zfQ (pv 0) (pv 1) rfl<|>zfQ (pv 0) (@wV _ _ _ _ ze) rfl<|>¬zfQ (pv 0) zbi rfl),yz (n:=2) (k:=0) (b:=Zp fu) rfl (zJ (zd2 T.ae T.af T.az (zb 0) (zb 1)) (zJ (zd2 T.ae T.af T.aA (zb 0) (YN zo)) (zd2 T.ae T.af T.aF (zb 0) zdT))) h⟩)
noncomputable def vU (fu:Nat):TwS:=(zu (sIf (bE (zhi true (za 1) (vH "Store" "numbers" (za 0)))) (zu (za4 (vH "Store" "numbers" (za 0)) (za 1) (eFn wA [(vH "Store" "facts" (za 0))])) (Zz (eMt xx (vH "Store" "facts" (za 0)) [(za 1)]))) yo) (yd (zd0 (vH "Store" "numbers" (za 0)) (za 1))))
noncomputable def wE (fu:Nat):TwF:=yi 2 0 (vU fu)
theorem YZ (T:Tx K mg):yD P w K mg base (CXE P w) 1 T.aC.a T.aC.fd ["self","fact"] (sTw K 2 (wE fu)):=
 T.aC.F.okE UJ (λvs H Q E h=>h.1) (λaS A outer s H vs Q E hr h=>⟨_,(yt (yG (zbO (K:=K) hr (pv 1) (wN (pv 0) rfl))) (ze4 (K:=K) hr (wN (pv 0) rfl) (pv 1) (zA (ym (K:=K)) rfl T.aX boot_len (wN (pv 0) rfl\ze)) rfl<|>¬wP (Yr rm rO rP xC (wN (pv 0) rfl) (pv 1\ze))) zI<|>¬(!ze3 (K:=K) hr (wN (pv 0) rfl) (pv 1) (λ_ _=>rfl))),yz (n:=2) (k:=0) (b:=vU fu) rfl (zJ (vG (WE (zhj (zb 1) (xJ T.ae T.af T.aF (zb 0)))) (zJ (ze7 (xJ T.ae T.af T.aF (zb 0)) (zb 1) (Zj ZE (zf (xJ T.ae T.af T.aA (zb 0)) zo))) (Xt (UY vX (xJ T.ae T.af T.aA (zb 0)) (zf (zb 1) zo)))) xj) (yv (ze6 (xJ T.ae T.af T.aF (zb 0)) (zb 1)))) h⟩)
noncomputable def XU (fu:Nat):TwS:=(yd (yp "Store" "number_of" (wE fu) (za 0) [(wO [(eC (.str "leaf")),(za 1)])]))
noncomputable def xk (fu:Nat):TwF:=yi 2 0 (XU fu)
theorem wa (T:Tx K mg):yD P w K mg base (CXE P w) 2 T.au.a T.au.fd ["self","one"] (sTw K 2 (xk fu)):=
 T.au.F.okE zcy (λvs H Q E h=>h.1) (λaS A outer s H vs Q E hr h=>⟨_,(¬(!zS (pv 0) T.af T.aC.mt (YZ (fu:=fu) T) (hr.mono ∅) T.aC.b .nil zH ((~~~(ye\(pv 1\ze)))\ze))),yz (n:=2) (k:=0) (b:=XU fu) rfl (yv (zM T.ae (zb 0) (zf (Yh (zf (vC _) (zf (zb 1) zo))) zo))) h⟩)
noncomputable def XV (fu:Nat):TwS:=(zu (zY (eOp yA (za 2) (eC (.int 0))) (gN 3)) (zu (sIf (bE (eFn zbF [(xm [none,some 3] (iL (za 2)) (gN 0) xi (eOp Vn (za 0) (za 1)))])) (yd (za 3)) yo) (yd (yp "Store" "number_of" (wE fu) (za 0) [(wO [(eC (.str "fork")),(za 1),(eFn Vv [(za 2)])])]))))
noncomputable def xA (fu:Nat):TwF:=yi 3 1 (XV fu)
theorem wL (T:Tx K mg):yD P w K mg base (CXE P w) 2 T.ay.a T.ay.fd ["self","level","kids"] (sTw K 3 (xA fu)):=
 T.ay.F.okE Uv (λvs H Q E h=>h.1) (λaS A outer s H vs Q E hr h=>⟨_,((Uv^^^(3,t7 rfl,zt (K:=K)%(pv 2,zg)))<|>yt (Zg (zA (Wi (K:=K) rfl) rfl T.dq PyProof.Rows.Boot.«all» (zR (yY (N':=["kid","first"]) rfl (blk (osc:=zi Yw) rfl (by decide+kernel)) (yM (zT (i:=3) rfl rfl yL)) (wm (K:=K) (pv 2)) (yk rfl) (λC s₀ H₀ fp=>zX (i:=0) (show (["kid","first"]:List Str).Nodup from by decide+kernel) rfl (qX rfl)) (λC s₀ H₀ fp=>yK) (λC s₀ H₀ fp=>(YG (vz (pv 0) (pv 1))))) ze))) (¬(!pv 3)) zI<|>¬(!zS (pv 0) T.af T.aC.mt (YZ (fu:=fu) T) (hr.mono ∅) T.aC.b .nil zH ((~~~(ye\(pv 1\(vW (Xr (K:=K)) rfl T.cf boot_tuple (pv 2\ze)\ze))))\ze))),yz (n:=3) (k:=1) (b:=XV fu) rfl (zJ (yO (zx yF (zb 2) (zF _)) zN) (zJ (vG (WE (Zj zbG (zf (vN (cap:=[none,some 3]) (Ta (zb 2)) zN vM (zbD (zb 0) (zb 1))) zo))) (yv (zb 3)) xj) (yv (zM T.ae (zb 0) (zf (Yh (zf (vC _) (zf (zb 1) (zf (Zj Td (zf (zb 2) zo)) zo)))) zo))))) h⟩)
noncomputable def wR (fu:Nat):TwS:=(zu (zY (eOp yA (vH "Store" "facts" (za 0)) (za 1)) (gN 2)) (yd (eIf (bE (eOp (we false) (eOp zB (za 2) (eC (.int 0))) (eC (.str "fork")))) (eOp zB (za 2) (eC (.int 1))) (eFn wA [(vH "Store" "boxes" (za 0))]))))
noncomputable def yE (fu:Nat):TwF:=yi 2 1 (wR fu)
theorem wS (T:Tx K mg):yD P w K mg base (CXE P w) 1 T.ax.a T.ax.fd ["self","node"] (sTw K 2 (yE fu)):=
 T.ax.F.okE Xz (λvs H Q E h=>h.1) (λaS A outer s H vs Q E hr h=>⟨_,((Xz^^^(2,qX rfl,zt (K:=K)%(wN (pv 0) rfl,pv 1)))<|>¬(!YH (yR wx (zj (K:=K)%(pv 2,zg)) ye (by rfl)) (zj (K:=K)%(pv 2,zg)) (zA (ym (K:=K)) rfl T.aX boot_len (wN (pv 0) rfl\ze)))),yz (n:=2) (k:=1) (b:=wR fu) rfl (zJ (yO (zx yF (xJ T.ae T.af T.aA (zb 0)) (zb 1)) zN) (yv (zc4 (vn (zx Zk (zx yc (zb 2) (zF _)) (vC _))) (zx yc (zb 2) (zF _)) (Zj ZE (zf (xJ T.ae T.af T.az (zb 0)) zo))))) h⟩)
noncomputable def ZI (fu:Nat):TwS:=(zu (zY (eOp yA (vH "Store" "facts" (za 0)) (za 1)) (gN 2)) (yd (eIf (bE (eOp (we false) (eOp zB (za 2) (eC (.int 0))) (eC (.str "fork")))) (eOp zB (za 2) (eC (.int 2))) (wO []))))
noncomputable def xD (fu:Nat):TwF:=yi 2 1 (ZI fu)
theorem ZJ (T:Tx K mg):yD P w K mg base (CXE P w) 1 T.aB.a T.aB.fd ["self","node"] (sTw K 2 (xD fu)):=
 T.aB.F.okE Wr (λvs H Q E h=>h.1) (λaS A outer s H vs Q E hr h=>⟨_,((Wr^^^(2,qX rfl,zt (K:=K)%(wN (pv 0) rfl,pv 1)))<|>¬(!YH (yR wx (zj (K:=K)%(pv 2,zg)) ye (by rfl)) (zj (K:=K)%(pv 2,zg)) (~~~ze))),yz (n:=2) (k:=1) (b:=ZI fu) rfl (zJ (yO (zx yF (xJ T.ae T.af T.aA (zb 0)) (zb 1)) zN) (yv (zc4 (vn (zx Zk (zx yc (zb 2) (zF _)) (vC _))) (zx yc (zb 2) (zF _)) (Yh zo)))) h⟩)
noncomputable def Ym (fu:Nat):TwS:=(yd (eIf (bE (eOp Vn (yp "Store" "level_of" (yE fu) (za 0) [(za 1)]) (za 2))) (eOp zB (yp "Store" "kids_of" (xD fu) (za 0) [(za 1)]) (za 3)) (za 1)))
noncomputable def wH (fu:Nat):TwF:=yi 4 0 (Ym fu)
theorem Vk (T:Tx K mg):yD P w K mg base (CXE P w) 2 T.aK.a T.aK.fd ["self","node","level","number"] (sTw K 4 (wH fu)):=
 T.aK.F.okE zaN (λvs H Q E h=>h.1) (λaS A outer s H vs Q E hr h=>⟨_,(¬(!YH (yG (vz (zS (pv 0) T.af T.ax.mt (wS (fu:=fu) T) (hr.mono ∅) T.ax.b .nil zH (pv 1\ze)) (pv 2))) (zj (K:=K)%(zS (pv 0) T.af T.aB.mt (ZJ (fu:=fu) T) (hr.mono ∅) T.aB.b .nil zH (pv 1\ze),pv 3)) (pv 1))),yz (n:=4) (k:=0) (b:=Ym fu) rfl (yv (zc4 (WE (zbD (zM T.ae (zb 0) (zf (zb 1) zo)) (zb 2))) (zx yc (zM T.ae (zb 0) (zf (zb 1) zo)) (zb 3)) (zb 1))) h⟩)
noncomputable def Zq (fu:Nat):TwS:=(zu (sWh fu (bE (eOp (we false) (eOp zB (eOp yA (vH "Store" "facts" (za 0)) (za 1)) (eC (.int 0))) (eC (.str "fork")))) (zY (eOp zB (yp "Store" "kids_of" (xD fu) (za 0) [(za 1)]) (eOp zB (za 2) (yp "Store" "level_of" (yE fu) (za 0) [(za 1)]))) (gN 1))) (yd (eOp zB (eOp yA (vH "Store" "facts" (za 0)) (za 1)) (eC (.int 1)))))
noncomputable def Zr (fu:Nat):TwF:=yi 3 0 (Zq fu)
theorem TN (T:Tx K mg):yD P w K mg base (CXE P w) 2 T.aM.a T.aM.fd ["self","node","state"] (sTw K 3 (Zr fu)):=
 T.aM.F.okE XA (λvs H Q E h=>h.1) (λaS A outer s H vs Q E hr h=>⟨_,(UR PassesOwn.leaving (yR wx (zj (K:=K)%(zt (K:=K)%(wN (pv 0) rfl,pv 1),zg)) ye (by rfl)) (¬(XA^^^(1,qX rfl,zj (K:=K)%(zS (pv 0) T.af T.aB.mt (ZJ (fu:=fu) T) (hr.mono ∅) T.aB.b .nil zH (pv 1\ze),zj (K:=K)%(pv 2,zS (pv 0) T.af T.ax.mt (wS (fu:=fu) T) (hr.mono ∅) T.ax.b .nil zH (pv 1\ze))))))<|>¬(!(zj (K:=K)%(zt (K:=K)%(wN (pv 0) rfl,pv 1),zg)))),yz (n:=3) (k:=0) (b:=Zq fu) rfl (zJ (zbw (vn (zx Zk (zx yc (zx yF (xJ T.ae T.af T.aA (zb 0)) (zb 1)) (zF _)) (vC _))) (yO (zx yc (zM T.ae (zb 0) (zf (zb 1) zo)) (zx yc (zb 2) (zM T.ae (zb 0) (zf (zb 1) zo)))) zN)) (yv (zx yc (zx yF (xJ T.ae T.af T.aA (zb 0)) (zb 1)) (zF _)))) h⟩)
noncomputable def zpm (fu:Nat):TwE:=(zP (zef fu) [(eOp yA (za 0) (eC (.int 0))),(eOp yA (za 0) (eC (.int 1)))])
noncomputable def zdl (fu:Nat):List Xv->TwF:=zd5 1 0 (zpm fu)
theorem zpn (T:Tx K mg):Xw P w K mg base 35 TC (zdl fu):=
 zbV (ps:=["ones"]) ⟨rfl,rfl,rfl, *...*, *...*, *...*, *...*⟩ rfl rfl (λ_ _ _ _=>at_ λ_=>at0 rfl) (λb7 f c A outer s H hr=>⟨_,(T.d9\(zlN (fu:=fu) T,hr.mono ∅,wX,(zt (K:=K)%(pv 0,zg))\((zt (K:=K)%(pv 0,zg))\ze))),(xG (zf (zx yF (zb 0) (zF _)) (zf (zx yF (zb 0) (zF _)) zo)))⟩)
noncomputable def zpo (fu:Nat):TwE:=(zP (zb7 fu) [(eOp yA (za 0) (eC (.int 0))),(eOp yA (za 0) (eC (.int 1)))])
noncomputable def zdm (fu:Nat):List Xv->TwF:=zd5 1 0 (zpo fu)
theorem zpp (T:Tx K mg):Xw P w K mg base 35 TD (zdm fu):=
 zbV (ps:=["ones"]) ⟨rfl,rfl,rfl, *...*, *...*, *...*, *...*⟩ rfl rfl (λ_ _ _ _=>at_ λ_=>at0 rfl) (λb7 f c A outer s H hr=>⟨_,(T.cI\(zki (fu:=fu) T,hr.mono ∅,wX,(zt (K:=K)%(pv 0,zg))\((zt (K:=K)%(pv 0,zg))\ze))),(xG (zf (zx yF (zb 0) (zF _)) (zf (zx yF (zb 0) (zF _)) zo)))⟩)
noncomputable def zpq (fu:Nat):TwE:=(zP (UK fu) [(eOp yA (za 0) (eC (.int 0))),(eOp yA (za 0) (eC (.int 1)))])
noncomputable def zdn (fu:Nat):List Xv->TwF:=zd5 1 0 (zpq fu)
theorem zpr (T:Tx K mg):Xw P w K mg base 3 TF (zdn fu):=
 zbV (ps:=["ones"]) ⟨rfl,rfl,rfl, *...*, *...*, *...*, *...*⟩ rfl rfl (λ_ _ _ _=>at_ λ_=>at0 rfl) (λb7 f c A outer s H hr=>⟨_,(T.cb\(zgy (fu:=fu) T,hr.mono ∅,wX,(zt (K:=K)%(pv 0,zg))\((zt (K:=K)%(pv 0,zg))\ze))),(xG (zf (zx yF (zb 0) (zF _)) (zf (zx yF (zb 0) (zF _)) zo)))⟩)
noncomputable def ZK (fu:Nat):TwS:=(zu (zY (xm [none,some 0] (iT (za 1)) (gN 0) xi (eOp yA (vH "Store" "facts" (za 1)) (za 0))) (gN 3)) (zu (sIf (bE (eFn zib [(xm [none] (iL (za 3)) (gN 0) xi (eOp (we false) (eOp zB (za 0) (eC (.int 0))) (eC (.str "fork"))))])) (yd (eC .non)) yo) (yd (yp "Store" "leaf" (xk fu) (za 0) [(UG [(TC,zdl fu),(TD,zdm fu),(TF,zdn fu)] 2 [(xm [none] (iL (za 3)) (gN 0) xi (eOp zB (za 0) (eC (.int 1))))])]))))
noncomputable def ZL (fu:Nat):TwF:=yi 3 1 (ZK fu)
theorem zan (T:Tx K mg):yD P w K mg base (CXE P w) 36 T.aP.a T.aP.fd ["self","nodes","rule"] (sTw K 3 (ZL fu)):=
 T.aP.F.okE Ws (λvs H Q E h=>h.1) (λaS A outer s H vs Q E hr h=>⟨_,(WA (i:=3) (N':=["node","self"]) rfl (blk (osc:=zi xO) rfl (by decide+kernel)) (yM (zT (i:=0) rfl rfl yL)) (WC (K:=K) (pv 1)) (yk rfl) (λC s₀ H₀ fp=>zX (i:=0) (show (["node","self"]:List Str).Nodup from by decide+kernel) rfl (qX rfl)) (λC s₀ H₀ fp=>yK) (λC s₀ H₀ fp=>(zt (K:=K)%(wN (pv 1) rfl,pv 0))) Ws.nd rfl rfl<|>yt (Zg (zA (zc3 (K:=K) rfl) rfl T.fe PyProof.Rows.Boot.«any» (zR (yY (N':=["fact"]) rfl (blk (osc:=zi xO) rfl (by decide+kernel)) (yM yL) (wm (K:=K) (pv 3)) (yk rfl) (λC s₀ H₀ fp=>zX (i:=0) (show (["fact"]:List Str).Nodup from by decide+kernel) rfl (qX rfl)) (λC s₀ H₀ fp=>yK) (λC s₀ H₀ fp=>(US wx (zj (K:=K)%(pv 0,zg)) ye (by rfl)))) ze))) (¬(!znc)) zI<|>¬(!zS (pv 0) T.af T.au.mt (wa (fu:=fu) T) (hr.mono ∅) T.au.b .nil zH (zbT (i:=2) (k:=35) rfl (by first|exact .inl rfl|exact .inr (.inl rfl)|exact .inr (.inr rfl)) (zd7 (fns:=[(TC,zdl fu),(TD,zdm fu),(TF,zdn fu)]) (Wo (zpn (fu:=fu) T) ∅ (Wo (zpp (fu:=fu) T) ∅ (Wo (zpr (fu:=fu) T) ∅ zb0)))) (hr.mono ∅) (zR (yY (N':=["fact"]) rfl (blk (osc:=zi xO) rfl (by decide+kernel)) (yM yL) (wm (K:=K) (pv 3)) (yk rfl) (λC s₀ H₀ fp=>zX (i:=0) (show (["fact"]:List Str).Nodup from by decide+kernel) rfl (qX rfl)) (λC s₀ H₀ fp=>yK) (λC s₀ H₀ fp=>(zj (K:=K)%(pv 0,zg)))) ze)\ze))),yz (n:=3) (k:=1) (b:=ZK fu) rfl (zJ (WH (vN (cap:=[none,some 0]) (zbx (zb 1)) zN vM (zx yF (xJ T.ae T.af T.aA (zb 1)) (zb 0)))) (zJ (vG (WE (Zj zgg (zf (vN (cap:=[none]) (Ta (zb 3)) zN vM (zx Zk (zx yc (zb 0) (zF _)) (vC _))) zo))) (yv znD) xj) (yv (zM T.ae (zb 0) (zf (zbW (zf (vN (cap:=[none]) (Ta (zb 3)) zN vM (zx yc (zb 0) (zF _))) zo)) zo))))) h⟩)
noncomputable def zps (fu:Nat):TwE:=(yp "Store" "leaf_by" (ZL fu) (za 1) [(za 0),(za 2)])
noncomputable def zhr (fu:Nat):List Xv->TwF:=zd5 1 2 (zps fu)
theorem zpt (T:Tx K mg):Xw P w K mg base 37 zaE (zhr fu):=
 zbV (ps:=["these"]) ⟨rfl,rfl,rfl, *...*, *...*, *...*, *...*⟩ rfl rfl (λ_ _ _ _=>at_ λ_=>at0 rfl) (λb7 f c A outer s H hr=>⟨_,(zS (pv 1) T.af T.aP.mt (zan (fu:=fu) T) (hr.mono ∅) T.aP.b .nil wX (pv 0\(pv 2\ze))),(zM T.ae (zb 1) (zf (zb 0) (zf (zb 2) zo)))⟩)
noncomputable def vO (fu:Nat) (cq:TwF) (bK:TwF):TwS:=(zu (sIf (bE (zhi true (za 1) (za 3))) (zu (zY (UG [(zaE,zhr fu)] 2 [(za 1)]) (gN 4)) (za4 (za 3) (za 1) (eIf (bE (eUn zf9 (za 4))) (yp "Store" "joined_below" bK (za 0) [(za 1),(za 2),(za 3)]) (za 4)))) yo) (yd (zd0 (za 3) (za 1))))
noncomputable def xg (fu:Nat) (cq:TwF) (bK:TwF):TwS:=(zu (zY (eFn zfg [(xm [none,some 0] (iT (za 1)) (gN 0) xi (yp "Store" "level_of" (yE fu) (za 1) [(za 0)]))]) (gN 4)) (zu (zY (Wj []) (gN 5)) (zu (XN (iR1 (eOp zB (eOp zB (vH "Store" "boxes" (za 0)) (za 4)) (eC (.int 1)))) (gN 6) (zu (zY (eFn Vv [(xm [none,some 4,some 6,some 0] (iT (za 1)) (gN 0) xi (yp "Store" "kid_at" (wH fu) (za 3) [(za 0),(za 1),(za 2)]))]) (gN 7)) (Zz (eMt xx (za 5) [(yp "Store" "joined" cq (za 0) [(za 7),(za 2),(za 3)])])))) (yd (yp "Store" "fork" (xA fu) (za 0) [(za 4),(za 5)])))))
mutual
noncomputable def yh (fu:Nat):Nat->TwF
 |0=>λ_ _=>none
 |n+1=>yi 4 1 (vO fu (yh fu n) (zV fu n))
noncomputable def zV (fu:Nat):Nat->TwF
 |0=>λ_ _=>none
 |n+1=>yi 4 4 (xg fu (yh fu n) (zV fu n))
end
theorem Yf (fu n:Nat):yh fu (n+1)=yi 4 1 (vO fu (yh fu n) (zV fu n)):=by rw[yh]
theorem VI (fu:Nat):yh fu 0=λ_ _=>none:=by rw[yh]
theorem vh (fu n:Nat):zV fu (n+1)=yi 4 4 (xg fu (yh fu n) (zV fu n)):=by rw[zV]
theorem Xb (fu:Nat):zV fu 0=λ_ _=>none:=by rw[zV]
theorem zao (T:Tx K mg):∀n:Nat,yD P w K mg base (CXE P w) (37+n) T.aD.a T.aD.fd ["self","nodes","settle","known"] (sTw K 4 (yh fu n))/\yD P w K mg base (CXE P w) (37+n) T.aH.a T.aH.fd ["self","nodes","settle","known"] (sTw K 4 (zV fu n)):=by
 intro n
 induction n with
 |zero=>
  refine⟨?_,?_⟩
  .rw[VI];exact VU
  .rw[Xb];exact VU
 |succ n ih=>
  refine⟨?_,?_⟩
  .rw[Yf];exact T.aD.F.okE Vh (λvs H Q E h=>h.1) (λaS A outer s H vs Q E hr h=>⟨_,(yt (yG (zbO (K:=K) hr (pv 1) (pv 3))) ((Vh^^^(4,qX rfl,zbT (i:=2) (k:=37) rfl (by first|exact .inl rfl|exact .inr (.inl rfl)|exact .inr (.inr rfl)) (zd7 (fns:=[(zaE,zhr fu)]) (Wo (zpt (fu:=fu) T) ∅ zb0)) (hr.mono (by walk_at "q2")) (pv 1\ze)))<|>¬ze4 (K:=K) hr (pv 3) (pv 1) (YH (yG (zfG (pv 4))) (zS (pv 0) T.af T.aH.mt ih.2 (hr.mono (by walk_at "q2")) T.aH.b .nil zH (pv 1\(pv 2\(pv 3\ze)))) (pv 4)) rfl) zI<|>¬(!ze3 (K:=K) hr (pv 3) (pv 1) (λ_ _=>rfl))),yz (n:=4) (k:=1) (b:=vO fu (yh fu n) (zV fu n)) rfl (zJ (vG (WE (zhj (zb 1) (zb 3))) (zJ (yO (zbW (zf (zb 1) zo)) zN) (ze7 (zb 3) (zb 1) (zc4 (WE (zjo (zb 4))) (zM T.ae (zb 0) (zf (zb 1) (zf (zb 2) (zf (zb 3) zo)))) (zb 4)))) xj) (yv (ze6 (zb 3) (zb 1)))) h⟩)
  .rw[vh];exact T.aH.F.okE xf (λvs H Q E h=>h.1) (λaS A outer s H vs Q E hr h=>⟨_,((xf^^^(4,t7 rfl,zA (zin (K:=K) rfl) rfl T.fc boot_min (zR (yY (N':=["node","self"]) rfl (blk (osc:=zi xo) rfl (by decide+kernel)) (yM (zT (i:=0) rfl rfl yL)) (WC (K:=K) (pv 1)) (yk rfl) (λC s₀ H₀ fp=>zX (i:=0) (show (["node","self"]:List Str).Nodup from by decide+kernel) rfl (qX rfl)) (λC s₀ H₀ fp=>yK) (λC s₀ H₀ fp=>(zS (pv 1) T.af T.ax.mt (wS (fu:=fu) T) (hr.mono (by walk_at "q2")) T.ax.b .nil wX (pv 0\ze)))) ze)))<|>(xf^^^(5,qX rfl,@wV _ _ _ _ ze))<|>vA PassesOwn.leaving rfl (yC rfl T.aI ((zj (K:=K)%(zj (K:=K)%(wN (pv 0) rfl,pv 4),zg))\ze)) (zX (i:=6) xf.nd rfl (t7 rfl)) ((xf^^^(7,qX rfl,vW (Xr (K:=K)) rfl T.cf boot_tuple (zR (yY (N':=["node","level","number","self"]) rfl (blk (osc:=zi xo) rfl (by decide+kernel)) (yM (zT (i:=4) rfl rfl (zT (i:=6) rfl rfl (zT (i:=0) rfl rfl yL)))) (WC (K:=K) (pv 1)) (yk rfl) (λC s₀ H₀ fp=>zX (i:=0) (show (["node","level","number","self"]:List Str).Nodup from by decide+kernel) rfl (qX rfl)) (λC s₀ H₀ fp=>yK) (λC s₀ H₀ fp=>(zS (pv 3) T.af T.aK.mt (Vk (fu:=fu) T) (hr.mono (by walk_at "q2")) T.aK.b .nil wX (pv 0\(pv 1\(pv 2\ze)))))) ze)))<|>¬wP (Yr rm rO rP xC (pv 5) (zS (pv 0) T.af T.aD.mt ih.1 (hr.mono (by walk_at "q2")) T.aD.b .nil zH (pv 7\(pv 2\(pv 3\ze)))\ze)))<|>¬(!zS (pv 0) T.af T.ay.mt (wL (fu:=fu) T) (hr.mono (by walk_at "q2")) T.ay.b .nil zH (pv 4\(pv 5\ze)))),yz (n:=4) (k:=4) (b:=xg fu (yh fu n) (zV fu n)) rfl (zJ (yO (Zj zlK (zf (vN (cap:=[none,some 0]) (zbx (zb 1)) zN vM (zM T.ae (zb 1) (zf (zb 0) zo))) zo)) zN) (zJ (yO (YN zo) zN) (zJ (UB (vo (zx yc (zx yc (xJ T.ae T.af T.az (zb 0)) (zb 4)) (zF _))) zN (zJ (yO (Zj Td (zf (vN (cap:=[none,some 4,some 6,some 0]) (zbx (zb 1)) zN vM (zM T.ae (zb 3) (zf (zb 0) (zf (zb 1) (zf (zb 2) zo))))) zo)) zN) (Xt (UY vX (zb 5) (zf (zM T.ae (zb 0) (zf (zb 7) (zf (zb 2) (zf (zb 3) zo)))) zo))))) (yv (zM T.ae (zb 0) (zf (zb 4) (zf (zb 5) zo))))))) h⟩)
theorem zaQ (T:Tx K mg) (n:Nat):yD P w K mg base (CXE P w) (37+n) T.aD.a T.aD.fd ["self","nodes","settle","known"] (sTw K 4 (yh fu n)):=(zao T n).1
noncomputable def vi (fu:Nat):TwS:=(yd (WL "Store" "joined" (yh fu 24) (za 0) [(za 1),(zd4 zaE 4 [0,2]),zbK]))
noncomputable def xp (fu:Nat):TwF:=yi 3 0 (vi fu)
theorem vj (T:Tx K mg):yD P w K mg base (CXE P w) 62 T.ao.a T.ao.fd ["self","nodes","rule"] (sTw K 3 (xp fu)):=by
 obtain⟨zc,zp,hz,hk⟩:=Wq T.ae T.ao.mt.at_ T.bO;exact T.ao.F.okZ (fz:=["self","rule"]) hz VF (λvs H Q E h=>h.1) (λA outer s H vs Q E hr h=>⟨_,(¬(!zS (pv 0) T.af T.aD.mt (zaQ (fu:=fu) T 24) (hr.mono ∅) T.aD.b .nil wX (pv 1\(zR (Tu (L:=zaE) (is:=[0,2]) (Tt (osc:=zi xw) (N:=["self","nodes","rule"]) (fz:=["self","rule"]) rfl rfl rfl rfl (by decide+kernel)) rfl rfl (YV hz).1) (zR zbi ze))))),yz (n:=3) (k:=0) (b:=vi fu) rfl (yv (Wp T.ae (zb 0) (zf (zb 1) (zf (zbU hk) (zf zdT zo))))) h⟩)
noncomputable def Xc (fu:Nat):TwS:=(yd (WL "Store" "reckoned_of" (xp fu) (za 0) [(wO [(za 1),(za 2)]),(zd4 TC 1 [])]))
noncomputable def Xd (fu:Nat):TwF:=yi 3 0 (Xc fu)
theorem zb9 (T:Tx K mg):yD P w K mg base (CXE P w) 63 T.aU.a T.aU.fd ["self","one","other"] (sTw K 3 (Xd fu)):=by
 obtain⟨zc,zp,hz,hk⟩:=Wq T.ae T.aU.mt.at_ T.cC;exact T.aU.F.okZ (fz:=[]) hz zb4 (λvs H Q E h=>h.1) (λA outer s H vs Q E hr h=>⟨_,(¬(!zS (pv 0) T.af T.ao.mt (vj (fu:=fu) T) (hr.mono ∅) T.ao.b .nil wX ((~~~(pv 1\(pv 2\ze)))\(zR (Tu (L:=TC) (is:=[]) (Tt (osc:=zi vI) (N:=["self","one","other"]) (fz:=[]) rfl rfl rfl rfl (by decide+kernel)) rfl rfl (YV hz).1) ze)))),yz (n:=3) (k:=0) (b:=Xc fu) rfl (yv (Wp T.ae (zb 0) (zf (Yh (zf (zb 1) (zf (zb 2) zo))) (zf (zbU hk) zo)))) h⟩)
noncomputable def vE (fu:Nat):TwS:=(yd (WL "Store" "reckoned_of" (xp fu) (za 0) [(wO [(za 1),(za 2)]),(zd4 TD 2 [])]))
noncomputable def vF (fu:Nat):TwF:=yi 3 0 (vE fu)
theorem Uk (T:Tx K mg):yD P w K mg base (CXE P w) 63 T.aG.a T.aG.fd ["self","one","other"] (sTw K 3 (vF fu)):=by
 obtain⟨zc,zp,hz,hk⟩:=Wq T.ae T.aG.mt.at_ T.bR;exact T.aG.F.okZ (fz:=[]) hz Uj (λvs H Q E h=>h.1) (λA outer s H vs Q E hr h=>⟨_,(¬(!zS (pv 0) T.af T.ao.mt (vj (fu:=fu) T) (hr.mono ∅) T.ao.b .nil wX ((~~~(pv 1\(pv 2\ze)))\(zR (Tu (L:=TD) (is:=[]) (Tt (osc:=zi xF) (N:=["self","one","other"]) (fz:=[]) rfl rfl rfl rfl (by decide+kernel)) rfl rfl (YV hz).1) ze)))),yz (n:=3) (k:=0) (b:=vE fu) rfl (yv (Wp T.ae (zb 0) (zf (Yh (zf (zb 1) (zf (zb 2) zo))) (zf (zbU hk) zo)))) h⟩)
noncomputable def Yn (fu:Nat):TwS:=(yd (WL "Store" "reckoned_of" (xp fu) (za 0) [(wO [(za 1),(za 2)]),(zd4 TF 3 [])]))
noncomputable def Yo (fu:Nat):TwF:=yi 3 0 (Yn fu)
theorem zaR (T:Tx K mg):yD P w K mg base (CXE P w) 63 T.aO.a T.aO.fd ["self","one","other"] (sTw K 3 (Yo fu)):=by
 obtain⟨zc,zp,hz,hk⟩:=Wq T.ae T.aO.mt.at_ T.cm;exact T.aO.F.okZ (fz:=[]) hz zaO (λvs H Q E h=>h.1) (λA outer s H vs Q E hr h=>⟨_,(¬(!zS (pv 0) T.af T.ao.mt (vj (fu:=fu) T) (hr.mono ∅) T.ao.b .nil wX ((~~~(pv 1\(pv 2\ze)))\(zR (Tu (L:=TF) (is:=[]) (Tt (osc:=zi wY) (N:=["self","one","other"]) (fz:=[]) rfl rfl rfl rfl (by decide+kernel)) rfl rfl (YV hz).1) ze)))),yz (n:=3) (k:=0) (b:=Yn fu) rfl (yv (Wp T.ae (zb 0) (zf (Yh (zf (zb 1) (zf (zb 2) zo))) (zf (zbU hk) zo)))) h⟩)
noncomputable def xq (fu:Nat) (cA:TwF):TwS:=(zu (zY (yp "Store" "level_of" (yE fu) (za 0) [(za 1)]) (gN 5)) (zu (sIf (bE (eOp dGe (za 5) (za 2))) (yd (yp "Store" "kid_at" (wH fu) (za 0) [(za 1),(za 2),(za 3)])) yo) (zu (sIf (bE (znK true (za 1) (za 4))) (zu (zY (xm [none,some 2,some 3,some 4,some 0] (iT (yp "Store" "kids_of" (xD fu) (za 0) [(za 1)])) (gN 0) xi (yp "Store" "fixed_below" cA (za 4) [(za 0),(za 1),(za 2),(za 3)])) (gN 6)) (zgj (za 4) (za 1) (yp "Store" "fork" (xA fu) (za 0) [(za 5),(za 6)]))) yo) (yd (zhb (za 4) (za 1))))))
noncomputable def yg (fu:Nat):Nat->TwF
 |0=>λ_ _=>none
 |n+1=>yi 5 2 (xq fu (yg fu n))
theorem xL (fu n:Nat):yg fu (n+1)=yi 5 2 (xq fu (yg fu n)):=by rfl
theorem Xm (fu:Nat):yg fu 0=λ_ _=>none:=by rfl
theorem Vp (T:Tx K mg):∀n:Nat,yD P w K mg base (CXE P w) (2+n) T.av.a T.av.fd ["self","node","level","number","known"] (sTw K 5 (yg fu n)):=by
 intro n
 induction n with
 |zero=>
  skip
  .rw[Xm];exact VU
 |succ n ih=>
  .rw[xL];exact T.av.F.okE vc (λvs H Q E h=>h.1) (λaS A outer s H vs Q E hr h=>⟨_,((vc^^^(5,qX rfl,zS (pv 0) T.af T.ax.mt (wS (fu:=fu) T) (hr.mono (by walk_at "q2")) T.ax.b .nil zH (pv 1\ze)))<|>yt (yG (zoz (pv 5) (pv 2))) (¬(!zS (pv 0) T.af T.aK.mt (Vk (fu:=fu) T) (hr.mono (by walk_at "q2")) T.aK.b .nil zH (pv 1\(pv 2\(pv 3\ze))))) zI<|>yt (yG (zhV (zi6 hr) (pv 1) (pv 4))) (WA (i:=6) (N':=["kid","level","number","known","self"]) rfl (blk (osc:=zi wg) rfl (by decide+kernel)) (yM (zT (i:=2) rfl rfl (zT (i:=3) rfl rfl (zT (i:=4) rfl rfl (zT (i:=0) rfl rfl yL))))) (WC (K:=K) (zS (pv 0) T.af T.aB.mt (ZJ (fu:=fu) T) (hr.mono (by walk_at "q2")) T.aB.b .nil zH (pv 1\ze))) (yk rfl) (λC s₀ H₀ fp=>zX (i:=0) (show (["kid","level","number","known","self"]:List Str).Nodup from by decide+kernel) rfl (qX rfl)) (λC s₀ H₀ fp=>yK) (λC s₀ H₀ fp=>(zS (pv 4) T.af T.av.mt ih (hr.mono (by walk_at "q2")) T.av.b .nil wX (pv 0\(pv 1\(pv 2\(pv 3\ze)))))) vc.nd rfl rfl<|>¬zlh (zi6 hr) (pv 4) (pv 1) (zS (pv 0) T.af T.ay.mt (wL (fu:=fu) T) (hr.mono (by walk_at "q2")) T.ay.b .nil zH (pv 5\(pv 6\ze))) rfl) zI<|>¬(!zlg (zi6 hr) (pv 4) (pv 1) (λ_ _=>rfl))),yz (n:=5) (k:=2) (b:=xq fu (yg fu n)) rfl (zJ (yO (zM T.ae (zb 0) (zf (zb 1) zo)) zN) (zJ (vG (WE (zo7 (zb 5) (zb 2))) (yv (zM T.ae (zb 0) (zf (zb 1) (zf (zb 2) (zf (zb 3) zo))))) xj) (zJ (vG (WE (zid (zb 1) (zb 4))) (zJ (WH (vN (cap:=[none,some 2,some 3,some 4,some 0]) (zbx (zM T.ae (zb 0) (zf (zb 1) zo))) zN vM (zM T.ae (zb 4) (zf (zb 0) (zf (zb 1) (zf (zb 2) (zf (zb 3) zo))))))) (zlz (zb 4) (zb 1) (zM T.ae (zb 0) (zf (zb 5) (zf (zb 6) zo))))) xj) (yv (zly (zb 4) (zb 1)))))) h⟩)
theorem VJ (T:Tx K mg) (n:Nat):yD P w K mg base (CXE P w) (2+n) T.av.a T.av.fd ["self","node","level","number","known"] (sTw K 5 (yg fu n)):=(Vp T n)
noncomputable def Xe (fu:Nat):TwS:=(yd (yp "Store" "fixed_below" (yg fu 12) (za 0) [(za 1),(za 2),(za 3),zbK]))
noncomputable def Zs (fu:Nat):TwF:=yi 4 0 (Xe fu)
theorem VL (T:Tx K mg):yD P w K mg base (CXE P w) 15 T.aL.a T.aL.fd ["self","node","level","number"] (sTw K 4 (Zs fu)):=
 T.aL.F.okE zb5 (λvs H Q E h=>h.1) (λaS A outer s H vs Q E hr h=>⟨_,(¬(!zS (pv 0) T.af T.av.mt (VJ (fu:=fu) T 12) (hr.mono ∅) T.av.b .nil zH (pv 1\(pv 2\(pv 3\(zR zbi ze)))))),yz (n:=4) (k:=0) (b:=Xe fu) rfl (yv (zM T.ae (zb 0) (zf (zb 1) (zf (zb 2) (zf (zb 3) (zf zdT zo)))))) h⟩)
noncomputable def zpu (fu:Nat):TwE:=(eIf (bE (zP (zb8 fu) [(vH "Store" "boxes" (za 1)),(za 0),(za 2)])) (eC (.ct [.int 1,.int 1])) (eC (.ct [.int 0,.int 1])))
noncomputable def zfm (fu:Nat):List Xv->TwF:=zd5 1 2 (zpu fu)
theorem zpv (T:Tx K mg):Xw P w K mg base 4 zaF (zfm fu):=
 zbV (ps:=["state"]) ⟨rfl,rfl,rfl, *...*, *...*, *...*, *...*⟩ rfl rfl (λ_ _ _ _=>at_ λ_=>at0 rfl) (λb7 f c A outer s H hr=>⟨_,(YH (Zg (T.cJ\(zkk (fu:=fu) T,hr.mono ∅,wX,wN (pv 1) rfl\(pv 0\(pv 2\ze))))) (zaU (v:= .ref T.cL) rfl T.fg rfl) (zaU (v:= .ref T.bI) rfl T.cZ rfl)),(zc4 (WE (xG (zf (xJ T.ae T.af T.az (zb 1)) (zf (zb 0) (zf (zb 2) zo))))) (zeS λj H=> .ct (λH=>T.fC H) (.cons (.int _) (.cons (.int _) .nil))) (zeS λj H=> .ct (λH=>T.de H) (.cons (.int _) (.cons (.int _) .nil))))⟩)
noncomputable def xt (fu:Nat) (bP:TwF):TwS:=(zu (zY (eFn wA [(za 3)]) (gN 4)) (zu (sIf (bE (eOp Vn (za 4) (eFn wA [(vH "Store" "boxes" (za 0))]))) (yd (yp "Store" "leaf" (xk fu) (za 0) [(UG [(zaF,zfm fu)] 2 [(za 3)])])) yo) (zu (sIf (bE (eOp (dIn true) (eOp zB (eOp zB (vH "Store" "boxes" (za 0)) (za 4)) (eC (.int 0))) (za 1))) (yd (yp "Store" "made_behind" bP (za 0) [(za 1),(za 2),(eOp Wl (za 3) (wO [(eC (.int 0))]))])) yo) (zu (zY (eOp zB (eOp zB (vH "Store" "boxes" (za 0)) (za 4)) (eC (.int 1))) (gN 5)) (yd (yp "Store" "fork" (xA fu) (za 0) [(za 4),(xm [none,some 1,some 2,some 0,some 3] (iR1 (za 5)) (gN 0) xi (yp "Store" "made_behind" bP (za 3) [(za 1),(za 2),(eOp Wl (za 4) (wO [(za 0)]))]))]))))))
noncomputable def yq (fu:Nat):Nat->TwF
 |0=>λ_ _=>none
 |n+1=>yi 4 2 (xt fu (yq fu n))
theorem xM (fu n:Nat):yq fu (n+1)=yi 4 2 (xt fu (yq fu n)):=by rfl
theorem Xn (fu:Nat):yq fu 0=λ_ _=>none:=by rfl
theorem Vq (T:Tx K mg):∀n:Nat,yD P w K mg base (CXE P w) (4+n) T.aj.a T.aj.fd ["self","names","rule","numbers"] (sTw K 4 (yq fu n)):=by
 intro n
 induction n with
 |zero=>
  skip
  .rw[Xn];exact VU
 |succ n ih=>
  .rw[xM];exact T.aj.F.okE ve (λvs H Q E h=>h.1) (λaS A outer s H vs Q E hr h=>⟨_,((ve^^^(4,qX rfl,zA (ym (K:=K)) rfl T.aX boot_len (pv 3\ze)))<|>yt (yG (vz (pv 4) (zA (ym (K:=K)) rfl T.aX boot_len (wN (pv 0) rfl\ze)))) (¬(!zS (pv 0) T.af T.au.mt (wa (fu:=fu) T) (hr.mono (by walk_at "q2")) T.au.b .nil zH (zbT (i:=2) (k:=4) rfl (by first|exact .inl rfl|exact .inr (.inl rfl)|exact .inr (.inr rfl)) (zd7 (fns:=[(zaF,zfm fu)]) (Wo (zpv (fu:=fu) T) ∅ zb0)) (hr.mono (by walk_at "q2")) (pv 3\ze)\ze))) zI<|>yt (yR (zh1 (K:=K)) (zj (K:=K)%(zj (K:=K)%(wN (pv 0) rfl,pv 4),zg)) (pv 1) (by rfl)) (¬(!zS (pv 0) T.af T.aj.mt ih (hr.mono (by walk_at "q2")) T.aj.b .nil zH (pv 1\(pv 2\(zL (WD (K:=K)) (pv 3) (~~~(zg\ze))\ze))))) zI<|>(ve^^^(5,qX rfl,zj (K:=K)%(zj (K:=K)%(wN (pv 0) rfl,pv 4),zg)))<|>¬(!zS (pv 0) T.af T.ay.mt (wL (fu:=fu) T) (hr.mono (by walk_at "q2")) T.ay.b .nil zH (pv 4\(zR (yY (N':=["number","names","rule","self","numbers"]) rfl (blk (osc:=zi wj) rfl (by decide+kernel)) (yM (zT (i:=1) rfl rfl (zT (i:=2) rfl rfl (zT (i:=0) rfl rfl (zT (i:=3) rfl rfl yL))))) (yC rfl T.aI (pv 5\ze)) (yk rfl) (λC s₀ H₀ fp=>zX (i:=0) (show (["number","names","rule","self","numbers"]:List Str).Nodup from by decide+kernel) rfl (qX rfl)) (λC s₀ H₀ fp=>yK) (λC s₀ H₀ fp=>(zS (pv 3) T.af T.aj.mt ih (hr.mono (by walk_at "q2")) T.aj.b .nil wX (pv 1\(pv 2\(zL (WD (K:=K)) (pv 4) (~~~(pv 0\ze))\ze)))))) ze)))),yz (n:=4) (k:=2) (b:=xt fu (yq fu n)) rfl (zJ (yO (Zj ZE (zf (zb 3) zo)) zN) (zJ (vG (WE (zbD (zb 4) (Zj ZE (zf (xJ T.ae T.af T.az (zb 0)) zo)))) (yv (zM T.ae (zb 0) (zf (zbW (zf (zb 3) zo)) zo))) xj) (zJ (vG (vn (zx zo8 (zx yc (zx yc (xJ T.ae T.af T.az (zb 0)) (zb 4)) (zF _)) (zb 1))) (yv (zM T.ae (zb 0) (zf (zb 1) (zf (zb 2) (zf (zx za0 (zb 3) (Yh (zf (zF _) zo))) zo))))) xj) (zJ (yO (zx yc (zx yc (xJ T.ae T.af T.az (zb 0)) (zb 4)) (zF _)) zN) (yv (zM T.ae (zb 0) (zf (zb 4) (zf (vN (cap:=[none,some 1,some 2,some 0,some 3]) (vo (zb 5)) zN vM (zM T.ae (zb 3) (zf (zb 1) (zf (zb 2) (zf (zx za0 (zb 4) (Yh (zf (zb 0) zo))) zo))))) zo)))))))) h⟩)
theorem VM (T:Tx K mg) (n:Nat):yD P w K mg base (CXE P w) (4+n) T.aj.a T.aj.fd ["self","names","rule","numbers"] (sTw K 4 (yq fu n)):=(Vq T n)
noncomputable def XW (fu:Nat):TwS:=(yd (yp "Store" "made_behind" (yq fu 12) (za 0) [(za 1),(za 2),(wO [])]))
noncomputable def XX (fu:Nat):TwF:=yi 3 0 (XW fu)
theorem zcF (T:Tx K mg):yD P w K mg base (CXE P w) 17 T.bg.a T.bg.fd ["self","names","rule"] (sTw K 3 (XX fu)):=
 T.bg.F.okE zcz (λvs H Q E h=>h.1) (λaS A outer s H vs Q E hr h=>⟨_,(¬(!zS (pv 0) T.af T.aj.mt (VM (fu:=fu) T 12) (hr.mono ∅) T.aj.b .nil zH (pv 1\(pv 2\((~~~ze)\ze))))),yz (n:=3) (k:=0) (b:=XW fu) rfl (yv (zM T.ae (zb 0) (zf (zb 1) (zf (zb 2) (zf (Yh zo) zo))))) h⟩)
noncomputable def Yp (fu:Nat):TwS:=(yd (WL "Store" "made" (XX fu) (za 0) [(za 1),(zd4 zaF 5 [0,1])]))
noncomputable def Yq (fu:Nat):TwF:=yi 2 0 (Yp fu)
theorem zaS (T:Tx K mg):yD P w K mg base (CXE P w) 18 T.aN.a T.aN.fd ["self","test"] (sTw K 2 (Yq fu)):=by
 obtain⟨zc,zp,hz,hk⟩:=Wq T.ae T.aN.mt.at_ T.ck;exact T.aN.F.okZ (fz:=["self","test"]) hz zaP (λvs H Q E h=>h.1) (λA outer s H vs Q E hr h=>⟨_,(¬(!zS (pv 0) T.af T.bg.mt (zcF (fu:=fu) T) (hr.mono ∅) T.bg.b .nil wX (pv 1\(zR (Tu (L:=zaF) (is:=[0,1]) (Tt (osc:=zi wZ) (N:=["self","test"]) (fz:=["self","test"]) rfl rfl rfl rfl (by decide+kernel)) rfl rfl (YV hz).1) ze)))),yz (n:=2) (k:=0) (b:=Yp fu) rfl (yv (Wp T.ae (zb 0) (zf (zb 1) (zf (zbU hk) zo)))) h⟩)
noncomputable def Xf (fu:Nat):TwS:=(zu (zY (yp "Store" "leaf" (xk fu) (za 0) [(eC (.ct [.int 0,.int 1]))]) (gN 2)) (zu (zY (yp "Store" "leaf" (xk fu) (za 0) [(eC (.ct [.int 1,.int 1]))]) (gN 3)) (zu (XN (iR3 (eOp zgc (eFn wA [(vH "Store" "boxes" (za 0))]) (eC (.int 1))) (eUn zia (eC (.int 1))) (eUn zia (eC (.int 1)))) (gN 4) (zu (zY (xm [none,some 2] (iR1 (eOp zB (eOp zB (vH "Store" "boxes" (za 0)) (za 4)) (eC (.int 1)))) (gN 0) xi (za 1)) (gN 5)) (zu (zY (za 3) (zgb (za 5) (eOp zB (za 1) (za 4)))) (zY (yp "Store" "fork" (xA fu) (za 0) [(za 4),(za 5)]) (gN 3))))) (yd (za 3)))))
noncomputable def Xg (fu:Nat):TwF:=yi 2 4 (Xf fu)
theorem zca (T:Tx K mg):yD P w K mg base (CXE P w) 3 T.b0.a T.b0.fd ["self","state"] (sTw K 2 (Xg fu)):=
 T.b0.F.okE wq (λvs H Q E h=>h.1) (λaS A outer s H vs Q E hr h=>⟨_,((wq^^^(2,t7 rfl,zS (pv 0) T.af T.au.mt (wa (fu:=fu) T) (hr.mono ∅) T.au.b .nil zH (zaU (v:= .ref T.bI) rfl T.cZ rfl\ze)))<|>(wq^^^(3,qX rfl,zS (pv 0) T.af T.au.mt (wa (fu:=fu) T) (hr.mono ∅) T.au.b .nil zH (zaU (v:= .ref T.cL) rfl T.fg rfl\ze)))<|>vA PassesOwn.leaving rfl (zif rfl T.aI (zL zbe (zA (ym (K:=K)) rfl T.aX boot_len (wN (pv 0) rfl\ze)) zg\(ziN zfL zg\(ziN zfL zg\ze)))) (zX (i:=4) wq.nd rfl (qX rfl)) (WA (i:=5) (N':=["number","nought"]) rfl (blk (osc:=zi ZP) rfl (by decide+kernel)) (yM (zT (i:=2) rfl rfl yL)) (yC rfl T.aI ((zj (K:=K)%(zj (K:=K)%(wN (pv 0) rfl,pv 4),zg))\ze)) (yk rfl) (λC s₀ H₀ fp=>zX (i:=0) (show (["number","nought"]:List Str).Nodup from by decide+kernel) rfl (qX rfl)) (λC s₀ H₀ fp=>yK) (λC s₀ H₀ fp=>(pv 1)) wq.nd rfl rfl<|>znh (pv 3) (znf (pv 5) (zj (K:=K)%(pv 1,pv 4)) ziZ)<|>¬(wq^^^(3,qX rfl,zS (pv 0) T.af T.ay.mt (wL (fu:=fu) T) (hr.mono ∅) T.ay.b .nil zH (pv 4\(pv 5\ze)))))<|>¬(!pv 3)),yz (n:=2) (k:=4) (b:=Xf fu) rfl (zJ (yO (zM T.ae (zb 0) (zf (zeS λj H=> .ct (λH=>T.de H) (.cons (.int _) (.cons (.int _) .nil))) zo)) zN) (zJ (yO (zM T.ae (zb 0) (zf (zeS λj H=> .ct (λH=>T.fC H) (.cons (.int _) (.cons (.int _) .nil))) zo)) zN) (zJ (UB (zii (zx zge (Zj ZE (zf (xJ T.ae T.af T.az (zb 0)) zo)) (zF _)) (zjn zdQ (zF _)) (zjn zdQ (zF _))) zN (zJ (WH (vN (cap:=[none,some 2]) (vo (zx yc (zx yc (xJ T.ae T.af T.az (zb 0)) (zb 4)) (zF _))) zN vM (zb 1))) (zJ (yO (zb 3) (zjw (zb 5) (zx yc (zb 1) (zb 4)))) (yO (zM T.ae (zb 0) (zf (zb 4) (zf (zb 5) zo))) zN)))) (yv (zb 3))))) h⟩)
noncomputable def YB (fu:Nat):TwS:=(zu (sIf (bE (eOp Vn (eFn wA [(za 0)]) (eC (.int 0)))) (yd (eC (.int 0))) yo) (yd (eOp WJ (eMt zju (za 0) []) (za 1))))
noncomputable def zv (fu:Nat):TwF:=yi 2 0 (YB fu)
theorem zK (T:Tx K mg):yD P w K mg base (CXE P w) 1 T.ai.a T.ai.fd ["_law_left","_law_many"] (sTw K 2 (zv fu)):=
 T.ai.F.okE zed (λvs H Q E h=>h.1) (λaS A outer s H vs Q E hr h=>⟨_,(yt (yG (vz (zA (ym (K:=K)) rfl T.aX boot_len (pv 0\ze)) zg)) (¬(!zg)) zI<|>¬(!zL YI (znv rm PySem.F.slot_list_pop PySem.F.type_list_pop znw (pv 0)) (pv 1))),yz (n:=2) (k:=0) (b:=YB fu) rfl (by unfold YB;walk_at "re") h⟩)
noncomputable def YC (fu:Nat):TwS:=(zu (zY (eC (.str "")) (gN 2)) (zu (XN (iR1 (za 1)) (gN 3) (zu (zY (eOp Tc (za 2) (eOp zh7 (eC (.str "abcdefghijklmnopqrstuvwxyz")) (eOp WJ (za 0) (eC (.int 26))))) (gN 2)) (zY (eOp zaA (za 0) (eC (.int 26))) (gN 0)))) (yd (za 2))))
noncomputable def Zt (fu:Nat):TwF:=yi 2 2 (YC fu)
theorem TQ (T:Tx K mg):yD P w K mg base (CXE P w) 1 T.bu.a T.bu.fd ["_law_number","_law_size"] (sTw K 2 (Zt fu)):=
 T.bu.F.okE Zn (λvs H Q E h=>h.1) (λaS A outer s H vs Q E hr h=>⟨_,((Zn^^^(2,qX rfl,ye))<|>vA PassesOwn.leaving rfl (yC rfl T.aI (pv 1\ze)) (zX (i:=3) Zn.nd rfl (qX rfl)) ((Zn^^^(2,qX rfl,zL Uz (pv 2) (zfV%(ye,zL YI (pv 0) zg))))<|>¬(Zn^^^(0,qX rfl,zL zdz (pv 0) zg)))<|>¬(!pv 2)),yz (n:=2) (k:=2) (b:=YC fu) rfl (by unfold YC;walk_at "re") h⟩)
noncomputable def ZR (fu:Nat):TwS:=(zu (zY (zP (zv fu) [(za 0),(eC (.int 4))]) (gN 2)) (zu (sIf (bE (eOp Vn (za 2) (eC (.int 1)))) (zu (zY (Wj [(eC (.str "pass")),(eC (.str "end")),(eC (.str "lost")),(eC (.str "set")),(eC (.str "hand")),(eC (.str "draw")),(eC (.str "if")),(eC (.str "gain")),(eC (.str "while")),(eC (.str "look")),(eC (.str "times")),(eC (.str "leaf")),(eC (.str "fork"))]) (gN 3)) (zu (zY (zP (zv fu) [(za 0),(eC (.int 13))]) (gN 4)) (yd (xm [none,some 3,some 4] (iR1 (za 1)) (gN 0) xi (eOp yA (za 1) (eOp WJ (eOp Yb (za 2) (za 0)) (eC (.int 13)))))))) yo) (zu (zY (zP (Zt fu) [(zP (zv fu) [(za 0),(eOp zdP (eC (.int 26)) (eC (.int 8)))]),(eC (.int 8))]) (gN 5)) (zu (sIf (zbt (bE (eOp Vn (za 2) (eC (.int 2)))) (bE (eOp dLt (za 1) (eC (.int 9))))) (yd (xm [none,some 5] (iR1 (za 1)) (gN 0) xi (eSl zbv (za 1) oNo (YO (eOp Yb (za 0) (eC (.int 1))))))) yo) (zu (zY (zP (zv fu) [(za 0),(eC (.int 1664))]) (gN 6)) (zu (zY (eOp Yb (eC (.int 1)) (eOp WJ (za 6) (eC (.int 8)))) (gN 7)) (zu (zY (eOp WJ (eOp zaA (za 6) (eC (.int 8))) (za 7)) (gN 8)) (yd (xm [none,some 5,some 7,some 8,some 6] (iR1 (za 1)) (gN 0) xi (eOp Tc (eOp Tc (eSl zbv (za 1) oNo (YO (za 3))) (zP (Zt fu) [(eOp Yb (eOp zaA (za 4) (eC (.int 64))) (za 0)),(eC (.int 1))])) (eSl zbv (za 1) (YO (eOp Yb (za 3) (eC (.int 1)))) (YO (za 2)))))))))))))
noncomputable def XY (fu:Nat):TwF:=yi 2 7 (ZR fu)
theorem zcG (T:Tx K mg):yD P w K mg base (CXE P w) 2 T.bD.a T.bD.fd ["_law_left","_law_many"] (sTw K 2 (XY fu)):=
 T.bD.F.okE xz (λvs H Q E h=>h.1) (λaS A outer s H vs Q E hr h=>⟨_,((xz^^^(2,qX rfl,T.ai\(zK (fu:=fu) T,hr.mono ∅,zH,pv 0\(zg\ze))))<|>yt (yG (vz (pv 2) zg)) ((xz^^^(3,t7 rfl,@wV _ _ _ _ (ye\(ye\(ye\(ye\(ye\(ye\(ye\(ye\(ye\(ye\(ye\(ye\(ye\ze)))))))))))))))<|>(xz^^^(4,t7 rfl,T.ai\(zK (fu:=fu) T,hr.mono ∅,zH,pv 0\(zg\ze))))<|>¬(!yY (N':=["_law_k","_law_some","_law_turn"]) rfl (blk (osc:=zi vq) rfl (by decide+kernel)) (yM (zT (i:=3) rfl rfl (zT (i:=4) rfl rfl yL))) (yC rfl T.aI (pv 1\ze)) (yk rfl) (λC s₀ H₀ fp=>zX (i:=0) (show (["_law_k","_law_some","_law_turn"]:List Str).Nodup from by decide+kernel) rfl (qX rfl)) (λC s₀ H₀ fp=>yK) (λC s₀ H₀ fp=>(zt (K:=K)%(pv 1,zL YI (zL xY (pv 2) (pv 0)) zg))))) zI<|>(xz^^^(5,t7 rfl,T.bu\(TQ (fu:=fu) T,hr.mono ∅,zH,(T.ai\(zK (fu:=fu) T,hr.mono ∅,zH,pv 0\(zL zae zg zg\ze)))\(zg\ze))))<|>yt (PW.pt (zbb (yG (vz (pv 2) zg)) (UQ (yG (zat (pv 1) zg))))) (¬(!yY (N':=["_law_k","_law_word_here"]) rfl (blk (osc:=zi vq) rfl (by decide+kernel)) (yM (zT (i:=5) rfl rfl yL)) (yC rfl T.aI (pv 1\ze)) (yk rfl) (λC s₀ H₀ fp=>zX (i:=0) (show (["_law_k","_law_word_here"]:List Str).Nodup from by decide+kernel) rfl (qX rfl)) (λC s₀ H₀ fp=>yK) (λC s₀ H₀ fp=>(Ya zf1 (pv 1) VT (ZN (zL xY (pv 0) zg)))))) zI<|>(xz^^^(6,t7 rfl,T.ai\(zK (fu:=fu) T,hr.mono ∅,zH,pv 0\(zg\ze))))<|>(xz^^^(7,t7 rfl,zL xY zg (zL YI (pv 6) zg)))<|>(xz^^^(8,t7 rfl,zL YI (zL zdz (pv 6) zg) (pv 7)))<|>¬(!yY (N':=["_law_k","_law_word_here","_law_size","_law_at","_law_cell"]) rfl (blk (osc:=zi vq) rfl (by decide+kernel)) (yM (zT (i:=5) rfl rfl (zT (i:=7) rfl rfl (zT (i:=8) rfl rfl (zT (i:=6) rfl rfl yL))))) (yC rfl T.aI (pv 1\ze)) (yk rfl) (λC s₀ H₀ fp=>zX (i:=0) (show (["_law_k","_law_word_here","_law_size","_law_at","_law_cell"]:List Str).Nodup from by decide+kernel) rfl (qX rfl)) (λC s₀ H₀ fp=>yK) (λC s₀ H₀ fp=>(zL Uz (zL Uz (Ya zf1 (pv 1) VT (ZN (pv 3))) (T.bu\(TQ (fu:=fu) T,hr.mono ∅,wX,zL xY (zL zdz (pv 4) zg) (pv 0)\(zg\ze)))) (Ya zf1 (pv 1) (ZN (zL xY (pv 3) zg)) (ZN (pv 2))))))),yz (n:=2) (k:=7) (b:=ZR fu) rfl (by unfold ZR;walk_at "re") h⟩)
noncomputable def ZS (fu:Nat):TwS:=(zu (zY (zP (zv fu) [(za 0),(eC (.int 40))]) (gN 2)) (zu (sIf (bE (eOp dGt (za 2) (eC (.int 9)))) (zY (eOp Yb (eC (.int 1)) (eOp WJ (za 2) (eC (.int 3)))) (gN 2)) yo) (zu (zY (wO []) (gN 3)) (zu (zY (eC (.int 1)) (gN 4)) (zu (XN (iL (zP (XY fu) [(za 0),(za 2)])) (gN 5) (zu (zY (eOp Yb (eC (.int 1)) (zP (zv fu) [(za 0),(eC (.int 9))])) (gN 6)) (zu (sIf (zbt (bE (eOp dGt (za 2) (eC (.int 1)))) (bE (eOp dLt (za 1) (eC (.int 100))))) (zY (eOp Yb (eC (.int 1)) (eOp WJ (za 6) (eC (.int 3)))) (gN 6)) yo) (zu (zY (eFn znI [(za 6),(eOp zbz (za 1) (za 4))]) (gN 6)) (zu (zY (eOp Wl (za 3) (wO [(wO [(za 5),(za 6)])])) (gN 3)) (zY (eOp vY (za 4) (za 6)) (gN 4))))))) (yd (za 3)))))))
noncomputable def XZ (fu:Nat):TwF:=yi 2 5 (ZS fu)
theorem zcH (T:Tx K mg):yD P w K mg base (CXE P w) 3 T.bG.a T.bG.fd ["_law_left","_law_most"] (sTw K 2 (XZ fu)):=
 T.bG.F.okE yP (λvs H Q E h=>h.1) (λaS A outer s H vs Q E hr h=>⟨_,((yP^^^(2,qX rfl,T.ai\(zK (fu:=fu) T,hr.mono ∅,zH,pv 0\(zg\ze))))<|>yt (yG (UP (pv 2) zg)) (¬(yP^^^(2,qX rfl,zL xY zg (zL YI (pv 2) zg)))) zI<|>(yP^^^(3,qX rfl,~~~ze))<|>(yP^^^(4,qX rfl,zg))<|>vA PassesOwn.leaving rfl (wm (K:=K) (T.bD\(zcG (fu:=fu) T,hr.mono ∅,zH,pv 0\(pv 2\ze)))) (zX (i:=5) yP.nd rfl (qX rfl)) ((yP^^^(6,qX rfl,zL xY zg (T.ai\(zK (fu:=fu) T,hr.mono ∅,zH,pv 0\(zg\ze)))))<|>yt (PW.pt (zbb (yG (UP (pv 2) zg)) (UQ (yG (zat (pv 1) zg))))) (¬(yP^^^(6,qX rfl,zL xY zg (zL YI (pv 6) zg)))) zI<|>(yP^^^(6,qX rfl,zA (zhS rfl) rfl T.fc boot_min (pv 6\(zL zeM (pv 1) (pv 4)\ze))))<|>(yP^^^(3,qX rfl,zL (WD (K:=K)) (pv 3) (~~~((~~~(pv 5\(pv 6\ze)))\ze))))<|>¬(yP^^^(4,qX rfl,zL xQ (pv 4) (pv 6))))<|>¬(!pv 3)),yz (n:=2) (k:=5) (b:=ZS fu) rfl (by unfold ZS;walk_at "re") h⟩)
noncomputable def ZT (fu:Nat):TwS:=(yd (eFn Vv [(xm [none,some 0] (iT (za 1)) (gN 0) xi (zP (zv fu) [(za 1),(eOp zB (za 0) (eC (.int 1)))]))]))
noncomputable def Wa (fu:Nat):TwF:=yi 2 0 (ZT fu)
theorem zcI (T:Tx K mg):yD P w K mg base (CXE P w) 2 T.bB.a T.bB.fd ["_law_left","_law_boxes_here"] (sTw K 2 (Wa fu)):=
 T.bB.F.okE zcA (λvs H Q E h=>h.1) (λaS A outer s H vs Q E hr h=>⟨_,(¬(!vW (Xr (K:=K)) rfl T.cf boot_tuple (zR (yY (N':=["_law_box","_law_left"]) rfl (blk (osc:=zi Yx) rfl (by decide+kernel)) (yM (zT (i:=0) rfl rfl yL)) (WC (K:=K) (pv 1)) (yk rfl) (λC s₀ H₀ fp=>zX (i:=0) (show (["_law_box","_law_left"]:List Str).Nodup from by decide+kernel) rfl (qX rfl)) (λC s₀ H₀ fp=>yK) (λC s₀ H₀ fp=>(T.ai\(zK (fu:=fu) T,hr.mono ∅,wX,pv 1\((zj (K:=K)%(pv 0,zg))\ze))))) ze))),yz (n:=2) (k:=0) (b:=ZT fu) rfl (by unfold ZT;walk_at "re") h⟩)
noncomputable def vP (fu:Nat):TwS:=(zu (zY (zP (zv fu) [(za 0),(eOp Yb (eOp zjy (eC (.int 2)) (eFn wA [(za 1)])) (eC (.int 3)))]) (gN 2)) (zu (sIf (bE (eOp dGt (za 2) (eC (.int 2)))) (yd (eOp zB (eOp zB (za 1) (eOp WJ (za 2) (eFn wA [(za 1)]))) (eC (.int 0)))) yo) (zu (sIf (bE (eOp Vn (za 2) (eC (.int 2)))) (yd (zP (zv fu) [(za 0),(eOp zdP (eC (.int 10)) (eC (.int 9)))])) yo) (yd (zP (zv fu) [(za 0),(eC (.int 10))])))))
noncomputable def vQ (fu:Nat):TwF:=yi 2 1 (vP fu)
theorem Vl (T:Tx K mg):yD P w K mg base (CXE P w) 2 T.aW.a T.aW.fd ["_law_left","_law_boxes_here"] (sTw K 2 (vQ fu)):=
 T.aW.F.okE Vi (λvs H Q E h=>h.1) (λaS A outer s H vs Q E hr h=>⟨_,((Vi^^^(2,qX rfl,T.ai\(zK (fu:=fu) T,hr.mono ∅,zH,pv 0\(zL xY (zL ziP zg (zA (ym (K:=K)) rfl T.aX boot_len (pv 1\ze))) zg\ze))))<|>yt (yG (UP (pv 2) zg)) (¬(!(zj (K:=K)%(zj (K:=K)%(pv 1,zL YI (pv 2) (zA (ym (K:=K)) rfl T.aX boot_len (pv 1\ze))),zg)))) zI<|>yt (yG (vz (pv 2) zg)) (¬(!(T.ai\(zK (fu:=fu) T,hr.mono ∅,zH,pv 0\(zL zae zg zg\ze))))) zI<|>¬(!(T.ai\(zK (fu:=fu) T,hr.mono ∅,zH,pv 0\(zg\ze))))),yz (n:=2) (k:=1) (b:=vP fu) rfl (by unfold vP;walk_at "re") h⟩)
noncomputable def YD (fu:Nat):TwS:=(zu (zY (zP (vQ fu) [(za 0),(za 1)]) (gN 2)) (zu (zY (eOp zh7 (eC (.str "=<#")) (zP (zv fu) [(za 0),(eC (.int 3))])) (gN 3)) (yd (wO [(za 2),(za 3),(zP (vQ fu) [(za 0),(za 1)])]))))
noncomputable def WZ (fu:Nat):TwF:=yi 2 2 (YD fu)
theorem zeg (T:Tx K mg):yD P w K mg base (CXE P w) 3 T.bL.a T.bL.fd ["_law_left","_law_boxes_here"] (sTw K 2 (WZ fu)):=
 T.bL.F.okE WX (λvs H Q E h=>h.1) (λaS A outer s H vs Q E hr h=>⟨_,((WX^^^(2,qX rfl,T.aW\(Vl (fu:=fu) T,hr.mono ∅,zH,pv 0\(pv 1\ze))))<|>(WX^^^(3,qX rfl,zfV%(ye,T.ai\(zK (fu:=fu) T,hr.mono ∅,zH,pv 0\(zg\ze)))))<|>¬(!(~~~(pv 2\(pv 3\((T.aW\(Vl (fu:=fu) T,hr.mono ∅,zH,pv 0\(pv 1\ze)))\ze)))))),yz (n:=2) (k:=2) (b:=YD fu) rfl (by unfold YD;walk_at "re") h⟩)
noncomputable def XE (fu:Nat):TwS:=(zu (zY (eFn zgf [(za 0)]) (gN 2)) (zu (zY (za 1) (gN 3)) (zu (sWh fu (bE (eOp dGt (za 3) (eC (.int 0)))) (zu (zY (eOp WJ (za 2) (za 3)) (gN 4)) (zu (zY (za 3) (gN 2)) (zY (za 4) (gN 3))))) (yd (wO [(eOp UH (za 0) (za 2)),(eOp UH (za 1) (za 2))])))))
noncomputable def Zb (fu:Nat):TwF:=yi 2 3 (XE fu)
theorem XF (T:Tx K mg):yD P w K mg base (CXE P w) 33 T.b8.a T.b8.fd ["_law_top","_law_bottom"] (sTw K 2 (Zb fu)):=
 T.b8.F.okE Za (λvs H Q E h=>h.1) (λaS A outer s H vs Q E hr h=>⟨_,((Za^^^(2,qX rfl,zA UU rfl T.dM boot_abs (pv 0\ze)))<|>(Za^^^(3,qX rfl,pv 1))<|>UR PassesOwn.leaving (yG (UP (pv 3) zg)) ((Za^^^(4,qX rfl,zL YI (pv 2) (pv 3)))<|>(Za^^^(2,qX rfl,pv 3))<|>¬(Za^^^(3,qX rfl,pv 4)))<|>¬(!(~~~(zL (Tv hr) (pv 0) (pv 2)\(zL (Tv hr) (pv 1) (pv 2)\ze))))),yz (n:=2) (k:=3) (b:=XE fu) rfl (by unfold XE;walk_at "re") h⟩)
noncomputable def wF (fu:Nat) (cN:TwF):TwS:=(zu (sIf (bE (eUn (UC "tuple") (za 1))) (zu (sIf (bOr (zbu (bE (eUn (UC "tuple") (za 0)))) (bE (eOp zcw (eFn wA [(za 0)]) (eFn wA [(za 1)])))) (yd (eC (.bl false))) yo) (yd (eFn zbF [(xm [none,some 0,some 1] (iR1 (eFn wA [(za 1)])) (gN 0) xi (zP cN [(eOp zeT (za 1) (za 0)),(eOp zeT (za 2) (za 0))]))]))) yo) (zu (sIf (bE (eUn (UC "list") (za 1))) (zu (sIf (bOr (zbu (bE (eUn (UC "list") (za 0)))) (bE (eOp zcw (eFn wA [(za 0)]) (eFn wA [(za 1)])))) (yd (eC (.bl false))) yo) (yd (eFn zbF [(xm [none,some 0,some 1] (iR1 (eFn wA [(za 1)])) (gN 0) xi (zP cN [(eOp zeT (za 1) (za 0)),(eOp zeT (za 2) (za 0))]))]))) yo) (zu (sIf (bE (eUn zf9 (za 1))) (yd (eUn zf9 (za 0))) yo) (zu (sIf (bE (eUn (UC "str") (za 1))) (yd (zh6 (eUn (UC "str") (za 0)) (eOp (we false) (za 0) (za 1)))) yo) (yd (zh6 (eUn (UC "int") (za 0)) (zh6 (eB (zbu (bE (eUn (UC "bool") (za 0))))) (eOp (we false) (za 0) (za 1)))))))))
noncomputable def yV (fu:Nat):Nat->TwF
 |0=>λ_ _=>none
 |n+1=>yi 2 0 (wF fu (yV fu n))
theorem wT (fu n:Nat):yV fu (n+1)=yi 2 0 (wF fu (yV fu n)):=by rfl
theorem TR (fu:Nat):yV fu 0=λ_ _=>none:=by rfl
theorem zcJ (T:Tx K mg):∀n:Nat,yD P w K mg base (CXE P w) (0+n) T.aQ.a T.aQ.fd ["_law_found","_law_due_here"] (sTw K 2 (yV fu n)):=by
 intro n
 induction n with
 |zero=>
  skip
  .rw[TR];exact VU
 |succ n ih=>
  .rw[wT];exact T.aQ.F.okE zee (λvs H Q E h=>h.1) (λaS A outer s H vs Q E hr h=>⟨_,(yt (Zg (zA (wk (K:=K)) rfl T.aE boot_isinstance (zR (pv 1) (zR (Zf (v:= .ty "tuple") rfl T.cf boot_tuple rfl) ze)))) (yt (PW.pt (ziG (zbc (Zg (zA (wk (K:=K)) rfl T.aE boot_isinstance (zR (pv 0) (zR (Zf (v:= .ty "tuple") rfl T.cf boot_tuple rfl) ze))))) (zfH (yG (zad (zA (ym (K:=K)) rfl T.aX boot_len (pv 0\ze)) (zA (ym (K:=K)) rfl T.aX boot_len (pv 1\ze))))))) (¬(!zas)) zI<|>¬(!zA (Wi (K:=K) rfl) rfl T.dq PyProof.Rows.Boot.«all» (zR (yY (N':=["_law_k","_law_found","_law_due_here"]) rfl (blk (osc:=zi Ye) rfl (by decide+kernel)) (yM (zT (i:=0) rfl rfl (zT (i:=1) rfl rfl yL))) (yC rfl T.aI (zA (ym (K:=K)) rfl T.aX boot_len (pv 1\ze)\ze)) (yk rfl) (λC s₀ H₀ fp=>zX (i:=0) (show (["_law_k","_law_found","_law_due_here"]:List Str).Nodup from by decide+kernel) rfl (qX rfl)) (λC s₀ H₀ fp=>yK) (λC s₀ H₀ fp=>(T.aQ\(ih,hr.mono (by walk_at "q2"),wX,(za5 (K:=K)%(pv 1,pv 0))\((za5 (K:=K)%(pv 2,pv 0))\ze))))) ze))) zI<|>yt (Zg (zA (wk (K:=K)) rfl T.aE boot_isinstance (zR (pv 1) (zR (Zf (v:= .ty "list") rfl T.dA boot_list rfl) ze)))) (yt (PW.pt (ziG (zbc (Zg (zA (wk (K:=K)) rfl T.aE boot_isinstance (zR (pv 0) (zR (Zf (v:= .ty "list") rfl T.dA boot_list rfl) ze))))) (zfH (yG (zad (zA (ym (K:=K)) rfl T.aX boot_len (pv 0\ze)) (zA (ym (K:=K)) rfl T.aX boot_len (pv 1\ze))))))) (¬(!zas)) zI<|>¬(!zA (Wi (K:=K) rfl) rfl T.dq PyProof.Rows.Boot.«all» (zR (yY (N':=["_law_k","_law_found","_law_due_here"]) rfl (blk (osc:=zi Ye) rfl (by decide+kernel)) (yM (zT (i:=0) rfl rfl (zT (i:=1) rfl rfl yL))) (yC rfl T.aI (zA (ym (K:=K)) rfl T.aX boot_len (pv 1\ze)\ze)) (yk rfl) (λC s₀ H₀ fp=>zX (i:=0) (show (["_law_k","_law_found","_law_due_here"]:List Str).Nodup from by decide+kernel) rfl (qX rfl)) (λC s₀ H₀ fp=>yK) (λC s₀ H₀ fp=>(T.aQ\(ih,hr.mono (by walk_at "q2"),wX,(za5 (K:=K)%(pv 1,pv 0))\((za5 (K:=K)%(pv 2,pv 0))\ze))))) ze))) zI<|>yt (yG (zfG (pv 1))) (¬(!YG (zfG (pv 0)))) zI<|>yt (Zg (zA (wk (K:=K)) rfl T.aE boot_isinstance (zR (pv 1) (zR (Zf (v:= .ty "str") rfl T.eD boot_str rfl) ze)))) (¬(!zdy (zA (wk (K:=K)) rfl T.aE boot_isinstance (zR (pv 0) (zR (Zf (v:= .ty "str") rfl T.eD boot_str rfl) ze))) (zfI (US wx (pv 0) (pv 1) (by rfl))))) zI<|>¬(!zdy (zA (wk (K:=K)) rfl T.aE boot_isinstance (zR (pv 0) (zR (Zf (v:= .ty "int") rfl T.cX boot_int rfl) ze))) (zdy (ziH (zA (wk (K:=K)) rfl T.aE boot_isinstance (zR (pv 0) (zR (Zf (v:= .ty "bool") rfl T.dU boot_bool rfl) ze)))) (zfI (US wx (pv 0) (pv 1) (by rfl)))))),yz (n:=2) (k:=0) (b:=wF fu (yV fu n)) rfl (by unfold wF;walk_at "re") h⟩)
theorem zeh (T:Tx K mg) (n:Nat):yD P w K mg base (CXE P w) (0+n) T.aQ.a T.aQ.fd ["_law_found","_law_due_here"] (sTw K 2 (yV fu n)):=(zcJ T n)
noncomputable def ZU (fu:Nat):TwS:=(yd (zh6 (eUn (UC "int") (za 0)) (eB (zbu (bE (eUn (UC "bool") (za 0)))))))
noncomputable def Wb (fu:Nat):TwF:=yi 1 0 (ZU fu)
theorem zcK (T:Tx K mg):yD P w K mg base (CXE P w) 1 T.bA.a T.bA.fd ["_law_found"] (sTw K 1 (Wb fu)):=
 T.bA.F.okE zcB (λvs H Q E h=>h.1) (λaS A outer s H vs Q E hr h=>⟨_,(¬(!zdy (zA (wk (K:=K)) rfl T.aE boot_isinstance (zR (pv 0) (zR (Zf (v:= .ty "int") rfl T.cX boot_int rfl) ze))) (zfI (ziH (zA (wk (K:=K)) rfl T.aE boot_isinstance (zR (pv 0) (zR (Zf (v:= .ty "bool") rfl T.dU boot_bool rfl) ze))))))),yz (n:=1) (k:=0) (b:=ZU fu) rfl (by unfold ZU;walk_at "re") h⟩)
noncomputable def Zu (fu:Nat):TwS:=(zu (zY (Wj []) (gN 3)) (zu (XN (iR1 (eFn wA [(za 1)])) (gN 4) (zu (zY (eOp yA (za 1) (za 4)) (gN 5)) (zu (zY (eOp yA (za 2) (za 4)) (gN 6)) (sIf (bE (eOp (we false) (za 0) (eC (.str "sum")))) (Zz (eMt xx (za 3) [(zP (Zb fu) [(eOp Yb (eOp vY (eOp zB (za 5) (eC (.int 0))) (eOp zB (za 6) (eC (.int 1)))) (eOp vY (eOp zB (za 6) (eC (.int 0))) (eOp zB (za 5) (eC (.int 1))))),(eOp vY (eOp zB (za 5) (eC (.int 1))) (eOp zB (za 6) (eC (.int 1))))])])) (sIf (bE (eOp (we false) (za 0) (eC (.str "product")))) (Zz (eMt xx (za 3) [(zP (Zb fu) [(eOp vY (eOp zB (za 5) (eC (.int 0))) (eOp zB (za 6) (eC (.int 0)))),(eOp vY (eOp zB (za 5) (eC (.int 1))) (eOp zB (za 6) (eC (.int 1))))])])) (sIf (bE (eOp dLt (eOp vY (eOp zB (za 5) (eC (.int 0))) (eOp zB (za 6) (eC (.int 1)))) (eOp vY (eOp zB (za 6) (eC (.int 0))) (eOp zB (za 5) (eC (.int 1)))))) (Zz (eMt xx (za 3) [(za 6)])) (Zz (eMt xx (za 3) [(za 5)])))))))) (yd (za 3))))
noncomputable def Xh (fu:Nat):TwF:=yi 3 4 (Zu fu)
theorem zcb (T:Tx K mg):yD P w K mg base (CXE P w) 34 T.bp.a T.bp.fd ["_law_word_here","_law_one","_law_other"] (sTw K 3 (Xh fu)):=
 T.bp.F.okE vf (λvs H Q E h=>h.1) (λaS A outer s H vs Q E hr h=>⟨_,((vf^^^(3,qX rfl,@wV _ _ _ _ ze))<|>vA PassesOwn.leaving rfl (yC rfl T.aI (zA (ym (K:=K)) rfl T.aX boot_len (pv 1\ze)\ze)) (zX (i:=4) vf.nd rfl (qX rfl)) ((vf^^^(5,qX rfl,zt (K:=K)%(pv 1,pv 4)))<|>(vf^^^(6,qX rfl,zt (K:=K)%(pv 2,pv 4)))<|>¬yt (yR wx (pv 0) ye (by rfl)) (¬wP (Yr rm rO rP xC (pv 3) ((T.b8\(XF (fu:=fu) T,hr.mono ∅,zH,zL xY (zL xQ (zj (K:=K)%(pv 5,zg)) (zj (K:=K)%(pv 6,zg))) (zL xQ (zj (K:=K)%(pv 6,zg)) (zj (K:=K)%(pv 5,zg)))\(zL xQ (zj (K:=K)%(pv 5,zg)) (zj (K:=K)%(pv 6,zg))\ze)))\ze))) (¬yt (yR wx (pv 0) ye (by rfl)) (¬wP (Yr rm rO rP xC (pv 3) ((T.b8\(XF (fu:=fu) T,hr.mono ∅,zH,zL xQ (zj (K:=K)%(pv 5,zg)) (zj (K:=K)%(pv 6,zg))\(zL xQ (zj (K:=K)%(pv 5,zg)) (zj (K:=K)%(pv 6,zg))\ze)))\ze))) (¬yt (yG (zat (zL xQ (zj (K:=K)%(pv 5,zg)) (zj (K:=K)%(pv 6,zg))) (zL xQ (zj (K:=K)%(pv 6,zg)) (zj (K:=K)%(pv 5,zg))))) (¬wP (Yr rm rO rP xC (pv 3) (pv 6\ze))) (¬wP (Yr rm rO rP xC (pv 3) (pv 5\ze))))))<|>¬(!pv 3)),yz (n:=3) (k:=4) (b:=Zu fu) rfl (by unfold Zu;walk_at "re") h⟩)
noncomputable def ZV (fu:Nat):TwS:=(zu (sIf (bE (eOp Vn (zP (zv fu) [(za 0),(eC (.int 3))]) (eC (.int 1)))) (yd (zP (Zb fu) [(eOp Yb (eOp zgc (zP (zv fu) [(za 0),(eOp zgc (eOp zjy (eC (.int 2)) (eOp zdP (eC (.int 10)) (eC (.int 9)))) (eC (.int 1)))]) (eOp zdP (eC (.int 10)) (eC (.int 9)))) (eC (.int 1))),(eOp Yb (eC (.int 1)) (zP (zv fu) [(za 0),(eOp zgc (eOp zdP (eC (.int 10)) (eC (.int 9))) (eC (.int 1)))]))])) yo) (yd (zP (Zb fu) [(eOp zgc (zP (zv fu) [(za 0),(eC (.int 7))]) (eC (.int 3))),(eOp Yb (eC (.int 1)) (zP (zv fu) [(za 0),(eC (.int 4))]))])))
noncomputable def ZW (fu:Nat):TwF:=yi 1 0 (ZV fu)
theorem zcL (T:Tx K mg):yD P w K mg base (CXE P w) 34 T.bC.a T.bC.fd ["_law_left"] (sTw K 1 (ZW fu)):=
 T.bC.F.okE zcC (λvs H Q E h=>h.1) (λaS A outer s H vs Q E hr h=>⟨_,(yt (yG (vz (T.ai\(zK (fu:=fu) T,hr.mono ∅,zH,pv 0\(zg\ze))) zg)) (¬(!(T.b8\(XF (fu:=fu) T,hr.mono ∅,zH,zL xY (zL zbe (T.ai\(zK (fu:=fu) T,hr.mono ∅,zH,pv 0\(zL zbe (zL ziP zg (zL zae zg zg)) zg\ze))) (zL zae zg zg)) zg\(zL xY zg (T.ai\(zK (fu:=fu) T,hr.mono ∅,zH,pv 0\(zL zbe (zL zae zg zg) zg\ze)))\ze))))) zI<|>¬(!(T.b8\(XF (fu:=fu) T,hr.mono ∅,zH,zL zbe (T.ai\(zK (fu:=fu) T,hr.mono ∅,zH,pv 0\(zg\ze))) zg\(zL xY zg (T.ai\(zK (fu:=fu) T,hr.mono ∅,zH,pv 0\(zg\ze)))\ze))))),yz (n:=1) (k:=0) (b:=ZV fu) rfl (by unfold ZV;walk_at "re") h⟩)
noncomputable def Zv (fu:Nat):TwS:=(zu (zY (Wj [(wO [])]) (gN 1)) (zu (XN (iT (za 0)) (gN 2) (zu (zY (Wj []) (gN 3)) (zu (XN (iL (za 1)) (gN 4) (Zz (eMt UZ (za 3) [(xm [none,some 4] (iR1 (eOp zB (za 2) (eC (.int 1)))) (gN 0) xi (eOp Wl (za 1) (wO [(za 0)])))]))) (zY (za 3) (gN 1))))) (yd (za 1))))
noncomputable def Xi (fu:Nat):TwF:=yi 1 4 (Zv fu)
theorem zcc (T:Tx K mg):yD P w K mg base (CXE P w) 1 T.bo.a T.bo.fd ["_law_boxes_here"] (sTw K 1 (Xi fu)):=
 T.bo.F.okE wu (λvs H Q E h=>h.1) (λaS A outer s H vs Q E hr h=>⟨_,((wu^^^(1,qX rfl,@wV _ _ _ _ ((~~~ze)\ze)))<|>vA PassesOwn.leaving rfl (WC (K:=K) (pv 0)) (zX (i:=2) wu.nd rfl (qX rfl)) ((wu^^^(3,qX rfl,@wV _ _ _ _ ze))<|>vA PassesOwn.leaving rfl (wm (K:=K) (pv 1)) (zX (i:=4) wu.nd rfl (t7 rfl)) (¬wP (Yr rm PySem.F.slot_list_extend PySem.F.type_list_extend (zf2 (K:=K)) (pv 3) (zR (yY (N':=["_law_number","_law_state_here"]) rfl (blk (osc:=zi ZQ) rfl (by decide+kernel)) (yM (zT (i:=4) rfl rfl yL)) (yC rfl T.aI ((zj (K:=K)%(pv 2,zg))\ze)) (yk rfl) (λC s₀ H₀ fp=>zX (i:=0) (show (["_law_number","_law_state_here"]:List Str).Nodup from by decide+kernel) rfl (qX rfl)) (λC s₀ H₀ fp=>yK) (λC s₀ H₀ fp=>(zL (WD (K:=K)) (pv 1) (~~~(pv 0\ze))))) ze)))<|>¬(wu^^^(1,qX rfl,pv 3)))<|>¬(!pv 1)),yz (n:=1) (k:=4) (b:=Zv fu) rfl (by unfold Zv;walk_at "re") h⟩)
noncomputable def vK (fu:Nat) (dy:TwF):TwS:=(zu (sIf (bE (eOp Vn (za 2) (eFn wA [(za 1)]))) (yd (yp "Store" "leaf" (xk fu) (za 0) [(eOp yA (za 3) (eC (.int 0)))])) yo) (zu (zY (eOp zB (eOp zB (za 1) (za 2)) (eC (.int 1))) (gN 4)) (zu (zY (eOp zbz (eFn wA [(za 3)]) (za 4)) (gN 5)) (zu (zY (Wj []) (gN 6)) (zu (XN (iR1 (za 4)) (gN 7) (Zz (eMt xx (za 6) [(zP dy [(za 0),(za 1),(eOp Yb (za 2) (eC (.int 1))),(eSl zeU (za 3) (YO (eOp vY (za 7) (za 5))) (YO (eOp Yb (eOp vY (za 7) (za 5)) (za 5))))])]))) (yd (yp "Store" "fork" (xA fu) (za 0) [(za 2),(za 6)])))))))
noncomputable def yU (fu:Nat):Nat->TwF
 |0=>λ_ _=>none
 |n+1=>yi 4 4 (vK fu (yU fu n))
theorem vV (fu n:Nat):yU fu (n+1)=yi 4 4 (vK fu (yU fu n)):=by rfl
theorem UL (fu:Nat):yU fu 0=λ_ _=>none:=by rfl
theorem zcd (T:Tx K mg):∀n:Nat,yD P w K mg base (CXE P w) (2+n) T.aR.a T.aR.fd ["_law_store","_law_boxes_here","_law_level","_law_table"] (sTw K 4 (yU fu n)):=by
 intro n
 induction n with
 |zero=>
  skip
  .rw[UL];exact VU
 |succ n ih=>
  .rw[vV];exact T.aR.F.okE vJ (λvs H Q E h=>h.1) (λaS A outer s H vs Q E hr h=>⟨_,(yt (yG (vz (pv 2) (zA (ym (K:=K)) rfl T.aX boot_len (pv 1\ze)))) (¬(!zS (pv 0) T.af T.au.mt (wa (fu:=fu) T) (hr.mono (by walk_at "q2")) T.au.b .nil zH ((zt (K:=K)%(pv 3,zg))\ze))) zI<|>(vJ^^^(4,qX rfl,zj (K:=K)%(zj (K:=K)%(pv 1,pv 2),zg)))<|>(vJ^^^(5,qX rfl,zL zeM (zA (ym (K:=K)) rfl T.aX boot_len (pv 3\ze)) (pv 4)))<|>(vJ^^^(6,qX rfl,@wV _ _ _ _ ze))<|>vA PassesOwn.leaving rfl (yC rfl T.aI (pv 4\ze)) (zX (i:=7) vJ.nd rfl (qX rfl)) (¬wP (Yr rm rO rP xC (pv 6) ((T.aR\(ih,hr.mono (by walk_at "q2"),zH,pv 0\(pv 1\(zL xY (pv 2) zg\(Ya (zeO (K:=K)) (pv 3) (ZN (zL xQ (pv 7) (pv 5))) (ZN (zL xY (zL xQ (pv 7) (pv 5)) (pv 5)))\ze)))))\ze)))<|>¬(!zS (pv 0) T.af T.ay.mt (wL (fu:=fu) T) (hr.mono (by walk_at "q2")) T.ay.b .nil zH (pv 2\(pv 6\ze)))),yz (n:=4) (k:=4) (b:=vK fu (yU fu n)) rfl (zJ (vG (WE (zbD (zb 2) (Zj ZE (zf (zb 1) zo)))) (yv (zM T.ae (zb 0) (zf (zx yF (zb 3) (zF _)) zo))) xj) (zJ (yO (zx yc (zx yc (zb 1) (zb 2)) (zF _)) zN) (zJ (yO (zx zbC (Zj ZE (zf (zb 3) zo)) (zb 4)) zN) (zJ (yO (YN zo) zN) (zJ (UB (vo (zb 4)) zN (Xt (UY vX (zb 6) (zf (xG (zf (zb 0) (zf (zb 1) (zf (zx zbB (zb 2) (zF _)) (zf (zjs (zb 3) (zaY (zx zaZ (zb 7) (zb 5))) (zaY (zx zbB (zx zaZ (zb 7) (zb 5)) (zb 5)))) zo))))) zo)))) (yv (zM T.ae (zb 0) (zf (zb 2) (zf (zb 6) zo))))))))) h⟩)
theorem zcM (T:Tx K mg) (n:Nat):yD P w K mg base (CXE P w) (2+n) T.aR.a T.aR.fd ["_law_store","_law_boxes_here","_law_level","_law_table"] (sTw K 4 (yU fu n)):=(zcd T n)
noncomputable def Wc (fu:Nat):TwS:=(zu (sIf (zbu (bE (zP (Wb fu) [(za 2)]))) (yd (eC (.bl false))) yo) (yd (eFn zbF [(xm [none,some 2,some 3,some 0,some 1] (iR1 (eFn wA [(za 1)])) (gN 0) xi (zP (yV fu 10) [(yp "Store" "value_at" (Zr fu) (za 3) [(za 1),(eOp yA (za 4) (za 0))]),(eOp yA (za 2) (za 0))]))])))
noncomputable def vL (fu:Nat):TwF:=yi 4 0 (Wc fu)
theorem Uw (T:Tx K mg):yD P w K mg base (CXE P w) 11 T.b9.a T.b9.fd ["_law_store","_law_states_here","_law_node","_law_table"] (sTw K 4 (vL fu)):=
 T.b9.F.okE zcD (λvs H Q E h=>h.1) (λaS A outer s H vs Q E hr h=>⟨_,(yt (zbc (Zg (T.bA\(zcK (fu:=fu) T,hr.mono ∅,zH,pv 2\ze)))) (¬(!zas)) zI<|>¬(!zA (Wi (K:=K) rfl) rfl T.dq PyProof.Rows.Boot.«all» (zR (yY (N':=["_law_k","_law_node","_law_table","_law_store","_law_states_here"]) rfl (blk (osc:=zi Yy) rfl (by decide+kernel)) (yM (zT (i:=2) rfl rfl (zT (i:=3) rfl rfl (zT (i:=0) rfl rfl (zT (i:=1) rfl rfl yL))))) (yC rfl T.aI (zA (ym (K:=K)) rfl T.aX boot_len (pv 1\ze)\ze)) (yk rfl) (λC s₀ H₀ fp=>zX (i:=0) (show (["_law_k","_law_node","_law_table","_law_store","_law_states_here"]:List Str).Nodup from by decide+kernel) rfl (qX rfl)) (λC s₀ H₀ fp=>yK) (λC s₀ H₀ fp=>(T.aQ\(zeh (fu:=fu) T 10,hr.mono ∅,wX,zS (pv 3) T.af T.aM.mt (TN (fu:=fu) T) (hr.mono ∅) T.aM.b .nil wX (pv 1\((zt (K:=K)%(pv 4,pv 0))\ze))\((zt (K:=K)%(pv 2,pv 0))\ze))))) ze))),yz (n:=4) (k:=0) (b:=Wc fu) rfl (zJ (vG (zf8 (WE (xG (zf (zb 2) zo)))) (yv (zg4 _)) xj) (yv (Zj zbG (zf (vN (cap:=[none,some 2,some 3,some 0,some 1]) (vo (Zj ZE (zf (zb 1) zo))) zN vM (xG (zf (zM T.ae (zb 3) (zf (zb 1) (zf (zx yF (zb 4) (zb 0)) zo))) (zf (zx yF (zb 2) (zb 0)) zo)))) zo)))) h⟩)
noncomputable def YE (fu:Nat):TwS:=(zu (zY (Wj [(eOp zB (za 2) (eC (.int 0))),(eOp zB (za 2) (eC (.int 2)))]) (gN 3)) (zu (XN (iR1 (eFn wA [(za 0)])) (gN 4) (zY (xm [none,some 1,some 4,some 0] (iL (za 3)) (gN 0) xi (eIf (bE (eOp (we false) (za 0) (eOp zB (eOp zB (za 3) (za 2)) (eC (.int 0))))) (eOp zB (za 1) (za 2)) (za 0))) (gN 3))) (zu (sIf (bE (eOp (we false) (eOp zB (za 2) (eC (.int 1))) (eC (.str "=")))) (yd (wO [(eFn Uu [(eOp Vn (eOp yA (za 3) (eC (.int 0))) (eOp yA (za 3) (eC (.int 1))))]),(eC (.int 1))])) yo) (zu (sIf (bE (eOp (we false) (eOp zB (za 2) (eC (.int 1))) (eC (.str "<")))) (yd (wO [(eFn Uu [(eOp dLt (eOp yA (za 3) (eC (.int 0))) (eOp yA (za 3) (eC (.int 1))))]),(eC (.int 1))])) yo) (yd (wO [(eFn Uu [(eOp zcw (eOp yA (za 3) (eC (.int 0))) (eOp yA (za 3) (eC (.int 1))))]),(eC (.int 1))]))))))
noncomputable def Va (fu:Nat):TwF:=yi 3 2 (YE fu)
theorem zei (T:Tx K mg):yD P w K mg base (CXE P w) 1 T.bM.a T.bM.fd ["_law_boxes_here","_law_state_here","_law_test_here"] (sTw K 3 (Va fu)):=
 T.bM.F.okE YA (λvs H Q E h=>h.1) (λaS A outer s H vs Q E hr h=>⟨_,((YA^^^(3,qX rfl,@wV _ _ _ _ ((zj (K:=K)%(pv 2,zg))\((zj (K:=K)%(pv 2,zg))\ze))))<|>vA PassesOwn.leaving rfl (yC rfl T.aI (zA (ym (K:=K)) rfl T.aX boot_len (pv 0\ze)\ze)) (zX (i:=4) YA.nd rfl (t7 rfl)) (¬WA (i:=3) (N':=["_law_one","_law_state_here","_law_k","_law_boxes_here"]) rfl (blk (osc:=zi Xy) rfl (by decide+kernel)) (yM (zT (i:=1) rfl rfl (zT (i:=4) rfl rfl (zT (i:=0) rfl rfl yL)))) (wm (K:=K) (pv 3)) (yk rfl) (λC s₀ H₀ fp=>zX (i:=0) (show (["_law_one","_law_state_here","_law_k","_law_boxes_here"]:List Str).Nodup from by decide+kernel) rfl (qX rfl)) (λC s₀ H₀ fp=>yK) (λC s₀ H₀ fp=>(YH (yR wx (pv 0) (zj (K:=K)%(zj (K:=K)%(pv 3,pv 2),zg)) (by rfl)) (zj (K:=K)%(pv 1,pv 2)) (pv 0))) YA.nd rfl rfl)<|>yt (yR wx (zj (K:=K)%(pv 2,zg)) ye (by rfl)) (¬(!(~~~(vW VS rfl T.cX boot_int (YG (vz (zt (K:=K)%(pv 3,zg)) (zt (K:=K)%(pv 3,zg)))\ze)\(zg\ze))))) zI<|>yt (yR wx (zj (K:=K)%(pv 2,zg)) ye (by rfl)) (¬(!(~~~(vW VS rfl T.cX boot_int (YG (zat (zt (K:=K)%(pv 3,zg)) (zt (K:=K)%(pv 3,zg)))\ze)\(zg\ze))))) zI<|>¬(!(~~~(vW VS rfl T.cX boot_int (YG (zad (zt (K:=K)%(pv 3,zg)) (zt (K:=K)%(pv 3,zg)))\ze)\(zg\ze))))),yz (n:=3) (k:=2) (b:=YE fu) rfl (by unfold YE;walk_at "re") h⟩)
noncomputable def XG (fu:Nat):TwS:=(zu (zY (zP (zv fu) [(za 0),(eC (.int 9))]) (gN 3)) (zu (sIf (bOr (bE (eOp Vn (za 2) (eC (.int 0)))) (bE (eOp Vn (za 3) (eC (.int 0))))) (yd (wO [(eC (.str "leaf")),(zP (ZW fu) [(za 0)])])) yo) (zu (sIf (bE (eOp Vn (za 3) (eC (.int 1)))) (yd (wO [(eC (.str "point")),(zP (Wa fu) [(za 0),(za 1)])])) yo) (zu (sIf (bE (eOp Vn (za 3) (eC (.int 2)))) (yd (wO [(eC (.str "mark")),(zP (WZ fu) [(za 0),(za 1)])])) yo) (zu (sIf (zbt (bE (eOp dGt (za 3) (eC (.int 5)))) (bE (eOp dGt (eFn wA [(za 1)]) (eC (.int 0))))) (zu (zY (zP (zv fu) [(za 0),(eFn wA [(za 1)])]) (gN 4)) (zu (sIf (bE (eOp dGt (za 3) (eC (.int 6)))) (yd (wO [(eC (.str "fork")),(za 4),(xm [none,some 0,some 2] (iR1 (eOp zB (eOp zB (za 1) (za 4)) (eC (.int 1)))) (gN 0) xi (zP (zv fu) [(za 1),(za 2)]))])) yo) (yd (wO [(eC (.str "fixed")),(zP (zv fu) [(za 0),(za 2)]),(za 4),(zP (zv fu) [(za 0),(eOp zB (eOp zB (za 1) (za 4)) (eC (.int 1)))])])))) yo) (zu (zY (zP (zv fu) [(za 0),(za 2)]) (gN 5)) (yd (wO [(eOp yA (Wj [(eC (.str "greater")),(eC (.str "product")),(eC (.str "sum"))]) (eOp WJ (za 3) (eC (.int 3)))),(za 5),(zP (zv fu) [(za 0),(za 2)])]))))))))
noncomputable def XH (fu:Nat):TwF:=yi 3 3 (XG fu)
theorem zfn (T:Tx K mg):yD P w K mg base (CXE P w) 35 T.bT.a T.bT.fd ["_law_left","_law_boxes_here","_law_many"] (sTw K 3 (XH fu)):=
 T.bT.F.okE XB (λvs H Q E h=>h.1) (λaS A outer s H vs Q E hr h=>⟨_,((XB^^^(3,qX rfl,T.ai\(zK (fu:=fu) T,hr.mono ∅,zH,pv 0\(zg\ze))))<|>yt (PW.pt (ziG (yG (vz (pv 2) zg)) (zfH (yG (vz (pv 3) zg))))) (¬(!(~~~(ye\((T.bC\(zcL (fu:=fu) T,hr.mono ∅,zH,pv 0\ze))\ze))))) zI<|>yt (yG (vz (pv 3) zg)) (¬(!(~~~(ye\((T.bB\(zcI (fu:=fu) T,hr.mono ∅,zH,pv 0\(pv 1\ze)))\ze))))) zI<|>yt (yG (vz (pv 3) zg)) (¬(!(~~~(ye\((T.bL\(zeg (fu:=fu) T,hr.mono ∅,zH,pv 0\(pv 1\ze)))\ze))))) zI<|>yt (PW.pt (zbb (yG (UP (pv 3) zg)) (UQ (yG (UP (zA (ym (K:=K)) rfl T.aX boot_len (pv 1\ze)) zg))))) ((XB^^^(4,qX rfl,T.ai\(zK (fu:=fu) T,hr.mono ∅,zH,pv 0\(zA (ym (K:=K)) rfl T.aX boot_len (pv 1\ze)\ze))))<|>yt (yG (UP (pv 3) zg)) (¬(!(~~~(ye\(pv 4\(zR (yY (N':=["_law_k","_law_left","_law_many"]) rfl (blk (osc:=zi WV) rfl (by decide+kernel)) (yM (zT (i:=0) rfl rfl (zT (i:=2) rfl rfl yL))) (yC rfl T.aI ((zj (K:=K)%(zj (K:=K)%(pv 1,pv 4),zg))\ze)) (yk rfl) (λC s₀ H₀ fp=>zX (i:=0) (show (["_law_k","_law_left","_law_many"]:List Str).Nodup from by decide+kernel) rfl (qX rfl)) (λC s₀ H₀ fp=>yK) (λC s₀ H₀ fp=>(T.ai\(zK (fu:=fu) T,hr.mono ∅,wX,pv 1\(pv 2\ze))))) ze)))))) zI<|>¬(!(~~~(ye\((T.ai\(zK (fu:=fu) T,hr.mono ∅,zH,pv 0\(pv 2\ze)))\(pv 4\((T.ai\(zK (fu:=fu) T,hr.mono ∅,zH,pv 0\((zj (K:=K)%(zj (K:=K)%(pv 1,pv 4),zg))\ze)))\ze))))))) zI<|>(XB^^^(5,qX rfl,T.ai\(zK (fu:=fu) T,hr.mono ∅,zH,pv 0\(pv 2\ze))))<|>¬(!(~~~((zt (K:=K)%(@wV _ _ _ _ (ye\(ye\(ye\ze))),zL YI (pv 3) zg))\(pv 5\((T.ai\(zK (fu:=fu) T,hr.mono ∅,zH,pv 0\(pv 2\ze)))\ze)))))),yz (n:=3) (k:=3) (b:=XG fu) rfl (by unfold XG;walk_at "re") h⟩)
noncomputable def xW (fu:Nat):TwS:=(zu (sIf (bE (eOp (we false) (eOp zB (za 2) (eC (.int 0))) (eC (.str "leaf")))) (yd (xm [none,some 2] (iL (za 1)) (gN 0) xi (eOp zB (za 1) (eC (.int 1))))) yo) (zu (sIf (bE (eOp (we false) (eOp zB (za 2) (eC (.int 0))) (eC (.str "point")))) (yd (xm [none,some 2] (iL (za 1)) (gN 0) xi (wO [(eFn Uu [(eOp (zig false) (za 0) (eOp zB (za 1) (eC (.int 1))))]),(eC (.int 1))]))) yo) (zu (sIf (bE (eOp (we false) (eOp zB (za 2) (eC (.int 0))) (eC (.str "mark")))) (yd (xm [none,some 0,some 2] (iL (za 1)) (gN 0) xi (zP (Va fu) [(za 1),(za 0),(eOp zB (za 2) (eC (.int 1)))]))) yo) (zu (zY (Wj []) (gN 4)) (zu (sIf (bE (eOp (we false) (eOp zB (za 2) (eC (.int 0))) (eC (.str "fixed")))) (zu (XN (iL (za 1)) (gN 5) (zu (zY (eOp Wl (eOp Wl (eSl zeV (za 5) oNo (YO (eOp zB (za 2) (eC (.int 2))))) (wO [(eOp zB (za 2) (eC (.int 3)))])) (eSl zeV (za 5) (YO (eOp Yb (eOp zB (za 2) (eC (.int 2))) (eC (.int 1)))) oNo)) (gN 6)) (Zz (eMt xx (za 4) [(eOp yA (eOp yA (za 3) (eOp zB (za 2) (eC (.int 1)))) (eMt Ub (za 1) [(za 6)]))])))) (yd (za 4))) yo) (zu (sIf (bE (eOp (we false) (eOp zB (za 2) (eC (.int 0))) (eC (.str "fork")))) (zu (XN (iL (za 1)) (gN 5) (zu (zY (eOp Wl (eFn Vv [(xm [none] (iR1 (eOp Yb (eOp zB (za 2) (eC (.int 1))) (eC (.int 1)))) (gN 0) xi (eC (.int 0)))]) (eSl zeV (za 5) (YO (eOp Yb (eOp zB (za 2) (eC (.int 1))) (eC (.int 1)))) oNo)) (gN 6)) (zu (zY (eOp yA (eOp zB (za 2) (eC (.int 2))) (eOp zB (za 5) (eOp zB (za 2) (eC (.int 1))))) (gN 7)) (Zz (eMt xx (za 4) [(eOp yA (eOp yA (za 3) (za 7)) (eMt Ub (za 1) [(za 6)]))]))))) (yd (za 4))) yo) (yd (zP (Xh fu) [(eOp zB (za 2) (eC (.int 0))),(eOp yA (za 3) (eOp zB (za 2) (eC (.int 1)))),(eOp yA (za 3) (eOp zB (za 2) (eC (.int 2))))]))))))))
noncomputable def xB (fu:Nat):TwF:=yi 4 4 (xW fu)
theorem zfo (T:Tx K mg):yD P w K mg base (CXE P w) 35 T.bU.a T.bU.fd ["_law_boxes_here","_law_states_here","_law_way_here","_law_tables"] (sTw K 4 (xB fu)):=
 T.bU.F.okE vg (λvs H Q E h=>h.1) (λaS A outer s H vs Q E hr h=>⟨_,(yt (yR wx (zj (K:=K)%(pv 2,zg)) ye (by rfl)) (¬(!yY (N':=["_law_state_here","_law_way_here"]) rfl (blk (osc:=zi vT) rfl (by decide+kernel)) (yM (zT (i:=2) rfl rfl yL)) (wm (K:=K) (pv 1)) (yk rfl) (λC s₀ H₀ fp=>zX (i:=0) (show (["_law_state_here","_law_way_here"]:List Str).Nodup from by decide+kernel) rfl (qX rfl)) (λC s₀ H₀ fp=>yK) (λC s₀ H₀ fp=>(zj (K:=K)%(pv 1,zg))))) zI<|>yt (yR wx (zj (K:=K)%(pv 2,zg)) ye (by rfl)) (¬(!yY (N':=["_law_state_here","_law_way_here"]) rfl (blk (osc:=zi vT) rfl (by decide+kernel)) (yM (zT (i:=2) rfl rfl yL)) (wm (K:=K) (pv 1)) (yk rfl) (λC s₀ H₀ fp=>zX (i:=0) (show (["_law_state_here","_law_way_here"]:List Str).Nodup from by decide+kernel) rfl (qX rfl)) (λC s₀ H₀ fp=>yK) (λC s₀ H₀ fp=>(~~~(vW VS rfl T.cX boot_int (US (zjS (K:=K) hr) (pv 0) (zj (K:=K)%(pv 1,zg)) (by rfl)\ze)\(zg\ze)))))) zI<|>yt (yR wx (zj (K:=K)%(pv 2,zg)) ye (by rfl)) (¬(!yY (N':=["_law_state_here","_law_boxes_here","_law_way_here"]) rfl (blk (osc:=zi vT) rfl (by decide+kernel)) (yM (zT (i:=0) rfl rfl (zT (i:=2) rfl rfl yL))) (wm (K:=K) (pv 1)) (yk rfl) (λC s₀ H₀ fp=>zX (i:=0) (show (["_law_state_here","_law_boxes_here","_law_way_here"]:List Str).Nodup from by decide+kernel) rfl (qX rfl)) (λC s₀ H₀ fp=>yK) (λC s₀ H₀ fp=>(T.bM\(zei (fu:=fu) T,hr.mono ∅,wX,pv 1\(pv 0\((zj (K:=K)%(pv 2,zg))\ze))))))) zI<|>(vg^^^(4,qX rfl,@wV _ _ _ _ ze))<|>yt (yR wx (zj (K:=K)%(pv 2,zg)) ye (by rfl)) (vA PassesOwn.leaving rfl (wm (K:=K) (pv 1)) (zX (i:=5) vg.nd rfl (qX rfl)) ((vg^^^(6,qX rfl,zL (WD (K:=K)) (zL (WD (K:=K)) (Ya (zdL (K:=K)) (pv 5) VT (ZN (zj (K:=K)%(pv 2,zg)))) (~~~((zj (K:=K)%(pv 2,zg))\ze))) (Ya (zdL (K:=K)) (pv 5) (ZN (zL xY (zj (K:=K)%(pv 2,zg)) zg)) VT)))<|>¬wP (Yr rm rO rP xC (pv 4) ((zt (K:=K)%(zt (K:=K)%(pv 3,zj (K:=K)%(pv 2,zg)),Yr rm uj uk (zdc (K:=K) hr) (pv 1) (pv 6\ze)))\ze)))<|>¬(!pv 4)) zI<|>yt (yR wx (zj (K:=K)%(pv 2,zg)) ye (by rfl)) (vA PassesOwn.leaving rfl (wm (K:=K) (pv 1)) (zX (i:=5) vg.nd rfl (qX rfl)) ((vg^^^(6,qX rfl,zL (WD (K:=K)) (vW (Xr (K:=K)) rfl T.cf boot_tuple (zR (yY (N':=["_law_k"]) rfl (blk (osc:=zi vT) rfl (by decide+kernel)) (yM yL) (yC rfl T.aI (zL xY (zj (K:=K)%(pv 2,zg)) zg\ze)) (yk rfl) (λC s₀ H₀ fp=>zX (i:=0) (show (["_law_k"]:List Str).Nodup from by decide+kernel) rfl (qX rfl)) (λC s₀ H₀ fp=>yK) (λC s₀ H₀ fp=>zg)) ze)) (Ya (zdL (K:=K)) (pv 5) (ZN (zL xY (zj (K:=K)%(pv 2,zg)) zg)) VT)))<|>(vg^^^(7,qX rfl,zt (K:=K)%(zj (K:=K)%(pv 2,zg),zj (K:=K)%(pv 5,zj (K:=K)%(pv 2,zg)))))<|>¬wP (Yr rm rO rP xC (pv 4) ((zt (K:=K)%(zt (K:=K)%(pv 3,pv 7),Yr rm uj uk (zdc (K:=K) hr) (pv 1) (pv 6\ze)))\ze)))<|>¬(!pv 4)) zI<|>¬(!(T.bp\(zcb (fu:=fu) T,hr.mono ∅,zH,(zj (K:=K)%(pv 2,zg))\((zt (K:=K)%(pv 3,zj (K:=K)%(pv 2,zg)))\((zt (K:=K)%(pv 3,zj (K:=K)%(pv 2,zg)))\ze)))))),yz (n:=4) (k:=4) (b:=xW fu) rfl (by unfold xW;walk_at "re") h⟩)
noncomputable def xX (fu:Nat):TwS:=(zu (sIf (bE (eOp (we false) (eOp zB (za 1) (eC (.int 0))) (eC (.str "leaf")))) (yd (yp "Store" "leaf" (xk fu) (za 0) [(eOp zB (za 1) (eC (.int 1)))])) yo) (zu (sIf (bE (eOp (we false) (eOp zB (za 1) (eC (.int 0))) (eC (.str "point")))) (yd (yp "Store" "point" (Xg fu) (za 0) [(eOp zB (za 1) (eC (.int 1)))])) yo) (zu (sIf (bE (eOp (we false) (eOp zB (za 1) (eC (.int 0))) (eC (.str "mark")))) (yd (yp "Store" "marked" (Yq fu) (za 0) [(eOp zB (za 1) (eC (.int 1)))])) yo) (zu (sIf (bE (eOp (we false) (eOp zB (za 1) (eC (.int 0))) (eC (.str "fixed")))) (yd (yp "Store" "fixed" (Zs fu) (za 0) [(eOp yA (za 2) (eOp zB (za 1) (eC (.int 1)))),(eOp zB (za 1) (eC (.int 2))),(eOp zB (za 1) (eC (.int 3)))])) yo) (zu (sIf (bE (eOp (we false) (eOp zB (za 1) (eC (.int 0))) (eC (.str "fork")))) (zu (zY (Wj []) (gN 3)) (zu (XN (iL (eOp zB (za 1) (eC (.int 2)))) (gN 4) (zu (zY (eOp yA (za 2) (za 4)) (gN 5)) (zu (XN (iR1 (eOp Yb (eOp zB (za 1) (eC (.int 1))) (eC (.int 1)))) (gN 6) (zY (yp "Store" "fixed" (Zs fu) (za 0) [(za 5),(za 6),(eC (.int 0))]) (gN 5))) (Zz (eMt xx (za 3) [(za 5)]))))) (yd (yp "Store" "fork" (xA fu) (za 0) [(eOp zB (za 1) (eC (.int 1))),(za 3)])))) yo) (zu (sIf (bE (eOp (we false) (eOp zB (za 1) (eC (.int 0))) (eC (.str "sum")))) (yd (yp "Store" "added" (Xd fu) (za 0) [(eOp yA (za 2) (eOp zB (za 1) (eC (.int 1)))),(eOp yA (za 2) (eOp zB (za 1) (eC (.int 2))))])) yo) (zu (sIf (bE (eOp (we false) (eOp zB (za 1) (eC (.int 0))) (eC (.str "product")))) (yd (yp "Store" "multiplied" (vF fu) (za 0) [(eOp yA (za 2) (eOp zB (za 1) (eC (.int 1)))),(eOp yA (za 2) (eOp zB (za 1) (eC (.int 2))))])) yo) (yd (yp "Store" "higher" (Yo fu) (za 0) [(eOp yA (za 2) (eOp zB (za 1) (eC (.int 1)))),(eOp yA (za 2) (eOp zB (za 1) (eC (.int 2))))])))))))))
noncomputable def xl (fu:Nat):TwF:=yi 3 4 (xX fu)
theorem zej (T:Tx K mg):yD P w K mg base (CXE P w) 64 T.bN.a T.bN.fd ["_law_store","_law_way_here","_law_nodes"] (sTw K 3 (xl fu)):=
 T.bN.F.okE vr (λvs H Q E h=>h.1) (λaS A outer s H vs Q E hr h=>⟨_,(yt (yR wx (zj (K:=K)%(pv 1,zg)) ye (by rfl)) (¬(!zS (pv 0) T.af T.au.mt (wa (fu:=fu) T) (hr.mono ∅) T.au.b .nil zH ((zj (K:=K)%(pv 1,zg))\ze))) zI<|>yt (yR wx (zj (K:=K)%(pv 1,zg)) ye (by rfl)) (¬(!zS (pv 0) T.af T.b0.mt (zca (fu:=fu) T) (hr.mono ∅) T.b0.b .nil zH ((zj (K:=K)%(pv 1,zg))\ze))) zI<|>yt (yR wx (zj (K:=K)%(pv 1,zg)) ye (by rfl)) (¬(!zS (pv 0) T.af T.aN.mt (zaS (fu:=fu) T) (hr.mono ∅) T.aN.b .nil zH ((zj (K:=K)%(pv 1,zg))\ze))) zI<|>yt (yR wx (zj (K:=K)%(pv 1,zg)) ye (by rfl)) (¬(!zS (pv 0) T.af T.aL.mt (VL (fu:=fu) T) (hr.mono ∅) T.aL.b .nil zH ((zt (K:=K)%(pv 2,zj (K:=K)%(pv 1,zg)))\((zj (K:=K)%(pv 1,zg))\((zj (K:=K)%(pv 1,zg))\ze))))) zI<|>yt (yR wx (zj (K:=K)%(pv 1,zg)) ye (by rfl)) ((vr^^^(3,qX rfl,@wV _ _ _ _ ze))<|>vA PassesOwn.leaving rfl (wm (K:=K) (zj (K:=K)%(pv 1,zg))) (zX (i:=4) vr.nd rfl (qX rfl)) ((vr^^^(5,qX rfl,zt (K:=K)%(pv 2,pv 4)))<|>vA PassesOwn.leaving rfl (yC rfl T.aI (zL xY (zj (K:=K)%(pv 1,zg)) zg\ze)) (zX (i:=6) vr.nd rfl (qX rfl)) (¬(vr^^^(5,qX rfl,zS (pv 0) T.af T.aL.mt (VL (fu:=fu) T) (hr.mono ∅) T.aL.b .nil zH (pv 5\(pv 6\(zg\ze))))))<|>¬wP (Yr rm rO rP xC (pv 3) (pv 5\ze)))<|>¬(!zS (pv 0) T.af T.ay.mt (wL (fu:=fu) T) (hr.mono ∅) T.ay.b .nil zH ((zj (K:=K)%(pv 1,zg))\(pv 3\ze)))) zI<|>yt (yR wx (zj (K:=K)%(pv 1,zg)) ye (by rfl)) (¬(!zS (pv 0) T.af T.aU.mt (zb9 (fu:=fu) T) (hr.mono ∅) T.aU.b .nil zH ((zt (K:=K)%(pv 2,zj (K:=K)%(pv 1,zg)))\((zt (K:=K)%(pv 2,zj (K:=K)%(pv 1,zg)))\ze)))) zI<|>yt (yR wx (zj (K:=K)%(pv 1,zg)) ye (by rfl)) (¬(!zS (pv 0) T.af T.aG.mt (Uk (fu:=fu) T) (hr.mono ∅) T.aG.b .nil zH ((zt (K:=K)%(pv 2,zj (K:=K)%(pv 1,zg)))\((zt (K:=K)%(pv 2,zj (K:=K)%(pv 1,zg)))\ze)))) zI<|>¬(!zS (pv 0) T.af T.aO.mt (zaR (fu:=fu) T) (hr.mono ∅) T.aO.b .nil zH ((zt (K:=K)%(pv 2,zj (K:=K)%(pv 1,zg)))\((zt (K:=K)%(pv 2,zj (K:=K)%(pv 1,zg)))\ze)))),yz (n:=3) (k:=4) (b:=xX fu) rfl (zJ (vG (vn (zx Zk (zx yc (zb 1) (zF _)) (vC _))) (yv (zM T.ae (zb 0) (zf (zx yc (zb 1) (zF _)) zo))) xj) (zJ (vG (vn (zx Zk (zx yc (zb 1) (zF _)) (vC _))) (yv (zM T.ae (zb 0) (zf (zx yc (zb 1) (zF _)) zo))) xj) (zJ (vG (vn (zx Zk (zx yc (zb 1) (zF _)) (vC _))) (yv (zM T.ae (zb 0) (zf (zx yc (zb 1) (zF _)) zo))) xj) (zJ (vG (vn (zx Zk (zx yc (zb 1) (zF _)) (vC _))) (yv (zM T.ae (zb 0) (zf (zx yF (zb 2) (zx yc (zb 1) (zF _))) (zf (zx yc (zb 1) (zF _)) (zf (zx yc (zb 1) (zF _)) zo))))) xj) (zJ (vG (vn (zx Zk (zx yc (zb 1) (zF _)) (vC _))) (zJ (yO (YN zo) zN) (zJ (UB (Ta (zx yc (zb 1) (zF _))) zN (zJ (yO (zx yF (zb 2) (zb 4)) zN) (zJ (UB (vo (zx zbB (zx yc (zb 1) (zF _)) (zF _))) zN (yO (zM T.ae (zb 0) (zf (zb 5) (zf (zb 6) (zf (zF _) zo)))) zN)) (Xt (UY vX (zb 3) (zf (zb 5) zo)))))) (yv (zM T.ae (zb 0) (zf (zx yc (zb 1) (zF _)) (zf (zb 3) zo)))))) xj) (zJ (vG (vn (zx Zk (zx yc (zb 1) (zF _)) (vC _))) (yv (zM T.ae (zb 0) (zf (zx yF (zb 2) (zx yc (zb 1) (zF _))) (zf (zx yF (zb 2) (zx yc (zb 1) (zF _))) zo)))) xj) (zJ (vG (vn (zx Zk (zx yc (zb 1) (zF _)) (vC _))) (yv (zM T.ae (zb 0) (zf (zx yF (zb 2) (zx yc (zb 1) (zF _))) (zf (zx yF (zb 2) (zx yc (zb 1) (zF _))) zo)))) xj) (yv (zM T.ae (zb 0) (zf (zx yF (zb 2) (zx yc (zb 1) (zF _))) (zf (zx yF (zb 2) (zx yc (zb 1) (zF _))) zo))))))))))) h⟩)
noncomputable def ZX (fu:Nat):TwS:=(yd (eFn zib [(xm [none] (iL (za 0)) (gN 0) xi (eOp dGt (eOp Yb (eFn zgf [(eOp zB (za 0) (eC (.int 0)))]) (eOp zB (za 0) (eC (.int 1)))) (eOp zdP (eC (.int 10)) (eC (.int 30)))))]))
noncomputable def wM (fu:Nat):TwF:=yi 1 0 (ZX fu)
theorem zcN (T:Tx K mg):yD P w K mg base (CXE P w) 1 T.bF.a T.bF.fd ["_law_table"] (sTw K 1 (wM fu)):=
 T.bF.F.okE zcE (λvs H Q E h=>h.1) (λaS A outer s H vs Q E hr h=>⟨_,(¬(!zA (zc3 (K:=K) rfl) rfl T.fe PyProof.Rows.Boot.«any» (zR (yY (N':=["_law_one"]) rfl (blk (osc:=zi Yz) rfl (by decide+kernel)) (yM yL) (wm (K:=K) (pv 0)) (yk rfl) (λC s₀ H₀ fp=>zX (i:=0) (show (["_law_one"]:List Str).Nodup from by decide+kernel) rfl (qX rfl)) (λC s₀ H₀ fp=>yK) (λC s₀ H₀ fp=>(YG (UP (zL xY (zA UU rfl T.dM boot_abs ((zj (K:=K)%(pv 0,zg))\ze)) (zj (K:=K)%(pv 0,zg))) (zL zae zg zg))))) ze))),yz (n:=1) (k:=0) (b:=ZX fu) rfl (by unfold ZX;walk_at "re") h⟩)
noncomputable def ZY (fu:Nat):TwS:=(zu (XN (iR1 (eFn wA [(za 2)])) (gN 4) (zu (sIf (zbu (bE (zP (vL fu) [(za 0),(za 1),(eOp yA (za 2) (za 4)),(eOp yA (za 3) (za 4))]))) (yd (eC (.bl false))) yo) (XN (iR1 (za 4)) (gN 5) (sIf (bE (eOp (we true) (eOp Vn (eOp yA (za 2) (za 4)) (eOp yA (za 2) (za 5))) (eOp (zig false) (eOp yA (za 3) (za 4)) (eOp yA (za 3) (za 5))))) (yd (eC (.bl false))) yo)))) (yd (eC (.bl true))))
noncomputable def ZZ (fu:Nat):TwF:=yi 4 2 (ZY fu)
theorem zcO (T:Tx K mg):yD P w K mg base (CXE P w) 12 T.bH.a T.bH.fd ["_law_store","_law_states_here","_law_nodes","_law_tables"] (sTw K 4 (ZZ fu)):=
 T.bH.F.okE XT (λvs H Q E h=>h.1) (λaS A outer s H vs Q E hr h=>⟨_,(vA PassesOwn.leaving rfl (yC rfl T.aI (zA (ym (K:=K)) rfl T.aX boot_len (pv 2\ze)\ze)) (zX (i:=4) XT.nd rfl (qX rfl)) (yt (zbc (Zg (T.b9\(Uw (fu:=fu) T,hr.mono ∅,zH,pv 0\(pv 1\((zt (K:=K)%(pv 2,pv 4))\((zt (K:=K)%(pv 3,pv 4))\ze))))))) (¬(!zas)) zI<|>¬vA PassesOwn.leaving rfl (yC rfl T.aI (pv 4\ze)) (zX (i:=5) XT.nd rfl (qX rfl)) (¬yt (yR zoL (YG (vz (zt (K:=K)%(pv 2,pv 4)) (zt (K:=K)%(pv 2,pv 5)))) (US (zjS (K:=K) hr) (zt (K:=K)%(pv 3,pv 4)) (zt (K:=K)%(pv 3,pv 5)) (by rfl)) (by rfl)) (¬(!zas)) zI))<|>¬(!zas)),yz (n:=4) (k:=2) (b:=ZY fu) rfl (by unfold ZY;walk_at "re") h⟩)
noncomputable def zgz (fu:Nat):TwS:=(zu (zY (eUn Vx (eSl zeU (za 0) oNo (YO (eC (.int 200))))) (gN 1)) (zu (zY (zP (XZ fu) [(za 1),(eOp yA (Wj [(eC (.int 6)),(eC (.int 9)),(eC (.int 12)),(eC (.int 20))]) (zP (zv fu) [(za 1),(eC (.int 4))]))]) (gN 2)) (zu (zY (zP (Xi fu) [(za 2)]) (gN 3)) (zu (zY (Wj [(zbR "Store" (xV fu) [(za 2)]),(zbR "Store" (xV fu) [(za 2)])]) (gN 4)) (zu (Zz (yp "Store" "leaf" (xk fu) (eOp yA (za 4) (eC (.int 1))) [(wO [(eC (.int 7)),(eC (.int 5))])])) (zu (zY (Wj [(Wj []),(Wj [])]) (gN 5)) (zu (zY (Wj []) (gN 6)) (zu (sWh fu (zbt (bE (eOp dGt (eFn wA [(za 1)]) (eC (.int 0)))) (bE (eOp dLt (eFn wA [(za 6)]) (eC (.int 24))))) (zu (zY (zP (XH fu) [(za 1),(za 2),(eFn wA [(za 6)])]) (gN 7)) (zu (sIf (zbt (bE (eOp (we false) (eOp zB (za 7) (eC (.int 0))) (eC (.str "product")))) (bE (zP (wM fu) [(eOp zaB (eOp yA (za 6) (eOp zB (za 7) (eC (.int 1)))) (eOp yA (za 6) (eOp zB (za 7) (eC (.int 2)))))]))) (zY (wO [(eC (.str "greater")),(eOp zB (za 7) (eC (.int 1))),(eOp zB (za 7) (eC (.int 2)))]) (gN 7)) yo) (zu (zY (zP (xB fu) [(za 2),(za 3),(za 7),(za 6)]) (gN 8)) (zu (Zz (eMt xx (za 6) [(za 8)])) (XN (iR1 (eC (.int 2))) (gN 9) (zu (zY (zP (xl fu) [(eOp yA (za 4) (za 9)),(za 7),(eOp yA (za 5) (za 9))]) (gN 10)) (zu (Zz (eMt xx (eOp yA (za 5) (za 9)) [(za 10)])) (zu (sIf (zbu (bE (zP (vL fu) [(eOp yA (za 4) (za 9)),(za 3),(za 10),(za 8)]))) (yd (eC (.bl false))) yo) (sIf (bE (eOp zcw (zP (yU fu 12) [(eOp yA (za 4) (za 9)),(za 2),(eC (.int 0)),(za 8)]) (za 10))) (yd (eC (.bl false))) yo)))))))))) (yd (eFn zbF [(xm [none,some 3,some 6,some 4,some 5] (iR1 (eC (.int 2))) (gN 0) xi (zP (ZZ fu) [(eOp yA (za 3) (za 0)),(za 1),(eOp yA (za 4) (za 0)),(za 2)]))]))))))))))
noncomputable def zgA (fu:Nat):TwF:=yi 1 10 (zgz fu)
theorem zlO (T:Tx K mg):yD P w K mg base (CXE P w) 65 T.cO.a T.cO.fd ["_law_script"] (sTw K 1 (zgA fu)):=
 T.cO.F.okE Yl (λvs H Q E h=>h.1) (λaS A outer s H vs Q E hr h=>⟨_,((Yl^^^(1,qX rfl,zf4 (K:=K) rfl rfl T.dA rfl T.cW (Ya (zeO (K:=K)) (pv 0) VT (ZN zg))))<|>(Yl^^^(2,qX rfl,T.bG\(zcH (fu:=fu) T,hr.mono ∅,zH,pv 1\((zt (K:=K)%(@wV _ _ _ _ (zg\(zg\(zg\(zg\ze)))),T.ai\(zK (fu:=fu) T,hr.mono ∅,zH,pv 1\(zg\ze))))\ze))))<|>(Yl^^^(3,t7 rfl,T.bo\(zcc (fu:=fu) T,hr.mono ∅,zH,pv 2\ze)))<|>(Yl^^^(4,t7 rfl,@wV _ _ _ _ (zgS T.cY (XD (fu:=fu) T) (hr.mono ∅) rfl T.dB T.aJ.b .nil zH (pv 2\ze)\(zgS T.cY (XD (fu:=fu) T) (hr.mono ∅) rfl T.dB T.aJ.b .nil zH (pv 2\ze)\ze))))<|>wP (zS (zt (K:=K)%(pv 4,zg)) T.af T.au.mt (wa (fu:=fu) T) (hr.mono ∅) T.au.b .nil zH ((~~~(zg\(zg\ze)))\ze))<|>(Yl^^^(5,t7 rfl,@wV _ _ _ _ (@wV _ _ _ _ ze\(@wV _ _ _ _ ze\ze))))<|>(Yl^^^(6,t7 rfl,@wV _ _ _ _ ze))<|>UR PassesOwn.leaving (PW.pt (zbb (yG (UP (zA (ym (K:=K)) rfl T.aX boot_len (pv 1\ze)) zg)) (UQ (yG (zat (zA (ym (K:=K)) rfl T.aX boot_len (pv 6\ze)) zg))))) ((Yl^^^(7,qX rfl,T.bT\(zfn (fu:=fu) T,hr.mono ∅,zH,pv 1\(pv 2\(zA (ym (K:=K)) rfl T.aX boot_len (pv 6\ze)\ze)))))<|>yt (PW.pt (zbb (yR wx (zj (K:=K)%(pv 7,zg)) ye (by rfl)) (UQ (Zg (T.bF\(zcN (fu:=fu) T,hr.mono ∅,zH,zL (zlm (K:=K)) (zt (K:=K)%(pv 6,zj (K:=K)%(pv 7,zg))) (zt (K:=K)%(pv 6,zj (K:=K)%(pv 7,zg)))\ze)))))) (¬(Yl^^^(7,qX rfl,~~~(ye\((zj (K:=K)%(pv 7,zg))\((zj (K:=K)%(pv 7,zg))\ze)))))) zI<|>(Yl^^^(8,qX rfl,T.bU\(zfo (fu:=fu) T,hr.mono ∅,zH,pv 2\(pv 3\(pv 7\(pv 6\ze))))))<|>wP (Yr rm rO rP xC (pv 6) (pv 8\ze))<|>¬vA PassesOwn.leaving rfl (yC rfl T.aI (zg\ze)) (zX (i:=9) Yl.nd rfl (qX rfl)) ((Yl^^^(10,qX rfl,T.bN\(zej (fu:=fu) T,hr.mono ∅,zH,(zt (K:=K)%(pv 4,pv 9))\(pv 7\((zt (K:=K)%(pv 5,pv 9))\ze)))))<|>wP (Yr rm rO rP xC (zt (K:=K)%(pv 5,pv 9)) (pv 10\ze))<|>yt (zbc (Zg (T.b9\(Uw (fu:=fu) T,hr.mono ∅,zH,(zt (K:=K)%(pv 4,pv 9))\(pv 3\(pv 10\(pv 8\ze))))))) (¬(!zas)) zI<|>¬yt (yG (zad (T.aR\(zcM (fu:=fu) T 12,hr.mono ∅,zH,(zt (K:=K)%(pv 4,pv 9))\(pv 2\(zg\(pv 8\ze))))) (pv 10))) (¬(!zas)) zI))<|>¬(!zA (Wi (K:=K) rfl) rfl T.dq PyProof.Rows.Boot.«all» (zR (yY (N':=["_law_k","_law_states_here","_law_tables","_law_stores","_law_nodes"]) rfl (blk (osc:=zi zhq) rfl (by decide+kernel)) (yM (zT (i:=3) rfl rfl (zT (i:=6) rfl rfl (zT (i:=4) rfl rfl (zT (i:=5) rfl rfl yL))))) (yC rfl T.aI (zg\ze)) (yk rfl) (λC s₀ H₀ fp=>zX (i:=0) (show (["_law_k","_law_states_here","_law_tables","_law_stores","_law_nodes"]:List Str).Nodup from by decide+kernel) rfl (qX rfl)) (λC s₀ H₀ fp=>yK) (λC s₀ H₀ fp=>(T.bH\(zcO (fu:=fu) T,hr.mono ∅,wX,(zt (K:=K)%(pv 3,pv 0))\(pv 1\((zt (K:=K)%(pv 4,pv 0))\(pv 2\ze))))))) ze))),yz (n:=1) (k:=10) (b:=zgz fu) rfl (zJ (yO (zgi (zjs (zb 0) zmR (zaY (zF _)))) zN) (zJ (yO (xG (zf (zb 1) (zf (zx yF (YN (zf (zF _) (zf (zF _) (zf (zF _) (zf (zF _) zo))))) (xG (zf (zb 1) (zf (zF _) zo)))) zo))) zN) (zJ (yO (xG (zf (zb 2) zo)) zN) (zJ (yO (YN (zf (zfa T.ae (zf (zb 2) zo)) (zf (zfa T.ae (zf (zb 2) zo)) zo))) zN) (zJ (Xt (zM T.ae (zx yF (zb 4) (zF _)) (zf (Yh (zf (zF _) (zf (zF _) zo))) zo))) (zJ (yO (YN (zf (YN zo) (zf (YN zo) zo))) zN) (zJ (yO (YN zo) zN) (zJ (zbw (zf7 (WE (zmT (Zj ZE (zf (zb 1) zo)) (zF _))) (WE (zmS (Zj ZE (zf (zb 6) zo)) (zF _)))) (zJ (yO (xG (zf (zb 1) (zf (zb 2) (zf (Zj ZE (zf (zb 6) zo)) zo)))) zN) (zJ (vG (zf7 (vn (zx Zk (zx yc (zb 7) (zF _)) (vC _))) (WE (xG (zf (zx zlt (zx yF (zb 6) (zx yc (zb 7) (zF _))) (zx yF (zb 6) (zx yc (zb 7) (zF _)))) zo)))) (yO (Yh (zf (vC _) (zf (zx yc (zb 7) (zF _)) (zf (zx yc (zb 7) (zF _)) zo)))) zN) xj) (zJ (yO (xG (zf (zb 2) (zf (zb 3) (zf (zb 7) (zf (zb 6) zo))))) zN) (zJ (Xt (UY vX (zb 6) (zf (zb 8) zo))) (UB (vo (zF _)) zN (zJ (yO (xG (zf (zx yF (zb 4) (zb 9)) (zf (zb 7) (zf (zx yF (zb 5) (zb 9)) zo)))) zN) (zJ (Xt (UY vX (zx yF (zb 5) (zb 9)) (zf (zb 10) zo))) (zJ (vG (zf8 (WE (xG (zf (zx yF (zb 4) (zb 9)) (zf (zb 3) (zf (zb 10) (zf (zb 8) zo))))))) (yv (zg4 _)) xj) (vG (WE (zjD (xG (zf (zx yF (zb 4) (zb 9)) (zf (zb 2) (zf (zF _) (zf (zb 8) zo))))) (zb 10))) (yv (zg4 _)) xj)))))))))) (yv (Zj zbG (zf (vN (cap:=[none,some 3,some 6,some 4,some 5]) (vo (zF _)) zN vM (xG (zf (zx yF (zb 3) (zb 0)) (zf (zb 1) (zf (zx yF (zb 4) (zb 0)) (zf (zb 2) zo)))))) zo))))))))))) h⟩)
end
section
open Mth
def Big (fu:Nat):Prop:=2^9000<=fu
theorem Big.le {fu:Nat} (h:Big fu):1000000<=fu:=rk (show 1000000<=2^20 by decide) (rk (tW ∅ ∅) h)
local macro_rules | `(tactic| walk_at "w1") => `(tactic| first
 | with_reducible apply zbL | ((with_reducible apply zq); exact rfl) | with_reducible apply yI | with_reducible apply znL | with_reducible apply zr | with_reducible apply zlC
 | with_reducible apply zk | ((with_reducible apply yB); try dsimp only[qW]) | with_reducible apply wB | with_reducible apply yf | with_reducible apply jO
 | with_reducible apply yw | with_reducible apply zjK | with_reducible apply xT | with_reducible apply zo9 | with_reducible apply zdU
 | with_reducible apply zm | with_reducible apply zak | with_reducible apply XO | with_reducible apply wn | with_reducible apply yZ
 | with_reducible apply zjM | with_reducible apply zhc | with_reducible apply zjN
 | with_reducible apply znO | with_reducible apply znP | with_reducible apply znQ | with_reducible apply zpa | with_reducible apply lZ | with_reducible apply zpb | with_reducible apply zpc | with_reducible apply znR | with_reducible apply znS
 | with_reducible apply znV | with_reducible apply jU | with_reducible apply znW | with_reducible apply znX
 | ((with_reducible apply znU); exact⟨∅, by decide, by decide⟩)
 | ((with_reducible apply znT); first | exact .inl ∅ | exact .inr ∅)
 | with_reducible refine Exists.intro _ (And.intro rfl ?_))
local macro_rules | `(tactic| walk_at "w") => `(tactic| repeat walk_at "w1")
local macro_rules|`(tactic|ext)=>`(tactic|walk_at "w")
local macro_rules | `(tactic| walk_at "wr") => `(tactic| (refine znN rfl rfl ?_; dsimp only [List.map, HAppend.hAppend, Append.append, List.append, List.replicate]))
section
variable {fu:Nat} {S S' S2:Sto} {x y:Xv}
theorem yQ {c:Prop} [Decidable c] {A B:Prop} (h:c->A) (g:¬c->B):(decide c=true->A)/\(decide c=false->B):=⟨λe=>h (of_decide_eq_true e),λe=>g (of_decide_eq_false e)⟩
def Kp (w:Nat->Prop) (S S':Sto):Prop:=S.length<=S'.length/\∀(n:Nat) c,S[n]? =some c->¬w n->S'[n]? =some c
theorem Kp.refl (w:Nat->Prop):Kp w S S:=⟨qT _,λ_ _ e _=>e⟩
theorem Kp.trans {w:Nat->Prop} (a:Kp w S S') (b:Kp w S' S2):Kp w S S2:=⟨rk a.1 b.1,λn c e z=>b.2 n c (a.2 n c e z) z⟩
theorem Kp.mono {w w':Nat->Prop} (a:Kp w S S') (h:∀n,w n->w' n):Kp w' S S':=⟨a.1,λn c e z=>a.2 n c e λq=>z (h n q)⟩
theorem Kp.pre {w:Nat->Prop} (p:S<+:S'):Kp w S S':=⟨p.length_le,λn c e _=>by
 obtain⟨T,rfl⟩:=p;rw[qR (qO.1 e).1]
 exact e⟩
theorem Kp.app {w:Nat->Prop} {T:Sto} (a:Kp w S S'):Kp w S (S'++T):=a.trans (Kp.pre (qQ _ _))
theorem Kp.set {w:Nat->Prop} {n:Nat} {c:Ce} (a:Kp w S S') (h:w n\/S.length<=n):Kp w S (S'.set n c):=⟨by simpa using a.1,λm d e z=>by
 rw[rK];have hm:=(qO.1 e).1
 rw[if_neg λq=>by
  subst q;rcases h with h|h
  .exact z h
  .omega]
 exact a.2 m d e z⟩
theorem yy {c:Ce}:(S++[c])[S.length]? =some c:=by simp
theorem wb {n:Nat} {c c':Ce} (h:S[n]? =some c):(S.set n c')[n]? =some c':=by rw[rK,if_pos rfl,if_pos (qO.1 h).1]
theorem xu {n m:Nat} {c c':Ce} (h:S[m]? =some c) (q:n≠m):(S.set n c')[m]? =some c:=by rw[rK,if_neg q];exact h
theorem VN {n:Nat} (h:n<=100):n<sizeLine:=rX h ∅
def yl (mx ln:Nat) (S:Sto):Prop:=∃ns:List Int,S[ln]? =some (.lst (ns.map Xv.int))/\ns.length<=mx
theorem yl.keep {w:Nat->Prop} {mx ln:Nat} (h:yl mx ln S) (k:Kp w S S') (z:¬w ln):yl mx ln S':=by
 obtain⟨ns,e,l⟩:=h;exact⟨ns,k.2 _ _ e z,l⟩
theorem yl.more {mx my ln:Nat} (h:yl mx ln S) (k:mx<=my):yl my ln S:=by
 obtain⟨ns,e,l⟩:=h;exact⟨ns,e,rk l k⟩
theorem zhs {mx ln:Nat} {many:Int} (hl:yl mx ln S) (hm:0<many):W (zv fu [.ref ln,.int many] S) λv S'=>∃c,v= .int c/\0<=c/\c<many/\yl (mx-1) ln S'/\Kp (· =ln) S S':=by
 obtain⟨ns,e,l⟩:=id hl;walk_at "wr";unfold YB;ext;refine zC ?_;ext;refine YU (zh e) ?_;ext;rw[qV];refine yQ (λh=> ?_) (λh=> ?_)
 .ext;exact⟨⋯,hm,⟨ns,e,⋯⟩,Kp.refl _⟩
 .ext;refine Yc ?_;ext;refine⟨⟨_,zh e⟩,?_⟩;ext;have hn:ns.length-1<ns.length:=by omega
  refine WO.of (show zju (.ref ln) [] S = some (.int ns[ns.length - 1], S.set ln (.lst (ns.dropLast.map Xv.int))) by
   unfold zju;rw[wQ e];dsimp only;rw[qV,qY,qN hn,<-List.map_dropLast]
   rfl) ?_
  ext;refine YT hm ?_;refine⟨_,rfl,sX _ ⋯,tE _ hm,⟨_,wb e,by rw[A8];omega⟩,(Kp.refl _).set (.inl rfl)⟩
theorem vk {mx ln:Nat} {many:Int} (hl:yl mx ln S) (hm:0<many):W (zv fu [.ref ln,.int many] S) λv S'=>∃c,v= .int c/\0<=c/\c<many/\yl mx ln S'/\Kp (· =ln) S S':=by
 refine (zhs hl hm).imp ?_;rintro _ S1 ⟨c,rfl,h0,h1,l,k⟩;exact⟨c,rfl,h0,h1,l.more ⋯,k⟩
noncomputable def plX:Nat->Xv->Bool
 |_,.int _=>true
 |_,.str _=>true
 |n+1,.tup l=>decide (l.length<=100)&&l.all (plX n)
 |_,_=>false
theorem zn7 {l:List Xv} {i:Int} {z:Xv} (h:atI l i=some z):zeT (.tup l) (.int i) S=some (z,S):=by
 show (atI l i).map (λz=>(z,S))=_;rw[h];rfl
theorem VO:∀n:Nat,Xu (rh n (Xv.bl true))=some (rh n true)
 |0=>rfl
 |n+1=>by rw[Ak,Ak];simp[Xu,VO n]
theorem zce {P:Xv->Sto->Prop} {l:List Xv} {bs:List Bool} (h:yH S x=some l) (h2:Xu l=some bs) (k:P (.bl (bs.all id)) S):WO (zbF [x] S) P:= .of (by unfold zbF;dsimp only;rw[h,r0,h2];rfl) k
theorem zw {P:Xv->Sto->Prop} {a b:Str} (k:P (.bl (decide (a=b))) S):WO (we false (.str a) (.str b) S) P:= .of (by show some (Xv.bl (false !=decide (a=b)),S)=_;rw[uS]) k
theorem zlP {P:Xv->Sto->Prop} {a b:Int} (k:P (.bl (decide (a=b))) S):WO (we false (.int a) (.int b) S) P:= .of (by show some (Xv.bl (false !=decide (a=b)),S)=_;rw[uS]) k
theorem zkl:∀(n:Nat) {S:Sto} {x:Xv},plX n x=true->W (yV fu (n+1) [x,x] S) λv S'=>v= .bl true/\S<+:S':=by
 have flat:∀(n:Nat) {S:Sto} {x:Xv},((∃i,x= .int i)\/∃s,x= .str s)->W (yV fu (n+1) [x,x] S) λv S'=>v= .bl true/\S<+:S':=by
  intro n S x hx;rw[wT];walk_at "wr";unfold wF;refine zk (zC ?_);ext;refine vS (v:=false) (by rcases hx with⟨i,rfl⟩|⟨s,rfl⟩<;>rfl) ?_;refine⟨_,rfl,λz=>(by cases z),λ_=>zr ?_⟩;refine zk (zC ?_);ext;refine vS (v:=false) (by rcases hx with⟨i,rfl⟩|⟨s,rfl⟩<;>rfl) ?_;refine⟨_,rfl,λz=>(by cases z),λ_=>zr ?_⟩;refine zk (zC ?_);ext;refine WO.of (show zf9 x S=some (.bl false,S) by rcases hx with⟨i,rfl⟩|⟨s,rfl⟩<;>rfl) ?_;refine⟨_,rfl,λz=>(by cases z),λ_=>zr ?_⟩;refine zk (zC ?_);ext;rcases hx with⟨i,rfl⟩|⟨s,rfl⟩
  .refine vS (v:=false) rfl ?_;refine⟨_,rfl,λz=>(by cases z),λ_=>zr ?_⟩;refine yf (za1 ?_);ext;refine vS (v:=true) rfl ?_;refine⟨_,rfl,λ_=> ?_,λz=>(by cases z)⟩;refine za1 ?_;ext;refine vS (v:=false) rfl ?_;refine⟨_,rfl,_,rfl,λ_=> ?_,λz=>(by cases z)⟩;ext;refine zlP ?_;exact⟨by rw[decide_eq_true rfl],rM _⟩
  .refine vS (v:=true) rfl ?_;refine⟨_,rfl,λ_=> ?_,λz=>(by cases z)⟩;refine yf (za1 ?_);ext;refine vS (v:=true) rfl ?_;refine⟨_,rfl,λ_=> ?_,λz=>(by cases z)⟩;ext;refine zw ?_;exact⟨by rw[decide_eq_true rfl],rM _⟩
 intro n
 induction n with
 |zero=>
  intro S x h;refine flat 0 ?_;cases x<;>first|exact .inl ⟨_,rfl⟩|exact .inr ⟨_,rfl⟩|(simp[plX] at h)
 |succ n ih=>
  intro S x h;cases x with
  |int i=>exact flat _ (.inl ⟨_,rfl⟩)
  |str i=>exact flat _ (.inr ⟨_,rfl⟩)
  |tup l=>
   unfold plX at h;rw[rV,sr] at h;obtain⟨hl,eX⟩:=h;have hl:=of_decide_eq_true hl;rw[wT];walk_at "wr";unfold wF;refine zk (zC ?_);ext;refine vS (v:=true) rfl ?_;refine⟨_,rfl,λ_=> ?_,λz=>(by cases z)⟩;refine zk (zC (zjL ?_));ext;refine vS (v:=true) rfl ?_;refine⟨_,rfl,λz=>(by cases z),λ_=> ?_⟩;ext;refine WO.of (show wA [Xv.tup l] S=some (.int l.length,S) from rfl) ?_;ext;refine WO.of (show wA [Xv.tup l] S=some (.int l.length,S) from rfl) ?_;ext;refine⟨λz=> ?_,λ_=>zr ?_⟩
   .simp at z
   refine yf (wn (zm ?_));refine xH (wD ?_);ext;refine WO.of (show wA [Xv.tup l] S=some (.int l.length,S) from rfl) ?_;refine⟨_,rfl,⟨⋯,⋯⟩,_,rfl,?_⟩;refine xn (by rw[yj];exact rS (VN ⋯)) (λi es S2=>S<+:S2/\es=rh i (.bl true)) (λ_ _ _ _ _=>rfl) ?_ ⟨rM _,rfl⟩ ?_
   .rintro i w es S2 hw fO ⟨p2,rfl⟩;obtain⟨hi,rfl⟩:=yX hw;have eI:i<l.length:=by omega
    have iX:atI l ((0:Int)+(i:Int))=some l[i]:=by rw[sy];exact zbM ⋯ (by rw[rH];exact qN eI)
    refine .of rfl ?_;dsimp only[xZ,rR,qW];ext;refine⟨rfl,?_⟩;ext;refine WO.of (zn7 iX) ?_;ext;refine WO.of (zn7 iX) ?_;ext;refine (ih (eX _ (rq eI))).imp ?_;rintro _ S3 ⟨rfl,p3⟩;exact⟨p2.trans p3,by rw[sN]⟩
   .rintro es S2 _ ⟨p2,rfl⟩;ext;refine zce xN (VO _) ?_;refine⟨by simp,p2.trans (qQ _ _)⟩
  |_=>simp[plX] at h
abbrev Q2:=Int×Int
noncomputable def qv (q:Q2):Xv:= .tup [.int q.1,.int q.2]
noncomputable def ksX (ks:List Nat):List Xv:=ks.map λ(k:Nat)=> .int (k:Int)
inductive zy where
 |leaf (q:Q2)
 |fork (lv:Nat) (ks:List Nat)
noncomputable def Yg:zy->NK
 | .leaf q=> .tup [.str "leaf",.tup [.int q.1,.int q.2]]
 | .fork lv ks=> .tup [.str "fork",.int (lv:Int),.tup (ks.map λ(k:Nat)=> .int (k:Int))]
def QX (x:Xv) (q:Q2):Prop:=x.tupOf=some [.int q.1,.int q.2]
theorem zfp (q:Q2):QX (qv q) q:=rfl
def FX (x:Xv):zy->Prop
 | .leaf q=>∃y,x= .tup [.str "leaf",y]/\QX y q
 | .fork lv ks=>x= .tup [.str "fork",.int (lv:Int),.tup (ksX ks)]
inductive F2:List Xv->List zy->Prop
 |nil:F2 [] []
 |cons {x:Xv} {f:zy} {xs:List Xv} {fs:List zy}:FX x f->F2 xs fs->F2 (x::xs) (f::fs)
theorem F2.len:∀{xs:List Xv} {fs:List zy},F2 xs fs->xs.length=fs.length
 |_,_,.nil=>rfl
 |_,_,.cons _ l=>by rw[ra,ra,l.len]
theorem F2.get:∀{xs:List Xv} {fs:List zy} {i:Nat} {f:zy},F2 xs fs->fs[i]? =some f->∃x,xs[i]? =some x/\FX x f
 |_,_,_,_,.nil,e=>by simp at e
 |_,_,0,_,.cons h _,e=>by simp at e;subst e;exact⟨_,rfl,h⟩
 |_,_,i+1,f,.cons _ l,e=>by
  obtain⟨x,e1,e2⟩:=l.get (i:=i) (f:=f) (by simpa using e);exact⟨x,by simpa using e1,e2⟩
theorem F2.snoc:∀{xs:List Xv} {fs:List zy} {x:Xv} {f:zy},F2 xs fs->FX x f->F2 (xs++[x]) (fs++[f])
 |_,_,_,_,.nil,h=> .cons h .nil
 |_,_,_,_,.cons h l,k=> .cons h (l.snoc k)
theorem zht:∀ks:List Nat,Xs (ksX ks)=some (ks.map λ(k:Nat)=> .int (k:Int))
 |[]=>rfl
 |k::r=>by
  show Xs (Xv.int (k:Int)::ksX r)=_;simp[Xs,Xl,zht r]
theorem zkm:∀ks:List Nat,We (ks.map λ(k:Nat)=>NK.int (k:Int))<=1
 |[]=>by simp[We]
 |k::r=>by
  have:=zkm r;simp[We,ZC];omega
theorem TU {x:Xv} {f:zy} (h:FX x f):UF x=some (Yg f):=by
 cases f with
 |leaf q=>
  obtain⟨y,rfl,hy⟩:=h;have:Xl y=some (.tup [.int q.1,.int q.2]):=by
   unfold QX at hy;cases y with
   |tup l=>simp only[Xv.tupOf,rJ] at hy;subst hy;simp[Xl,Xs]
   |ct l=>simp only[Xv.tupOf,rJ] at hy;subst hy;simp[Xl,Xs]
   |_=>simp[Xv.tupOf] at hy
  simp[UF,Yg,Xl,Xs,this,ZC,We]
 |fork lv ks=>
  have hx:x= .tup [.str "fork",.int (lv:Int),.tup (ksX ks)]:=h;subst hx;have:=zkm ks;simp[UF,Yg,Xl,Xs,zht,ZC,We];omega
theorem zdo {x:Xv} {f:zy} (h:FX x f):Tf x=none:=by
 cases f with
 |leaf q=>obtain⟨y,rfl,_⟩:=h;rfl
 |fork lv ks=>have hx:x= .tup [.str "fork",.int (lv:Int),.tup (ksX ks)]:=h;subst hx;rfl
theorem zcf:∀{a b:List Nat},(a.map λ(k:Nat)=>NK.int (k:Int))=(b.map λ(k:Nat)=>NK.int (k:Int))->a=b
 |[],[],_=>rfl
 |[],_::_,h=>by cases h
 |_::_,[],h=>by cases h
 |x::r,y::t,h=>by
  rw[rC,rC] at h;injection h with h1 h2
  injection h1 with h1
  rw[zcf h2,tO.1 h1]
theorem zdp {f g:zy} (h:Yg f=Yg g):f=g:=by
 cases f with
 |leaf q=>
  cases g with
  |leaf p=>
   obtain⟨a,b⟩:=q;obtain⟨c,d⟩:=p;simp[Yg] at h;rw[h.1,h.2]
  |fork lv ks=>simp[Yg] at h
 |fork lv ks=>
  cases g with
  |leaf p=>simp[Yg] at h
  |fork lw js=>
   simp only[Yg,NK.tup.injEq,List.cons.injEq,NK.int.injEq,and_true,true_and] at h;rw[zcf h.2,tO.1 h.1]
noncomputable def XI (i:Nat):List Xv->List zy->List (NK×Xv×Xv)
 |x::xs,f::r=>(Yg f,x,.int (i:Int))::XI (i+1) xs r
 |_,_=>[]
noncomputable def XJ (xs:List Xv):List zy->Ce
 |[]=> .dk []
 |f::r=> .dn (XI 0 xs (f::r))
theorem zfq:∀(i:Nat) {xs:List Xv} {fs:List zy},F2 xs fs->(XI i xs fs).length=fs.length
 |_,_,_,.nil=>rfl
 |i,_,_,.cons _ l=>by simp[XI,zfq (i+1) l]
theorem zfr {g:zy} {y:Xv}:∀(i:Nat) {xs:List Xv} {fs:List zy},F2 xs fs->XI i (xs++[y]) (fs++[g])=XI i xs fs++[(Yg g,y,.int ((i+fs.length:Nat):Int))]
 |i,_,_,.nil=>by simp[XI]
 |i,_,_,@F2.cons x f xs fs _ l=>by
  simp only[sH,XI,zfr (i+1) l,ra];rw[show i+1+fs.length=i+(fs.length+1) by omega]
theorem zap {g:zy}:∀(i:Nat) {xs:List Xv} {fs:List zy},F2 xs fs->g∉fs->xc (XI i xs fs) (Yg g)=none
 |_,_,_,.nil,_=>by simp[XI,xc]
 |i,_,_,@F2.cons x f xs fs _ l,h=>by
  have ih:=zap (g:=g) (i+1) l λz=>h (r9 _ z);have eV:¬Yg f=Yg g:=λe=>h (by rw[zdp e];exact rE);unfold xc at ih ⊢;rw[XI,rG,decide_eq_false eV];exact ih
theorem zdq {g:zy}:∀(i:Nat) {xs:List Xv} {fs:List zy} (j:Nat),F2 xs fs->fs.Nodup->fs[j]? =some g->xc (XI i xs fs) (Yg g)=some (.int ((i+j:Nat):Int))
 |_,_,_,_,.nil,_,e=>by simp at e
 |i,_,_,0,@F2.cons x f xs fs _ l,_,e=>by
  simp at e;subst e;unfold xc;rw[XI,rG,decide_eq_true rfl];rfl
 |i,_,_,j+1,@F2.cons x f xs fs _ l,nd,e=>by
  have ih:=zdq (g:=g) (i+1) j l (sU.1 nd).2 (by simpa using e);have eV:¬Yg f=Yg g:=λq=>(sU.1 nd).1 (by rw[zdp q];exact qS (by simpa using e));unfold xc at ih ⊢;rw[XI,rG,decide_eq_false eV,show i+(j+1)=i+1+j by omega];exact ih
structure xh (sn fn dn:Nat) (bx:Xv) (fs:List zy) (S:Sto):Prop where
 o:S[sn]? =some (.ins "Store" [("boxes",bx),("facts",.ref fn),("numbers",.ref dn)])
 fd':∃xs,F2 xs fs/\S[fn]? =some (.lst xs)/\S[dn]? =some (XJ xs fs)
 nd:fs.Nodup
section
variable {sn fn dn:Nat} {bx:Xv} {fs:List zy}
theorem zfs {xs l:List Xv}:XJ xs fs≠ .lst l:=by cases fs<;>simp[XJ]
theorem zkn {xs:List Xv} {c:Str} {l:List (Str×Xv)}:XJ xs fs≠ .ins c l:=by cases fs<;>simp[XJ]
theorem xh.fd (h:xh sn fn dn bx fs S):fn≠dn:=λe=>by
 obtain⟨xs,_,h1,h2⟩:=h.fd';rw[e,h2] at h1;exact zfs (rp h1)
theorem xh.sf (h:xh sn fn dn bx fs S):sn≠fn:=λe=>by
 obtain⟨xs,_,h1,h2⟩:=h.fd';have h3:=h.o;rw[e,h1] at h3;cases h3
theorem xh.sd (h:xh sn fn dn bx fs S):sn≠dn:=λe=>by
 obtain⟨xs,_,h1,h2⟩:=h.fd';have h3:=h.o;rw[e,h2] at h3;exact zkn (rp h3)
theorem xh.flt (h:xh sn fn dn bx fs S):fn<S.length/\dn<S.length:=by
 obtain⟨xs,_,h1,h2⟩:=h.fd';exact⟨(qO.1 h1).1,(qO.1 h2).1⟩
theorem xh.nd' (h:xh sn fn dn bx fs S) {n:Nat} {l:List Xv} (e:S[n]? =some (.lst l)):n≠dn:=λz=>by
 obtain⟨xs,_,h1,h2⟩:=h.fd';rw[z,h2] at e;exact zfs (rp e)
theorem xh.keep {w:Nat->Prop} (h:xh sn fn dn bx fs S) (k:Kp w S S') (h1:¬w sn) (h2:¬w fn) (h3:¬w dn):xh sn fn dn bx fs S':=⟨k.2 _ _ h.o h1,(let ⟨xs,a,b,c⟩:=h.fd';⟨xs,a,k.2 _ _ b h2,k.2 _ _ c h3⟩),h.nd⟩
theorem xh.pre (h:xh sn fn dn bx fs S) (p:S<+:S'):xh sn fn dn bx fs S':=h.keep (Kp.pre (w:=λ_=>False) p) id id id
theorem zhu {xs:List Xv} {f:zy} {x:Xv} (l:F2 xs fs) (nd:fs.Nodup) (hd:S[dn]? =some (XJ xs fs)) (hx:FX x f):∃o,Vg S (.ref dn) x=some o/\(∀j:Nat,fs[j]? =some f->o=some (.int (j:Int)))/\(f∉fs->o=none):=by
 unfold Vg;dsimp only;rw[hd];cases l with
 |nil=>
  unfold XJ;dsimp only;rw[zdo hx,TU hx];exact⟨none,rfl,(λj e=>by simp at e),λ_=>rfl⟩
 | @cons y g ys r h1 h2=>
  unfold XJ;dsimp only;rw[TU hx];refine⟨_,rfl,λj e=> ?_,λe=>zap 0 (.cons h1 h2) e⟩;rw[zdq 0 j (.cons h1 h2) nd e,Nat.zero_add]
theorem zlQ {xs:List Xv} {f:zy} {x:Xv} (l:F2 xs fs) (hd:S[dn]? =some (XJ xs fs)) (hl:fs.length<sizeLine) (hf:f∉fs) (hx:FX x f):Tn S (.ref dn) x (.int (fs.length:Int))=some (S.set dn (XJ (xs++[x]) (fs++[f]))):=by
 unfold Tn;dsimp only;rw[hd];cases l with
 |nil=>
  unfold XJ;dsimp only;rw[zdo hx,TU hx];rfl
 | @cons y g ys r h1 h2=>
  unfold XJ;dsimp only[sH];have l2:F2 (y::ys) (g::r):= .cons h1 h2;rw[if_pos (by rw[zfq 0 l2];exact hl),TU hx];dsimp only[sE];unfold Wm;rw[zap 0 l2 hf];have:=zfr (g:=f) (y:=x) 0 l2;rw[Nat.zero_add] at this;rw[sH,sH] at this;rw[this];rfl
structure yN (sn fn dn:Nat) (bx:Xv) (fs:List zy) (m:Nat) (S:Sto) (fs':List zy) (S':Sto):Prop where
 st:xh sn fn dn bx fs' S'
 pre:fs<+:fs'
 len:fs'.length<=fs.length+m
 kp:Kp (λn=>n=fn\/n=dn) S S'
theorem xh.grown (h:xh sn fn dn bx fs S):yN sn fn dn bx fs 0 S fs S:=⟨h,rM _,⋯,Kp.refl _⟩
theorem yN.trans {cj aY:List zy} {m m':Nat} (a:yN sn fn dn bx fs m S cj S') (b:yN sn fn dn bx cj m' S' aY S2):yN sn fn dn bx fs (m+m') S aY S2:=⟨b.st,a.pre.trans b.pre,by have:=a.len;have:=b.len;omega,a.kp.trans b.kp⟩
theorem yN.more {cj:List zy} {m m':Nat} (a:yN sn fn dn bx fs m S cj S') (h:m<=m'):yN sn fn dn bx fs m' S cj S':=⟨a.st,a.pre,by have:=a.len;omega,a.kp⟩
theorem yN.app {cj:List zy} {m:Nat} (a:yN sn fn dn bx fs m S cj S') (p:S'<+:S2):yN sn fn dn bx fs m S cj S2:=⟨a.st.pre p,a.pre,a.len,a.kp.trans (Kp.pre p)⟩
theorem yN.of_pre (h:xh sn fn dn bx fs S) (p:S<+:S'):yN sn fn dn bx fs 0 S fs S':=h.grown.app p
theorem yN.set {cj:List zy} {m n:Nat} {c:Ce} (a:yN sn fn dn bx fs m S cj S') (h:S.length<=n) (h0:S[sn]? ≠none) (h1:S[fn]? ≠none) (h2:S[dn]? ≠none):yN sn fn dn bx fs m S cj (S'.set n c):=by
 have q:∀k,S[k]? ≠none->n≠k:=λk hk e=>hk (r6 ⋯);obtain⟨xs,u1,u2,u3⟩:=a.st.fd';exact⟨⟨xu a.st.o (q _ h0),⟨xs,u1,xu u2 (q _ h1),xu u3 (q _ h2)⟩,a.st.nd⟩,a.pre,a.len,a.kp.set (.inr h)⟩
theorem yx {α:Type} {l l':List α} {i:Nat} {a:α} (p:l<+:l') (h:l[i]? =some a):l'[i]? =some a:=by
 obtain⟨t,rfl⟩:=p;rw[qR (qO.1 h).1];exact h
theorem zko {fs:List zy} (h:fs.Nodup) {i j:Nat} {f:zy} (h1:fs[i]? =some f) (h2:fs[j]? =some f):i=j:=by
 obtain⟨a,e1⟩:=qO.1 h1;obtain⟨b,e2⟩:=qO.1 h2;exact (y0 h).1 (e1.trans e2.symm)
def Add (fs:List zy) (f:zy) (fs':List zy):Prop:=fs'=fs\/fs'=fs++[f]
theorem zft (h:xh sn fn dn bx fs S) (hl:fs.length<=1000000) {f:zy} {x:Xv} (hx:FX x f):W (wE fu [.ref sn,x] S) λv S'=>∃(i:Nat) (fs':List zy),v= .int (i:Int)/\fs'[i]? =some f/\Add fs f fs'/\yN sn fn dn bx fs 1 S fs' S':=by
 walk_at "wr";unfold vU;have hz:fs.length<sizeLine:=rX hl ∅;obtain⟨xs,l,j7,lA⟩:=h.fd';obtain⟨o,eo,os,on⟩:=zhu l h.nd lA hx;refine zk (YS (λρ S2=>ρ=[some (.ref sn),some x]/\∃(i:Nat) (fs':List zy),fs'[i]? =some f/\Add fs f fs'/\yN sn fn dn bx fs 1 S fs' S2) (zC ?_) ?_)
 .refine xT (zhk ?_);ext;refine xK ?_;ext;refine⟨_,_,_,rfl,h.o,rfl,o,eo,_,rfl,λz=> ?_,λz=>zr ⟨rfl,?_⟩⟩
  .have hf:f∉fs:=λhm=>by
    obtain⟨j,hj⟩:=rL hm;rw[os j hj] at z;cases z
   refine zk (zbP ?_);ext;refine xK ?_;ext;refine⟨_,_,_,rfl,h.o,rfl,?_⟩;ext;refine YU (zh j7) ?_;rw[l.len];refine xK ?_;ext;refine⟨_,_,_,rfl,h.o,rfl,?_⟩;ext;refine⟨_,zlQ l lA hz hf hx,?_⟩;refine wB (Yc (xK ?_));ext;have ho:=xu (c':=XJ (xs++[x]) (fs++[f])) h.o h.sd.symm;have dO:=xu (c':=XJ (xs++[x]) (fs++[f])) j7 h.fd.symm;refine⟨_,_,_,rfl,ho,rfl,⟨_,zh dO⟩,?_⟩;ext;refine vp (wQ dO) (by rw[l.len];exact hz) ?_;refine⟨rfl,fs.length,fs++[f],by simp,.inr rfl,⟨⟨xu ho h.sf.symm,⟨_,l.snoc hx,?_,xu (wb lA) h.fd⟩,?_⟩,qQ _ _,by simp,((Kp.refl _).set (.inl (.inr rfl))).set (.inl (.inl rfl))⟩⟩
   .rw[wb dO]
   .rw[List.nodup_append];refine⟨h.nd,by simp,?_⟩;intro a ha b hb e;rw[tD] at hb;subst hb e;exact hf ha
  .have hm:f∈fs:=sS λhm=>by
    rw[on hm] at z;cases z
   obtain⟨j,hj⟩:=rL hm;exact⟨j,fs,hj,.inl rfl,h.grown.more ⋯⟩
 .rintro _ S2 ⟨rfl,i,fs',hi,ad,g⟩;refine yf (ze8 ?_);refine xK ?_;ext;refine⟨_,_,_,rfl,g.st.o,rfl,?_⟩;ext;obtain⟨ys,l2,qx,lz⟩:=g.st.fd';obtain⟨o2,pR,os2,_⟩:=zhu l2 g.st.nd lz hx;refine⟨_,by rw[pR,os2 i hi],i,fs',rfl,hi,ad,g⟩
theorem UM (h:xh sn fn dn bx fs S) (hl:fs.length<=1000000) {q:Q2} {y:Xv} (hy:QX y q):W (xk fu [.ref sn,y] S) λv S'=>∃(i:Nat) (fs':List zy),v= .int (i:Int)/\fs'[i]? =some (.leaf q)/\Add fs (.leaf q) fs'/\yN sn fn dn bx fs 1 S fs' S':=by
 walk_at "wr";unfold XU;refine yf (zW ?_);ext;refine⟨_,_,rfl,h.o,rfl,?_⟩;ext;exact zft h hl (f:= .leaf q) ⟨_,rfl,hy⟩
theorem zQ {l:List Xv} {i:Nat} {z:Xv} (h:l[i]? =some z):atI l (i:Int)=some z:=zbM ⋯ (by rw[rH];exact h)
theorem wc {ks:List Nat} {i k:Nat} (h:ks[i]? =some k):(ksX ks)[i]? =some (.int (k:Int)):=by unfold ksX;rw[qY,h];rfl
theorem xh.fact (h:xh sn fn dn bx fs S) {i:Nat} {f:zy} (hi:fs[i]? =some f):∃x l,FX x f/\yH S (.ref fn)=some l/\atI l (i:Int)=some x:=by
 obtain⟨xs,l,j7,_⟩:=h.fd';obtain⟨x,e,hx⟩:=l.get hi;exact⟨x,xs,hx,zh j7,zQ e⟩
theorem zek (h:xh sn fn dn bx fs S) {i lv:Nat} {ks:List Nat} (hi:fs[i]? =some (.fork lv ks)):W (yE fu [.ref sn,.int (i:Int)] S) λv S'=>v= .int (lv:Int)/\S'=S:=by
 walk_at "wr";unfold wR;ext;refine xK ?_;ext;refine⟨_,_,_,rfl,h.o,rfl,?_⟩;ext;obtain⟨fx,fl,eJ,fv,dO⟩:=h.fact hi;change fx=_ at eJ;subst eJ;refine zU fv dO ?_;ext;refine WK ?_;ext;refine zw ⟨_,rfl,λ_=> ?_,λz=> ?_⟩
 .ext;exact⟨rfl,rfl⟩
 .exact absurd z ∅
theorem vt {P:Xv->Sto->Prop} {l:List Xv} (k:P (.int l.length) S):WO (wA [.tup l] S) P:= .of rfl k
theorem zkp {bl:List Xv} (h:xh sn fn dn (.tup bl) fs S) {i:Nat} {q:Q2} (hi:fs[i]? =some (.leaf q)):W (yE fu [.ref sn,.int (i:Int)] S) λv S'=>v= .int (bl.length:Int)/\S'=S:=by
 walk_at "wr";unfold wR;ext;refine xK ?_;ext;refine⟨_,_,_,rfl,h.o,rfl,?_⟩;ext;obtain⟨fx,fl,eJ,fv,dO⟩:=h.fact hi;obtain⟨fy,rfl,lu⟩:=eJ;refine zU fv dO ?_;ext;refine WK ?_;ext;refine zw ⟨_,rfl,λz=>absurd z ∅,λ_=> ?_⟩;ext;refine xK ?_;ext;refine⟨_,_,_,rfl,h.o,rfl,?_⟩;ext;exact vt ⟨rfl,rfl⟩
theorem zgB (h:xh sn fn dn bx fs S) {i lv:Nat} {ks:List Nat} (hi:fs[i]? =some (.fork lv ks)):W (xD fu [.ref sn,.int (i:Int)] S) λv S'=>v= .tup (ksX ks)/\S'=S:=by
 walk_at "wr";unfold ZI;ext;refine xK ?_;ext;refine⟨_,_,_,rfl,h.o,rfl,?_⟩;ext;obtain⟨fx,fl,eJ,fv,dO⟩:=h.fact hi;change fx=_ at eJ;subst eJ;refine zU fv dO ?_;ext;refine WK ?_;ext;refine zw ⟨_,rfl,λ_=> ?_,λz=> ?_⟩
 .ext;exact zG rfl (show atI [Xv.str "fork",.int (lv:Int),.tup (ksX ks)] 2=some (.tup (ksX ks)) from rfl) ⟨rfl,rfl⟩
 .exact absurd z ∅
inductive VA (fs:List zy) (st:List Nat) (q:Q2):Nat->Nat->Prop
 |leaf {h n:Nat}:fs[n]? =some (.leaf q)->VA fs st q h n
 |fork {h n lv j k:Nat} {ks:List Nat}:fs[n]? =some (.fork lv ks)->st[lv]? =some j->ks[j]? =some k->VA fs st q h k->VA fs st q (h+1) n
theorem VA.mono {fs':List zy} {st:List Nat} {q:Q2} {h n:Nat} (p:fs<+:fs') (v:VA fs st q h n):VA fs' st q h n:=by
 induction v with
 |leaf e=>exact .leaf (yx p e)
 |fork e e1 e2 _ ih=>exact .fork (yx p e) e1 e2 ih
theorem VA.more {st:List Nat} {q:Q2} {h n h':Nat} (v:VA fs st q h n) (hh:h<=h'):VA fs st q h' n:=by
 induction v generalizing h' with
 |leaf e=>exact .leaf e
 | @fork h1 n1 lv j k ks e e1 e2 _ ih=>
  obtain⟨m,rfl⟩:∃m,h'=m+1:=⟨h'-1,⋯⟩;exact .fork e e1 e2 (ih ⋯)
theorem zgC (st:List Nat) (q:Q2) (H:xh sn fn dn bx fs S):∀(h n m:Nat),VA fs st q h n->h<m->WS (zai (bE (eOp (we false) (eOp zB (eOp yA (vH "Store" "facts" (za 0)) (za 1)) (eC (.int 0))) (eC (.str "fork")))) (zY (eOp zB (yp "Store" "kids_of" (xD fu) (za 0) [(za 1)]) (eOp zB (za 2) (yp "Store" "level_of" (yE fu) (za 0) [(za 1)]))) (gN 1)) m [some (.ref sn),some (.int (n:Int)),some (.tup (ksX st))] S) (λρ S'=>∃n':Nat,ρ=[some (.ref sn),some (.int (n':Int)),some (.tup (ksX st))]/\S'=S/\fs[n']? =some (.leaf q)) (λ_ _=>False):=by
 intro h n m v
 induction v generalizing m with
 | @leaf h n e=>
  intro hm;obtain⟨m,rfl⟩:∃k,m=k+1:=⟨m-1,⋯⟩;refine VX ?_;ext;refine xK ?_;ext;refine⟨_,_,_,rfl,H.o,rfl,?_⟩;ext;obtain⟨fx,fl,eJ,fv,dO⟩:=H.fact e;obtain⟨fy,rfl,lu⟩:=eJ;refine zU fv dO ?_;ext;refine zw ⟨_,rfl,λz=> ?_,λ_=>⟨_,rfl,rfl,e⟩⟩;exact absurd z ∅
 | @fork h n lv j k ks e e1 e2 _ ih=>
  intro hm;obtain⟨m,rfl⟩:∃k,m=k+1:=⟨m-1,⋯⟩;refine VX ?_;ext;refine xK ?_;ext;refine⟨_,_,_,rfl,H.o,rfl,?_⟩;ext;obtain⟨fx,fl,eJ,fv,dO⟩:=H.fact e;change fx=_ at eJ;subst eJ;refine zU fv dO ?_;ext;refine zw ⟨_,rfl,λ_=> ?_,λz=>absurd z ∅⟩;ext;refine zW ?_;ext;refine⟨_,_,rfl,H.o,rfl,?_⟩;ext;refine (zgB H e).imp ?_;rintro _ S2 ⟨rfl,rfl⟩;ext;refine zW ?_;ext;refine⟨_,_,rfl,H.o,rfl,?_⟩;ext;refine (zek H e).imp ?_;rintro _ S2 ⟨rfl,rfl⟩;ext;refine zG rfl (zQ (wc e1)) ?_;refine zG rfl (zQ (wc e2)) ?_;exact ih _ ⋯
theorem zlR {st:List Nat} {q:Q2} {h n:Nat} (H:xh sn fn dn bx fs S) (v:VA fs st q h n) (hf:h<fu):W (Zr fu [.ref sn,.int (n:Int),.tup (ksX st)] S) λv S'=>QX v q/\S'=S:=by
 walk_at "wr";unfold Zq;rcases zgC (fu:=fu) st q H h n fu v hf with⟨ρ,S2,e0,n',rfl,rfl,e⟩|⟨_,_,_,z⟩
 rotate_left
 .exact z.elim
 refine zk (zhd (.nx e0 ?_));ext;refine xK ?_;ext;refine⟨_,_,_,rfl,H.o,rfl,?_⟩;ext;obtain⟨fx,fl,eJ,fv,dO⟩:=H.fact e;obtain⟨fy,rfl,lu⟩:=eJ;refine zU fv dO ?_;ext;exact⟨lu,rfl⟩
theorem zlS {i:Int}:W (Wb fu [.int i] S) λv S'=>v= .bl true/\S'=S:=by
 walk_at "wr";unfold ZU;refine yf (za1 ?_);ext;refine vS (v:=true) rfl ?_;refine⟨_,rfl,λ_=> ?_,λz=>(by cases z)⟩;ext;refine vS (v:=false) rfl ?_;exact⟨_,rfl,rfl,rfl⟩
end
end
section
variable {fu:Nat} {S S' S2:Sto} {x y:Xv} {sn fn dn:Nat} {bx:Xv} {fs:List zy}
theorem zcg:∀bs:List Bool,Xu (bs.map Xv.bl)=some bs
 |[]=>rfl
 |b::r=>by rw[rC];simp[Xu,zcg r]
theorem TV {P:Xv->Sto->Prop} {n:Nat} {l:List Xv} (h:S[n]? =some (.lst l)) (k:P (.tup l) S):WO (Vv [.ref n] S) P:= .of (by unfold Vv;dsimp only;rw[zh h];rfl) k
theorem zlT {P:Xv->Sto->Prop} {neg a b:Bool} (k:P (.bl (neg !=decide (a=b))) S):WO (we neg (.bl a) (.bl b) S) P:= .of rfl k
theorem yW (ks:List Nat):(ksX ks).length=ks.length:=by simp[ksX]
theorem Vc (ks:List Nat) (k:Nat):ksX (ks++[k])=ksX ks++[.int (k:Int)]:=by simp[ksX]
theorem zhv {ks:List Nat} {i:Nat} {w:Xv} (h:(ksX ks)[i]? =some w):∃k,ks[i]? =some k/\w= .int (k:Int):=by
 unfold ksX at h;rw[qY] at h;cases e:ks[i]? with
 |none=>rw[e] at h;cases h
 |some k=>rw[e] at h;cases h;exact⟨k,rfl,rfl⟩
theorem zkq (ks:List Nat):vx (vD S 39) (ksX ks)=some ((ks.map λ(k:Nat)=>(k:Int)).map D.int):=by
 induction ks with
 |nil=>rfl
 |cons k r ih=>
  show vx (vD S 39) (.int (k:Int)::ksX r)=_;simp only[vx,ih];rfl
theorem zlU {P:Xv->Sto->Prop} {ρ:Rho} {kn k0:Nat} {ks:List Nat} {cap:List (Option Nat)} {m n:TwE} (hk:S[kn]? =some (.lst (ksX ks))) (hl:ks.length<=100) (hn:W (n ρ S) λv S'=>v= .ref kn/\S'=S)
  (hm:∀k:Nat,W (m ((xZ cap ρ).set 0 (some (.int (k:Int)))) S) λv S'=>v= .bl (decide ((k:Int)=(k0:Int)))/\S'=S)
  (k:P (.bl (decide (∀k∈ks,k=k0))) (S++[.lst ((ks.map λ(k:Nat)=>decide ((k:Int)=(k0:Int))).map Xv.bl)])):W (eFn zbF [(xm cap (iL n) (gN 0) xi m)] ρ S) P:=by
 refine wn (zm (xH (zaC (hn.imp ?_))));rintro _ S1 ⟨rfl,rfl⟩;refine⟨_,zh hk,_,zh hk,?_⟩;refine xn (by rw[yW];exact rS (VN hl)) (λi es S2=>S2=S1/\es=((ks.take i).map λ(k:Nat)=>decide ((k:Int)=(k0:Int))).map Xv.bl) ?_ ?_ ⟨rfl,by simp⟩ ?_
 .rintro i es _ _ ⟨rfl,_⟩;exact zh hk
 .rintro i w es _ hw fO ⟨rfl,rfl⟩;obtain⟨kk,e1,rfl⟩:=zhv hw;refine .of rfl ?_;ext;refine⟨rfl,?_⟩;refine (hm kk).imp ?_;rintro _ _ ⟨rfl,rfl⟩;refine⟨rfl,?_⟩;obtain⟨hi,e1⟩:=qO.1 e1;rw[si hi,sk,sk,e1];rfl
 .rintro es _ _ ⟨rfl,rfl⟩;rw[yW,tL];ext;refine zce xN (zcg _) ?_
  rw[show (ks.map λ(k:Nat)=>decide ((k:Int)=(k0:Int))).all id=decide (∀k∈ks,k=k0) by
   rw[sJ,decide_eq_true_iff,sr];constructor
   .intro h k hk;have:=h _ (tS.2 ⟨k,hk,rfl⟩);exact tO.1 (of_decide_eq_true this)
   .intro h b hb;obtain⟨k,hk,rfl⟩:=tS.1 hb
    exact decide_eq_true (by rw[h k hk])]
  exact k
def zel (fs:List zy) (lv:Nat) (ks:List Nat) (i:Nat):Prop:=∃k0,ks[0]? =some k0/\((∀k∈ks,k=k0)/\i=k0\/(¬∀k∈ks,k=k0)/\fs[i]? =some (.fork lv ks))
theorem zaq {lv kn k0:Nat} {ks:List Nat} (h:xh sn fn dn bx fs S) (hl:fs.length<=1000000) (hk:S[kn]? =some (.lst (ksX ks))) (h0:ks[0]? =some k0) (cu:ks.length<=100):W (xA fu [.ref sn,.int (lv:Int),.ref kn] S) λv S'=>∃(i:Nat) (fs':List zy),v= .int (i:Int)/\zel fs' lv ks i/\(fs'=fs\/(¬∀k∈ks,k=k0)/\fs'=fs++[.fork lv ks])/\yN sn fn dn bx fs 1 S fs' S':=by
 walk_at "wr";unfold XV;ext;refine zU (zh hk) (zQ (i:=0) (wc h0)) ?_;ext;refine zC (xT ?_);refine zlU (kn:=kn) (k0:=k0) hk cu (zq rfl ⟨rfl,rfl⟩) ?_ ?_
 .intro k;dsimp only[xZ,rR,qW];ext;exact⟨rfl,rfl⟩
 .refine⟨_,rfl,yQ (λhc=> ?_) (λhc=> ?_)⟩
  .ext;exact⟨k0,fs,rfl,⟨k0,h0,.inl ⟨hc,rfl⟩⟩,.inl rfl,(yN.of_pre h (qQ _ _)).more ⋯⟩
  .ext;have h2:=h.pre (qQ S [.lst ((ks.map λ(k:Nat)=>decide ((k:Int)=(k0:Int))).map Xv.bl)]);refine zW ?_;ext;refine⟨_,_,rfl,h2.o,rfl,?_⟩;ext;refine TV (l:=ksX ks) (yx (qQ _ _) hk) ?_;ext;refine (zft h2 hl (f:= .fork lv ks) (x:= .tup [.str "fork",.int (lv:Int),.tup (ksX ks)]) rfl).imp ?_;rintro _ S2 ⟨i,fs',rfl,e,ad,g⟩;exact⟨i,fs',rfl,⟨k0,h0,.inr ⟨hc,e⟩⟩,ad.imp (λz=>z) (λz=>⟨hc,z⟩),((yN.of_pre h (qQ _ _)).trans g).more ⋯⟩
theorem zn8 {n:Nat} (h:S[n]? =some (.ins "Store" [])) (bx:Xv):W (xV fu [.ref n,bx] S) λv S'=>v= .non/\xh n S.length (S.length+1) bx [] S'/\Kp (· =n) S S'/\S'.length=S.length+2:=by
 have hn:=(qO.1 h).1;walk_at "wr";unfold Zp;ext;refine zd3 ?_;ext;refine⟨_,_,rfl,h,∅,?_⟩;ext;refine zd3 ?_;ext;refine⟨_,_,rfl,yx (qQ _ _) (wb h),(show (1:Nat)<1000 by decide),?_⟩;refine zd3 ?_;ext;refine⟨_,_,rfl,yx (qQ _ _) (wb (yx (qQ _ _) (wb h))),(show (2:Nat)<1000 by decide),rfl,?_⟩;simp only[sV,rd,ra,sQ];refine⟨⟨wb (yx (qQ _ _) (wb (yx (qQ _ _) (wb h)))),⟨[],.nil,?_,?_⟩,A6⟩,?_,by simp⟩
 .refine xu (yx (qQ _ _) (xu ?_ ⋯)) ⋯;have:=yy (S:=S.set n (.ins "Store" (zcx "boxes" bx []))) (c:= .lst []);rw[sV] at this;exact this
 .refine xu ?_ ⋯;have:=yy (S:=(qW S n (Ce.ins "Store" (zcx "boxes" bx []))++[Ce.lst []]).set n (.ins "Store" (zcx "facts" (.ref S.length) (zcx "boxes" bx [])))) (c:= .dk []);simp only[sV,rd,ra,sQ] at this;exact this
 .exact (((((Kp.refl (· =n)).set (.inl rfl)).app).set (.inl rfl)).app).set (.inl rfl)
end
section
noncomputable def lvl (n:Nat):zy->Nat
 | .leaf _=>n
 | .fork lv _=>lv
structure WF (ss:List Nat) (fs:List zy):Prop where
 nd:fs.Nodup
 ok:∀(i lv:Nat) ks,fs[i]? =some (.fork lv ks)->(∃s,ss[lv]? =some s/\ks.length=s)/\(∀k∈ks,k<i/\∃f,fs[k]? =some f/\lv<lvl ss.length f)/\¬∀k∈ks,∀k'∈ks,k=k'
def yJ (ss st:List Nat):Prop:=st.length=ss.length/\∀(i:Nat) x s,st[i]? =some x->ss[i]? =some s->x<s
variable {ss:List Nat} {fs fs':List zy} {st st':List Nat} {q q':Q2} {i j:Nat} {f g:zy}
theorem yJ.get (h:yJ ss st) {lv s:Nat} (e:ss[lv]? =some s):∃x,st[lv]? =some x/\x<s:=by
 have hl:lv<st.length:=by rw[h.1];exact (qO.1 e).1
 exact⟨st[lv],qN hl,h.2 lv _ s (qN hl) e⟩
theorem yJ.set (h:yJ ss st) {lv s m:Nat} (e:ss[lv]? =some s) (hm:m<s):yJ ss (st.set lv m):=by
 refine⟨by rw[sV];exact h.1,λi x t e1 e2=> ?_⟩;rw[rK] at e1;split at e1
 .rename_i q;subst q;split at e1
  .cases e1;rw[e] at e2;cases e2;exact hm
  .cases e1
 .exact h.2 i x t e1 e2
theorem VA.uniq {h:Nat} (v:VA fs st q h i):∀{h':Nat},VA fs st q' h' i->q=q':=by
 induction v with
 |leaf e=>
  intro h' w;cases w with
  |leaf e'=>rw[e] at e';cases e';rfl
  |fork e' _ _ _=>rw[e] at e';cases e'
 |fork e e1 e2 _ ih=>
  intro h' w;cases w with
  |leaf e'=>rw[e] at e';cases e'
  |fork e' f1 f2 w=>
   rw[e] at e';cases e';rw[e1] at f1;cases f1;rw[e2] at f2;cases f2;exact ih w
theorem WF.lv (w:WF ss fs) (e:fs[i]? =some f):lvl ss.length f<=ss.length:=by
 cases f with
 |leaf q=>exact qT _
 |fork lv ks=>
  obtain⟨⟨s,h,_⟩,_⟩:=w.ok i lv ks e;exact rS (qO.1 h).1
theorem WF.val (w:WF ss fs) (hs:yJ ss st):∀(n i:Nat) (f:zy),i<n->fs[i]? =some f->∃q,VA fs st q (ss.length-lvl ss.length f) i:=by
 intro n
 induction n with
 |zero=>intro i f h;omega
 |succ n ih=>
  intro i f hi e;cases f with
  |leaf q=>exact⟨q,.leaf e⟩
  |fork lv ks=>
   obtain⟨⟨s,h1,h2⟩,h3,_⟩:=w.ok i lv ks e;obtain⟨x,e1,hx⟩:=hs.get h1;have hk:ks[x]? =some ks[x]:=qN ⋯;obtain⟨h4,g,h5,h6⟩:=h3 ks[x] (rq _);obtain⟨q,v⟩:=ih ks[x] g ⋯ h5;refine⟨q,VA.more (.fork e e1 hk v) ?_⟩;have:=(qO.1 h1).1;show ss.length-lvl ss.length g+1<=ss.length-lv;have:=w.lv h5;omega
theorem WF.val' (w:WF ss fs) (hs:yJ ss st) (e:fs[i]? =some f):∃q,VA fs st q ss.length i:=by
 obtain⟨q,v⟩:=w.val hs (i+1) i f ⋯ e;exact⟨q,v.more ⋯⟩
theorem VA.other (w:WF ss fs) {h l:Nat} (ag:∀k,l<=k->st'[k]? =st[k]?) (v:VA fs st q h i):∀{f:zy},fs[i]? =some f->l<=lvl ss.length f->VA fs st' q h i:=by
 induction v with
 |leaf e=>intro f _ _;exact .leaf e
 | @fork h n lv j k ks e e1 e2 _ ih=>
  intro f ef hl;rw[e] at ef;cases ef;obtain⟨_,h3,_⟩:=w.ok n lv ks e;obtain⟨_,g,h5,h6⟩:=h3 k (qS e2);exact .fork e ((ag lv hl).trans e1) e2 (ih h5 (by have:l<=lv:=hl;omega))
theorem zkr {lv m:Nat}:∀k,lv+1<=k->(st.set lv m)[k]? =st[k]? :=λk hk=>by rw[rK,if_neg ⋯]
theorem Vd {lv m:Nat}:∀k,lv+1<=k->st[k]? =(st.set lv m)[k]? :=λk hk=>(zkr k hk).symm
def Ag (ss:List Nat) (fs:List zy) (i j:Nat):Prop:=∀st,yJ ss st->∃q h h',VA fs st q h i/\VA fs st q h' j
theorem Ag.symm (a:Ag ss fs i j):Ag ss fs j i:=λst hs=>by
 obtain⟨q,h,h',a,b⟩:=a st hs;exact⟨q,h',h,b,a⟩
theorem VA.kid {h lv x:Nat} {ks:List Nat} (v:VA fs st q h i) (e:fs[i]? =some (.fork lv ks)) (e1:st[lv]? =some x):∃k h',ks[x]? =some k/\VA fs st q h' k:=by
 cases v with
 |leaf e'=>rw[e] at e';cases e'
 |fork e' f1 f2 w=>
  rw[e] at e';cases e';rw[e1] at f1;cases f1;exact⟨_,_,f2,w⟩
theorem Ag.kid (w:WF ss fs) {lv s m k:Nat} {ks:List Nat} (a:Ag ss fs i j) (ei:fs[i]? =some (.fork lv ks)) (es:ss[lv]? =some s) (hm:m<s) (ek:ks[m]? =some k) (ej:fs[j]? =some g) (hg:lv<lvl ss.length g):Ag ss fs k j:=λst hs=>by
 obtain⟨_,f,h5,h6⟩:=(w.ok i lv ks ei).2.1 k (qS ek);obtain⟨q,h,h',v,u⟩:=a _ (hs.set es hm);have hl:lv<st.length:=by rw[hs.1];exact (qO.1 es).1
 obtain⟨k',h1,e',v⟩:=v.kid ei (by rw[rK,if_pos rfl,if_pos hl]);rw[ek] at e';cases e';exact⟨q,h1,h',v.other w Vd h5 h6,u.other w Vd ej hg⟩
theorem Ag.kids (w:WF ss fs) {lv s m k k':Nat} {ks js:List Nat} (a:Ag ss fs i j) (ei:fs[i]? =some (.fork lv ks)) (ej:fs[j]? =some (.fork lv js)) (es:ss[lv]? =some s) (hm:m<s) (ek:ks[m]? =some k) (ek':js[m]? =some k'):Ag ss fs k k':=λst hs=>by
 obtain⟨_,f,h5,h6⟩:=(w.ok i lv ks ei).2.1 k (qS ek);obtain⟨_,f',lM,nr⟩:=(w.ok j lv js ej).2.1 k' (qS ek');obtain⟨q,h,h',v,u⟩:=a _ (hs.set es hm);have hl:lv<st.length:=by rw[hs.1];exact (qO.1 es).1
 obtain⟨k1,h1,e1,v⟩:=v.kid ei (by rw[rK,if_pos rfl,if_pos hl]);obtain⟨k2,h2,e2,u⟩:=u.kid ej (by rw[rK,if_pos rfl,if_pos hl]);rw[ek] at e1;cases e1;rw[ek'] at e2;cases e2;exact⟨q,h1,h2,v.other w Vd h5 h6,u.other w Vd lM nr⟩
theorem zpw (w:WF ss fs) (z:∃st,yJ ss st):∀(d i j:Nat) (f g:zy),fs[i]? =some f->fs[j]? =some g->ss.length<=lvl ss.length f+d->ss.length<=lvl ss.length g+d->Ag ss fs i j->i=j:=by
 have lt:∀{i lv:Nat} {ks:List Nat},fs[i]? =some (.fork lv ks)->lv<ss.length:=λe=>by
  obtain⟨⟨s,h,_⟩,_⟩:=w.ok _ _ _ e;exact (qO.1 h).1
 intro d
 induction d with
 |zero=>
  intro i j f g ei ej hf hg a;obtain⟨st,hs⟩:=z;obtain⟨q,h,h',v,u⟩:=a st hs;cases f with
  |fork lv ks=>have:=lt ei;have:ss.length<=lv+0:=hf;omega
  |leaf p=>
   cases g with
   |fork lv ks=>have:=lt ej;have:ss.length<=lv+0:=hg;omega
   |leaf p'=>
    have e1:=v.uniq (.leaf (h:=0) ei);have e2:=u.uniq (.leaf (h:=0) ej);subst e1 e2;exact zko w.nd ei ej
 |succ d ih=>
  have side:∀{i j lv:Nat} {ks:List Nat} {g:zy},fs[i]? =some (.fork lv ks)->fs[j]? =some g->ss.length<=lv+(d+1)->ss.length<=lvl ss.length g+d->¬ss.length<=lv+d->Ag ss fs i j->False:=by
   intro i j lv ks g ei ej h1 h2 h3 a;obtain⟨⟨s,es,hl⟩,hk,hn⟩:=w.ok i lv ks ei;have all:∀k∈ks,k=j:=λk hm=>by
    obtain⟨m,bX⟩:=rL hm;have di:=(qO.1 bX).1;obtain⟨_,f,h5,h6⟩:=hk k hm;exact ih k j f g h5 ej ⋯ h2 (a.kid w ei es ⋯ bX ej ⋯)
   exact hn λk hk k' ft=>(all k hk).trans (all k' ft).symm
  intro i j f g ei ej hf hg a;by_cases hi:ss.length<=lvl ss.length f+d
  .by_cases hj:ss.length<=lvl ss.length g+d
   .exact ih i j f g ei ej hi hj a
   .cases g with
    |leaf p=>exact absurd (y7 _ _) hj
    |fork lv ks=>exact (side ej ei hg hi hj a.symm).elim
  .cases f with
   |leaf p=>exact absurd (y7 _ _) hi
   |fork lv ks=>
    by_cases hj:ss.length<=lvl ss.length g+d
    .exact (side ei ej hf hj hi a).elim
    .cases g with
     |leaf p=>exact absurd (y7 _ _) hj
     |fork lw js=>
      have pw:ss.length<=lv+(d+1):=hf;have qw:ss.length<=lw+(d+1):=hg;have gX:¬ss.length<=lv+d:=hi;have n6:¬ss.length<=lw+d:=hj;have:lw=lv:=by omega
      subst this;obtain⟨⟨s,es,hl⟩,hk,_⟩:=w.ok i lw ks ei;obtain⟨⟨s',es',gU⟩,ft,_⟩:=w.ok j lw js ej;rw[es] at es';cases es';have:ks=js:=by
       apply List.ext_getElem ⋯;intro m h1 h2;have e1:ks[m]? =some ks[m]:=qN h1;have e2:js[m]? =some js[m]:=qN h2;obtain⟨_,f,h5,h6⟩:=hk ks[m] (rq _);obtain⟨_,f',lM,nr⟩:=ft js[m] (rq _);exact ih _ _ f f' h5 lM ⋯ ⋯ (a.kids w ei ej es ⋯ e1 e2)
      subst this;exact zko w.nd ei ej
theorem WF.canon (w:WF ss fs) (z:∃st,yJ ss st) (ei:fs[i]? =some f) (ej:fs[j]? =some g) (a:Ag ss fs i j):i=j:=Prf.zpw w z ss.length i j f g ei ej ⋯ ⋯ a
theorem WF.leaf (w:WF ss fs) {q:Q2} (n:fs'.Nodup) (a:Add fs (.leaf q) fs'):WF ss fs':=by
 rcases a with rfl|rfl
 .exact w
 .refine⟨n,λi lv ks e=> ?_⟩;have hi:i<fs.length:=by
   rcases rW i fs.length with h|h|h
   .exact h
   .subst h;simp at e
   .rw[r6 (by simp;omega)] at e;cases e
  rw[qR hi] at e;obtain⟨h1,h2,h3⟩:=w.ok i lv ks e;refine⟨h1,λk hk=> ?_,h3⟩;obtain⟨a,f,b,c⟩:=h2 k hk;exact⟨a,f,yx (qQ _ _) b,c⟩
theorem WF.fork (w:WF ss fs) {lv s:Nat} {ks:List Nat} (n:fs'.Nodup) (a:Add fs (.fork lv ks) fs') (es:ss[lv]? =some s) (hl:ks.length=s) (hk:∀k∈ks,∃f,fs[k]? =some f/\lv<lvl ss.length f) (hn:¬∀k∈ks,∀k'∈ks,k=k'):WF ss fs':=by
 rcases a with rfl|rfl
 .exact w
 .refine⟨n,λi lw js e=> ?_⟩;rcases rW i fs.length with h|h|h
  .rw[qR h] at e;obtain⟨h1,h2,h3⟩:=w.ok i lw js e;refine⟨h1,λk hk=> ?_,h3⟩;obtain⟨a,f,b,c⟩:=h2 k hk;exact⟨a,f,yx (qQ _ _) b,c⟩
  .subst h;simp at e;obtain⟨rfl,rfl⟩:=e;refine⟨⟨s,es,hl⟩,λk hm=> ?_,hn⟩;obtain⟨f,b,c⟩:=hk k hm;exact⟨(qO.1 b).1,f,yx (qQ _ _) b,c⟩
  .rw[r6 (by simp;omega)] at e;cases e
theorem VA.back (w:WF ss fs) (p:fs<+:fs') (hs:yJ ss st) {h:Nat} (e:fs[i]? =some f) (v:VA fs' st q h i):VA fs st q ss.length i:=by
 obtain⟨q',v'⟩:=w.val' hs e;rw[v.uniq (v'.mono p)];exact v'
end
section
variable {fu:Nat} {S S' S2:Sto} {x y z:Xv} {sn fn dn kn:Nat} {fs fs':List zy} {ss:List Nat} {bl:List Xv}
structure Bx (ss:List Nat) (bl:List Xv):Prop where
 len:bl.length=ss.length
 at_:∀(i s:Nat),ss[i]? =some s->∃nm:Xv,bl[i]? =some (.tup [nm,.int (s:Int)])
 siz:∀s∈ss,1<=s/\s<=90
structure Bx9 (ss:List Nat) (bl:List Xv):Prop extends Bx ss bl where
 l9:ss.length<=9
theorem zel.va {st ks:List Nat} {q:Q2} {lv i j k h:Nat} (f:zel fs lv ks i) (hj:st[lv]? =some j) (hk:ks[j]? =some k) (v:VA fs st q h k):VA fs st q (h+1) i:=by
 obtain⟨k0,e0,⟨a,rfl⟩|⟨a,b⟩⟩:=f
 .rw[a k (qS hk)] at v;exact v.more ⋯
 .exact .fork b hj hk v
theorem TW (h:xh sn fn dn (.tup bl) fs S) {i:Nat} {f:zy} (hb:bl.length=ss.length) (hi:fs[i]? =some f):W (yE fu [.ref sn,.int (i:Int)] S) λv S'=>v= .int (lvl ss.length f:Int)/\S'=S:=by
 cases f with
 |leaf q=>rw[show lvl ss.length (.leaf q)=bl.length from hb.symm];exact zkp h hi
 |fork lv ks=>exact zek h hi
def Kd (ss:List Nat) (fs:List zy) (a lv m k:Nat):Prop:=(∃ks,fs[a]? =some (.fork lv ks)/\ks[m]? =some k)\/(k=a/\∃f,fs[a]? =some f/\lv<lvl ss.length f)
theorem Kd.mono {a lv m k:Nat} (h:Kd ss fs a lv m k) (p:fs<+:fs'):Kd ss fs' a lv m k:=by
 rcases h with⟨ks,e,h⟩|⟨rfl,f,e,h⟩
 .exact .inl ⟨ks,yx p e,h⟩
 .exact .inr ⟨rfl,f,yx p e,h⟩
theorem Kd.lv {a lv m k:Nat} (h:Kd ss fs a lv m k) (w:WF ss fs):∃f,fs[k]? =some f/\lv<lvl ss.length f:=by
 rcases h with⟨ks,e,h⟩|⟨rfl,f,e,h⟩
 .obtain⟨_,f,e1,e2⟩:=(w.ok a lv ks e).2.1 k (qS h);exact⟨f,e1,e2⟩
 .exact⟨f,e,h⟩
theorem Kd.va {a lv m k h:Nat} {st:List Nat} {q:Q2} (d:Kd ss fs a lv m k) (v:VA fs st q h a) (e:st[lv]? =some m):∃h',VA fs st q h' k:=by
 rcases d with⟨ks,e1,e2⟩|⟨rfl,_⟩
 .obtain⟨k',h',e3,v⟩:=v.kid e1 e;rw[e2] at e3;cases e3;exact⟨h',v⟩
 .exact⟨h,v⟩
theorem zem (h:xh sn fn dn (.tup bl) fs S) (w:WF ss fs) (hb:bl.length=ss.length) {a lv m s:Nat} {f:zy} (e:fs[a]? =some f) (hl:lv<=lvl ss.length f) (es:ss[lv]? =some s) (hm:m<s):∃k,Kd ss fs a lv m k/\W (wH fu [.ref sn,.int (a:Int),.int (lv:Int),.int (m:Int)] S) λv S'=>v= .int (k:Int)/\S'=S:=by
 have go:∀k:Nat,(∀z:(lvl ss.length f:Int)=(lv:Int),∃ks,f= .fork lv ks/\ks[m]? =some k)->((lvl ss.length f:Int)≠(lv:Int)->k=a)->W (wH fu [.ref sn,.int (a:Int),.int (lv:Int),.int (m:Int)] S) λv S'=>v= .int (k:Int)/\S'=S:=by
  intro k h1 h2;walk_at "wr";unfold Ym;refine yf (WK (xT (yw (zW ?_))));ext;refine⟨_,_,rfl,h.o,rfl,?_⟩;ext;refine (TW h hb e).imp ?_;rintro _ _ ⟨rfl,rfl⟩;ext;refine yQ (λz=> ?_) (λz=> ?_)
  .obtain⟨ks,rfl,ek⟩:=h1 z;refine yw (zW ?_);ext;refine⟨_,_,rfl,h.o,rfl,?_⟩;ext;refine (zgB h e).imp ?_;rintro _ _ ⟨rfl,rfl⟩;ext;exact zG rfl (zQ (wc ek)) ⟨rfl,rfl⟩
  .ext;exact⟨by rw[h2 z],rfl⟩
 by_cases hq:lvl ss.length f=lv
 .cases f with
  |leaf q=>
   have:=(qO.1 es).1;have:ss.length=lv:=hq;omega
  |fork lw ks=>
   have hq:lw=lv:=hq;subst hq;obtain⟨⟨s',es',hs⟩,_⟩:=w.ok a lw ks e;rw[es] at es';cases es';have ek:ks[m]? =some ks[m]:=qN ⋯;exact⟨ks[m],.inl ⟨ks,e,ek⟩,go _ (λ_=>⟨ks,rfl,ek⟩) (λz=>absurd rfl z)⟩
 .exact⟨a,.inr ⟨rfl,f,e,⋯⟩,go a (λz=>absurd (tO.1 z) hq) (λ_=>rfl)⟩
noncomputable def wt:List Nat->Nat
 |[]=>2
 |s::r=>2+s*wt r
noncomputable def cst (ss:List Nat) (d:Nat):Nat:=wt (ss.drop (ss.length-d))
theorem zlV (h:∀s∈ss,1<=s):∀k,wt (ss.drop k)<=wt ss:=by
 induction ss with
 |nil=>intro k;rw[List.drop_nil];exact qT _
 |cons s r ih=>
  intro k;cases k with
  |zero=>exact qT _
  |succ k=>
   rw[List.drop_succ_cons];have h1:=ih (λt ht=>h t (r9 _ ht)) k;have h2:=h s rE;have:1*wt r<=s*wt r:=rN _ h2;show _<=2+s*wt r;omega
theorem zch (h:∀s∈ss,1<=s) {d d':Nat} (hd:d<=d'):cst ss d<=cst ss d':=by
 unfold cst;have e:ss.drop (ss.length-d)=(ss.drop (ss.length-d')).drop ((ss.length-d)-(ss.length-d')):=by
  rw[List.drop_drop]
  congr 1
  omega
 rw[e];exact zlV (λs hs=>h s (Ac hs)) _
theorem zen {lv s:Nat} (es:ss[lv]? =some s):cst ss (ss.length-lv)=2+s*cst ss (ss.length-lv-1):=by
 obtain⟨hl,e⟩:=qO.1 es;unfold cst;rw[show ss.length-(ss.length-lv)=lv by omega,show ss.length-(ss.length-lv-1)=lv+1 by omega,sA hl,e];rfl
end
section
variable {fu:Nat} {S S' S2:Sto} {x y u v:Xv} {sn fn dn kn:Nat} {bx:Xv} {fs fs':List zy} {ss:List Nat}
theorem zmZ {get:Sto->Option (List Xv)} {e:TwE} {ρc:Rho} {P:Xv->Sto->Prop} (hg:get S=some [x,y]) (h1:W (e (ρc.set 0 (some x)) S) λw S'=>w=u/\S'=S) (h2:W (e (ρc.set 0 (some y)) S) λw S'=>w=v/\S'=S) (k:P (.ref S.length) (S++[.lst [u,v]])):
  W (YQ get (gN 0) xi e ρc 3 0 [] S) P:=by
 refine xn (xs:=[x,y]) (show 2<=sizeLine by decide) (λi es S2=>S2=S/\es=[u,v].take i) (λi es S2 _ h=>by rw[h.1];exact hg) ?_ ⟨rfl,rfl⟩ ?_
 .rintro i w es S2 hw fO ⟨rfl,rfl⟩;refine .of rfl ?_;ext;refine⟨rfl,?_⟩
  match i,hw with
  |0,hw=>
   cases hw;refine h1.imp ?_;rintro _ _ ⟨rfl,rfl⟩;exact⟨rfl,rfl⟩
  |1,hw=>
   cases hw;refine h2.imp ?_;rintro _ _ ⟨rfl,rfl⟩;exact⟨rfl,rfl⟩
  |i+2,hw=>simp at hw
 .rintro es S2 _ ⟨rfl,rfl⟩;exact k
theorem zgD {cap:List (Option Nat)} {m e:TwE} {ρ:Rho} {P:Xv->Sto->Prop} (hn:W (m ρ S) λz S'=>z= .tup [x,y]/\S'=S) (h1:W (e ((xZ cap ρ).set 0 (some x)) S) λw S'=>w=u/\S'=S) (h2:W (e ((xZ cap ρ).set 0 (some y)) S) λw S'=>w=v/\S'=S) (k:P (.ref S.length) (S++[.lst [u,v]])):
  W (xm cap (iT m) (gN 0) xi e ρ S) P:=by
 refine xH (zeZ (hn.imp ?_));rintro _ _ ⟨rfl,rfl⟩;exact⟨_,rfl,_,rfl,zmZ rfl h1 h2 k⟩
theorem zgE {cap:List (Option Nat)} {m e:TwE} {ρ:Rho} {P:Xv->Sto->Prop} {n:Nat} (hl:S[n]? =some (.lst [x,y])) (hn:W (m ρ S) λz S'=>z= .ref n/\S'=S) (h1:W (e ((xZ cap ρ).set 0 (some x)) S) λw S'=>w=u/\S'=S) (h2:W (e ((xZ cap ρ).set 0 (some y)) S) λw S'=>w=v/\S'=S) (k:P (.ref S.length) (S++[.lst [u,v]])):
  W (xm cap (iL m) (gN 0) xi e ρ S) P:=by
 refine xH (zaC (hn.imp ?_));rintro _ _ ⟨rfl,rfl⟩;exact⟨_,zh hl,_,zh hl,zmZ (zh hl) h1 h2 k⟩
noncomputable def isF:zy->Bool
 | .leaf _=>false
 | .fork _ _=>true
theorem zks {P:Xv->Sto->Prop} {l:List Xv} {bs:List Bool} (h:yH S x=some l) (h2:Xu l=some bs) (k:P (.bl (bs.any id)) S):WO (zib [x] S) P:= .of (by unfold zib;dsimp only;rw[h,r0,h2];rfl) k
def zar (fu:Nat) (G:Q2->Prop) (xr:Xv) (op:Q2->Q2->Q2):Prop:=∃(L:xR) (bw:List Xv) (tw:List Xv->TwF),xr= .lam L bw/\Wn [(TC,zdl fu),(TD,zdm fu),(TF,zdn fu)] L=some tw/\
 ∀{S:Sto} {m:Nat} {a b:Q2} {x y:Xv},G a->G b->QX x a->QX y b->S[m]? =some (.lst [x,y])->W (tw bw [.ref m] S) λw S'=>QX w (op a b)/\S'=S
theorem zdr {f:zy} (hx:FX x f):W (eOp (we false) (eOp zB (za 0) (eC (.int 0))) (eC (.str "fork")) [some x] S) λw S'=>w= .bl (isF f)/\S'=S:=by
 cases f with
 |leaf q=>
  obtain⟨y,rfl,_⟩:=hx;ext;exact zw ⟨rfl,rfl⟩
 |fork lv ks=>
  change x=_ at hx;subst hx;ext;exact zw ⟨rfl,rfl⟩
theorem zkt (hl:fs.length<=1000000) {a b:Nat} {fa fb:zy} {xr:Xv} {op:Q2->Q2->Q2} (h:xh sn fn dn bx fs S) (ea:fs[a]? =some fa) (eb:fs[b]? =some fb) {G:Q2->Prop} (hr:zar fu G xr op) (ha:∀q,fa= .leaf q->G q) (hb:∀q,fb= .leaf q->G q):
  W (ZL fu [.ref sn,.tup [.int (a:Int),.int (b:Int)],xr] S) λw S'=>(w= .non/\(isF fa||isF fb)=true/\S<+:S')\/∃(qa qb:Q2) (i:Nat) (fs':List zy),fa= .leaf qa/\fb= .leaf qb/\w= .int (i:Int)/\fs'[i]? =some (.leaf (op qa qb))/\Add fs (.leaf (op qa qb)) fs'/\yN sn fn dn bx fs 1 S fs' S':=by
 obtain⟨xa,la,mK,pG,pF⟩:=h.fact ea;obtain⟨xb,lb,mJ,pE,je⟩:=h.fact eb;walk_at "wr";unfold ZK;refine zk (yB ?_);refine zgD (x:= .int (a:Int)) (y:= .int (b:Int)) (u:=xa) (v:=xb) (zq rfl ⟨rfl,rfl⟩) ?_ ?_ ?_
 .dsimp only[xZ,rR,qW];ext;refine xK ?_;ext;refine⟨_,_,_,rfl,h.o,rfl,?_⟩;ext;exact zU pG pF ⟨rfl,rfl⟩
 .dsimp only[xZ,rR,qW];ext;refine xK ?_;ext;refine⟨_,_,_,rfl,h.o,rfl,?_⟩;ext;exact zU pE je ⟨rfl,rfl⟩
 dsimp only[qW];have h1:=h.pre (qQ S [.lst [xa,xb]]);have jG:(S++[Ce.lst [xa,xb]])[S.length]? =some (.lst [xa,xb]):=yy;have p1:S<+:S++[Ce.lst [xa,xb]]:=qQ _ _;generalize S++[Ce.lst [xa,xb]]=S1 at h1 jG p1;refine zk (zC (xT (wn (zm ?_))));refine zgE (n:=S.length) (x:=xa) (y:=xb) (u:= .bl (isF fa)) (v:= .bl (isF fb)) jG (zq rfl ⟨rfl,rfl⟩) ?_ ?_ ?_
 .dsimp only[xZ,rR,qW];exact zdr mK
 .dsimp only[xZ,rR,qW];exact zdr mJ
 ext;refine zks (bs:=[isF fa,isF fb]) xN rfl ?_;refine⟨_,rfl,λz=> ?_,λz=> ?_⟩
 .ext;exact .inl ⟨rfl,by simpa using z,p1.trans (qQ _ _)⟩
 .refine zr ?_;have h2:=h1.pre (qQ S1 [.lst [.bl (isF fa),.bl (isF fb)]]);have p2:S<+:S1++[.lst [.bl (isF fa),.bl (isF fb)]]:=p1.trans (qQ _ _);have iY:=yx (qQ S1 [Ce.lst [.bl (isF fa),.bl (isF fb)]]) jG;generalize S1++[Ce.lst [.bl (isF fa),.bl (isF fb)]]=S3 at h2 p2 iY;cases fa with
  |fork lv ks=>simp[isF] at z
  |leaf qa=>
   cases fb with
   |fork lv ks=>simp[isF] at z
   |leaf qb=>
    obtain⟨L,bw,tw,rfl,hp,ht⟩:=hr;obtain⟨ya,rfl,og⟩:=mK;obtain⟨yb,rfl,oe⟩:=mJ;refine yf (zW ?_);ext;refine⟨_,_,rfl,h2.o,rfl,?_⟩;refine zm (zbY rfl hp (zm ?_));refine zgE (n:=S.length) (x:= .tup [.str "leaf",ya]) (y:= .tup [.str "leaf",yb]) (u:=ya) (v:=yb) iY (zq rfl ⟨rfl,rfl⟩) ?_ ?_ ?_
    .dsimp only[xZ,rR,qW];ext;exact⟨rfl,rfl⟩
    .dsimp only[xZ,rR,qW];ext;exact⟨rfl,rfl⟩
    ext;refine (ht (ha qa rfl) (hb qb rfl) og oe yy).imp ?_;rintro xr _ ⟨oj,rfl⟩;ext;have h3:=h2.pre (qQ S3 [.lst [ya,yb]]);refine (UM h3 hl oj).imp ?_;rintro _ S4 ⟨i,fs',rfl,e1,ad,g⟩;exact .inr ⟨qa,qb,i,fs',rfl,rfl,rfl,e1,ad,((yN.of_pre h (p2.trans (qQ _ _))).trans g).more ⋯⟩
end
section
variable {fu:Nat} {S S' S2:Sto} {x y z:Xv} {sn fn dn kn:Nat} {bx:Xv} {fs fs':List zy} {ss:List Nat} {op:Q2->Q2->Q2}
noncomputable def kab (a b:Nat):NK:= .tup [.int (a:Int),.int (b:Int)]
noncomputable def nod (a b:Nat):Xv:= .tup [.int (a:Int),.int (b:Int)]
noncomputable def ZM:List (NK×Xv×Xv)->Ce
 |[]=> .dk []
 |p::l=> .dn (p::l)
theorem za7 (a b:Nat):UF (nod a b)=some (kab a b):=by simp[UF,nod,kab,Xl,Xs,ZC,We]
theorem Ti {l:List (NK×Xv×Xv)} {n:Nat} {k:NK} (h:S[n]? =some (ZM l)) (hk:UF x=some k) (hx:Tf x=none):Vg S (.ref n) x=some (xc l k):=by
 unfold Vg;dsimp only;rw[h];cases l with
 |nil=>
  unfold ZM;dsimp only;rw[hx,hk];rfl
 |cons p l=>
  unfold ZM;dsimp only;rw[hk];rfl
theorem zhw {l:List (NK×Xv×Xv)} {n:Nat} {k:NK} (h:S[n]? =some (ZM l)) (hk:UF x=some k) (hx:Tf x=none) (hl:l.length<sizeLine):Tn S (.ref n) x z=some (S.set n (ZM (Wm l k x z))):=by
 unfold Tn;dsimp only;rw[h];cases l with
 |nil=>
  unfold ZM;dsimp only;rw[hx,hk];rfl
 |cons p l=>
  unfold ZM;dsimp only[sH];rw[if_pos hl,hk];dsimp only[sE];unfold Wm;split<;>rfl
theorem Xj {l:List (NK×Xv×Xv)} {p:NK×Xv×Xv} {k:NK}:xc (p::l) k=if p.1=k then some p.2.2 else xc l k:=by
 unfold xc;rw[rG];by_cases h:p.1=k
 .rw[decide_eq_true h,if_pos h];rfl
 .rw[decide_eq_false h,if_neg h]
theorem zhx {k k':NK} {y:Xv}:∀{l:List (NK×Xv×Xv)},xc (l.map λp=>if p.1=k then (p.1,p.2.1,y) else p) k'=if k'=k then (xc l k).map (λ_=>y) else xc l k'
 |[]=>by simp[xc]
 |p::l=>by
  rw[rC,Xj,zhx (l:=l),Xj,Xj];by_cases h:p.1=k
  .rw[if_pos h,if_pos h];dsimp only;by_cases h2:k'=k
   .rw[if_pos (h.trans h2.symm),if_pos h2];rfl
   .rw[if_neg (λz=>h2 (z.symm.trans h)),if_neg h2,if_neg h2,if_neg (λz=>h2 (z.symm.trans h))]
  .rw[if_neg h,if_neg h];by_cases h2:k'=k
   .rw[if_pos h2,if_pos h2,if_neg (λz=>h (z.trans h2))]
   .rw[if_neg h2,if_neg h2]
theorem zhy {k k':NK} {x y:Xv}:∀{l:List (NK×Xv×Xv)},xc l k=none->xc (l++[(k,x,y)]) k'=if k'=k then some y else xc l k'
 |[],_=>by
  rw[AU,Xj];dsimp only;by_cases h:k'=k
  .rw[if_pos h.symm,if_pos h]
  .rw[if_neg (λz=>h z.symm),if_neg h]
 |p::l,hn=>by
  rw[Xj] at hn;by_cases h:p.1=k
  .rw[if_pos h] at hn;cases hn
  .rw[if_neg h] at hn;rw[sH,Xj,zhy hn,Xj];by_cases h2:k'=k
   .rw[if_pos h2,if_pos h2,if_neg (λz=>h (z.trans h2))]
   .rw[if_neg h2,if_neg h2]
theorem zeo {l:List (NK×Xv×Xv)} {k k':NK} {x y:Xv}:xc (Wm l k x y) k'=if k'=k then some y else xc l k':=by
 unfold Wm;split
 .rename_i h;obtain⟨u,hu⟩:=sD.1 h;rw[zhx,hu];rfl
 .rename_i h;exact zhy (by simpa using h)
theorem zlW {l:List (NK×Xv×Xv)} {k:NK} {x y:Xv}:(Wm l k x y).length<=l.length+1:=by
 unfold Wm;split<;>simp
theorem zlX {a b c d:Nat} (h:kab a b=kab c d):a=c/\b=d:=by
 unfold kab at h;injection h with h
 injection h with h1 h
 injection h with h2 h
 injection h1 with h1
 injection h2 with h2
 exact⟨tO.1 h1,tO.1 h2⟩
structure TX (ss:List Nat) (op:Q2->Q2->Q2) (fs:List zy) (a b r:Nat):Prop where
 lv:∃fa fb fr,fs[a]? =some fa/\fs[b]? =some fb/\fs[r]? =some fr/\∀l,l<=lvl ss.length fa->l<=lvl ss.length fb->l<=lvl ss.length fr
 va:∀st,yJ ss st->∀qa qb ha hb,VA fs st qa ha a->VA fs st qb hb b->∃h,VA fs st (op qa qb) h r
theorem TX.mono {a b r:Nat} (g:TX ss op fs a b r) (w:WF ss fs) (p:fs<+:fs'):TX ss op fs' a b r:=by
 obtain⟨fa,fb,fr,ea,eb,er,hl⟩:=g.lv;refine⟨⟨fa,fb,fr,yx p ea,yx p eb,yx p er,hl⟩,λst hs qa qb ha hb va vb=> ?_⟩;obtain⟨h,v⟩:=g.va st hs qa qb _ _ (va.back w p hs ea) (vb.back w p hs eb);exact⟨h,v.mono p⟩
def Vb (G:Q2->Prop) (ss:List Nat) (fs:List zy) (a:Nat):Prop:=∀st,yJ ss st->∀q h,VA fs st q h a->G q
theorem Vb.mono {G:Q2->Prop} {a:Nat} {f:zy} (v:Vb G ss fs a) (w:WF ss fs) (p:fs<+:fs') (e:fs[a]? =some f):Vb G ss fs' a:=λst hs q h u=>v st hs q _ (u.back w p hs e)
structure JS (sn fn dn kn:Nat) (bx:Xv) (ss:List Nat) (op:Q2->Q2->Q2) (fs:List zy) (l:List (NK×Xv×Xv)) (S:Sto):Prop where
 st:xh sn fn dn bx fs S
 wf:WF ss fs
 kd:S[kn]? =some (ZM l)
 kl:∀k y,xc l k=some y->∃a b r:Nat,k=kab a b/\y= .int (r:Int)/\TX ss op fs a b r
 ne:kn≠dn
theorem zio {l:List (NK×Xv×Xv)} {m:List Xv}:ZM l≠ .lst m:=by cases l<;>simp[ZM]
theorem ziq {l:List (NK×Xv×Xv)} {c:Str} {m:List (Str×Xv)}:ZM l≠ .ins c m:=by cases l<;>simp[ZM]
section
variable {l l' l2:List (NK×Xv×Xv)}
theorem JS.kf (h:JS sn fn dn kn bx ss op fs l S):kn≠fn:=λe=>by
 obtain⟨xs,_,e1,_⟩:=h.st.fd';have h1:=h.kd;rw[e,e1] at h1;exact zio (rp h1).symm
theorem JS.ks (h:JS sn fn dn kn bx ss op fs l S):kn≠sn:=λe=>by
 have h1:=h.kd;rw[e,h.st.o] at h1;exact ziq (rp h1).symm
noncomputable abbrev wJ (fn dn kn:Nat):Nat->Prop:=λn=>n=fn\/n=dn\/n=kn
structure JP (sn fn dn kn:Nat) (bx:Xv) (ss:List Nat) (op:Q2->Q2->Q2) (m:Nat) (fs:List zy) (l:List (NK×Xv×Xv)) (S:Sto) (fs':List zy) (l':List (NK×Xv×Xv)) (S':Sto):Prop where
 js:JS sn fn dn kn bx ss op fs' l' S'
 pre:fs<+:fs'
 fl:fs'.length<=fs.length+m
 ll:l'.length<=l.length+m
 kp:Kp (wJ fn dn kn) S S'
theorem JS.pre (h:JS sn fn dn kn bx ss op fs l S) (p:S<+:S'):JS sn fn dn kn bx ss op fs l S':=⟨h.st.pre p,h.wf,yx p h.kd,h.kl,h.ne⟩
theorem JS.grown {m:Nat} (h:JS sn fn dn kn bx ss op fs l S) (w:WF ss fs') (g:yN sn fn dn bx fs m S fs' S'):JS sn fn dn kn bx ss op fs' l S':=
 ⟨g.st,w,g.kp.2 _ _ h.kd (λz=>by rcases z with z|z;exact h.kf z;exact h.ne z),λk y e=>by
  obtain⟨a,b,r,e1,e2,e3⟩:=h.kl k y e
  exact⟨a,b,r,e1,e2,e3.mono h.wf g.pre⟩,h.ne⟩
theorem JP.grown {m:Nat} (h:JS sn fn dn kn bx ss op fs l S) (w:WF ss fs') (g:yN sn fn dn bx fs m S fs' S'):JP sn fn dn kn bx ss op m fs l S fs' l S':=
 ⟨h.grown w g,g.pre,g.len,⋯,g.kp.mono λn z=>z.elim .inl λz=> .inr (.inl z)⟩
theorem JP.trans {m m':Nat} {cj aY:List zy} (a:JP sn fn dn kn bx ss op m fs l S cj l' S') (b:JP sn fn dn kn bx ss op m' cj l' S' aY l2 S2):JP sn fn dn kn bx ss op (m+m') fs l S aY l2 S2:=
 ⟨b.js,a.pre.trans b.pre,by have:=a.fl;have:=b.fl;omega,by have:=a.ll;have:=b.ll;omega,a.kp.trans b.kp⟩
theorem JP.more {m m':Nat} {cj:List zy} (a:JP sn fn dn kn bx ss op m fs l S cj l' S') (h:m<=m'):JP sn fn dn kn bx ss op m' fs l S cj l' S':=⟨a.js,a.pre,by have:=a.fl;omega,by have:=a.ll;omega,a.kp⟩
theorem JP.app {m:Nat} {cj:List zy} (a:JP sn fn dn kn bx ss op m fs l S cj l' S') (p:S'<+:S2):JP sn fn dn kn bx ss op m fs l S cj l' S2:=⟨a.js.pre p,a.pre,a.fl,a.ll,a.kp.trans (Kp.pre p)⟩
theorem JS.jp (h:JS sn fn dn kn bx ss op fs l S) (p:S<+:S'):JP sn fn dn kn bx ss op 0 fs l S fs l S':=⟨h.pre p,rM _,⋯,⋯,Kp.pre p⟩
theorem JP.set {m n:Nat} {c:Ce} {cj:List zy} (h:JS sn fn dn kn bx ss op fs l S) (a:JP sn fn dn kn bx ss op m fs l S cj l' S') (hn:S.length<=n):JP sn fn dn kn bx ss op m fs l S cj l' (S'.set n c):=by
 have q:∀{k:Nat} {d:Ce},S[k]? =some d->n≠k:=λ{k d} e=>by have:=(qO.1 e).1;omega
 obtain⟨_,_,z1,z2⟩:=h.st.fd';obtain⟨xs,u1,u2,u3⟩:=a.js.st.fd';exact⟨⟨⟨xu a.js.st.o (q h.st.o),⟨xs,u1,xu u2 (q z1),xu u3 (q z2)⟩,a.js.st.nd⟩,a.js.wf,xu a.js.kd (q h.kd),a.js.kl,a.js.ne⟩,a.pre,a.fl,a.ll,a.kp.set (.inr hn)⟩
theorem JS.put {a b r:Nat} (h:JS sn fn dn kn bx ss op fs l S) (g:TX ss op fs a b r):JP sn fn dn kn bx ss op 1 fs l S fs (Wm l (kab a b) (nod a b) (.int (r:Int))) (S.set kn (ZM (Wm l (kab a b) (nod a b) (.int (r:Int))))):=by
 obtain⟨xs,u1,u2,u3⟩:=h.st.fd';refine⟨⟨⟨xu h.st.o h.ks,⟨xs,u1,xu u2 h.kf,xu u3 h.ne⟩,h.st.nd⟩,h.wf,wb h.kd,λk y e=> ?_,h.ne⟩,rM _,⋯,zlW,(Kp.refl _).set (.inl (.inr (.inr rfl)))⟩;rw[zeo] at e;split at e
 .rename_i q;cases e;exact⟨a,b,r,q,rfl,g⟩
 .exact h.kl k y e
end
theorem Kd.vb {G:Q2->Prop} {a lv m s k:Nat} (d:Kd ss fs a lv m k) (w:WF ss fs) (v:Vb G ss fs a) (es:ss[lv]? =some s) (hm:m<s):Vb G ss fs k:=by
 intro st hs q h u;rcases d with⟨ks,e1,e2⟩|⟨rfl,_⟩
 .obtain⟨_,f,e3,e4⟩:=(w.ok a lv ks e1).2.1 k (qS e2);have hl:lv<st.length:=by rw[hs.1];exact (qO.1 es).1
  exact v _ (hs.set es hm) q _ (.fork e1 (by rw[rK,if_pos rfl,if_pos hl]) e2 (u.other w zkr e3 e4))
 .exact v st hs q h u
theorem zpx (a b:Int):zim [a,b]=if b<a then b else a:=by
 unfold zim;simp only[List.headD_cons,AV,B1,Int.lt_irrefl,if_false]
end
section
variable {fu:Nat} {S S' S2:Sto} {x y z:Xv} {sn fn dn kn:Nat} {fs fs':List zy} {ss:List Nat} {op:Q2->Q2->Q2} {bl:List Xv} {l l':List (NK×Xv×Xv)}
def Jn (G:Q2->Prop) (fu sn fn dn kn:Nat) (bl:List Xv) (ss:List Nat) (op:Q2->Q2->Q2) (xs:Xv) (rj:TwF) (d c:Nat):Prop:=
 ∀{S:Sto} {fs:List zy} {l:List (NK×Xv×Xv)} {a b:Nat} {fa fb:zy},JS sn fn dn kn (.tup bl) ss op fs l S->fs[a]? =some fa->fs[b]? =some fb->ss.length<=lvl ss.length fa+d->ss.length<=lvl ss.length fb+d->Vb G ss fs a->Vb G ss fs b->fs.length+c<=1000000->l.length+c<=1000000->
  W (rj [.ref sn,nod a b,xs,.ref kn] S) λv S'=>∃(r:Nat) (fs':List zy) (l':List (NK×Xv×Xv)),v= .int (r:Int)/\TX ss op fs' a b r/\JP sn fn dn kn (.tup bl) ss op c fs l S fs' l' S'
theorem zlY {G:Q2->Prop} (aV:Bx ss bl) {xs:Xv} {rj rb:TwF} {lv s c a b:Nat} {fa fb:zy} (hj:Jn G fu sn fn dn kn bl ss op xs rj (ss.length-lv-1) c) (h:JS sn fn dn kn (.tup bl) ss op fs l S) (ea:fs[a]? =some fa) (eb:fs[b]? =some fb) (es:ss[lv]? =some s)
  (ha:lv<=lvl ss.length fa) (hb:lv<=lvl ss.length fb) (hm:lvl ss.length fa=lv\/lvl ss.length fb=lv) (va:Vb G ss fs a) (vb:Vb G ss fs b) (hf:fs.length+(1+s*c)<=1000000) (hl:l.length+(1+s*c)<=1000000):
  W (yi 4 4 (xg fu rj rb) [.ref sn,nod a b,xs,.ref kn] S) λv S'=>∃(r:Nat) (fs':List zy) (l':List (NK×Xv×Xv)),v= .int (r:Int)/\TX ss op fs' a b r/\JP sn fn dn kn (.tup bl) ss op (1+s*c) fs l S fs' l' S':=by
 have gp:=aV.siz s (qS es);have dW:=(qO.1 es).1;walk_at "wr";unfold xg;refine zk (yB (wn (zm ?_)));refine zgD (x:= .int (a:Int)) (y:= .int (b:Int)) (u:= .int (lvl ss.length fa:Int)) (v:= .int (lvl ss.length fb:Int)) (zq rfl ⟨rfl,rfl⟩) ?_ ?_ ?_
 .dsimp only[xZ,rR,qW];refine zW ?_;ext;refine⟨_,_,rfl,h.st.o,rfl,?_⟩;ext;exact TW h.st aV.len ea
 .dsimp only[xZ,rR,qW];refine zW ?_;ext;refine⟨_,_,rfl,h.st.o,rfl,?_⟩;ext;exact TW h.st aV.len eb
 ext;refine zlL (ns:=[(lvl ss.length fa:Int),(lvl ss.length fb:Int)]) xN rfl (by simp) ?_;rw[zpx,show (if (lvl ss.length fb:Int)<(lvl ss.length fa:Int) then (lvl ss.length fb:Int) else (lvl ss.length fa:Int))=(lv:Int) by split<;>omega];dsimp only[qW];have j0:=h.jp (qQ S [.lst [.int (lvl ss.length fa:Int),.int (lvl ss.length fb:Int)]]);generalize S++[Ce.lst [.int (lvl ss.length fa:Int),.int (lvl ss.length fb:Int)]]=S1 at j0;ext;have lg:S.length<=S1.length:=j0.kp.1;have j1:=j0.app (qQ S1 [.lst []]);have n4:(S1++[Ce.lst []])[S1.length]? =some (.lst (ksX [])):=yy;generalize qF:S1++[Ce.lst []]=S2 at j1 n4;refine vR (wD (yw (yw (xK ?_))));ext;refine⟨_,_,_,rfl,j1.js.st.o,rfl,?_⟩;ext;obtain⟨nm,fR⟩:=aV.at_ lv s es;refine zG (l:=bl) rfl (zQ fR) ?_;ext;refine⟨⟨⋯,⋯⟩,_,rfl,?_⟩;rw[rH]
 refine wC (xs:=xy 0 s) (λi ρ S3=>∃(cG:List zy) (l3:List (NK×Xv×Xv)) (ks:List Nat) (a6 a7:Option Xv),ρ=[some (.ref sn),some (nod a b),some xs,some (.ref kn),some (.int (lv:Int)),some (.ref S1.length),a6,a7]/\JP sn fn dn kn (.tup bl) ss op (i*c) fs l S cG l3 S3/\S3[S1.length]? =some (.lst (ksX ks))/\ks.length=i/\
   ∀(m k:Nat),ks[m]? =some k->∃am bm,Kd ss cG a lv m am/\Kd ss cG b lv m bm/\TX ss op cG am bm k) (λ_ _ _ _ _=>rfl) ?_ ?_ ?_
 .rintro i w ρ S3 hw ⟨cG,l3,ks,a6,a7,rfl,j3,du,cu,cM⟩;obtain⟨hi,rfl⟩:=yX hw;rw[sy];refine .of rfl ?_;dsimp only[qW];have w3:=j3.js.wf;obtain⟨am,da,ta⟩:=zem (fu:=fu) j3.js.st w3 aV.len (yx j3.pre ea) ha es hi;obtain⟨bm,db,tb⟩:=zem (fu:=fu) j3.js.st w3 aV.len (yx j3.pre eb) hb es hi;refine zk (yB (wn (zm ?_)));refine zgD (x:= .int (a:Int)) (y:= .int (b:Int)) (u:= .int (am:Int)) (v:= .int (bm:Int)) (zq rfl ⟨rfl,rfl⟩) ?_ ?_ ?_
  .dsimp only[xZ,rR,qW];refine zW ?_;ext;refine⟨_,_,rfl,j3.js.st.o,rfl,?_⟩;ext;exact ta
  .dsimp only[xZ,rR,qW];refine zW ?_;ext;refine⟨_,_,rfl,j3.js.st.o,rfl,?_⟩;ext;exact tb
  ext;refine TV yy ?_;dsimp only[qW];have j4:=j3.app (qQ S3 [.lst [.int (am:Int),.int (bm:Int)]]);have fN:=yx (qQ S3 [Ce.lst [.int (am:Int),.int (bm:Int)]]) du;generalize S3++[Ce.lst [.int (am:Int),.int (bm:Int)]]=S4 at j4 fN;refine wB (Yc ?_);ext;refine⟨⟨_,zh fN⟩,zm (zW ?_)⟩;ext;refine⟨_,_,rfl,j4.js.st.o,rfl,?_⟩;ext;obtain⟨pQ,e1,e2⟩:=da.lv w3;obtain⟨pP,e3,e4⟩:=db.lv w3;have jD:(i+1)*c<=s*c:=rN _ hi;have gW:(i+1)*c=i*c+c:=sM i c;have f3:=j3.fl;have g3:=j3.ll;have v1:=va.mono h.wf j3.pre ea;have v2:=vb.mono h.wf j3.pre eb;refine (hj j4.js e1 e3 ⋯ ⋯ (da.vb w3 v1 es hi) (db.vb w3 v2 es hi) ⋯ ⋯).imp ?_;rintro _ S5 ⟨r,pN,l5,rfl,gd,j5⟩;ext;have eV:¬wJ fn dn kn S1.length:=λz=>by
   have q:∀{n:Nat} {d:Ce},S[n]? =some d->S1.length≠n:=λ{n d} e z=>by have:=(qO.1 e).1;omega
   obtain⟨_,_,z1,z2⟩:=h.st.fd';rcases z with z|z|z
   .exact q z1 z
   .exact q z2 z
   .exact q h.kd z
  have i9:=j5.kp.2 _ _ fN eV;have nW:=j4.trans j5;refine vp (wQ i9) (by rw[yW];exact VN ⋯) ?_;refine⟨pN,l5,ks++[r],_,_,rfl,(nW.set h lg).more ⋯,?_,by simp[cu],λm k e=> ?_⟩
  .rw[wb i9,Vc]
  .rcases rW m ks.length with bX|bX|bX
   .rw[qR bX] at e;obtain⟨am',bm',d1,d2,g⟩:=cM m k e;exact⟨am',bm',d1.mono j5.pre,d2.mono j5.pre,g.mono w3 j5.pre⟩
   .subst bX;rw[qU (qT _),su] at e;cases e;rw[cu];exact⟨am,bm,da.mono j5.pre,db.mono j5.pre,gd⟩
   .rw[r6 (by simp;omega)] at e;cases e
 .exact⟨fs,l,[],none,none,rfl,j1.more ⋯,n4,rfl,λm k e=>by simp at e⟩
 .rintro ρ S3 ⟨cG,l3,ks,a6,a7,rfl,j3,du,cu,cM⟩;rw[yj] at j3 cu;have w3:=j3.js.wf;have f3:=j3.fl;have g3:=j3.ll;have h0:ks[0]? =some ks[0]:=qN ⋯;refine yf (zW ?_);ext;refine⟨_,_,rfl,j3.js.st.o,rfl,?_⟩;ext;refine (zaq j3.js.st ⋯ du h0 ⋯).imp ?_;rintro _ S4 ⟨r,dm,rfl,fo,ad,g⟩;have dR:∀k∈ks,∃f,cG[k]? =some f/\lv<lvl ss.length f:=λk hk=>by
   obtain⟨m,bX⟩:=rL hk;obtain⟨am,bm,d1,d2,gd⟩:=cM m k bX;obtain⟨pQ,e1,e2⟩:=d1.lv w3;obtain⟨pP,e3,e4⟩:=d2.lv w3;obtain⟨p,q,fr,q1,q2,q3,q4⟩:=gd.lv;rw[e1] at q1;rw[e3] at q2;cases q1;cases q2;exact⟨fr,q3,q4 (lv+1) e2 e4⟩
  have w4:WF ss dm:=by
   rcases ad with rfl|⟨cV,ad⟩
   .exact w3
   .refine w3.fork g.st.nd (.inr ad) es cu dR λz=>cV λk hk=> ?_;exact z k hk ks[0] (rq _)
  refine⟨r,dm,l3,rfl,⟨⟨fa,fb,?_⟩,λst hs qa qb h1 h2 v1 v2=> ?_⟩,(j3.trans (JP.grown j3.js w4 g)).more ⋯⟩
  .have p4:=j3.pre.trans g.pre;have gj:∀q,q<=lvl ss.length fa->q<=lvl ss.length fb->q<=lv:=λq h1 h2=>by omega
   obtain⟨k0,e0,⟨all,rfl⟩|⟨_,e⟩⟩:=fo
   .obtain⟨f,e1,e2⟩:=dR r (qS e0);exact⟨f,yx p4 ea,yx p4 eb,yx g.pre e1,λq h1 h2=>by have:=gj q h1 h2;omega⟩
   .exact⟨_,yx p4 ea,yx p4 eb,e,λq h1 h2=>gj q h1 h2⟩
  .obtain⟨m,em,bX⟩:=hs.get es;have ek:ks[m]? =some ks[m]:=qN ⋯;obtain⟨am,bm,d1,d2,gd⟩:=cM m _ ek;obtain⟨iy,u1⟩:=(d1.mono g.pre).va v1 em;obtain⟨hW,u2⟩:=(d2.mono g.pre).va v2 em;obtain⟨h3,u3⟩:=(gd.mono w3 g.pre).va st hs qa qb _ _ u1 u2;exact⟨_,fo.va em ek u3⟩
theorem zku {f:zy} {i:Nat} (w:WF ss fs) (e:fs[i]? =some f) (h:isF f=true):lvl ss.length f<ss.length:=by
 cases f with
 |leaf q=>cases h
 |fork lv ks=>
  obtain⟨⟨s,es,_⟩,_⟩:=w.ok i lv ks e;exact (qO.1 es).1
theorem zkv (aV:Bx ss bl) (hz:∃st,yJ ss st) {G:Q2->Prop} {xr:Xv} (hr:zar fu G xr op):∀(d N:Nat),2*d+1<=N->Jn G fu sn fn dn kn bl ss op (.lam zaE [.ref sn,xr]) (yh fu N) d (cst ss d):=by
 intro d
 induction d using Nat.strongRecOn with
 |_ d ih=>
  intro N hN S fs l a b fa fb h ea eb ha hb va vb hf hl;obtain⟨N,rfl⟩:∃M,N=M+1:=⟨N-1,⋯⟩;have c2:2<=cst ss d:=by unfold cst;cases ss.drop (ss.length-d)<;>simp[wt]
  rw[Yf];walk_at "wr";unfold vO;refine zk (YS (λρ S2=>∃(a4:Option Xv) (r:Nat) (fs':List zy) (l':List (NK×Xv×Xv)),ρ=[some (.ref sn),some (nod a b),some (.lam zaE [.ref sn,xr]),some (.ref kn),a4]/\TX ss op fs' a b r/\xc l' (kab a b)=some (.int (r:Int))/\JP sn fn dn kn (.tup bl) ss op (cst ss d) fs l S fs' l' S2) (zC ?_) ?_)
  .refine xT (zhk ?_);ext;refine⟨_,Ti h.kd (za7 a b) rfl,_,rfl,λz=> ?_,λz=>zr ?_⟩
   .refine zk (yB (zbY rfl Tp ?_));ext;unfold zhr;refine Tq rfl rfl ?_;unfold zps;dsimp only[rR,ud,uA,uU];refine zW ?_;ext;refine⟨_,_,rfl,h.st.o,rfl,?_⟩;ext;have leafFb:∀{i:Nat} {f:zy},fs[i]? =some f->Vb G ss fs i->∀q,f= .leaf q->G q:=λ{i f} e v q eq=>by
     obtain⟨st,hs⟩:=hz;subst eq;exact v st hs q 0 (.leaf e)
    refine (zkt ⋯ h.st ea eb hr (leafFb ea va) (leafFb eb vb)).imp ?_;rintro w S1 (⟨rfl,hF,p⟩|⟨qa,qb,i,cj,rfl,rfl,rfl,e1,ad,g⟩)
    .dsimp only[qW];refine zbP (WK (xT (zjK ?_)));ext;refine WO.of (show zf9 .non S1=some (.bl true,S1) from rfl) ⟨_,rfl,λ_=> ?_,nofun⟩;have j1:=h.jp p;refine zW ?_;ext;refine⟨_,_,rfl,j1.js.st.o,rfl,?_⟩;ext;have key:∃lv s,ss[lv]? =some s/\lv<=lvl ss.length fa/\lv<=lvl ss.length fb/\(lvl ss.length fa=lv\/lvl ss.length fb=lv):=by
      have di:min (lvl ss.length fa) (lvl ss.length fb)<ss.length:=by
       rw[uK] at hF;rcases hF with hF|hF
       .have:=zku h.wf ea hF;omega
       .have:=zku h.wf eb hF;omega
      exact⟨_,_,qN di,⋯,⋯,⋯⟩
     obtain⟨lv,s,es,l1,l2,l3⟩:=key;have dW:=(qO.1 es).1;obtain⟨M,rfl⟩:∃M,N=M+1:=⟨N-1,⋯⟩;rw[vh];have hc:2+s*cst ss (ss.length-lv-1)<=cst ss d:=by
      rw[<-zen es];exact zch (λt ht=>(aV.siz t ht).1) ⋯
     refine (zlY aV (ih (ss.length-lv-1) ⋯ M ⋯) j1.js ea eb es l1 l2 l3 va vb ⋯ ⋯).imp ?_;rintro _ S2 ⟨r,aY,nS,rfl,gd,j2⟩;ext;have jl:=j2.ll;refine⟨_,zhw j2.js.kd (za7 a b) rfl (rX (show nS.length<=1000000 by omega) ∅),_,r,aY,_,rfl,gd,?_,((j1.trans j2).trans (j2.js.put gd)).more ⋯⟩;rw[zeo,if_pos rfl]
    .dsimp only[qW];refine zbP (WK (xT (zjK ?_)));ext;refine WO.of (show zf9 (.int (i:Int)) S1=some (.bl false,S1) from rfl) ⟨_,rfl,λz=>(by cases z),λ_=> ?_⟩;ext;have w1:WF ss cj:=h.wf.leaf g.st.nd ad;have j1:=JP.grown h w1 g;have gd:TX ss op cj a b i:=by
      refine⟨⟨_,_,_,yx g.pre ea,yx g.pre eb,e1,λq h1 _=>h1⟩,λst hs pa pb h1 h2 v1 v2=>⟨0,?_⟩⟩;have q1:=v1.uniq (.leaf (h:=0) (yx g.pre ea));have q2:=v2.uniq (.leaf (h:=0) (yx g.pre eb));subst q1 q2;exact .leaf e1
     refine⟨_,zhw j1.js.kd (za7 a b) rfl (rX (show l.length<=1000000 by omega) ∅),_,i,cj,_,rfl,gd,?_,(j1.trans (j1.js.put gd)).more ⋯⟩;rw[zeo,if_pos rfl]
   .cases e:xc l (kab a b) with
    |none=>rw[e] at z;cases z
    |some y=>
     obtain⟨a',b',r,e1,rfl,gd⟩:=h.kl _ _ e;obtain⟨rfl,rfl⟩:=zlX e1;exact⟨none,r,fs,l,rfl,gd,e,(h.jp (rM _)).more ⋯⟩
  .rintro _ S2 ⟨a4,r,fs',l',rfl,gd,hv,j⟩;refine yf (ze8 ?_);ext;exact⟨_,by rw[Ti j.js.kd (za7 a b) rfl,hv],r,fs',l',rfl,gd,j⟩
end
section
variable {fu:Nat} {S S' S2:Sto} {x y z:Xv} {sn fn dn kn:Nat} {fs fs':List zy} {ss:List Nat} {op:Q2->Q2->Q2} {bl:List Xv}
structure Tb (S:Sto):Prop where
 t1:S[1]? =some (.tab TC.t)
 t2:S[2]? =some (.tab TD.t)
 t3:S[3]? =some (.tab TF.t)
 t4:S[4]? =some (.tab zaE.t)
 t5:S[5]? =some (.tab zaF.t)
theorem Tb.keep {w:Nat->Prop} (h:Tb S) (k:Kp w S S') (hw:∀i,1<=i->i<=5->¬w i):Tb S':=⟨k.2 _ _ h.t1 (hw 1 ⋯ ⋯),k.2 _ _ h.t2 (hw 2 ⋯ ⋯),k.2 _ _ h.t3 (hw 3 ⋯ ⋯),k.2 _ _ h.t4 (hw 4 ⋯ ⋯),k.2 _ _ h.t5 (hw 5 ⋯ ⋯)⟩
theorem Tb.pre (h:Tb S) (p:S<+:S'):Tb S':=h.keep (Kp.pre (w:=λ_=>False) p) λ_ _ _ z=>z
theorem UN (aV:Bx9 ss bl) (hz:∃st,yJ ss st) {G:Q2->Prop} {xr:Xv} (hr:zar fu G xr op) (h:xh sn fn dn (.tup bl) fs S) (w:WF ss fs) (ht:Tb S) {a b:Nat} {fa fb:zy} (ea:fs[a]? =some fa) (eb:fs[b]? =some fb) (va:Vb G ss fs a) (vb:Vb G ss fs b) (hf:fs.length+cst ss ss.length<=1000000) (hc:cst ss ss.length<=1000000):
  W (xp fu [.ref sn,nod a b,xr] S) λv S'=>∃(r:Nat) (fs':List zy),v= .int (r:Int)/\TX ss op fs' a b r/\WF ss fs'/\yN sn fn dn (.tup bl) fs (cst ss ss.length) S fs' S':=by
 walk_at "wr";unfold vi;refine yf (Vy ?_);ext;refine⟨_,_,rfl,h.o,rfl,?_⟩;refine zm (zq rfl (zm (zbX ht.t4 rfl ?_)));ext;have p:=qQ S [Ce.dk []];have hd:=h.flt.2;have js:JS sn fn dn S.length (.tup bl) ss op fs [] (S++[.dk []]):=⟨h.pre p,w,yy,λk y e=>by simp[xc] at e,⋯⟩;refine (zkv aV.toBx hz hr ss.length 24 (by have:=aV.l9;omega) js ea eb ⋯ ⋯ va vb hf (by simpa using hc)).imp ?_;rintro _ S2 ⟨r,aY,l2,rfl,gd,j⟩;refine⟨r,aY,rfl,gd,j.js.wf,⟨j.js.st,j.pre,j.fl,⟨by have:=j.kp.1;rw[rd] at this;omega,λn c e nw=> ?_⟩⟩⟩;have hn:=(qO.1 e).1;exact j.kp.2 _ _ (yx p e) λz=>by
  rcases z with z|z|z
  .exact nw (.inl z)
  .exact nw (.inr z)
  .omega
end
section
variable {fu:Nat} {S S' S2:Sto} {x y z:Xv} {ss:List Nat}
noncomputable def prd:List Nat->Nat
 |[]=>1
 |s::r=>s*prd r
noncomputable def idx:List Nat->List Nat->Nat
 |_::r,x::t=>x*prd r+idx r t
 |_,_=>0
theorem TY:∀(r:List Nat) (s:Nat),prd (r++[s])=prd r*s
 |[],s=>by simp[prd]
 |a::r,s=>by rw[sH,prd,prd,TY r s,B5]
theorem zfu:∀(r t:List Nat) (s x:Nat),r.length=t.length->idx (r++[s]) (t++[x])=idx r t*s+x
 |[],[],s,x,_=>by simp[idx,prd]
 |[],_::_,_,_,h=>by cases h
 |_::_,[],_,_,h=>by cases h
 |a::r,y::t,s,x,h=>by
  rw[sH,sH,idx,idx,zfu r t s x (by simpa using h),TY,Nat.add_mul,B5];omega
structure ww (ss:List Nat) (L:List (List Nat)):Prop where
 len:L.length=prd ss
 at_:∀(k:Nat) st,L[k]? =some st->yJ ss st/\idx ss st=k
noncomputable def zci (s:Nat) (st:List Nat):List (List Nat):=(sC s).map λx=>st++[x]
theorem TZ {s:Nat} {st:List Nat}:(zci s st).length=s:=by simp[zci]
theorem zlZ {s k:Nat} {st w:List Nat} (h:(zci s st)[k]? =some w):k<s/\w=st++[k]:=by
 unfold zci at h;rw[qY] at h;cases e:(sC s)[k]? with
 |none=>rw[e] at h;cases h
 |some x=>
  rw[e] at h;cases h;obtain⟨h1,h2⟩:=qO.1 e;simp at h1 h2;exact⟨h1,by rw[h2]⟩
theorem zhz {s:Nat} (hs:0<s):∀(L:List (List Nat)) (k:Nat) (w:List Nat),(L.flatMap (zci s))[k]? =some w->∃st,L[k / s]? =some st/\w=st++[k % s]
 |[],k,w,h=>by simp at h
 |a::L,k,w,h=>by
  rw[Ay] at h;by_cases hk:k<s
  .rw[qR (by rw[TZ];exact hk)] at h;obtain⟨h1,h2⟩:=zlZ h;exact⟨a,by rw[Nat.div_eq_of_lt hk];rfl,by rw[Nat.mod_eq_of_lt hk];exact h2⟩
  .rw[qU (by rw[TZ];omega),TZ] at h;obtain⟨st,h1,h2⟩:=zhz hs L (k-s) w h;have hd:k / s=(k-s) / s+1:=Nat.div_eq_sub_div hs ⋯;have hm:k % s=(k-s) % s:=Nat.mod_eq_sub_mod ⋯;exact⟨st,by rw[hd];exact h1,by rw[hm];exact h2⟩
theorem zcj {s:Nat}:∀(L:List (List Nat)),(L.flatMap (zci s)).length=L.length*s
 |[]=>by simp
 |a::L=>by rw[Ay,rd,TZ,zcj L,ra,sM];omega
theorem yJ.snoc {st:List Nat} {s x:Nat} (h:yJ ss st) (hx:x<s):yJ (ss++[s]) (st++[x]):=by
 refine⟨by simp[h.1],λi a t e1 e2=> ?_⟩;rcases rW i ss.length with hi|hi|hi
 .rw[qR (by rw[h.1];exact hi)] at e1;rw[qR hi] at e2;exact h.2 i a t e1 e2
 .subst hi;rw[qU (qT _),su] at e2;rw[qU (tJ h.1),h.1,su] at e1;cases e1;cases e2;exact hx
 .rw[r6 (by simp;omega)] at e2;cases e2
theorem ww.ext {L:List (List Nat)} {s:Nat} (h:ww ss L) (hs:0<s):ww (ss++[s]) (L.flatMap (zci s)):=by
 refine⟨by rw[zcj,h.len,TY],λk w e=> ?_⟩;obtain⟨st,h1,rfl⟩:=zhz hs L k w e;obtain⟨h2,h3⟩:=h.at_ _ st h1;refine⟨h2.snoc (AW _ hs),?_⟩;rw[zfu _ _ _ _ h2.1.symm,h3,Nat.mul_comm];exact AX k s
theorem ww.nil:ww [] [[]]:=⟨rfl,λk st e=>by
 cases k with
 |zero=>cases e;exact⟨⟨rfl,λi x s e=>by simp at e⟩,rfl⟩
 |succ k=>simp at e⟩
noncomputable def Ze (L:List (List Nat)):List Xv:=L.map λst=> .tup (ksX st)
theorem zir {zs:List Xv} (h:yH S y=some zs):Wk S y=some zs:=by
 cases y with
 |ref n=>exact h
 |_=>cases h
theorem zis {P:Xv->Sto->Prop} {n:Nat} {l zs:List Xv} (h:Uh S x=some (n,l)) (h2:yH S y=some zs) (hl:l.length+zs.length<=sizeLine) (k:P .non (S.set n (.lst (l++zs)))):WO (UZ x [y] S) P:= .of (by
 unfold UZ;rw[h];dsimp only
 rw[show Wk S y=some zs from zir h2,r0,if_pos hl]) k
theorem Ue {P:Xv->Sto->Prop} {a b:List Xv} (h:a.length+b.length<=1000) (k:P (.tup (a++b)) S):WO (Wl (.tup a) (.tup b) S) P:= .of (by unfold Wl;exact if_pos (rS (rX h ∅))) k
theorem VP {n:Nat} (h:n<=1000):n<sizeLine:=rX h ∅
noncomputable abbrev K0:Nat->Prop:=λ_=>False
theorem zl0 {L:List (List Nat)} {k:Nat} {st:List Nat} (h:L[k]? =some st):(Ze L)[k]? =some (.tup (ksX st)):=by unfold Ze;rw[qY,h];rfl
theorem zck {L:List (List Nat)} {k:Nat} {w:Xv} (h:(Ze L)[k]? =some w):∃st,L[k]? =some st/\w= .tup (ksX st):=by
 unfold Ze at h;rw[qY] at h;cases e:L[k]? with
 |none=>rw[e] at h;cases h
 |some st=>rw[e] at h;cases h;exact⟨st,rfl,rfl⟩
theorem Xk (L:List (List Nat)):(Ze L).length=L.length:=by simp[Ze]
theorem zaG:∀(ss:List Nat) (k:Nat),(∀s∈ss,1<=s)->prd (ss.take k)<=prd ss
 |_,0,h=>by
  rename_i ss;simp only[List.take_zero,prd]
  induction ss with
  |nil=>exact qT _
  |cons s r ih=>
   have:=ih λt ht=>h t (r9 _ ht);have:=h s rE;exact uV ⋯ ⋯
 |[],k+1,_=>by simp
 |s::r,k+1,h=>by
  rw[List.take_succ_cons,prd,prd];exact ua _ (zaG r k λt ht=>h t (r9 _ ht))
theorem yJ.len9 {L:List (List Nat)} {k:Nat} {st:List Nat} (h:ww ss L) (e:L[k]? =some st):st.length=ss.length:=(h.at_ k st e).1.1
theorem zkw {bl:List Xv} (aV:Bx ss bl) (h9:ss.length<=9) (hp:prd ss<=1000):W (Xi fu [.tup bl] S) λv S'=>∃(n:Nat) (L:List (List Nat)),v= .ref n/\S'[n]? =some (.lst (Ze L))/\ww ss L/\S.length<=n/\Kp K0 S S':=by
 walk_at "wr";unfold Zv;ext;refine vR (zeZ ?_);ext;have dg:∀s∈ss,1<=s:=λs hs=>(aV.siz s hs).1;refine wC (xs:=bl) (λi ρ S1=>∃(n:Nat) (L:List (List Nat)) (a2 a3 a4:Option Xv),ρ=[some (.tup bl),some (.ref n),a2,a3,a4]/\S1[n]? =some (.lst (Ze L))/\ww (ss.take i) L/\S.length<=n/\Kp K0 S S1) (λ_ _ _ _ _=>rfl) ?_ ?_ ?_
 .rintro i w ρ S1 hw ⟨n,L,a2,a3,a4,rfl,hn,gl,eS,k1⟩;have hi:i<ss.length:=by rw[<-aV.len];exact (qO.1 hw).1
  have es:ss[i]? =some ss[i]:=qN hi;obtain⟨nm,hb⟩:=aV.at_ i _ es;rw[hw] at hb;cases hb;have gp:=aV.siz _ (rq hi);have lO:=gl.ext (s:=ss[i]) gp.1;have htk:ss.take i++[ss[i]]=ss.take (i+1):=by rw[si hi]
  rw[htk] at lO;have iU:(L.flatMap (zci ss[i])).length<=1000:=by rw[lO.len];exact rk (zaG ss _ dg) hp
  refine .of rfl ?_;dsimp only[qW];ext;refine vR (zaC ?_);ext;have k2:Kp K0 S (S1++[.lst []]):=k1.app;have dh:=yx (qQ S1 [Ce.lst []]) hn;have oT:=(qO.1 hn).1;have nj:=k1.1;refine⟨_,zh dh,_,zh dh,?_⟩;refine wC (xs:=Ze L) (λj ρ S2=>∃(a4:Option Xv),ρ=[some (.tup bl),some (.ref n),some (.tup [nm,.int (ss[i]:Int)]),some (.ref S1.length),a4]/\S2[n]? =some (.lst (Ze L))/\S2[S1.length]? =some (.lst (Ze ((L.take j).flatMap (zci ss[i]))))/\Kp K0 S S2) (λj ρ S2 _ h=>by obtain⟨_,_,h,_⟩:=h;exact zh h) ?_ ?_ ?_
  .rintro j w ρ S2 hw ⟨a4,rfl,h1,h2,k3⟩;obtain⟨st,dP,rfl⟩:=zck hw;have gI:st.length=i:=by rw[yJ.len9 gl dP,sG];omega
   have hj:=(qO.1 dP).1;refine .of rfl ?_;dsimp only[qW];refine wB (Yc ?_);ext;refine⟨⟨_,zh h2⟩,zm (xH (wD ?_))⟩;ext;refine⟨⟨⋯,⋯⟩,_,rfl,?_⟩;rw[rH];refine xn (xs:=xy 0 ss[i]) (by rw[yj];exact rS (VN ⋯)) (λm es S3=>S3=S2/\es=Ze ((sC m).map λx=>st++[x])) (λ_ _ _ _ _=>rfl) ?_ ⟨rfl,rfl⟩ ?_
   .rintro m w es S3 hw fO ⟨rfl,rfl⟩;obtain⟨hm,rfl⟩:=yX hw;rw[sy];refine .of rfl ?_;dsimp only[xZ,rR,qW];ext;refine⟨rfl,?_⟩;ext;refine Ue (by rw[yW];simp;omega) ⟨rfl,?_⟩;rw[List.range_succ,sk];simp[Ze,ksX]
   .rintro es S3 _ ⟨rfl,rfl⟩;rw[yj];ext;have hW:=yx (qQ S3 [Ce.lst (Ze ((sC ss[i]).map λx=>st++[x]))]) h2;have iy:=yx (qQ S3 [Ce.lst (Ze ((sC ss[i]).map λx=>st++[x]))]) h1;have mZ:((L.take j).flatMap (zci ss[i])).length+ss[i]<=1000:=by
     rw[zcj] at iU ⊢;rw[sG];have:(j+1)*ss[i]<=L.length*ss[i]:=rN _ hj;rw[sM] at this;have kS:min j L.length=j:=by omega
     rw[kS];omega
    refine zis (wQ hW) xN (by rw[Xk,Xk,qV,List.length_range];exact rS (VP mZ)) ?_;refine⟨some (.tup (ksX st)),rfl,xu iy ⋯,?_,(k3.app).set (.inr ⋯)⟩;rw[wb hW,si hj,List.flatMap_append,(qO.1 dP).2];simp[Ze,zci]
  .exact⟨_,rfl,dh,yy,k2⟩
  .rintro ρ S2 ⟨a4,rfl,h1,h2,k3⟩;rw[Xk,tL] at h2;ext;exact⟨S1.length,_,_,_,_,rfl,h2,lO,nj,k3⟩
 .exact⟨S.length,[[]],none,none,none,rfl,yy,ww.nil,qT _,Kp.pre (qQ _ _)⟩
 .rintro ρ S1 ⟨n,L,a2,a3,a4,rfl,hn,gl,eS,k1⟩;rw[aV.len,tL] at gl;ext;exact⟨n,L,rfl,hn,gl,eS,k1⟩
end
section
variable {fu:Nat} {mx:Nat} {S S' S2:Sto} {x y:Xv} {ln:Nat}
theorem zep {P:Xv->Sto->Prop} {a b:Str} (h:a.length+b.length<=sizeLine) (k:P (.str (a++b)) S):WO (Tc (.str a) (.str b) S) P:= .of (by unfold Tc;exact if_pos h) k
theorem zgF {P:Xv->Sto->Prop} {a:Str} {lo hi:Option Int} (h:a.length<=sizeLine) (k:P (.str (Txt.slice a lo hi)) S):WO (zbv (.str a) lo hi S) P:= .of (by unfold zbv;exact if_pos h) k
theorem Zw {n:Nat} (h:n<=100):n<=sizeLine:=rS (VN h)
theorem zn9 {v:Int} (h0:0<=v) (h1:v<26):∃c:Str,c.length=1/\zh7 (.str "abcdefghijklmnopqrstuvwxyz") (.int v) S=some (.str c,S):=by
 have all:∀n:Fin 26,(Str.ofString "abcdefghijklmnopqrstuvwxyz").cps.toList[n.1]? =some (97+n.1):=by decide
 obtain⟨n,rfl⟩:∃n:Nat,v=n:=⟨v.toNat,⋯⟩;have e:=all ⟨n,⋯⟩;refine⟨⟨#[97+n]⟩,rfl,?_⟩;unfold zh7 zo1;dsimp only;rw[if_pos ∅,zbM ⋯ (by rw[rH];exact e)];rfl
theorem zkx {n:Int} {k:Nat} (hk:k<=8):W (Zt fu [.int n,.int (k:Int)] S) λv S'=>∃z:Str,v= .str z/\z.length=k/\S'=S:=by
 walk_at "wr";unfold YC;ext;refine vR (wD ?_);ext;refine⟨⟨⋯,⋯⟩,_,rfl,?_⟩;refine wC (λi ρ S2=>∃(m:Int) (z:Str) (a3:Option Xv),ρ=[some (.int m),some (.int (k:Int)),some (.str z),a3]/\z.length=i/\S2=S) (λ_ _ _ _ _=>rfl) ?_ ?_ ?_
 .rintro i w ρ S2 hw ⟨m,z,a3,rfl,hz,rfl⟩;obtain⟨hi,rfl⟩:=yX hw;refine .of rfl ?_;dsimp only[qW];ext;refine YT ∅ ?_;obtain⟨c,hc,e⟩:=zn9 (S:=S2) (sX m (show (26:Int)≠0 by decide)) (tE m (show (0:Int)<26 by decide));refine WO.of e ?_;refine zep (Zw ⋯) ?_;ext;refine zdV ∅ ?_;ext;exact⟨_,_,_,rfl,by rw[Str.length_append];omega,rfl⟩
 .exact⟨n,_,none,rfl,rfl,rfl⟩
 .rintro ρ S2 ⟨m,z,a3,rfl,hz,rfl⟩;rw[yj,rH] at hz;ext;exact⟨hz,rfl⟩
noncomputable def Wt (zs:List Str):List Xv:=zs.map Xv.str
theorem zgG {P:Xv->Sto->Prop} {size:Nat} {ρ:Rho} {cap:List (Option Nat)} {e n:TwE} (hs:size<=100)
  (hn:W (n ρ S) λv S'=>v= .int (size:Int)/\S'=S)
  (he:∀k:Nat,k<size->W (e ((xZ cap ρ).set 0 (some (.int (k:Int)))) S) λv S'=>∃z:Str,v= .str z/\S'=S)
  (k:∀zs:List Str,zs.length=size->P (.ref S.length) (S++[.lst (Wt zs)])):W (xm cap (iR1 n) (gN 0) xi e ρ S) P:=by
 refine xH (wD (hn.imp ?_));rintro _ S1 ⟨rfl,rfl⟩;refine⟨_,rfl,⟨⋯,⋯⟩,_,rfl,?_⟩;refine xn (by rw[yj];exact Zw ⋯) (λi es S2=>S2=S1/\∃zs:List Str,es=Wt zs) (λ_ _ _ _ _=>rfl) ?_ ⟨rfl,[],rfl⟩ ?_
 .rintro i w es S2 hw fO ⟨rfl,zs,rfl⟩;obtain⟨hi,rfl⟩:=yX hw;rw[sy];refine .of rfl ?_;ext;refine⟨rfl,?_⟩;refine (he i ⋯).imp ?_;rintro _ S3 ⟨z,rfl,rfl⟩;exact⟨rfl,zs++[z],by simp[Wt]⟩
 .rintro es S2 hlen ⟨rfl,zs,rfl⟩;rw[yj,rH] at hlen;exact k zs (by simpa [Wt] using hlen)
theorem yl.app {T:Sto} (h:yl mx ln S):yl mx ln (S++T):=h.keep (Kp.pre (w:=λ_=>False) (qQ _ _)) id
theorem zl1 {m:Nat} (hl:yl mx ln S) (hm:m<=9):W (XY fu [.ref ln,.int (m:Int)] S) λv S'=>∃(n:Nat) (zs:List Str),v= .ref n/\zs.length=m/\S'[n]? =some (.lst (Wt zs))/\S.length<=n/\yl mx ln S'/\Kp (· =ln) S S':=by
 walk_at "wr";unfold ZR;ext;refine (vk hl ∅).imp ?_;rintro _ S1 ⟨way,rfl,w0,w1,l1,k1⟩;ext;refine zC ?_;ext;refine yQ (λhc=> ?_) (λhc=> ?_)
 .ext;refine (vk l1.app ∅).imp ?_;rintro _ S2 ⟨tn,rfl,t0,t1,l2,k2⟩;refine yf ?_;have hn:¬S1.length=ln:=λe=>by
   obtain⟨ns,en,_⟩:=l1;have:=(qO.1 en).1;omega
  have e2:=k2.2 _ _ yy hn;refine zgG (size:=m) ⋯ (by ext;exact⟨rfl,rfl⟩) ?_ ?_
  .intro k hk;dsimp only[xZ,rR,qW];ext;refine YT ∅ ?_;have h0:=sX (tn+(k:Int)) (show (13:Int)≠0 by decide);have h1:=tE (tn+(k:Int)) (show (0:Int)<13 by decide);generalize (tn+(k:Int)) % 13=j at h0 h1;obtain⟨j,rfl⟩:∃jn:Nat,j=(jn:Int):=⟨j.toNat,⋯⟩;have h1:j<13:=by omega
   refine zU (zh e2) (zQ (z:= .str ((["pass","end","lost","set","hand","draw","if","gain","while","look","times","leaf","fork"]:List Str).getD j "")) ?_) ⟨_,rfl,rfl⟩
   match j,h1 with
   |0,_=>rfl
   |1,_=>rfl
   |2,_=>rfl
   |3,_=>rfl
   |4,_=>rfl
   |5,_=>rfl
   |6,_=>rfl
   |7,_=>rfl
   |8,_=>rfl
   |9,_=>rfl
   |10,_=>rfl
   |11,_=>rfl
   |12,_=>rfl
   |j+13,h=>exact absurd h ⋯
  .intro zs hz;have kk:=k1.trans ((Kp.pre (qQ _ _)).trans k2);exact⟨_,zs,rfl,hz,yy,kk.1,l2.app,kk.app⟩
 .ext;refine (vk l1 ∅).imp ?_;rintro _ S2 ⟨c,rfl,c0,c1,l2,k2⟩;ext;refine (zkx (k:=8) ∅).imp ?_;rintro _ S3 ⟨z,rfl,hz,rfl⟩;have kk:=k1.trans k2;refine zk (zC (UD ?_));ext;have go:∀{N:Rho->Sto->Prop} {R:Xv->Sto->Prop},(∀S4,yl mx ln S4->Kp (· =ln) S S4->∀zs:List Str,zs.length=m->R (.ref S4.length) (S4++[.lst (Wt zs)]))->WS (zu (zY (zP (zv fu) [(za 0),(eC (.int 1664))]) (gN 6)) (zu (zY (eOp Yb (eC (.int 1)) (eOp WJ (za 6) (eC (.int 8)))) (gN 7)) (zu (zY (eOp WJ (eOp zaA (za 6) (eC (.int 8))) (za 7)) (gN 8)) (yd (xm [none,some 5,some 7,some 8,some 6] (iR1 (za 1)) (gN 0) xi (eOp Tc (eOp Tc (eSl zbv (za 1) oNo (YO (za 3))) (zP (Zt fu) [(eOp Yb (eOp zaA (za 4) (eC (.int 64))) (za 0)),(eC (.int 1))])) (eSl zbv (za 1) (YO (eOp Yb (za 3) (eC (.int 1)))) (YO (za 2)))))))) [some (.ref ln),some (.int (m:Int)),some (.int way),none,none,some (.str z),none,none,none] S3) N R:=by
   intro N R fin;ext;refine (vk l2 ∅).imp ?_;rintro _ S4 ⟨d,rfl,d0,d1,l4,k4⟩;ext;refine YT ∅ ?_;ext;refine zdV ∅ ?_;ext;have:=sX d (show (8:Int)≠0 by decide);refine YT ⋯ ?_;refine yf ?_;refine zgG (size:=m) ⋯ (by ext;exact⟨rfl,rfl⟩) ?_ ?_
   .intro k hk;dsimp only[xZ,rR,qW];ext;refine zgF (Zw ⋯) ?_;ext;refine zdV ∅ ?_;ext;refine (zkx (k:=1) ∅).imp ?_;rintro _ S5 ⟨z1,rfl,iJ,rfl⟩;have s1:=Txt.slice_le z none (some (d / 8 % (1+d % 8)));refine zep (Zw ⋯) ?_;ext;refine zgF (Zw ⋯) ?_;have s2:=Txt.slice_le z (some (d / 8 % (1+d % 8)+1)) (some (1+d % 8));refine zep (Zw (by rw[Str.length_append];omega)) ?_;exact⟨_,rfl,rfl⟩
   .intro zs hz;exact fin S4 l4 (kk.trans k4) zs hz
  have fin:∀S4,yl mx ln S4->Kp (· =ln) S S4->∀zs:List Str,zs.length=m->∃(n:Nat) (zs':List Str),Xv.ref S4.length= .ref n/\zs'.length=m/\(S4++[Ce.lst (Wt zs)])[n]? =some (.lst (Wt zs'))/\S.length<=n/\yl mx ln (S4++[Ce.lst (Wt zs)])/\Kp (· =ln) S (S4++[Ce.lst (Wt zs)]):=λS4 l4 k4 zs hz=>⟨_,zs,rfl,hz,yy,k4.1,l4.app,k4.app⟩;refine yQ (λh2=> ?_) (λh2=> ?_)
  .ext;refine yQ (λh3=> ?_) (λh3=>zr (go fin));refine yf ?_;refine zgG (size:=m) ⋯ (by ext;exact⟨rfl,rfl⟩) ?_ ?_
   .intro k hk;dsimp only[xZ,rR,qW];ext;refine zgF (Zw ⋯) ?_;exact⟨_,rfl,rfl⟩
   .intro zs hz;exact fin _ l2 kk zs hz
  .exact⟨nofun,λ_=>zr (go fin)⟩
noncomputable def zpy (b:Str×Nat):Xv:= .tup [.str b.1,.int (b.2:Int)]
noncomputable def bsX (bs:List (Str×Nat)):List Xv:=bs.map zpy
theorem vv (bs:List (Str×Nat)):(bsX bs).length=bs.length:=by simp[bsX]
theorem VQ {p:Int} (h:p.natAbs<2^60):intBits p<=60:=uJ.mpr h
theorem yl.lt (h:yl mx ln S):ln<S.length:=by
 obtain⟨ns,en,_⟩:=h;exact (qO.1 en).1
theorem zcl {bs:List (Str×Nat)} (h1:∀b∈bs,1<=b.2/\b.2<=9) (h9:bs.length<=9):Bx9 (bs.map (·.2)) (bsX bs):=by
 refine⟨⟨by simp[bsX],λi s e=> ?_,λs hs=> ?_⟩,by simpa using h9⟩
 .rw[qY] at e;cases e2:bs[i]? with
  |none=>rw[e2] at e;cases e
  |some b=>
   rw[e2] at e;cases e;exact⟨.str b.1,by unfold bsX;rw[qY,e2];rfl⟩
 .obtain⟨b,hb,rfl⟩:=tS.1 hs;have:=h1 b hb;omega
theorem zl2 {most:Nat} (lN:1<=most/\most<=1000) (hl:yl mx ln S):W (XZ fu [.ref ln,.int (most:Int)] S) λv S'=>∃bs:List (Str×Nat),v= .tup (bsX bs)/\(∀b∈bs,1<=b.2/\b.2<=9)/\bs.length<=9/\prd (bs.map (·.2))<=most/\yl mx ln S'/\Kp (· =ln) S S':=by
 walk_at "wr";unfold ZS;ext;refine (vk hl ∅).imp ?_;rintro _ S1 ⟨c,rfl,c0,c1,l1,k1⟩;ext;refine YS (λρ S2=>∃m:Nat,m<=9/\ρ=[some (.ref ln),some (.int (most:Int)),some (.int (m:Int)),none,none,none,none]/\S2=S1) (zC ?_) ?_
 .ext;refine yQ (λhc=> ?_) (λhc=> ?_)
  .ext;refine YT ∅ ?_;ext;have h0:=sX c (show (3:Int)≠0 by decide);have h1:=tE c (show (0:Int)<3 by decide);exact⟨(1+c % 3).toNat,⋯,by rw[ub ⋯],rfl⟩
  .exact zr ⟨c.toNat,⋯,by rw[ub ⋯],rfl⟩
 rintro _ _ ⟨m,hm,rfl,rfl⟩;ext;refine vR (zaC ?_);ext;refine (zl1 l1 hm).imp ?_;rintro _ S2 ⟨n,zs,rfl,hz,e2,hn,l2,k2⟩;have jA:=l1.lt;refine⟨_,zh e2,_,zh e2,?_⟩;refine wC (xs:=Wt zs) (λi ρ S3=>∃(bs:List (Str×Nat)) (a5 a6:Option Xv),ρ=[some (.ref ln),some (.int (most:Int)),some (.int (m:Int)),some (.tup (bsX bs)),some (.int (prd (bs.map (·.2)):Int)),a5,a6]/\bs.length=i/\(∀b∈bs,1<=b.2/\b.2<=9)/\1<=prd (bs.map (·.2))/\prd (bs.map (·.2))<=most/\yl mx ln S3/\Kp (· =ln) S2 S3) ?_ ?_ ?_ ?_
 .rintro i ρ S3 _ ⟨bs,a5,a6,_,_,_,_,_,l3,k3⟩;exact zh (k3.2 _ _ e2 (show ¬n=ln by omega))
 .rintro i w ρ S3 hw ⟨bs,a5,a6,rfl,fR,hG,p0,p1,l3,k3⟩;unfold Wt at hw;rw[qY] at hw;cases ku:zs[i]? with
  |none=>rw[ku] at hw;cases hw
  |some z=>
   rw[ku] at hw;cases hw;have hi:i<zs.length:=(qO.1 ku).1;refine .of rfl ?_;dsimp only[qW];ext;refine (vk l3 ∅).imp ?_;rintro _ S4 ⟨d,rfl,d0,d1,l4,k4⟩;ext;refine YS (λρ S5=>∃s0:Int,1<=s0/\s0<=9/\ρ=[some (.ref ln),some (.int (most:Int)),some (.int (m:Int)),some (.tup (bsX bs)),some (.int (prd (bs.map (·.2)):Int)),some (.str z),some (.int s0)]/\S4=S5) (zC (UD ?_)) ?_
   .have no:∃s0:Int,1<=s0/\s0<=9/\([some (.ref ln),some (.int (most:Int)),some (.int (m:Int)),some (.tup (bsX bs)),some (.int (prd (bs.map (·.2)):Int)),some (.str z),some (.int (1+d))]:Rho)=[some (.ref ln),some (.int (most:Int)),some (.int (m:Int)),some (.tup (bsX bs)),some (.int (prd (bs.map (·.2)):Int)),some (.str z),some (.int s0)]/\S4=S4:=⟨1+d,⋯,⋯,rfl,rfl⟩;ext;refine⟨λ_=> ?_,λ_=>⟨nofun,λ_=>zr no⟩⟩;ext;refine⟨λ_=> ?_,λ_=>zr no⟩;ext;refine YT ∅ ?_;ext;have h0:=sX (1+d) (show (3:Int)≠0 by decide);have h1:=tE (1+d) (show (0:Int)<3 by decide);exact⟨1+(1+d) % 3,⋯,⋯,rfl,rfl⟩
   rintro _ _ ⟨s0,s1,s2,rfl,rfl⟩;generalize hp:prd (bs.map (·.2))=p at p0 p1;ext;refine ze0 ⟨⋯,rk (VQ ⋯) ∅⟩ ?_;rw[sR _ ⋯];ext;have q0:1<=most / p:=(Nat.le_div_iff_mul_le ⋯).2 ⋯;have q1:p*(most / p)<=most:=Nat.mul_div_le most p;rw[show (most:Int) / (p:Int)=((most / p:Nat):Int) by rw[Int.natCast_ediv]];generalize hs:(if ((most / p:Nat):Int)<s0 then ((most / p:Nat):Int) else s0)=sz;obtain⟨s,rfl⟩:∃s:Nat,sz=(s:Int):=⟨sz.toNat,by split at hs<;>omega⟩;have gp:1<=s/\s<=9/\s<=most / p:=by split at hs<;>omega
   refine WO.of (show Wl (.tup (bsX bs)) (.tup [.tup [.str z, .int (s : Int)]]) S4 = some (.tup (bsX bs ++ [.tup [.str z, .int (s : Int)]]), S4) by
    unfold Wl
    exact if_pos (by rw[vv];exact Zw (by simp;omega))) ?_
   ext;have oO:p*s<=most:=rk (ua p gp.2.2) q1;refine xU (by have:=VQ (p:=(p:Int)) ⋯;have:=VQ (p:=(s:Int)) ⋯;omega) ?_;ext;have gK:prd ((bs++[(z,s)]).map (·.2))=p*s:=by rw[sk];show prd (bs.map (·.2)++[s])=_;rw[TY,hp]
   refine⟨bs++[(z,s)],_,_,by rw[gK,z7,show bsX (bs++[(z,s)])=bsX bs++[.tup [.str z,.int (s:Int)]] by simp[bsX,zpy]],by simp[fR],?_,by rw[gK];exact uV p0 gp.1,by rw[gK];exact oO,l4,k3.trans k4⟩;intro b hb;rcases uF.1 hb with hb|hb
   .exact hG b hb
   .rw[tD] at hb;subst hb;exact⟨gp.1,gp.2.1⟩
 .exact⟨[],none,none,rfl,rfl,(λb hb=>by cases hb),∅,lN.1,l2,Kp.refl _⟩
 .rintro ρ S3 ⟨bs,a5,a6,rfl,fR,hG,p0,p1,l3,k3⟩;ext;refine⟨hG,?_,p1,l3,(k1.trans k2).trans k3⟩;rw[fR];simp[Wt,hz];exact hm
end
section
variable {fu:Nat} {S S' S2:Sto} {x y z:Xv} {ss:List Nat} {bl:List Xv} {ln sn fn dn:Nat} {fs fs':List zy}
theorem zl3 {α:Type} (l:List α) (a b:Nat) (hb:a+b<=l.length):L2.Ui l (some (a:Int)) (some ((a+b:Nat):Int))=(l.drop a).take b:=by
 unfold L2.Ui;rw[HT.zaW,HT.zaW,uM hb,uM (show a<=l.length by omega)]
 congr 1
 omega
theorem zky {lv s:Nat} (es:ss[lv]? =some s):prd (ss.drop lv)=s*prd (ss.drop (lv+1)):=by
 obtain⟨hl,e⟩:=qO.1 es;rw[sA hl,e];rfl
theorem zeq:∀{ss:List Nat},(∀s∈ss,1<=s)->1<=prd ss
 |[],_=>qT _
 |s::r,h=>uV (h s rE) (zeq λt ht=>h t (r9 _ ht))
theorem zkz {lv s m:Nat} {st:List Nat} (es:ss[lv]? =some s) (e:st[lv]? =some m):idx (ss.drop lv) (st.drop lv)=m*prd (ss.drop (lv+1))+idx (ss.drop (lv+1)) (st.drop (lv+1)):=by
 obtain⟨hl,e1⟩:=qO.1 es;obtain⟨fm,e2⟩:=qO.1 e;rw[sA hl,sA fm,e2];rfl
def Zc (ss:List Nat) (fs:List zy) (lv:Nat) (T:List Q2) (i:Nat):Prop:=∀st,yJ ss st->∃q h,T[idx (ss.drop lv) (st.drop lv)]? =some q/\VA fs st q h i
theorem Zc.mono {lv i:Nat} {T:List Q2} (h:Zc ss fs lv T i) (p:fs<+:fs'):Zc ss fs' lv T i:=λst hs=>by
 obtain⟨q,k,e,v⟩:=h st hs;exact⟨q,k,e,v.mono p⟩
theorem zaa {ks:List Nat} {k:Nat}:ksX (ks++[k])=ksX ks++[.int (k:Int)]:=Vc ks k
end
section
variable {fu:Nat} {S S' S2:Sto} {x y z:Xv} {sn fn dn kn:Nat} {bx:Xv} {fs fs':List zy} {ss:List Nat} {bl:List Xv} {lv m s:Nat} {l l' l2:List (Key×Xv)}
theorem zkA {k:Key}:(zbJ l k x).length<=l.length+1:=by
 unfold zbJ;split<;>simp
theorem zfv {k k':Key}:∀{l:List (Key×Xv)},wU (l.map λkv=>if kv.1=k then (kv.1,x) else kv) k'=if k'=k then (wU l k).map (λ_=>x) else wU l k'
 |[]=>by simp[wU]
 |p::r=>by
  have ih:=zfv (k:=k) (k':=k') (l:=r);unfold wU at ih ⊢;rw[rC,rG,rG,rG];by_cases h1:p.1=k
  .by_cases h2:k'=k
   .subst h1 h2;simp
   .have:¬p.1=k':=λe=>h2 (e.symm.trans h1);simp only[if_pos h1,decide_eq_false this,if_neg h2] at ih ⊢;exact ih
  .by_cases h2:k'=k
   .subst h2;simp only[if_neg h1,decide_eq_false h1,if_true] at ih ⊢;exact ih
   .simp only[if_neg h1,if_neg h2] at ih ⊢;by_cases h3:p.1=k'
    .simp only[decide_eq_true h3]
    .simp only[decide_eq_false h3];exact ih
theorem zkB {k k':Key} (h:(l.any λkv=>decide (kv.1=k))=false):wU (l++[(k,x)]) k'=if k'=k then some x else wU l k':=by
 unfold wU;rw[List.find?_append];by_cases h2:k'=k
 .subst h2;have:l.find? (λkv=>decide (kv.1=k'))=none:=by
   rw[Ar];intro p hp e;rw[v9] at h;exact h p hp e
  rw[this];simp
 .rw[if_neg h2];have:([(k,x)]:List (Key×Xv)).find? (λkv=>decide (kv.1=k'))=none:=by
   rw[rG,decide_eq_false (λe=>h2 e.symm)];rfl
  rw[this];cases l.find? (λkv=>decide (kv.1=k'))<;>rfl
theorem zfw {k k':Key}:wU (zbJ l k x) k'=if k'=k then some x else wU l k':=by
 unfold zbJ;split
 .rename_i h;rw[zfv];split
  .rw[y4] at h;obtain⟨p,hp,e⟩:=h;have:wU l k≠none:=by
    unfold wU;rw[Ne,Option.map_eq_none_iff,Ar];exact λz=>z p hp e
   cases e:wU l k with
   |none=>exact absurd e this
   |some v=>rfl
  .rfl
 .rename_i h;exact zkB (Aw.2 h)
structure Fxd (ss:List Nat) (lv m:Nat) (fs:List zy) (a r:Nat):Prop where
 le:∃fa fr,fs[a]? =some fa/\fs[r]? =some fr/\lvl ss.length fa<=lvl ss.length fr
 va:∀st,yJ ss st->∀q h,VA fs (st.set lv m) q h a->∃h',VA fs st q h' r
theorem Fxd.mono {a r:Nat} (es:ss[lv]? =some s) (hm:m<s) (g:Fxd ss lv m fs a r) (w:WF ss fs) (p:fs<+:fs'):Fxd ss lv m fs' a r:=by
 obtain⟨fa,fr,ea,er,hl⟩:=g.le;refine⟨⟨fa,fr,yx p ea,yx p er,hl⟩,λst hs q h v=> ?_⟩;obtain⟨h,v⟩:=g.va st hs q _ (v.back w p (hs.set es hm) ea);exact⟨h,v.mono p⟩
structure KS (sn fn dn kn:Nat) (bx:Xv) (ss:List Nat) (lv m:Nat) (fs:List zy) (l:List (Key×Xv)) (S:Sto):Prop where
 st:xh sn fn dn bx fs S
 wf:WF ss fs
 kd:S[kn]? =some (.dk l)
 kl:∀k y,wU l k=some y->∃a r:Nat,k= .inl (a:Int)/\y= .int (r:Int)/\Fxd ss lv m fs a r
 ne:kn≠dn
theorem KS.kf (h:KS sn fn dn kn bx ss lv m fs l S):kn≠fn:=λe=>by
 obtain⟨xs,_,h1,h2⟩:=h.st.fd';have h3:=h.kd;rw[e,h1] at h3;cases h3
theorem KS.ks (h:KS sn fn dn kn bx ss lv m fs l S):kn≠sn:=λe=>by
 have h1:=h.kd;rw[e,h.st.o] at h1;cases h1
noncomputable abbrev wK (fn dn kn:Nat):Nat->Prop:=λn=>n=fn\/n=dn\/n=kn
structure KP (sn fn dn kn:Nat) (bx:Xv) (ss:List Nat) (lv m c:Nat) (fs:List zy) (l:List (Key×Xv)) (S:Sto) (fs':List zy) (l':List (Key×Xv)) (S':Sto):Prop where
 js:KS sn fn dn kn bx ss lv m fs' l' S'
 pre:fs<+:fs'
 fl:fs'.length<=fs.length+c
 ll:l'.length<=l.length+c
 kp:Kp (wK fn dn kn) S S'
theorem KS.pre (h:KS sn fn dn kn bx ss lv m fs l S) (p:S<+:S'):KS sn fn dn kn bx ss lv m fs l S':=⟨h.st.pre p,h.wf,yx p h.kd,h.kl,h.ne⟩
theorem KP.grown {c:Nat} (es:ss[lv]? =some s) (hm:m<s) (h:KS sn fn dn kn bx ss lv m fs l S) (w:WF ss fs') (g:yN sn fn dn bx fs c S fs' S'):KP sn fn dn kn bx ss lv m c fs l S fs' l S':=
 ⟨⟨g.st,w,g.kp.2 _ _ h.kd (λz=>by rcases z with z|z;exact h.kf z;exact h.ne z),λk y e=>by
  obtain⟨a,r,e1,e2,e3⟩:=h.kl k y e
  exact⟨a,r,e1,e2,e3.mono es hm h.wf g.pre⟩,h.ne⟩,g.pre,g.len,⋯,g.kp.mono λn z=>z.elim .inl λz=> .inr (.inl z)⟩
theorem KP.trans {c c':Nat} {cj aY:List zy} (a:KP sn fn dn kn bx ss lv m c fs l S cj l' S') (b:KP sn fn dn kn bx ss lv m c' cj l' S' aY l2 S2):KP sn fn dn kn bx ss lv m (c+c') fs l S aY l2 S2:=
 ⟨b.js,a.pre.trans b.pre,by have:=a.fl;have:=b.fl;omega,by have:=a.ll;have:=b.ll;omega,a.kp.trans b.kp⟩
theorem KP.more {c c':Nat} {cj:List zy} (a:KP sn fn dn kn bx ss lv m c fs l S cj l' S') (h:c<=c'):KP sn fn dn kn bx ss lv m c' fs l S cj l' S':=⟨a.js,a.pre,by have:=a.fl;omega,by have:=a.ll;omega,a.kp⟩
theorem KP.app {c:Nat} {cj:List zy} (a:KP sn fn dn kn bx ss lv m c fs l S cj l' S') (p:S'<+:S2):KP sn fn dn kn bx ss lv m c fs l S cj l' S2:=⟨a.js.pre p,a.pre,a.fl,a.ll,a.kp.trans (Kp.pre p)⟩
theorem KS.jp (h:KS sn fn dn kn bx ss lv m fs l S) (p:S<+:S'):KP sn fn dn kn bx ss lv m 0 fs l S fs l S':=⟨h.pre p,rM _,⋯,⋯,Kp.pre p⟩
theorem KS.put {a r:Nat} (h:KS sn fn dn kn bx ss lv m fs l S) (g:Fxd ss lv m fs a r):KP sn fn dn kn bx ss lv m 1 fs l S fs (zbJ l (.inl (a:Int)) (.int (r:Int))) (S.set kn (.dk (zbJ l (.inl (a:Int)) (.int (r:Int))))):=by
 obtain⟨xs,u1,u2,u3⟩:=h.st.fd';refine⟨⟨⟨xu h.st.o h.ks,⟨xs,u1,xu u2 h.kf,xu u3 h.ne⟩,h.st.nd⟩,h.wf,wb h.kd,λk y e=> ?_,h.ne⟩,rM _,⋯,zkA,(Kp.refl _).set (.inl (.inr (.inr rfl)))⟩;rw[zfw] at e;split at e
 .rename_i q;cases e;exact⟨a,r,q,rfl,g⟩
 .exact h.kl k y e
theorem Kd.fxd {a k:Nat} (es:ss[lv]? =some s) (w:WF ss fs) {f:zy} (e:fs[a]? =some f) (d:Kd ss fs a lv m k):Fxd ss lv m fs a k:=by
 have hl:=(qO.1 es).1;have key:∀st,yJ ss st->∀q h,VA fs (st.set lv m) q h a->∃h',VA fs st q h' k:=λst hs q h v=>by
  obtain⟨h',v'⟩:=d.va v (by rw[rK,if_pos rfl,if_pos (by rw[hs.1];exact hl)]);obtain⟨fk,e1,e2⟩:=d.lv w;exact⟨h',v'.other w Vd e1 e2⟩
 refine⟨?_,key⟩;rcases d with⟨ks,e1,e2⟩|⟨rfl,f',e1,e2⟩
 .rw[e] at e1;cases e1;obtain⟨_,g,h1,h2⟩:=(w.ok a lv ks e).2.1 k (qS e2);exact⟨_,g,e,h1,rS h2⟩
 .exact⟨f',f',e1,e1,qT _⟩
theorem zkC {a r here:Nat} {ks rs:List Nat} (es:ss[lv]? =some s) (w:WF ss fs) (hh:here<lv) (e:fs[a]? =some (.fork here ks)) (hlen:rs.length=ks.length) (hr:∀(i k r:Nat),ks[i]? =some k->rs[i]? =some r->Fxd ss lv m fs k r) (fo:zel fs here rs r):Fxd ss lv m fs a r:=by
 have fY:∀k∈rs,∃f,fs[k]? =some f/\here<lvl ss.length f:=λk hk=>by
  obtain⟨i,hi⟩:=rL hk;have eI:=(qO.1 hi).1;have ek:ks[i]? =some ks[i]:=qN ⋯;obtain⟨fa,fr,e1,e2,e3⟩:=(hr i _ k ek hi).le;obtain⟨_,f,e4,e5⟩:=(w.ok a here ks e).2.1 _ (qS ek);rw[e1] at e4;cases e4;exact⟨fr,e2,⋯⟩
 refine⟨?_,λst hs q h v=> ?_⟩
 .obtain⟨k0,e0,⟨all,rfl⟩|⟨_,e1⟩⟩:=fo
  .obtain⟨f,e1,e2⟩:=fY r (qS e0);exact⟨_,f,e,e1,rS e2⟩
  .exact⟨_,_,e,e1,qT _⟩
 .obtain⟨⟨sh,jj,cM⟩,_⟩:=w.ok a here ks e;obtain⟨j,ej,hj⟩:=hs.get jj;obtain⟨k,h',ek,v'⟩:=v.kid e (x:=j) (by rw[rK,if_neg ⋯];exact ej);have er:rs[j]? =some rs[j]:=qN ⋯;obtain⟨h2,v2⟩:=(hr j k _ ek er).va st hs q _ v';exact⟨_,fo.va ej er v2⟩
theorem zkD (aV:Bx9 ss bl) (es:ss[lv]? =some s) (hm:m<s):∀(d N:Nat) {S:Sto} {fs:List zy} {l:List (Key×Xv)} {a:Nat} {f:zy},d+1<=N->KS sn fn dn kn (.tup bl) ss lv m fs l S->fs[a]? =some f->ss.length<=lvl ss.length f+d->fs.length+cst ss d<=1000000->l.length+cst ss d<=1000000->
  W (yg fu N [.ref sn,.int (a:Int),.int (lv:Int),.int (m:Int),.ref kn] S) λv S'=>∃(r:Nat) (fs':List zy) (l':List (Key×Xv)),v= .int (r:Int)/\Fxd ss lv m fs' a r/\KP sn fn dn kn (.tup bl) ss lv m (cst ss d) fs l S fs' l' S':=by
 have dg:∀s∈ss,1<=s:=λs hs=>(aV.siz s hs).1;have dW:=(qO.1 es).1;have base:∀(d N:Nat) {S:Sto} {fs:List zy} {l:List (Key×Xv)} {a:Nat} {f:zy},d+1<=N->KS sn fn dn kn (.tup bl) ss lv m fs l S->fs[a]? =some f->lv<=lvl ss.length f->
   W (yg fu N [.ref sn,.int (a:Int),.int (lv:Int),.int (m:Int),.ref kn] S) λv S'=>∃(r:Nat) (fs':List zy) (l':List (Key×Xv)),v= .int (r:Int)/\Fxd ss lv m fs' a r/\KP sn fn dn kn (.tup bl) ss lv m (cst ss d) fs l S fs' l' S':=by
  intro d N S fs l a f hN h e hf;obtain⟨N,rfl⟩:∃M,N=M+1:=⟨N-1,⋯⟩;rw[xL];walk_at "wr";unfold xq;refine zk (yB (zW ?_));ext;refine⟨_,_,rfl,h.st.o,rfl,?_⟩;ext;refine (TW h.st aV.len e).imp ?_;rintro _ S ⟨rfl,rfl⟩;dsimp only[qW];refine zk (zC ?_);ext;refine yQ (λ_=> ?_) (λz=>absurd ⋯ z);obtain⟨k,kd,tk⟩:=zem (fu:=fu) h.st h.wf aV.len e hf es hm;refine yf (zW ?_);ext;refine⟨_,_,rfl,h.st.o,rfl,?_⟩;ext;refine tk.imp ?_;rintro _ S ⟨rfl,rfl⟩;exact⟨k,fs,l,rfl,kd.fxd es h.wf e,(h.jp (rM _)).more ⋯⟩
 intro d
 induction d with
 |zero=>intro N S fs l a f hN h e hf _ _;exact base 0 N hN h e ⋯
 |succ d ih=>
  intro N S fs l a f hN h e hd jG gT;by_cases hf:lv<=lvl ss.length f
  .exact base _ N hN h e hf
  have lC:=zch dg (show d<=d+1 by omega);by_cases hd2:ss.length<=lvl ss.length f+d
  .refine (ih N ⋯ h e hd2 ⋯ ⋯).imp ?_;rintro v S2 ⟨r,aY,l2,hv,g,k⟩;exact⟨r,aY,l2,hv,g,k.more lC⟩
  cases f with
  |leaf q=>exact absurd (rS dW) hf
  |fork here ks=>
  have hf:¬lv<=here:=hf;have hd2:¬ss.length<=here+d:=hd2;have hd:ss.length<=here+(d+1):=hd;obtain⟨⟨sh,jj,cM⟩,fY,_⟩:=h.wf.ok a here ks e;have hsz:=aV.siz sh (qS jj);have hc:cst ss (d+1)=2+sh*cst ss d:=by
   have:=zen jj;rw[show ss.length-here=d+1 by omega] at this;exact this
  obtain⟨N,rfl⟩:∃M,N=M+1:=⟨N-1,⋯⟩;rw[xL];walk_at "wr";unfold xq;refine zk (yB (zW ?_));ext;refine⟨_,_,rfl,h.st.o,rfl,?_⟩;ext;refine (zek h.st e).imp ?_;rintro _ S ⟨rfl,rfl⟩;dsimp only[qW];refine zk (zC ?_);ext;refine yQ (λz=>absurd z ⋯) (λ_=>zr ?_);refine zk (YS (λρ S2=>∃(a6:Option Xv) (r:Nat) (aY:List zy) (l2:List (Key×Xv)),ρ=[some (.ref sn),some (.int (a:Int)),some (.int (lv:Int)),some (.int (m:Int)),some (.ref kn),some (.int (here:Int)),a6]/\wU l2 (.inl (a:Int))=some (.int (r:Int))/\Fxd ss lv m aY a r/\KP sn fn dn kn (.tup bl) ss lv m (cst ss (d+1)) fs l S aY l2 S2) (zC (xT (znM ?_))) ?_)
  .ext;refine⟨_,_,_,Tj h.kd,rfl,_,rfl,λz=> ?_,λz=>zr ?_⟩;rotate_left
   .cases ev:wU l (.inl (a:Int)) with
    |none=>rw[ev] at z;cases z
    |some y=>
     obtain⟨a',r,e1,rfl,g⟩:=h.kl _ _ ev;have:a'=a:=by
      injection e1 with e1
      omega
     subst this;exact⟨_,r,fs,l,rfl,ev,g,(h.jp (rM _)).more ⋯⟩
   refine zk (yB (xH (zeZ (zW ?_))));ext;refine⟨_,_,rfl,h.st.o,rfl,?_⟩;ext;refine (zgB h.st e).imp ?_;rintro _ S ⟨rfl,rfl⟩;refine⟨_,rfl,_,rfl,?_⟩;refine xn (by rw[yW];exact Zw ⋯) (λi es S2=>∃(aY:List zy) (l2:List (Key×Xv)) (rs:List Nat),es=ksX rs/\rs.length=i/\KP sn fn dn kn (.tup bl) ss lv m (i*cst ss d) fs l S aY l2 S2/\∀(j k r:Nat),ks[j]? =some k->rs[j]? =some r->Fxd ss lv m aY k r) (λ_ _ _ _ _=>rfl) ?_ ⟨fs,l,[],rfl,rfl,(h.jp (rM _)).more ⋯,λj k r _ e=>by simp at e⟩ ?_
   .rintro i w0 dc S2 hw fO ⟨aY,l2,rs,rfl,iP,k2,ju⟩;obtain⟨k,ek,rfl⟩:=zhv hw;have hi:=(qO.1 ek).1;refine .of rfl ?_;dsimp only[xZ,rR,qW];ext;refine⟨rfl,zW ?_⟩;ext;refine⟨_,_,rfl,k2.js.st.o,rfl,?_⟩;ext;obtain⟨_,g,eg,hg⟩:=fY k (qS ek);have jD:(i+1)*cst ss d<=sh*cst ss d:=rN _ ⋯;have gW:(i+1)*cst ss d=i*cst ss d+cst ss d:=sM i _;have f2:=k2.fl;have g2:=k2.ll;refine (ih N ⋯ k2.js (yx k2.pre eg) ⋯ ⋯ ⋯).imp ?_;rintro _ S3 ⟨r,cG,l3,rfl,fx,k3⟩;refine⟨cG,l3,rs++[r],by rw[zaa],by simp[iP],(k2.trans k3).more ⋯,λj k' r' e1 e2=> ?_⟩;rcases rW j rs.length with hj|hj|hj
    .rw[qR hj] at e2;exact (ju j k' r' e1 e2).mono es hm k2.js.wf k3.pre
    .subst hj;rw[qU (qT _),su] at e2;cases e2;rw[iP,ek] at e1;cases e1;exact fx
    .rw[r6 (by simp;omega)] at e2;cases e2
   .rintro dc S2 _ ⟨aY,l2,rs,rfl,iP,k2,ju⟩;rw[yW] at iP k2;have k3:=k2.app (qQ S2 [.lst (ksX rs)]);have du:(S2++[Ce.lst (ksX rs)])[S2.length]? =some (.lst (ksX rs)):=yy;generalize S2++[Ce.lst (ksX rs)]=S3 at k3 du;dsimp only[qW];rw[cM] at k3;have f2:=k3.fl;have g2:=k3.ll;have h0:rs[0]? =some rs[0]:=qN ⋯;refine zlB (zW ?_);ext;refine⟨_,_,rfl,k3.js.st.o,rfl,?_⟩;ext;refine (zaq k3.js.st ⋯ du h0 ⋯).imp ?_;rintro _ S4 ⟨r,dm,rfl,fo,ad,g⟩;ext;have w3:=k3.js.wf;have dR:∀k∈rs,∃f,aY[k]? =some f/\here<lvl ss.length f:=λk hk=>by
     obtain⟨i,hi⟩:=rL hk;have eI:=(qO.1 hi).1;have ek:ks[i]? =some ks[i]:=qN ⋯;obtain⟨fa,fr,e1,e2,e3⟩:=(ju i _ k ek hi).le;obtain⟨_,f,e4,e5⟩:=fY _ (qS ek);rw[yx k3.pre e4] at e1;cases e1;exact⟨fr,e2,⋯⟩
    have w4:WF ss dm:=by
     rcases ad with rfl|⟨cV,ad⟩
     .exact w3
     .refine w3.fork g.st.nd (.inr ad) jj ⋯ dR λz=>cV λk hk=> ?_;exact z k hk rs[0] (rq _)
    have k4:=k3.trans (KP.grown es hm k3.js w4 g);have fx:Fxd ss lv m dm a r:=zkC es w4 ⋯ (yx k4.pre e) iP (λi k r e1 e2=>(ju i k r e1 e2).mono es hm w3 g.pre) fo;have k5:=k4.trans (k4.js.put fx);refine⟨_,_,_,Tj k4.js.kd,rfl,rX (show l2.length<=1000000 by omega) ∅,?_⟩;exact⟨_,r,dm,_,rfl,by rw[zfw,if_pos rfl],fx,k5.more ⋯⟩
  .rintro _ S2 ⟨a6,r,aY,l2,rfl,ev,fx,k2⟩;refine yf (zlA ?_);ext;exact⟨_,_,_,_,Tj k2.js.kd,rfl,ev,r,aY,l2,rfl,fx,k2⟩
theorem zhA (aV:Bx9 ss bl) (es:ss[lv]? =some s) (hm:m<s) {a:Nat} {f:zy} (h:xh sn fn dn (.tup bl) fs S) (w:WF ss fs) (e:fs[a]? =some f) (hf:fs.length+cst ss ss.length<=1000000):
  W (Zs fu [.ref sn,.int (a:Int),.int (lv:Int),.int (m:Int)] S) λv S'=>∃(r:Nat) (fs':List zy),v= .int (r:Int)/\Fxd ss lv m fs' a r/\WF ss fs'/\yN sn fn dn (.tup bl) fs (cst ss ss.length) S fs' S':=by
 walk_at "wr";unfold Xe;refine yf (zW ?_);ext;refine⟨_,_,rfl,h.o,rfl,?_⟩;ext;have p:=qQ S [Ce.dk []];have hd:=h.flt.2;have js:KS sn fn dn S.length (.tup bl) ss lv m fs [] (S++[.dk []]):=⟨h.pre p,w,yy,λk y e=>by simp[wU] at e,⋯⟩;refine (zkD aV es hm ss.length 12 (by have:=aV.l9;omega) js e ⋯ hf (by simp only[sQ];omega)).imp ?_;rintro _ S2 ⟨r,aY,l2,rfl,gd,j⟩;refine⟨r,aY,rfl,gd,j.js.wf,⟨j.js.st,j.pre,j.fl,⟨by have:=j.kp.1;rw[rd] at this;omega,λn c e nw=> ?_⟩⟩⟩;have hn:=(qO.1 e).1;exact j.kp.2 _ _ (yx p e) λz=>by
  rcases z with z|z|z
  .exact nw (.inl z)
  .exact nw (.inr z)
  .omega
end
section
variable {fu:Nat} {S S' S2:Sto} {x y z:Xv} {bs:List (Str×Nat)} {st st':List Nat}
inductive Opd where
 |num (i:Int)
 |nam (z:Str)
noncomputable def opX:Opd->Xv
 | .num i=> .int i
 | .nam z=> .str z
noncomputable def fIx (bs:List (Str×Nat)) (z:Str):Option Nat:=bs.findIdx? λb=>decide (b.1=z)
noncomputable def wv (bs:List (Str×Nat)) (st:List Nat):Opd->Int
 | .num i=>i
 | .nam z=>((st.getD ((fIx bs z).getD 0) 0:Nat):Int)
def zcm (bs:List (Str×Nat)):Opd->Prop
 | .num _=>True
 | .nam z=>∃k,fIx bs z=some k
structure Tst where
 a:Opd
 sg:Nat
 b:Opd
def zcP (bs:List (Str×Nat)) (t:Tst):Prop:=zcm bs t.a/\zcm bs t.b/\t.sg<3
noncomputable def sgS:Nat->Str
 |0=>"="
 |1=>"<"
 |_=>"#"
noncomputable def tsX (t:Tst):Xv:= .tup [opX t.a,.str (sgS t.sg),opX t.b]
noncomputable def mkB (bs:List (Str×Nat)) (t:Tst) (st:List Nat):Bool:=match t.sg with
 |0=>decide (wv bs st t.a=wv bs st t.b)
 |1=>decide (wv bs st t.a<wv bs st t.b)
 |_=> !decide (wv bs st t.a=wv bs st t.b)
noncomputable def bQ (b:Bool):Q2:=(if b then 1 else 0,1)
noncomputable def mkQ (bs:List (Str×Nat)) (t:Tst) (st:List Nat):Q2:=bQ (mkB bs t st)
def Rel (bs:List (Str×Nat)) (t:Tst) (k:Nat):Prop:=∃b,bs[k]? =some b/\(t.a= .nam b.1\/t.b= .nam b.1)
theorem zer {z:Str} {k:Nat} (h:fIx bs z=some k):∃b,bs[k]? =some b/\b.1=z:=by
 unfold fIx at h;rw[sF] at h;obtain⟨hk,h1,_⟩:=h;exact⟨bs[k],qN hk,of_decide_eq_true h1⟩
theorem zkE {o:Opd} (ho:zcm bs o) (h:∀(k:Nat) b,bs[k]? =some b->o= .nam b.1->st[k]? =st'[k]?):wv bs st o=wv bs st' o:=by
 cases o with
 |num i=>rfl
 |nam z=>
  obtain⟨k,hk⟩:=ho;obtain⟨b,e,rfl⟩:=zer hk;unfold wv;dsimp only;rw[hk];simp only[tj,rT];rw[h k b e rfl]
theorem zoa {t:Tst} (ht:zcP bs t) (h:∀k,Rel bs t k->st[k]? =st'[k]?):mkQ bs t st=mkQ bs t st':=by
 have e1:=zkE ht.1 (λk b e q=>h k ⟨b,e,.inl q⟩);have e2:=zkE ht.2.1 (λk b e q=>h k ⟨b,e,.inr q⟩);unfold mkQ mkB;rw[e1,e2]
theorem UO {k:Nat} {b:Str×Nat} (h:bs[k]? =some b):(bsX bs)[k]? =some (.tup [.str b.1,.int (b.2:Int)]):=by
 unfold bsX;rw[qY,h];rfl
theorem zhB {k:Nat} {w:Xv} (h:(bsX bs)[k]? =some w):∃b,bs[k]? =some b/\w= .tup [.str b.1,.int (b.2:Int)]:=by
 unfold bsX at h;rw[qY] at h;cases e:bs[k]? with
 |none=>rw[e] at h;cases h
 |some b=>rw[e] at h;cases h;exact⟨b,rfl,rfl⟩
theorem zl4 {zz:Str} {k:Nat} (h9:bs.length<=9) (h:fIx bs zz=some k):W (VH fu [.tup (bsX bs),.str zz] S) λv S'=>v= .int (k:Int)/\S<+:S':=by
 walk_at "wr";unfold XC;refine yf (Yc (xH (zeZ (zq rfl ?_))));refine⟨_,rfl,_,rfl,?_⟩;refine xn (by rw[vv];exact Zw ⋯) (λi es S2=>es=(bs.take i).map (λb=>Xv.str b.1)/\S2=S) (λ_ _ _ _ _=>rfl) ?_ ⟨by simp,rfl⟩ ?_
 .rintro i w0 dc S2 hw fO ⟨rfl,rfl⟩;obtain⟨b,e1,rfl⟩:=zhB hw;refine .of rfl ?_;dsimp only[xZ,rR,qW];ext;refine⟨rfl,?_⟩;ext;refine⟨?_,rfl⟩;obtain⟨hi,e1⟩:=qO.1 e1;rw[si hi,sk,e1];rfl
 .rintro dc S2 _ ⟨rfl,rfl⟩;rw[vv,tL];refine⟨⟨_,xN⟩,?_⟩;ext;refine zj5 (k:=k) (wQ yy) ?_ ?_ ⟨rfl,qQ _ _⟩
  .rw[rV,sr];refine⟨rfl,λw hw=> ?_⟩;obtain⟨b,_,rfl⟩:=tS.1 hw;rfl
  .rw[List.findIdx?_map];unfold fIx at h;rw[<-h];rfl
theorem zhC {o:Opd} (h9:bs.length<=9) (hl:st.length=bs.length) (ho:zcm bs o):W (TL fu [.tup (bsX bs),.tup (ksX st),opX o] S) λv S'=>v= .int (wv bs st o)/\S<+:S':=by
 walk_at "wr";unfold TK;refine zk (zC ?_);cases o with
 |num i=>
  ext;refine vS (v:=false) rfl ?_;refine⟨_,rfl,nofun,λ_=>zr ?_⟩;ext;exact⟨rfl,rM _⟩
 |nam zz=>
  obtain⟨k,hk⟩:=ho;obtain⟨b,e,_⟩:=zer hk;have cu:=(qO.1 e).1;ext;refine vS (v:=true) rfl ?_;refine⟨_,rfl,λ_=> ?_,nofun⟩;ext;refine (zl4 h9 hk).imp ?_;rintro _ S2 ⟨rfl,p⟩;have e2:st[k]? =some st[k]:=qN ⋯;refine zG rfl (zQ (wc e2)) ⟨?_,p⟩;unfold wv;dsimp only;rw[hk];simp only[tj,rT,e2]
theorem zl5 {t:Tst} (h9:bs.length<=9) (hl:st.length=bs.length) (ht:zcP bs t):W (zb8 fu [.tup (bsX bs),.tup (ksX st),tsX t] S) λv S'=>v= .bl (mkB bs t st)/\S<+:S':=by
 obtain⟨ta,sg,tb⟩:=t;obtain⟨h1,h2,h3⟩:=ht;walk_at "wr";unfold TM;refine zk (yB (yZ (zm (zq rfl (zm (zq rfl (zm ?_)))))));ext;refine zG (l:=[opX ta,.str (sgS sg),opX tb]) rfl Yt ?_;ext;refine (zhC h9 hl h1).imp ?_;rintro _ S1 ⟨rfl,p1⟩;dsimp only[qW];refine zk (yB (yZ (zm (zq rfl (zm (zq rfl (zm ?_)))))));ext;refine zG (l:=[opX ta,.str (sgS sg),opX tb]) rfl (show atI [opX ta,.str (sgS sg),opX tb] 2=some (opX tb) from rfl) ?_;ext;refine (zhC h9 hl h2).imp ?_;rintro _ S2 ⟨rfl,p2⟩;dsimp only[qW];have p:=p1.trans p2;have c:sg=0\/sg=1\/sg=2:=by have:sg<3:=h3;omega
 refine zk (zC (xT (yw (yw (zq rfl ?_)))));ext;refine zG (l:=[opX ta,.str (sgS sg),opX tb]) rfl vZ ?_;ext;refine zw ⟨_,rfl,λzz=> ?_,λzz=>zr ?_⟩
 .obtain rfl|rfl|rfl:=c
  .ext;exact⟨rfl,p⟩
  .exact absurd zz ∅
  .exact absurd zz ∅
 refine zk (zC (xT (yw (yw (zq rfl ?_)))));ext;refine zG (l:=[opX ta,.str (sgS sg),opX tb]) rfl vZ ?_;ext;refine zw ⟨_,rfl,λz2=> ?_,λz2=>zr ?_⟩
 .obtain rfl|rfl|rfl:=c
  .exact absurd z2 ∅
  .ext;exact⟨rfl,p⟩
  .exact absurd z2 ∅
 .obtain rfl|rfl|rfl:=c
  .exact absurd zz ∅
  .exact absurd z2 ∅
  .ext;exact⟨rfl,p⟩
end
section
variable {fu:Nat} {mx:Nat} {S S' S2:Sto} {x y z:Xv} {bs:List (Str×Nat)} {st st':List Nat} {ln:Nat}
theorem zkF (hl:yl mx ln S) (h9:bs.length<=9) (h1:∀b∈bs,1<=b.2):W (Wa fu [.ref ln,.tup (bsX bs)] S) λv S'=>∃st,v= .tup (ksX st)/\yJ (bs.map (·.2)) st/\yl mx ln S'/\Kp (· =ln) S S':=by
 walk_at "wr";unfold ZT;refine yf (wn (zm (xH (zeZ (zq rfl ?_)))));refine⟨_,rfl,_,rfl,?_⟩;refine xn (by rw[vv];exact Zw ⋯) (λi es S2=>∃st,es=ksX st/\st.length=i/\(∀(k:Nat) x b,st[k]? =some x->bs[k]? =some b->x<b.2)/\yl mx ln S2/\Kp (· =ln) S S2) (λ_ _ _ _ _=>rfl) ?_ ⟨[],rfl,rfl,(λk x b e=>by simp at e),hl,Kp.refl _⟩ ?_
 .rintro i w0 dc S2 hw fO ⟨st,rfl,gm,eQ,l2,k2⟩;obtain⟨b,e1,rfl⟩:=zhB hw;have hb:=h1 b (qS e1);refine .of rfl ?_;dsimp only[xZ,rR,qW];ext;refine⟨rfl,?_⟩;ext;refine (vk l2 ⋯).imp ?_;rintro _ S3 ⟨c,rfl,c0,c1,l3,k3⟩;refine⟨st++[c.toNat],by rw[Vc,ub c0],by simp[gm],λk x b' e2 e3=> ?_,l3,k2.trans k3⟩;rcases rW k st.length with hk|hk|hk
  .rw[qR hk] at e2;exact eQ k x b' e2 e3
  .subst hk;rw[qU (qT _),su] at e2;cases e2;rw[gm,e1] at e3;cases e3;omega
  .rw[r6 (by simp;omega)] at e2;cases e2
 .rintro dc S2 _ ⟨st,rfl,gm,eQ,l2,k2⟩;rw[vv] at gm;ext;refine TV yy ⟨st,rfl,⟨by rw[qV];exact gm,λk x s e1 e2=> ?_⟩,l2.app,k2.app⟩;rw[qY] at e2;cases e3:bs[k]? with
  |none=>rw[e3] at e2;cases e2
  |some b=>rw[e3] at e2;cases e2;exact eQ k x b e1 e3
theorem zl6 {k:Nat} {b:Str×Nat} (e:bs[k]? =some b):∃j,fIx bs b.1=some j:=by
 cases h:fIx bs b.1 with
 |some j=>exact⟨j,rfl⟩
 |none=>
  unfold fIx at h;rw[List.findIdx?_eq_none_iff] at h;have:=h b (qS e);simp at this
theorem zds (hl:yl mx ln S) (h9:bs.length<=9):W (vQ fu [.ref ln,.tup (bsX bs)] S) λv S'=>∃o,v=opX o/\zcm bs o/\yl mx ln S'/\Kp (· =ln) S S':=by
 walk_at "wr";unfold vP;refine zk (yB (yZ (zm (zq rfl (zm (yw (yw (zbL (wn (zm (zq rfl (yI (vt ?_)))))))))))));rw[vv];ext;refine (vk hl ⋯).imp ?_;rintro _ S1 ⟨c,rfl,c0,c1,l1,k1⟩;dsimp only[qW];refine zk (zC ?_);ext;refine yQ (λhc=> ?_) (λhc=>zr ?_)
 .refine yf (yw (yw (zq rfl (yw (zq rfl (wn (zm (zq rfl (yI (vt ?_))))))))));rw[vv];have hb:0<bs.length:=by omega
  refine YT ⋯ ?_;have hm:(c % (bs.length:Int)).toNat<bs.length:=by
   have:=tE c (show (0:Int)<(bs.length:Int) by omega);have:=sX c (show (bs.length:Int)≠0 by omega);omega
  have eb:bs[(c % (bs.length:Int)).toNat]? =some bs[(c % (bs.length:Int)).toNat]:=qN hm;refine zG (l:=bsX bs) rfl (zbM (sX c ⋯) (UO eb)) ?_;ext;exact⟨.nam _,rfl,zl6 eb,l1,k1⟩
 .refine zk (zC ?_);ext;refine yQ (λeL=> ?_) (λeL=>zr ?_)
  .ext;refine (vk l1 ∅).imp ?_;rintro _ S2 ⟨i,rfl,_,_,l2,k2⟩;exact⟨.num i,rfl,trivial,l2,k1.trans k2⟩
  .ext;refine (vk l1 ∅).imp ?_;rintro _ S2 ⟨i,rfl,_,_,l2,k2⟩;exact⟨.num i,rfl,trivial,l2,k1.trans k2⟩
theorem zob (hl:yl mx ln S) (h9:bs.length<=9):W (WZ fu [.ref ln,.tup (bsX bs)] S) λv S'=>∃t,v=tsX t/\zcP bs t/\yl mx ln S'/\Kp (· =ln) S S':=by
 walk_at "wr";unfold YD;refine zk (yB (yZ (zm (zq rfl (zm (zq rfl (yI ?_)))))));refine (zds hl h9).imp ?_;rintro _ S1 ⟨oa,rfl,ha,l1,k1⟩;dsimp only[qW];refine zk (yB (yw (zbL (yZ (zm (zq rfl (zm (zbL (yI ?_)))))))));refine (vk l1 ∅).imp ?_;rintro _ S2 ⟨c,rfl,c0,c1,l2,k2⟩;obtain⟨sg,oJ,e⟩:∃sg,sg<3/\zh7 (.str "=<#") (.int c) S2=some (.str (sgS sg),S2):=by
  have:c=0\/c=1\/c=2:=by omega
  obtain rfl|rfl|rfl:=this
  .exact⟨0,∅,rfl⟩
  .exact⟨1,∅,rfl⟩
  .exact⟨2,∅,rfl⟩
 refine WO.of e ?_;dsimp only[qW];refine yf (zak (zm (zq rfl (zm (zq rfl (zm (yZ (zm (zq rfl (zm (zq rfl (yI ?_)))))))))))) ;refine (zds l2 h9).imp ?_;rintro _ S3 ⟨ob,rfl,hb,l3,k3⟩;ext;exact⟨⟨oa,sg,ob⟩,rfl,⟨ha,hb,oJ⟩,l3,(k1.trans k2).trans k3⟩
end
section
variable {fu:Nat} {S S' S2:Sto} {x y z:Xv} {sn fn dn:Nat} {fs fs':List zy} {bs:List (Str×Nat)} {t:Tst}
def Mk (ss:List Nat) (fs:List zy) (bs:List (Str×Nat)) (t:Tst) (ns:List Nat) (i:Nat):Prop:=∀st,yJ ss st->(∀k,k<ns.length->Rel bs t k->ns[k]? =st[k]?)->∃h,VA fs st (mkQ bs t st) h i
theorem Mk.mono {ss ns:List Nat} {i:Nat} (h:Mk ss fs bs t ns i) (p:fs<+:fs'):Mk ss fs' bs t ns i:=λst hs hk=>by
 obtain⟨k,v⟩:=h st hs hk;exact⟨k,v.mono p⟩
theorem zoc {k:Nat} {b:Str×Nat} (e:bs[k]? =some b) (hn:([opX t.a,.str (sgS t.sg),opX t.b].any λz=>zdR z (.str b.1))=false):¬Rel bs t k:=by
 rintro⟨b',e',h⟩;rw[e] at e';cases e';rw[v9] at hn;rcases h with h|h
 .refine hn (opX t.a) (by simp) ?_;rw[h];simp[opX,zdR]
 .refine hn (opX t.b) (by simp) ?_;rw[h];simp[opX,zdR]
theorem zl7 {ns:List Nat} (h9:bs.length<=9) (hl:ns.length=bs.length) (ht:zcP bs t) (h:xh sn fn dn (.tup (bsX bs)) fs S):W (zfm fu [.ref sn,tsX t] [.tup (ksX ns)] S) λv S'=>QX v (mkQ bs t ns)/\S<+:S':=by
 unfold zfm;refine Tq rfl rfl ?_;unfold zpu;dsimp only[rR,ud,uA,uU];refine WK (xT (yZ (zm (xK ?_))));ext;refine⟨_,_,_,rfl,h.o,rfl,?_⟩;ext;refine (zl5 h9 hl ht).imp ?_;rintro _ S2 ⟨rfl,p⟩;unfold mkQ bQ;cases mkB bs t ns with
 |true=>
  refine⟨_,rfl,λ_=> ?_,λzz=>(by cases zz)⟩;ext;exact⟨rfl,p⟩
 |false=>
  refine⟨_,rfl,λzz=>(by cases zz),λ_=> ?_⟩;ext;exact⟨rfl,p⟩
theorem nb_ {b:Bool} (h:(true !=b)=true):b=false:=by cases b<;>simp_all
theorem zhD (o:Opd):ZB (opX o)=true:=by cases o<;>rfl
theorem zkG {k:Nat} {b:Str×Nat} (e:bs[k]? =some b):(bs.map (·.2))[k]? =some b.2:=by rw[qY,e];rfl
theorem zl8 (h9:bs.length<=9) (h1:∀b∈bs,1<=b.2/\b.2<=9) (ht:zcP bs t):∀(d N:Nat) {S:Sto} {fs:List zy} {ns:List Nat},d+1<=N->ns.length+d=bs.length->xh sn fn dn (.tup (bsX bs)) fs S->WF (bs.map (·.2)) fs->fs.length+cst (bs.map (·.2)) d<=1000000->
  W (yq fu N [.ref sn,tsX t,.lam zaF [.ref sn,tsX t],.tup (ksX ns)] S) λv S'=>∃(i:Nat) (fs':List zy),v= .int (i:Int)/\(∃f,fs'[i]? =some f/\ns.length<=lvl (bs.map (·.2)).length f)/\Mk (bs.map (·.2)) fs' bs t ns i/\WF (bs.map (·.2)) fs'/\yN sn fn dn (.tup (bsX bs)) fs (cst (bs.map (·.2)) d) S fs' S':=by
 have gJ:(bs.map (·.2)).length=bs.length:=qV _;have dg:∀s∈bs.map (·.2),1<=s:=λs hs=>by
  obtain⟨b,hb,rfl⟩:=tS.1 hs;exact (h1 b hb).1
 intro d
 induction d with
 |zero=>
  intro N S fs ns hN df h w hf;obtain⟨N,rfl⟩:∃M,N=M+1:=⟨N-1,⋯⟩;have c2:2<=cst (bs.map (·.2)) 0:=by unfold cst;rw[As,uB];exact qT _
  rw[xM];walk_at "wr";unfold xt;refine zk (yB (wn (zm (zq rfl (yI (vt ?_))))));rw[yW];dsimp only[qW];refine zk (zC (xT (yw (zq rfl (wn (zm (xK ?_)))))));ext;refine⟨_,_,_,rfl,h.o,rfl,?_⟩;ext;refine vt ?_;rw[vv];ext;refine yQ (λ_=> ?_) (λzz=>absurd ⋯ zz);refine yf (zW ?_);ext;refine⟨_,_,rfl,h.o,rfl,?_⟩;refine zm (zbY rfl Tp (zm (zq rfl (yI ?_))));refine (zl7 h9 ⋯ ht h).imp ?_;rintro v S2 ⟨hq,p⟩;ext;refine (UM (h.pre p) ⋯ hq).imp ?_;rintro _ S3 ⟨i,cG,rfl,e1,ad,g⟩;refine⟨i,cG,rfl,⟨_,e1,by show ns.length<=(bs.map (·.2)).length;omega⟩,λst hs hk=> ?_,w.leaf g.st.nd ad,((yN.of_pre h p).trans g).more ⋯⟩;refine⟨0,.leaf ?_⟩
  rw[zoa (st:=st) (st':=ns) ht λk hr=>(hk k (by
   obtain⟨b,e,_⟩:=hr;have:=(qO.1 e).1
   omega) hr).symm]
  exact e1
 |succ d ih=>
  intro N S fs ns hN df h w hf;obtain⟨N,rfl⟩:∃M,N=M+1:=⟨N-1,⋯⟩;have hl:ns.length<bs.length:=by omega
  have eb:bs[ns.length]? =some bs[ns.length]:=qN hl;generalize bs[ns.length]=b at eb;have hsz:=h1 b (qS eb);have es:=zkG eb;have lC:=zch dg (show d<=d+1 by omega);have hc:cst (bs.map (·.2)) (d+1)=2+b.2*cst (bs.map (·.2)) d:=by
   have:=zen es;rw[show (bs.map (·.2)).length-ns.length=d+1 by omega] at this;exact this
  rw[xM];walk_at "wr";unfold xt;refine zk (yB (wn (zm (zq rfl (yI (vt ?_))))));rw[yW];dsimp only[qW];refine zk (zC (xT (yw (zq rfl (wn (zm (xK ?_)))))));ext;refine⟨_,_,_,rfl,h.o,rfl,?_⟩;ext;refine vt ?_;rw[vv];ext;refine yQ (λzz=>absurd zz ⋯) (λ_=>zr ?_);refine zk (zC (xT (yw (yw (yw (xK ?_))))));ext;refine⟨_,_,_,rfl,h.o,rfl,?_⟩;ext;refine zG (l:=bsX bs) rfl (zQ (UO eb)) ?_;ext;refine zpd (l:=[opX t.a,.str (sgS t.sg),opX t.b]) rfl (by show (true&&(ZB (opX t.a)&&(true&&(ZB (opX t.b)&&true))))=true;rw[zhD,zhD];rfl) ?_;refine⟨_,rfl,λzz=> ?_,λzz=>zr ?_⟩
  .have oS:=zoc eb (nb_ zz);refine yf (zW ?_);ext;refine⟨_,_,rfl,h.o,rfl,?_⟩;ext;refine Ue (by rw[yW];simp only[ra,sQ];omega) ?_;rw[show ksX ns++[Xv.int 0]=ksX (ns++[0]) from (Vc ns 0).symm];ext;refine (ih N ⋯ (by simp;omega) h w ⋯).imp ?_;rintro v S2 ⟨i,aY,hv,⟨f,e1,e2⟩,mk,w2,g⟩;refine⟨i,aY,hv,⟨f,e1,by rw[rd] at e2;omega⟩,λst hs hk=>mk st hs λk ft hr=> ?_,w2,g.more lC⟩;rcases rW k ns.length with h'|h'|h'
   .rw[qR h'];exact hk k h' hr
   .subst h';exact absurd hr oS
   .rw[rd] at ft;simp at ft;omega
  .refine zk (yB (yw (yw (xK ?_))));ext;refine⟨_,_,_,rfl,h.o,rfl,?_⟩;ext;refine zG (l:=bsX bs) rfl (zQ (UO eb)) ?_;ext;refine zW ?_;ext;refine⟨_,_,rfl,h.o,rfl,?_⟩;refine zm (zq rfl (zm (xH (wD (zq rfl ?_)))));refine⟨_,rfl,⟨⋯,⋯⟩,_,rfl,?_⟩;rw[rH]
   refine xn (xs:=xy 0 b.2) (by rw[yj];exact Zw ⋯) (λi es S2=>∃(aY:List zy) (ks:List Nat),es=ksX ks/\ks.length=i/\yN sn fn dn (.tup (bsX bs)) fs (i*cst (bs.map (·.2)) d) S aY S2/\WF (bs.map (·.2)) aY/\
     ∀(m k:Nat),ks[m]? =some k->(∃f,aY[k]? =some f/\ns.length<lvl (bs.map (·.2)).length f)/\Mk (bs.map (·.2)) aY bs t (ns++[m]) k) (λ_ _ _ _ _=>rfl) ?_ ⟨fs,[],rfl,rfl,h.grown.more ⋯,w,λm k e=>by simp at e⟩ ?_
   .rintro i w0 dc S2 hw fO ⟨aY,ks,rfl,cu,g2,w2,cM⟩;obtain⟨hi,rfl⟩:=yX hw;rw[sy];refine .of rfl ?_;dsimp only[xZ,rR,qW];ext;refine⟨rfl,zW ?_⟩;ext;refine⟨_,_,rfl,g2.st.o,rfl,?_⟩;ext;refine Ue (by rw[yW];simp only[ra,sQ];omega) ?_;rw[show ksX ns++[Xv.int (i:Int)]=ksX (ns++[i]) from (Vc ns i).symm];ext;have jD:(i+1)*cst (bs.map (·.2)) d<=b.2*cst (bs.map (·.2)) d:=rN _ hi;have gW:(i+1)*cst (bs.map (·.2)) d=i*cst (bs.map (·.2)) d+cst (bs.map (·.2)) d:=sM i _;have f2:=g2.len;refine (ih N ⋯ (by simp;omega) g2.st w2 ⋯).imp ?_;rintro _ S3 ⟨k,cG,rfl,⟨f,e1,e2⟩,mk,w3,g3⟩;refine⟨cG,ks++[k],by rw[Vc],by simp[cu],(g2.trans g3).more ⋯,w3,λm k' e=> ?_⟩;rcases rW m ks.length with bX|bX|bX
    .rw[qR bX] at e;obtain⟨⟨f',e1,e2⟩,tt⟩:=cM m k' e;exact⟨⟨f',yx g3.pre e1,e2⟩,tt.mono g3.pre⟩
    .subst bX;rw[qU (qT _),su] at e;cases e;rw[cu];exact⟨⟨f,e1,by rw[rd] at e2;exact e2⟩,mk⟩
    .rw[r6 (by simp;omega)] at e;cases e
   .rintro dc S2 _ ⟨aY,ks,rfl,cu,g2,w2,cM⟩;rw[yj] at cu g2;have g3:=g2.app (qQ S2 [.lst (ksX ks)]);have du:(S2++[Ce.lst (ksX ks)])[S2.length]? =some (.lst (ksX ks)):=yy;generalize S2++[Ce.lst (ksX ks)]=S3 at g3 du;have f2:=g2.len;have h0:ks[0]? =some ks[0]:=qN ⋯;ext;refine (zaq g3.st ⋯ du h0 ⋯).imp ?_;rintro _ S4 ⟨r,dm,rfl,fo,ad,g⟩;have dR:∀k∈ks,∃f,aY[k]? =some f/\ns.length<lvl (bs.map (·.2)).length f:=λk hk=>by
     obtain⟨m,bX⟩:=rL hk;exact (cM m k bX).1
    have w4:WF (bs.map (·.2)) dm:=by
     rcases ad with rfl|⟨cV,ad⟩
     .exact w2
     .refine w2.fork g.st.nd (.inr ad) es cu dR λz=>cV λk hk=> ?_;exact z k hk ks[0] (rq _)
    refine⟨r,dm,rfl,?_,λst hs eQ=> ?_,w4,(g3.trans g).more ⋯⟩
    .obtain⟨k0,e0,⟨all,rfl⟩|⟨_,e⟩⟩:=fo
     .obtain⟨f,e1,e2⟩:=dR r (qS e0);exact⟨f,yx g.pre e1,⋯⟩
     .exact⟨_,e,qT _⟩
    .obtain⟨m,em,bX⟩:=hs.get es;have ek:ks[m]? =some ks[m]:=qN ⋯;obtain⟨_,tl⟩:=cM m _ ek;obtain⟨hh,v⟩:=tl st hs λk hk hr=>by
      rcases rW k ns.length with h'|h'|h'
      .rw[qR h'];exact eQ k h' hr
      .subst h';rw[qU (qT _),su,em];rfl
      .rw[rd] at hk;simp at hk;omega
     exact⟨_,fo.va em ek (v.mono g.pre)⟩
theorem zkH (h9:bs.length<=9) (h1:∀b∈bs,1<=b.2/\b.2<=9) (ht:zcP bs t) (h:xh sn fn dn (.tup (bsX bs)) fs S) (w:WF (bs.map (·.2)) fs) (hT:S[5]? =some (.tab zaF.t)) (hf:fs.length+cst (bs.map (·.2)) (bs.map (·.2)).length<=1000000):
  W (Yq fu [.ref sn,tsX t] S) λv S'=>∃(i:Nat) (fs':List zy),v= .int (i:Int)/\(∃f,fs'[i]? =some f)/\(∀st,yJ (bs.map (·.2)) st->∃h,VA fs' st (mkQ bs t st) h i)/\WF (bs.map (·.2)) fs'/\yN sn fn dn (.tup (bsX bs)) fs (cst (bs.map (·.2)) (bs.map (·.2)).length) S fs' S':=by
 walk_at "wr";unfold Yp;refine yf (Vy ?_);ext;refine⟨_,_,rfl,h.o,rfl,?_⟩;refine zm (zq rfl (zm (zbX hT rfl ?_)));ext;unfold XX;walk_at "wr";unfold XW;refine yf (zW ?_);ext;refine⟨_,_,rfl,h.o,rfl,?_⟩;ext;have gJ:(bs.map (·.2)).length=bs.length:=qV _;rw[gJ] at hf ⊢;refine (zl8 h9 h1 ht bs.length 12 (ns:=[]) ⋯ (by simp) h w hf).imp ?_;rintro _ S2 ⟨i,aY,rfl,⟨f,e1,_⟩,mk,w2,g⟩;exact⟨i,aY,rfl,⟨f,e1⟩,λst hs=>mk st hs λk hk=>by simp at hk,w2,g⟩
end
section
variable {fu:Nat} {S S' S2:Sto} {x y z:Xv} {sn fn dn:Nat} {fs fs':List zy} {bs:List (Str×Nat)} {pt:List Nat}
theorem zl9 {n i:Nat} (h:i<n):ixN n (i:Int)=some i:=by
 unfold ixN;rw[if_pos ⋯,if_pos ⋯,rH]
theorem zit {n:Nat} (h:n<=9):Builtin.Range.small ((n:Int)-1) (-1) (-1)=true:=zgo ⋯ ⋯
theorem zma (ks:List Nat) (j r:Nat):(ksX ks).set j (.int (r:Int))=ksX (ks.set j r):=by unfold ksX;rw[List.map_set]
theorem zmb (s n:Nat):ksX (rh s n)=rh s (.int (n:Int)):=by unfold ksX;rw[Au]
def Pt (ss:List Nat) (fs:List zy) (pt:List Nat) (lv i:Nat):Prop:=∀st,yJ ss st->∃h,VA fs st (bQ (decide (st.drop lv=pt.drop lv))) h i
theorem xh.isome {bx:Xv} (h:xh sn fn dn bx fs S):S[sn]? ≠none/\S[fn]? ≠none/\S[dn]? ≠none:=by
 obtain⟨xs,_,h1,h2⟩:=h.fd';rw[h.o,h1,h2];exact⟨λe=>(by cases e),λe=>(by cases e),λe=>(by cases e)⟩
theorem zmc (h9:bs.length<=9) (h1:∀b∈bs,1<=b.2/\b.2<=9) (i5:yJ (bs.map (·.2)) pt) (h:xh sn fn dn (.tup (bsX bs)) fs S) (w:WF (bs.map (·.2)) fs) (hf:fs.length<=900000):
  W (Xg fu [.ref sn,.tup (ksX pt)] S) λv S'=>∃(i:Nat) (fs':List zy),v= .int (i:Int)/\(∃f,fs'[i]? =some f)/\Pt (bs.map (·.2)) fs' pt 0 i/\WF (bs.map (·.2)) fs'/\yN sn fn dn (.tup (bsX bs)) fs 11 S fs' S':=by
 have gJ:(bs.map (·.2)).length=bs.length:=qV _;walk_at "wr";unfold Xf;refine zk (yB (zW ?_));ext;refine⟨_,_,rfl,h.o,rfl,?_⟩;ext;refine (UM h ⋯ (q:=(0,1)) (y:= .ct [.int 0,.int 1]) rfl).imp ?_;rintro _ S1 ⟨n0,cj,rfl,e0,q5,g1⟩;dsimp only[qW];refine zk (yB (zW ?_));ext;refine⟨_,_,rfl,g1.st.o,rfl,?_⟩;ext;have f1:=g1.len;refine (UM g1.st ⋯ (q:=(1,1)) (y:= .ct [.int 1,.int 1]) rfl).imp ?_;rintro _ S2 ⟨n1,aY,rfl,e1,pZ,g2⟩;dsimp only[qW];have w1:=w.leaf g1.st.nd q5;have w2:=w1.leaf g2.st.nd pZ;have g:=g1.trans g2;refine zk (vR (zn2 (yw (wn (zm (xK ?_))))));ext;refine⟨_,_,_,rfl,g2.st.o,rfl,?_⟩;ext;refine vt ?_;rw[vv];ext;refine⟨_,_,rfl,rfl,rfl,zit h9,_,rfl,?_⟩;rw[show ((bs.length:Int)-1-(-1)).toNat=bs.length by omega];refine wC (xs:=Ut ((bs.length:Int)-1) bs.length) (λi ρ S3=>∃(cG:List zy) (r:Nat) (a4 a5:Option Xv),ρ=[some (.ref sn),some (.tup (ksX pt)),some (.int (n0:Int)),some (.int (r:Int)),a4,a5]/\yN sn fn dn (.tup (bsX bs)) fs (2+i) S cG S3/\WF (bs.map (·.2)) cG/\cG[n0]? =some (.leaf (0,1))/\(∃f,cG[r]? =some f/\bs.length-i<=lvl (bs.map (·.2)).length f)/\Pt (bs.map (·.2)) cG pt (bs.length-i) r) (λ_ _ _ _ _=>rfl) ?_ ?_ ?_
 .rintro i w0 ρ S3 hw ⟨cG,r,a4,a5,rfl,g3,w3,en,⟨fr,er,hr⟩,hp⟩;obtain⟨hi,rfl⟩:=zj4 hw;refine .of rfl ?_;dsimp only[qW];have dW:(bs.length:Int)-1-(i:Int)=((bs.length-1-i:Nat):Int):=by omega
  rw[dW];generalize oX:bs.length-1-i=lv at dW;have p5:lv<bs.length:=by omega
  have kU:bs.length-i=lv+1:=by omega
  rw[kU] at hr hp;have eb:bs[lv]? =some bs[lv]:=qN p5;generalize bs[lv]=b at eb;have hsz:=h1 b (qS eb);have es:=zkG eb;obtain⟨p,ep,dH⟩:=i5.get es;refine zk (yB (xH (wD (yw (yw (xK ?_))))));ext;refine⟨_,_,_,rfl,g3.st.o,rfl,?_⟩;ext;refine zG (l:=bsX bs) rfl (zQ (UO eb)) ?_;ext;refine⟨⟨⋯,⋯⟩,_,rfl,?_⟩;rw[rH];refine xn (xs:=xy 0 b.2) (by rw[yj];exact Zw ⋯) (λj es S4=>es=rh j (.int (n0:Int))/\S4=S3) (λ_ _ _ _ _=>rfl) ?_ ⟨rfl,rfl⟩ ?_
  .rintro j w1 lQ S4 mM _ ⟨rfl,rfl⟩;refine .of rfl ?_;dsimp only[xZ,rR,qW];ext;refine⟨rfl,?_⟩;ext;exact⟨by rw[sN],rfl⟩
  rintro lQ S4 _ ⟨rfl,rfl⟩;rw[yj,<-zmb];dsimp only[qW];have g4:=g3.app (qQ S4 [.lst (ksX (rh b.2 n0))]);have fN:(S4++[Ce.lst (ksX (rh b.2 n0))])[S4.length]? =some (.lst (ksX (rh b.2 n0))):=yy;have lg:S.length<=S4.length:=g3.kp.1;generalize qE:S4++[Ce.lst (ksX (rh b.2 n0))]=S5 at g4 fN;refine zk (zjP (zq rfl (zq rfl (yw (zq rfl (zq rfl ?_))))));refine zG rfl (zQ (wc ep)) ?_;refine⟨_,_,_,p,wQ fN,rfl,zl9 (by rw[yW,uC];exact dH),?_⟩;rw[zma];obtain⟨q0,q1,q2⟩:=h.isome;have g5:=g4.set (c:= .lst (ksX ((rh b.2 n0).set p r))) lg q0 q1 q2;have i9:=wb (c':= .lst (ksX ((rh b.2 n0).set p r))) fN;generalize S5.set S4.length (.lst (ksX ((rh b.2 n0).set p r)))=S6 at g5 i9;generalize cM:(rh b.2 n0).set p r=ks at i9;have cu:ks.length=b.2:=by rw[<-cM];simp
  have n5:∀m,m<b.2->ks[m]? =some (if m=p then r else n0):=λm hm=>by
   rw[<-cM,rK];by_cases e:p=m
   .rw[if_pos e,if_pos (by simpa using dH),if_pos e.symm]
   .rw[if_neg e,if_neg (λz=>e z.symm),tN,if_pos hm]
  have dR:∀k∈ks,∃f,cG[k]? =some f/\lv<lvl (bs.map (·.2)).length f:=λk hk=>by
   obtain⟨m,hm⟩:=rL hk;have gQ:=(qO.1 hm).1;rw[n5 m ⋯] at hm;by_cases e:m=p
   .rw[if_pos e] at hm;cases hm;exact⟨fr,er,hr⟩
   .rw[if_neg e] at hm;cases hm;exact⟨_,en,by show lv<(bs.map (·.2)).length;omega⟩
  have h0:ks[0]? =some ks[0]:=qN ⋯;refine yB (zW ?_);ext;refine⟨_,_,rfl,g5.st.o,rfl,?_⟩;ext;have f3:=g5.len;refine (zaq g5.st ⋯ i9 h0 ⋯).imp ?_;rintro _ S7 ⟨r',nz,rfl,fo,ad,g7⟩;have w7:WF (bs.map (·.2)) nz:=by
   rcases ad with rfl|⟨cV,ad⟩
   .exact w3
   .refine w3.fork g7.st.nd (.inr ad) es cu dR λz=>cV λk hk=> ?_;exact z k hk ks[0] (rq _)
  rw[show bs.length-(i+1)=lv by omega];refine⟨nz,r',_,_,rfl,(g5.trans g7).more ⋯,w7,yx g7.pre en,?_,λst hs=> ?_⟩
  .obtain⟨k0,pU,⟨all,rfl⟩|⟨_,e⟩⟩:=fo
   .obtain⟨f,pT,nE⟩:=dR r' (qS pU);exact⟨f,yx g7.pre pT,⋯⟩
   .exact⟨_,e,qT _⟩
  .obtain⟨m,em,hm⟩:=hs.get es;have ek:=n5 m hm;obtain⟨kY,em'⟩:=qO.1 em;obtain⟨fm,ep'⟩:=qO.1 ep;rw[sA kY,sA fm,em',ep'];by_cases e:m=p
   .rw[if_pos e] at ek;obtain⟨hh,v⟩:=hp st hs;subst e;rw[show decide (m::st.drop (lv+1)=m::pt.drop (lv+1))=decide (st.drop (lv+1)=pt.drop (lv+1)) by simp];exact⟨_,fo.va em ek (v.mono g7.pre)⟩
   .rw[if_neg e] at ek;rw[show decide (m::st.drop (lv+1)=p::pt.drop (lv+1))=false from decide_eq_false λz=>e (by injection z)];exact⟨_,fo.va em ek (.leaf (h:=0) (yx g7.pre en))⟩
 .refine⟨aY,n1,none,none,rfl,g,w2,yx g2.pre e0,⟨_,e1,by show bs.length-0<=(bs.map (·.2)).length;omega⟩,λst hs=>⟨0,.leaf ?_⟩⟩;rw[As,A0 (by rw[hs.1];omega),A0 (by rw[i5.1];omega)];exact e1
 .rintro ρ S3 ⟨cG,r,a4,a5,rfl,g3,w3,en,⟨fr,er,hr⟩,hp⟩;rw[zij] at g3 hp;ext;rw[su] at hp;exact⟨r,cG,rfl,⟨fr,er⟩,hp,w3,g3.more ⋯⟩
end
section
variable {fu:Nat} {S S' S2:Sto} {x y z:Xv} {ss:List Nat} {bl:List Xv} {fs fs':List zy}
theorem yJ.tail {s a:Nat} {r t:List Nat} (h:yJ (s::r) (a::t)):a<s/\yJ r t:=
 ⟨h.2 0 a s rfl rfl,by simpa using h.1,λi x u e1 e2=>h.2 (i+1) x u (by simpa using e1) (by simpa using e2)⟩
theorem VR:∀{ss st:List Nat},yJ ss st->idx ss st<prd ss
 |[],[],_=>by decide
 |[],_::_,h=>by have:=h.1;simp at this
 |_::_,[],h=>by have:=h.1;simp at this
 |s::r,a::t,h=>by
  obtain⟨h1,h2⟩:=h.tail;have:=VR h2;show a*prd r+idx r t<s*prd r;have:(a+1)*prd r<=s*prd r:=rN _ h1;rw[sM] at this;omega
theorem zhE:∀{ss st st':List Nat},yJ ss st->yJ ss st'->idx ss st=idx ss st'->st=st'
 |[],[],[],_,_,_=>rfl
 |[],_::_,_,h,_,_=>by have:=h.1;simp at this
 |[],[],_::_,_,h,_=>by have:=h.1;simp at this
 |_::_,[],_,h,_,_=>by have:=h.1;simp at this
 |_::_,_::_,[],_,h,_=>by have:=h.1;simp at this
 |s::r,a::t,b::u,h,g,e=>by
  obtain⟨h1,h2⟩:=h.tail;obtain⟨g1,g2⟩:=g.tail;have e:a*prd r+idx r t=b*prd r+idx r u:=e;have l1:=VR h2;have l2:=VR g2;have:a=b:=by
   rcases rW a b with q|q|q
   .have:(a+1)*prd r<=b*prd r:=rN _ q;rw[sM] at this;omega
   .exact q
   .have:(b+1)*prd r<=a*prd r:=rN _ q;rw[sM] at this;omega
  subst this;rw[zhE h2 g2 ⋯]
theorem ww.has {L:List (List Nat)} (g:ww ss L) {st:List Nat} (h:yJ ss st):L[idx ss st]? =some st:=by
 have hl:idx ss st<L.length:=by rw[g.len];exact VR h
 have e:L[idx ss st]? =some L[idx ss st]:=qN hl;obtain⟨h1,h2⟩:=g.at_ _ _ e;rw[e,zhE h1 h h2]
noncomputable def stD (st:List Nat):D:= .tup ((st.map λ(k:Nat)=>(k:Int)).map D.int)
theorem za8 (st:List Nat):vD S 40 (.tup (ksX st))=some (stD st):=by
 show (vx (vD S 39) (ksX st)).map D.tup=_;rw[zkq];rfl
theorem zkI:∀{a b:List Nat},(a.map λ(k:Nat)=>(k:Int))=(b.map λ(k:Nat)=>(k:Int))->a=b
 |[],[],_=>rfl
 |[],_::_,h=>by cases h
 |_::_,[],h=>by cases h
 |x::r,y::t,h=>by
  rw[rC,rC] at h;injection h with h1 h2
  rw[zkI h2,tO.1 h1]
theorem zm0 {n:Nat} {a b:List Nat} (h:a.length=b.length):eqG (n+1) (stD a) (stD b)=some (decide (a=b)):=by
 have e:=zdd (n:=n) (a.map λ(k:Nat)=>(k:Int)) (b.map λ(k:Nat)=>(k:Int)) (by rw[qV,qV,h]);unfold stD;show (Yi (eqG n) _ _).map _=_;rw[e,sE]
 congr 1
 rw[show decide ((a.map λ(k:Nat)=>(k:Int))=(b.map λ(k:Nat)=>(k:Int)))=decide (a=b) by
  by_cases q:a=b
  .rw[decide_eq_true q,decide_eq_true (by rw[q])]
  .rw[decide_eq_false q,decide_eq_false λz=>q (zkI z)]]
 rw[show ((a.map λ(k:Nat)=>(k:Int)).map D.int).length==((b.map λ(k:Nat)=>(k:Int)).map D.int).length from by simp[h],B6]
theorem zkJ {st:List Nat}:∀{L:List (List Nat)},(∀e∈L,e.length=st.length)->zik (stD st) (L.map stD)=some (L.map λe=>decide (e=st))
 |[],_=>rfl
 |a::L,h=>by
  rw[rC];unfold zik;rw[zm0 (h a rE),r0,zkJ λe he=>h e (r9 _ he)];rfl
theorem zfx:∀(L:List (List Nat)),vx (vD S 40) (Ze L)=some (L.map stD)
 |[]=>rfl
 |a::L=>by
  show vx (vD S 40) (.tup (ksX a)::Ze L)=_;unfold vx;rw[za8,zfx L];rfl
theorem zdt {P:Xv->Sto->Prop} {L:List (List Nat)} {n:Nat} {st:List Nat} (g:ww ss L) (hs:yJ ss st) (h:S[n]? =some (.lst (Ze L))) (k:P (.int (idx ss st:Int)) S):WO (Ub (.ref n) [.tup (ksX st)] S) P:= .of (by
 unfold Ub;rw[wQ h];dsimp only;rw[zfx,r0,za8,r0,zkJ λe he=> ?_,r0]
 .rw[show (L.map λe=>decide (e=st)).findIdx? id=some (idx ss st) from ?_]
  .rfl
  .rw[sF];obtain⟨hl,e⟩:=qO.1 (g.has hs);refine⟨by rw[qV];exact hl,by rw[AG,e];exact decide_eq_true rfl,λj hj=> ?_⟩;rw[AG];have gq:j<L.length:=by omega
   have:=(g.at_ j L[j] (qN gq)).2;intro z;have z:L[j]=st:=of_decide_eq_true z;rw[z] at this;omega
 .obtain⟨j,hj⟩:=rL he
  rw[(g.at_ j e hj).1.1,hs.1]) k
theorem zgH {P:Xv->Sto->Prop} {l:List Xv} {lo hi:Option Int} (k:P (.tup (Ui l lo hi)) S):WO (zeV (.tup l) lo hi S) P:= .of rfl k
theorem zod {α:Type} (l:List α) (a:Nat) (h:a<=l.length):Ui l none (some (a:Int))=l.take a:=by
 have e:(0:Nat)+a<=l.length:=by omega
 unfold L2.Ui;rw[HT.zaW,uM h];simp[HT.sIx]
theorem zfy {α:Type} (l:List α) (a:Nat) (h:a<=l.length):Ui l (some (a:Int)) none=l.drop a:=by
 unfold L2.Ui;rw[HT.zaW,uM h];simp[HT.sIx];exact A1 (by simp)
theorem zmd {st:List Nat} {lv m:Nat} (h:lv<st.length):(ksX st).take lv++[Xv.int (m:Int)]++(ksX st).drop (lv+1)=ksX (st.set lv m):=by
 unfold ksX;rw[<-Af,<-v7,List.set_eq_take_append_cons_drop,if_pos h];simp
end
section
variable {fu:Nat} {S S' S2:Sto} {x y z:Xv} {ss:List Nat} {bl:List Xv} {ln sn fn dn:Nat} {fs fs':List zy}
theorem zdu {qs:List Q2} {i:Nat} {q:Q2} (h:qs[i]? =some q):(qs.map qv)[i]? =some (qv q):=by rw[qY,h];rfl
theorem zme (aV:Bx9 ss bl) (hp:prd ss<=1000):∀(d N:Nat) {S:Sto} {fs:List zy} {lv tn:Nat} {T:List Q2},d+1<=N->lv+d=ss.length->xh sn fn dn (.tup bl) fs S->WF ss fs->S[tn]? =some (.lst (T.map qv))->tn≠fn->T.length=prd (ss.drop lv)->fs.length+cst ss d<=1000000->
  W (yU fu N [.ref sn,.tup bl,.int (lv:Int),.ref tn] S) λv S'=>∃(i:Nat) (fs':List zy),v= .int (i:Int)/\(∃f,fs'[i]? =some f/\lv<=lvl ss.length f)/\Zc ss fs' lv T i/\WF ss fs'/\yN sn fn dn (.tup bl) fs (cst ss d) S fs' S':=by
 intro d;have dg:∀s∈ss,1<=s:=λs hs=>(aV.siz s hs).1;have h9:=aV.l9;have fR:=aV.len
 induction d with
 |zero=>
  intro N S fs lv tn T hN dW h w ht mO hT hf;obtain⟨N,rfl⟩:∃M,N=M+1:=⟨N-1,⋯⟩;have c2:2<=cst ss 0:=by unfold cst;rw[As,uB];exact qT _
  rw[vV];walk_at "wr";unfold vK;refine zk (zC (xT (yw (zq rfl (wn (zm (zq rfl (yI (vt ?_)))))))));ext;rw[fR];refine yQ (λ_=> ?_) (λz=>absurd ⋯ z);rw[show lv=ss.length by omega,uB] at hT;have qB:T.length=1:=hT;have e0:T[0]? =some T[0]:=qN ⋯;refine yf (zW ?_);ext;refine⟨_,_,rfl,h.o,rfl,?_⟩;ext;refine zU (zh ht) (zQ (i:=0) (zdu e0)) ?_;ext;refine (UM h ⋯ (zfp _)).imp ?_;rintro _ S2 ⟨i,aY,rfl,e1,ad,g⟩;refine⟨i,aY,rfl,⟨_,e1,by show lv<=ss.length;omega⟩,λst hs=>⟨_,0,?_,.leaf e1⟩,w.leaf g.st.nd ad,g.more ⋯⟩;rw[show lv=ss.length by omega,uB];exact e0
 |succ d ih=>
  intro N S fs lv tn T hN dW h w ht mO hT hf;obtain⟨N,rfl⟩:∃M,N=M+1:=⟨N-1,⋯⟩;have hl:lv<ss.length:=by omega
  have es:ss[lv]? =some ss[lv]:=qN hl;generalize hs:ss[lv]=s at es;obtain⟨nm,hb⟩:=aV.at_ lv s es;have hsz:=aV.siz s (qS es);have lJ:T.length=s*prd (ss.drop (lv+1)):=by rw[hT,zky es]
  generalize gK:prd (ss.drop (lv+1))=part at lJ;have mS:1<=part:=by rw[<-gK];exact zeq λt ht=>dg t (Ac ht)
  have hc:cst ss (d+1)=2+s*cst ss d:=by
   have:=zen es;rw[show ss.length-lv=d+1 by omega] at this;exact this
  have dY:T.length<=1000:=by
   rw[hT];refine rk ?_ hp;have e:ss=ss.take lv++ss.drop lv:=(List.take_append_drop lv ss).symm;have:∀a b:List Nat,(∀s∈a,1<=s)->prd b<=prd (a++b):=by
    intro a b ha
    induction a with
    |nil=>exact qT _
    |cons x r nX=>
     have h1:=nX λt ht=>ha t (r9 _ ht);have h2:=ha x rE;show prd b<=x*prd (r++b);exact rk h1 (Nat.le_mul_of_pos_left _ h2)
   rw[e];rw[<-e];exact rk (this (ss.take lv) (ss.drop lv) λt ht=>dg t (List.mem_of_mem_take ht)) (by rw[<-e];exact qT _)
  rw[vV];walk_at "wr";unfold vK;refine zk (zC (xT (yw (zq rfl (wn (zm (zq rfl (yI (vt ?_)))))))));ext;rw[fR];refine yQ (λz=>absurd z ⋯) (λ_=>zr ?_);ext;refine zG (l:=bl) rfl (zQ hb) ?_;ext;refine YU (zh ht) ?_;rw[qV];ext;refine ze0 ⟨⋯,rk (VQ ⋯) ∅⟩ ?_;rw[sR _ ⋯,lJ,show ((s*part:Nat):Int) / (s:Int)=(part:Int) by rw[z7];exact Int.mul_ediv_cancel_left _ ⋯];ext;have dH:part<=1000:=by
   have:1*part<=s*part:=rN _ hsz.1;omega
  have qC:=(qO.1 ht).1;have j7:=h.flt;obtain⟨q0,q1,q2⟩:=h.isome;have g1:=yN.of_pre h (qQ S [Ce.lst []]);have mP:=yx (qQ S [Ce.lst []]) ht;have iV:(S++[Ce.lst []])[S.length]? =some (.lst (ksX [])):=yy;generalize S++[Ce.lst []]=S1 at g1 mP iV;refine vR (wD (zq rfl ?_));refine⟨_,rfl,⟨⋯,⋯⟩,_,rfl,?_⟩;rw[rH]
  refine wC (xs:=xy 0 s) (λi ρ S2=>∃(aY:List zy) (ks:List Nat) (a7:Option Xv),ρ=[some (.ref sn),some (.tup bl),some (.int (lv:Int)),some (.ref tn),some (.int (s:Int)),some (.int (part:Int)),some (.ref S.length),a7]/\S2[S.length]? =some (.lst (ksX ks))/\ks.length=i/\yN sn fn dn (.tup bl) fs (i*cst ss d) S aY S2/\WF ss aY/\S2[tn]? =some (.lst (T.map qv))/\
    ∀(m k:Nat),ks[m]? =some k->(∃f,aY[k]? =some f/\lv<lvl ss.length f)/\Zc ss aY (lv+1) ((T.drop (m*part)).take part) k) (λ_ _ _ _ _=>rfl) ?_ ⟨fs,[],none,rfl,iV,rfl,g1.more ⋯,w,mP,λm k e=>by simp at e⟩ ?_
  .rintro i w0 ρ S2 hw ⟨aY,ks,a7,rfl,ic,cu,g2,w2,kJ,cM⟩;obtain⟨hi,rfl⟩:=yX hw;rw[sy];refine .of rfl ?_;dsimp only[qW];refine wB (Yc (zq rfl ⟨⟨_,zh ic⟩,zm (yZ (zm (zq rfl (zm (zq rfl (zm ?_))))))⟩));ext;refine xU (by have:=VQ (p:=(i:Int)) ⋯;have:=VQ (p:=(part:Int)) ⋯;omega) ?_;ext;refine xU (by have:=VQ (p:=(i:Int)) ⋯;have:=VQ (p:=(part:Int)) ⋯;omega) ?_;ext;refine zjQ (zh kJ) ?_;have pd:i*part+part<=T.length:=by
    rw[lJ];have:(i+1)*part<=s*part:=rN _ hi;rw[sM] at this;exact this
   rw[show ((i:Int)*(part:Int))=((i*part:Nat):Int) by rw[z7],show ((i*part:Nat):Int)+(part:Int)=((i*part+part:Nat):Int) by rw[Int.natCast_add],zl3 _ _ _ (by rw[qV];exact pd),<-v7,<-Af];ext;have g3:=g2.app (qQ S2 [.lst (((T.drop (i*part)).take part).map qv)]);have kI:=yx (qQ S2 [Ce.lst (((T.drop (i*part)).take part).map qv)]) kJ;have du:=yx (qQ S2 [Ce.lst (((T.drop (i*part)).take part).map qv)]) ic;have jb:(S2++[Ce.lst (((T.drop (i*part)).take part).map qv)])[S2.length]? =some (.lst (((T.drop (i*part)).take part).map qv)):=yy;generalize S2++[Ce.lst (((T.drop (i*part)).take part).map qv)]=S3 at g3 kI du jb;have jD:(i+1)*cst ss d<=s*cst ss d:=rN _ hi;have gW:(i+1)*cst ss d=i*cst ss d+cst ss d:=sM i _;have f2:=g2.len;rw[show (lv:Int)+1=((lv+1:Nat):Int) by omega];refine (ih N (lv:=lv+1) ⋯ ⋯ g3.st w2 jb (by have:=g2.st.flt;omega) (by rw[sG,tK,gK];omega) ⋯).imp ?_;rintro _ S4 ⟨k,dm,rfl,⟨f,ef,pw⟩,tl,w4,g4⟩;ext;have fN:=g4.kp.2 _ _ du (λz=>by rcases z with z|z<;>omega);have oF:S4[tn]? =some (.lst (T.map qv)):=by
    refine g4.kp.2 _ _ kI λz=> ?_;rcases z with z|z
    .exact mO z
    .exact g3.st.nd' kI z
   refine vp (wQ fN) (by rw[yW];exact VN ⋯) ?_;refine⟨dm,ks++[k],_,rfl,by rw[wb fN,zaa],by simp[cu],((g3.trans g4).set (qT _) q0 q1 q2).more ⋯,w4,xu oF ⋯,λm k' e=> ?_⟩;rcases rW m ks.length with bX|bX|bX
   .rw[qR bX] at e;obtain⟨⟨f',e1,e2⟩,t⟩:=cM m k' e;exact⟨⟨f',yx g4.pre e1,e2⟩,t.mono g4.pre⟩
   .subst bX;rw[qU (qT _),su] at e;cases e;rw[cu];exact⟨⟨f,ef,⋯⟩,tl⟩
   .rw[r6 (by simp;omega)] at e;cases e
  .rintro ρ S3 ⟨aY,ks,a7,rfl,du,cu,g3,w2,kJ,cM⟩;rw[yj] at cu g3;have f2:=g3.len;have h0:ks[0]? =some ks[0]:=qN ⋯;refine yf (zW ?_);ext;refine⟨_,_,rfl,g3.st.o,rfl,?_⟩;ext;refine (zaq g3.st ⋯ du h0 ⋯).imp ?_;rintro _ S4 ⟨r,dm,rfl,fo,ad,g⟩;have dR:∀k∈ks,∃f,aY[k]? =some f/\lv<lvl ss.length f:=λk hk=>by
    obtain⟨m,bX⟩:=rL hk;exact (cM m k bX).1
   have w4:WF ss dm:=by
    rcases ad with rfl|⟨cV,ad⟩
    .exact w2
    .refine w2.fork g.st.nd (.inr ad) es cu dR λz=>cV λk hk=> ?_;exact z k hk ks[0] (rq _)
   refine⟨r,dm,rfl,?_,λst hs=> ?_,w4,(g3.trans g).more ⋯⟩
   .obtain⟨k0,e0,⟨all,rfl⟩|⟨_,e⟩⟩:=fo
    .obtain⟨f,e1,e2⟩:=dR r (qS e0);exact⟨f,yx g.pre e1,⋯⟩
    .exact⟨_,e,qT _⟩
   .obtain⟨m,em,bX⟩:=hs.get es;have ek:ks[m]? =some ks[m]:=qN ⋯;obtain⟨_,tl⟩:=cM m _ ek;obtain⟨q,hh,e,v⟩:=tl st hs;refine⟨q,_,?_,fo.va em ek (v.mono g.pre)⟩;rw[zkz es em,gK];rw[List.getElem?_take] at e;split at e
    .rw[List.getElem?_drop] at e;exact e
    .cases e
theorem zpz {n:Nat} (q:Q2):plX (n+1) (qv q)=true:=by cases n<;>simp[plX,qv]
theorem QX.is {q:Q2} (h:QX x q):x=qv q\/x= .ct [.int q.1,.int q.2]:=by
 unfold QX at h;cases x with
 |tup l=>simp only[Xv.tupOf,rJ] at h;subst h;exact .inl rfl
 |ct l=>simp only[Xv.tupOf,rJ] at h;subst h;exact .inr rfl
 |_=>simp[Xv.tupOf] at h
theorem zpA {l:List Xv} {i:Int} {z:Xv} (h:atI l i=some z):zeT (.ct l) (.int i) S=some (z,S):=by
 show (atI l i).map (λz=>(z,S))=_;rw[h];rfl
theorem zmf {q:Q2} (h:QX x q):W (yV fu 10 [x,qv q] S) λv S'=>v= .bl true/\S<+:S':=by
 rcases h.is with rfl|rfl
 .exact zkl 9 (zpz q)
 rw[wT];walk_at "wr";unfold wF;refine zk (zC ?_);ext;refine vS (v:=true) rfl ?_;refine⟨_,rfl,λ_=> ?_,λz=>(by cases z)⟩;refine zk (zC (zjL ?_));ext;refine vS (v:=true) rfl ?_;refine⟨_,rfl,λz=>(by cases z),λ_=> ?_⟩;ext;refine WO.of (show wA [Xv.ct [.int q.1,.int q.2]] S=some (.int 2,S) from rfl) ?_;ext;refine WO.of (show wA [qv q] S=some (.int 2,S) from rfl) ?_;ext;refine⟨λz=> ?_,λ_=>zr ?_⟩
 .simp at z
 refine yf (wn (zm ?_));refine xH (wD ?_);ext;refine WO.of (show wA [qv q] S=some (.int 2,S) from rfl) ?_;refine⟨_,rfl,⟨⋯,⋯⟩,_,rfl,?_⟩;refine xn (by rw[yj];exact rS (VN ∅)) (λi es S2=>S<+:S2/\es=rh i (.bl true)) (λ_ _ _ _ _=>rfl) ?_ ⟨rM _,rfl⟩ ?_
 .rintro i w es S2 hw fO ⟨p2,rfl⟩;obtain⟨hi,rfl⟩:=yX hw;have eI:i<[Xv.int q.1,Xv.int q.2].length:=hi;have iX:atI [Xv.int q.1,Xv.int q.2] ((0:Int)+(i:Int))=some [Xv.int q.1,Xv.int q.2][i]:=by rw[sy];exact zbM ⋯ (by rw[rH];exact qN eI)
  refine .of rfl ?_;dsimp only[xZ,rR,qW];ext;refine⟨rfl,?_⟩;ext;refine WO.of (zpA iX) ?_;ext;refine WO.of (zn7 (l:=[Xv.int q.1,Xv.int q.2]) iX) ?_;ext;have dH:plX 8 [Xv.int q.1,Xv.int q.2][i]=true:=by
   have:=rq eI;rw[rQ,tD] at this;rcases this with e|e<;>rw[e]<;>simp[plX]
  refine (zkl 8 dH).imp ?_;rintro _ S3 ⟨rfl,p3⟩;exact⟨p2.trans p3,by rw[sN]⟩
 .rintro es S2 _ ⟨p2,rfl⟩;ext;refine zce xN (VO _) ⟨by simp,p2.trans (qQ _ _)⟩
theorem zhF (bJ:Big fu) (aV:Bx9 ss bl) (hp:prd ss<=1000) {L:List (List Nat)} {T:List Q2} {i tn n:Nat} {f:zy} (hn:S[n]? =some (.lst (Ze L))) (gl:ww ss L) (h:xh sn fn dn (.tup bl) fs S) (w:WF ss fs) (ei:fs[i]? =some f) (tl:Zc ss fs 0 T i) (ht:S[tn]? =some (.lst (T.map qv))):
  W (vL fu [.ref sn,.ref n,.int (i:Int),.ref tn] S) λv S'=>v= .bl true/\Kp K0 S S':=by
 have h9:=aV.l9;walk_at "wr";unfold Wc;refine zk (zC (zdU (xT (yZ (zm (zq rfl (yI ?_)))))));refine zlS.imp ?_;rintro _ S ⟨rfl,rfl⟩;refine⟨_,rfl,nofun,λ_=>zr ?_⟩;refine yf (wn (zm (xH (wD (wn (zm (zq rfl (yI (YU (zh hn) ?_)))))))));have gT:L.length<=1000:=by rw[gl.len];exact hp
 rw[Xk];refine⟨_,rfl,⟨⋯,⋯⟩,_,rfl,?_⟩;rw[rH];refine xn (xs:=xy 0 L.length) (by rw[yj];exact rS (VP gT)) (λj es S2=>es=rh j (.bl true)/\S<+:S2) (λ_ _ _ _ _=>rfl) ?_ ⟨rfl,rM _⟩ ?_
 .rintro j w0 es S2 hw fO ⟨rfl,p2⟩;obtain⟨hj,rfl⟩:=yX hw;rw[sy];have dP:L[j]? =some L[j]:=qN hj;obtain⟨dS,ix⟩:=gl.at_ j _ dP;obtain⟨q,hh,eq,v⟩:=tl _ dS;rw[sO,sO,ix] at eq;obtain⟨q',v'⟩:=w.val' dS ei;have:q'=q:=v'.uniq v;subst this;have h2:=h.pre p2;refine .of rfl ?_;dsimp only[xZ,rR,qW];ext;refine⟨rfl,?_⟩;refine yZ (zm (zW ?_));ext;refine⟨_,_,rfl,h2.o,rfl,?_⟩;ext;refine zU (zh (yx p2 hn)) (zQ (zl0 dP)) ?_;ext;refine (zlR h2 v' (by have:=bJ.le;omega)).imp ?_;rintro xv _ ⟨oi,rfl⟩;ext;refine zU (zh (yx p2 ht)) (zQ (zdu eq)) ?_;ext;refine (zmf oi).imp ?_;rintro _ S3 ⟨rfl,p3⟩;exact⟨by rw[sN],p2.trans p3⟩
 .rintro es S2 _ ⟨rfl,p2⟩;ext;refine zce xN (VO _) ⟨?_,Kp.pre (p2.trans (qQ _ _))⟩;simp
end
section
variable {fu:Nat} {S S' S2:Sto} {x y z:Xv} {bs:List (Str×Nat)} {st st':List Nat} {ln:Nat}
noncomputable def sb_ (bs:List (Str×Nat)) (st:List Nat) (k:Nat):Opd->Opd
 | .num i=> .num i
 | .nam z=>match fIx bs z with
  |some j=>if j<k then .num ((st.getD j 0:Nat):Int) else .nam z
  |none=> .nam z
theorem zhG (o:Opd):sb_ bs st 0 o=o:=by
 cases o with
 |num i=>rfl
 |nam zz=>unfold sb_;dsimp only;cases fIx bs zz<;>simp
theorem zkK {o:Opd} (ho:zcm bs o):sb_ bs st bs.length o= .num (wv bs st o):=by
 cases o with
 |num i=>rfl
 |nam zz=>
  obtain⟨j,hj⟩:=ho;obtain⟨b,e,_⟩:=zer hj;have hl:=(qO.1 e).1;unfold sb_ wv;dsimp only;rw[hj];dsimp only;rw[if_pos hl];rfl
theorem zpB {o:Opd} {k:Nat} {b:Str×Nat} (ho:zcm bs o) (e:bs[k]? =some b) (h:¬sb_ bs st k o= .nam b.1):sb_ bs st (k+1) o=sb_ bs st k o:=by
 cases o with
 |num i=>rfl
 |nam zz=>
  obtain⟨j,hj⟩:=ho;unfold sb_ at h ⊢;dsimp only at h ⊢;rw[hj] at h ⊢;dsimp only at h ⊢;by_cases h1:j<k
  .rw[if_pos h1,if_pos ⋯]
  .rw[if_neg h1] at h ⊢;rw[if_neg];intro h2;have:j=k:=by omega
   subst this;obtain⟨b',e',q⟩:=zer hj;rw[e] at e';cases e';exact h (by rw[q])
theorem zoe {o:Opd} {k x:Nat} {b:Str×Nat} (ho:zcm bs o) (e:bs[k]? =some b) (ex:st[k]? =some x) (h:sb_ bs st k o= .nam b.1):sb_ bs st (k+1) o= .num (x:Int):=by
 cases o with
 |num i=>cases h
 |nam zz=>
  obtain⟨j,hj⟩:=ho;unfold sb_ at h ⊢;dsimp only at h ⊢;rw[hj] at h ⊢;dsimp only at h ⊢;by_cases h1:j<k
  .rw[if_pos h1] at h;cases h
  .rw[if_neg h1] at h;cases h;have hk:¬k<j:=λdi=>by
    have hf:=hj;unfold fIx at hf;rw[sF] at hf;obtain⟨_,_,h3⟩:=hf;have:=h3 k di;obtain⟨hl,eb⟩:=qO.1 e;rw[eb] at this;simp at this
   have:j=k:=by omega
   subst this;rw[if_pos ⋯,rT,ex];rfl
theorem zmg {P:Xv->Sto->Prop} {a:Str} {o:Opd} (k:∀b:Bool,(b=true->o= .nam a)->(b=false->¬o= .nam a)->P (.bl b) S):WO (we false (opX o) (.str a) S) P:=by
 cases o with
 |num i=>exact WO.of (show we false (.int i) (.str a) S=some (.bl false,S) from rfl) (k false (λe=>by cases e) (λ_ e=>by cases e))
 |nam zz=>
  refine zw ?_;have:=k (decide (zz=a)) (λe=>by rw[of_decide_eq_true e]) (λe q=>of_decide_eq_false e (by cases q;rfl));simpa using this
theorem zpC {o:Opd} {k:Nat} (hl:st.length=bs.length) (ho:zcm bs o) (hk:k<bs.length):W (eIf (bE (eOp (we false) (za 0) (eOp zB (eOp zB (za 3) (za 2)) (eC (.int 0))))) (eOp zB (za 1) (za 2)) (za 0) [some (opX (sb_ bs st k o)),some (.tup (ksX st)),some (.int (k:Int)),some (.tup (bsX bs))] S) λv S'=>v=opX (sb_ bs st (k+1) o)/\S'=S:=by
 have eb:bs[k]? =some bs[k]:=qN hk;have ex:st[k]? =some st[k]:=qN ⋯;refine WK (xT (yw (zq rfl (yw (yw (zq rfl (zq rfl ?_)))))));refine zG (l:=bsX bs) rfl (zQ (UO eb)) ?_;ext;refine zmg λbb bt bf=> ?_;refine⟨_,rfl,λzz=> ?_,λzz=> ?_⟩
 .ext;refine zG rfl (zQ (wc ex)) ⟨?_,rfl⟩;rw[zoe ho eb ex (bt zz)];rfl
 .ext;exact⟨by rw[zpB ho eb (bf zz)],rfl⟩
end
section
variable {fu:Nat} {S S' S2:Sto} {x y z:Xv} {bs:List (Str×Nat)} {st:List Nat}
theorem zmh {t:Tst} (h9:bs.length<=9) (hl:st.length=bs.length) (ht:zcP bs t):W (Va fu [.tup (bsX bs),.tup (ksX st),tsX t] S) λv S'=>v=qv (mkQ bs t st)/\S<+:S':=by
 obtain⟨ta,sg,tb⟩:=t;obtain⟨h1,h2,h3⟩:=ht;have h1:zcm bs ta:=h1;have h2:zcm bs tb:=h2;walk_at "wr";unfold YE;refine zk (yB (XO (zm (yw (zq rfl (zbL ?_))))));refine zG (l:=[opX ta,.str (sgS sg),opX tb]) rfl Yt ?_;ext;refine zG (l:=[opX ta,.str (sgS sg),opX tb]) rfl (show atI [opX ta,.str (sgS sg),opX tb] 2=some (opX tb) from rfl) ?_;ext;refine vR (wD (wn (zm (zq rfl (yI (vt ?_))))));rw[vv];refine⟨_,rfl,⟨⋯,⋯⟩,_,rfl,?_⟩;rw[rH];refine wC (xs:=xy 0 bs.length) (λi ρ S2=>∃(n:Nat) (a4:Option Xv),ρ=[some (.tup (bsX bs)),some (.tup (ksX st)),some (.tup [opX ta,.str (sgS sg),opX tb]),some (.ref n),a4]/\S2[n]? =some (.lst [opX (sb_ bs st i ta),opX (sb_ bs st i tb)])/\S<+:S2) (λ_ _ _ _ _=>rfl) ?_ ⟨S.length,none,rfl,by rw[zhG,zhG];exact yy,qQ _ _⟩ ?_
 .rintro i w0 ρ S2 hw ⟨n,a4,rfl,hn,p⟩;obtain⟨hi,rfl⟩:=yX hw;rw[sy];refine .of rfl ?_;dsimp only[qW];refine yB ?_;refine zgE hn (zq rfl ⟨rfl,rfl⟩) (zpC hl h1 hi) (zpC hl h2 hi) ?_;exact⟨_,_,rfl,yy,p.trans (qQ _ _)⟩
 .rintro ρ S2 ⟨n,a4,rfl,hn,p⟩;rw[yj,zkK h1,zkK h2] at hn;have c:sg=0\/sg=1\/sg=2:=by have:sg<3:=h3;omega
  have e0:atI [opX (.num (wv bs st ta)),opX (.num (wv bs st tb))] 0=some (.int (wv bs st ta)):=rfl;have e1:atI [opX (.num (wv bs st ta)),opX (.num (wv bs st tb))] 1=some (.int (wv bs st tb)):=rfl;refine zk (zC (xT (yw (yw (zq rfl ?_)))));ext;refine zw ⟨_,rfl,λzz=> ?_,λzz=>zr ?_⟩
  .obtain rfl|rfl|rfl:=c
   .ext;refine zU (zh hn) e0 ?_;ext;refine zU (zh hn) e1 ?_;ext;refine WO.of (show Uu [.bl _] _=some (.int _,_) from rfl) ?_;ext;exact⟨rfl,p⟩
   .exact absurd zz ∅
   .exact absurd zz ∅
  refine zk (zC (xT (yw (yw (zq rfl ?_)))));ext;refine zw ⟨_,rfl,λz2=> ?_,λz2=>zr ?_⟩
  .obtain rfl|rfl|rfl:=c
   .exact absurd z2 ∅
   .ext;refine zU (zh hn) e0 ?_;ext;refine zU (zh hn) e1 ?_;ext;refine WO.of (show Uu [.bl _] _=some (.int _,_) from rfl) ?_;ext;exact⟨rfl,p⟩
   .exact absurd z2 ∅
  .obtain rfl|rfl|rfl:=c
   .exact absurd zz ∅
   .exact absurd z2 ∅
   .ext;refine zU (zh hn) e0 ?_;ext;refine zU (zh hn) e1 ?_;ext;refine WO.of (show Uu [.bl _] _=some (.int _,_) from rfl) ?_;ext;exact⟨rfl,p⟩
end
section
variable {fu:Nat} {mx:Nat} {S S':Sto} {x y:Xv}
noncomputable def ziu (t b:Int):Q2:=(t / (uT t b:Int),b / (uT t b:Int))
theorem zes {P:Xv->Sto->Prop} {p:Int} (k:P (.int (p.natAbs:Int)) S):WO (zgf [.int p] S) P:= .of (show zgf [.int p] S=some (.int (if p<0 then -p else p),S) from rfl) (by
 rw[show (if p<0 then -p else p)=(p.natAbs:Int) by split<;>omega]
 exact k)
def Zx (n:Nat) (p:Int):Prop:=p.natAbs<2^n
theorem Zx.mono {n m:Nat} {p:Int} (h:Zx n p) (hn:n<=m):Zx m p:=rD h (tW ∅ hn)
theorem Zx.le {n:Nat} {p:Int} (h:Zx n p):intBits p<=n:=uJ.mpr h
theorem Zx.mul {n m:Nat} {p q:Int} (h:Zx n p) (g:Zx m q):Zx (n+m) (p*q):=by
 unfold Zx at*;rw[Int.natAbs_mul,Nat.pow_add];rcases uY q.natAbs with z|z
 .rw[z,Nat.mul_zero];exact uV (ux ∅) (ux ∅)
 .exact Nat.mul_lt_mul_of_lt_of_le h (rS g) (ux ∅)
def Gst:Nat->Nat->Nat->Prop
 |0,_,_=>False
 |n+1,a,b=>b=0\/Gst n b (a % b)
theorem zof:∀(n k1 k2 a b:Nat),b<=a->a<2^k1->b<2^k2->k1+k2<n->Gst n a b:=by
 intro n
 induction n with
 |zero=>intro k1 k2 a b _ _ _ h;omega
 |succ n ih=>
  intro k1 k2 a b dX h1 h2 h;rcases uY b with z|z
  .exact .inl z
  .refine .inr ?_;cases k1 with
   |zero=>rw[Nat.pow_zero] at h1;omega
   |succ k1=>
    have hr:=AW a z;have hq:b+a % b<=a:=by
     have e:=AX a b;have:b*1<=b*(a / b):=ua _ (Nat.div_pos dX z);omega
    rw[Nat.pow_succ] at h1;exact ih k2 k1 b (a % b) ⋯ h2 ⋯ ⋯
theorem zog {n k a b:Nat} (hb:b<2^k) (h:2*k+1<n):Gst n a b:=by
 obtain⟨n,rfl⟩:∃m,n=m+1:=⟨n-1,⋯⟩;rcases uY b with z|z
 .exact .inl z
 .have hr:=AW a z;exact .inr (zof n k k b (a % b) ⋯ hb ⋯ ⋯)
theorem Zx.fuel {n:Nat} {p t:Int} (hb:Big fu) (h:Zx n p) (hn:2*n<=134217728):Gst fu t.natAbs p.natAbs:=by
 refine zog h ?_;have h1:134217730<=2^28:=by decide
 have h2:2^28<=fu:=rk (tW ∅ ∅) hb;omega
theorem zkL {t b:Int} (h0:0<b):((u5 t.natAbs b.natAbs:Nat):Int)≠0:=by
 have g0:0<u5 t.natAbs b.natAbs:=Nat.gcd_pos_of_pos_right _ ⋯;omega
theorem zfz {t b:Int}:qv (ziu t b)= .tup [.int (t.fdiv ((u5 t.natAbs b.natAbs:Nat):Int)),.int (b.fdiv ((u5 t.natAbs b.natAbs:Nat):Int))]:=by
 rw[sR _ ⋯,sR _ ⋯];rfl
theorem zkM:∀(n:Nat) (t b:Xv) (one other:Nat) (a4:Option Xv),Gst n one other->
  WS (zai (bE (eOp dGt (za 3) (eC (.int 0)))) (zu (zY (eOp WJ (za 2) (za 3)) (gN 4)) (zu (zY (za 3) (gN 2)) (zY (za 4) (gN 3)))) n [some t,some b,some (.int one),some (.int other),a4] S) (λρ S'=>∃a4,ρ=[some t,some b,some (.int (u5 one other:Nat)),some (.int 0),a4]/\S=S') (λ_ _=>False):=by
 intro n
 induction n with
 |zero=>intro t b one other a4 h;exact h.elim
 |succ n ih=>
  intro t b one other a4 hg;refine VX ?_;ext;refine yQ (λh=> ?_) (λh=> ?_)
  .have h0:0<other:=by omega
   ext;refine YT ⋯ ?_;ext;have:=ih t b other (one % other) (some (.int ((one % other:Nat):Int))) (hg.resolve_left ⋯);rw[show u5 other (one % other)=u5 one other by rw[y8 other,<-Nat.gcd_rec,y8]] at this;rw[AH] at this;exact this
  .have:other=0:=by omega
   subst this;exact⟨a4,by simp,rfl⟩
theorem ziv:∀(n:Nat) (one other:Nat) (a2:Option Xv),Gst n one other->
  WS (zai (bE (eOp zcw (za 1) (eC (.int 0)))) (zu (zY (eOp WJ (za 0) (za 1)) (gN 2)) (zu (zY (za 1) (gN 0)) (zY (za 2) (gN 1)))) n [some (.int one),some (.int other),a2] S) (λρ S'=>∃a2,ρ=[some (.int (u5 one other:Nat)),some (.int 0),a2]/\S=S') (λ_ _=>False):=by
 intro n
 induction n with
 |zero=>intro one other a2 h;exact h.elim
 |succ n ih=>
  intro one other a2 hg;refine VX ?_;ext;rw[show (!decide ((other:Int)=0))=decide (¬(other:Int)=0) by simp];refine yQ (λh=> ?_) (λh=> ?_)
  .have h0:0<other:=by omega
   ext;refine YT ⋯ ?_;ext;have:=ih other (one % other) (some (.int ((one % other:Nat):Int))) (hg.resolve_left ⋯);rw[show u5 other (one % other)=u5 one other by rw[y8 other,<-Nat.gcd_rec,y8]] at this;rw[AH] at this;exact this
  .have:other=0:=by omega
   subst this;exact⟨a2,by simp,rfl⟩
theorem zab {N:Nat} (bJ:Big fu) {t b:Int} (h0:0<b) (hb:Zx N b) (hN:2*N<=134217728):W (Zb fu [.int t,.int b] S) λv S'=>v=qv (ziu t b)/\S=S':=by
 have gb:=zkL (t:=t) h0;walk_at "wr";unfold XE;ext;refine zes ?_;ext;refine zhd ?_;have pD:Xv.int b=Xv.int ((b.natAbs:Nat):Int):=by rw[Int.natAbs_of_nonneg ⋯]
 rcases zkM (S:=S) fu (.int t) (.int b) t.natAbs b.natAbs none (Zx.fuel bJ hb hN) with⟨ρ,S',e,a4,rfl,rfl⟩|⟨_,_,_,z⟩
 rotate_left
 .exact z.elim
 rw[<-pD] at e;refine .nx e ?_;ext;refine Tw gb ?_;ext;refine Tw gb ?_;ext;exact⟨zfz.symm,rfl⟩
theorem zfA {N:Nat} (bJ:Big fu) {t b:Int} (h0:0<b) (hb:Zx N b) (hN:2*N<=134217728):W (Ud fu [.int t,.int b] S) λv S'=>v=qv (ziu t b)/\S=S':=by
 have gb:=zkL (t:=t) h0;walk_at "wr";unfold Uc;ext;refine W.imp (P:=λv S'=>v= .int (u5 t.natAbs b.natAbs:Nat)/\S=S') ?_ ?_
 .walk_at "wr";unfold Zo;ext;refine zes ?_;ext;refine zes ?_;ext;refine zhd ?_;rcases ziv (S:=S) fu t.natAbs b.natAbs none (Zx.fuel bJ hb hN) with⟨ρ,S',e,a2,rfl,rfl⟩|⟨_,_,_,z⟩
  .refine .nx e ?_;ext;exact⟨rfl,rfl⟩
  .exact z.elim
 rintro _ _ ⟨rfl,rfl⟩;ext;refine zC ?_;ext;refine yQ (λh=>absurd h ⋯) (λ_=>zr ?_);ext;refine Tw gb ?_;ext;refine Tw gb ?_;ext;exact⟨zfz.symm,rfl⟩
structure Fb (N:Nat) (q:Q2):Prop where
 pos:0<q.2
 g:uT q.1 q.2=1
 b1:Zx N q.1
 b2:Zx N q.2
theorem Fb.mono {N M:Nat} {q:Q2} (h:Fb N q) (hn:N<=M):Fb M q:=⟨h.pos,h.g,h.b1.mono hn,h.b2.mono hn⟩
theorem zet {N:Nat} {t b:Int} (h0:0<b) (ht:Zx N t) (hb:Zx N b):Fb N (ziu t b):=by
 have hg:0<uT t b:=Int.gcd_pos_of_ne_zero_right t ⋯;have h1:(uT t b:Int)∣t:=Int.gcd_dvd_left ..;have h2:(uT t b:Int)∣b:=Int.gcd_dvd_right ..;refine⟨Int.ediv_pos_of_pos_of_dvd h0 ⋯ h2,?_,?_,?_⟩
 .exact Int.gcd_ediv_gcd_ediv_gcd hg
 .refine rX ?_ ht;show (t / (uT t b:Int)).natAbs<=t.natAbs;rw[A2 h1];exact AY _ _
 .refine rX ?_ hb;show (b / (uT t b:Int)).natAbs<=b.natAbs;rw[A2 h2];exact AY _ _
theorem Zx.add {n m k:Nat} {p q:Int} (h:Zx n p) (g:Zx m q) (hn:n<k) (hm:m<k):Zx k (p+q):=by
 have h1:p.natAbs<2^(k-1):=h.mono ⋯;have h2:q.natAbs<2^(k-1):=g.mono ⋯;have h3:2^k=2^(k-1)+2^(k-1):=by rw[<-Nat.two_mul,<-Nat.pow_succ'];congr 1;omega
 show (p+q).natAbs<2^k;have:=Int.natAbs_add_le p q;omega
theorem zmi {ln:Nat} (bJ:Big fu) (hl:yl mx ln S):W (ZW fu [.ref ln] S) λv S'=>∃q:Q2,v=qv q/\Fb 31 q/\yl mx ln S'/\Kp (· =ln) S S':=by
 have sm:∀{p:Int},p.natAbs<=1000000000->Zx 31 p:=λ{p} h=>rX h ∅;walk_at "wr";unfold ZV;refine zk (zC (xT (yw (yZ (zm (zq rfl (zm (zbL (yI ?_)))))))));refine (vk hl ∅).imp ?_;rintro _ S1 ⟨way,rfl,w0,w1,l1,k1⟩;ext;refine yQ (λhc=> ?_) (λhc=>zr ?_)
 .ext;refine (vk l1 ∅).imp ?_;rintro _ S2 ⟨c,rfl,c0,c1,l2,k2⟩;ext;refine (vk l2 ∅).imp ?_;rintro _ S3 ⟨d,rfl,d0,d1,l3,k3⟩;ext;have pS:(10:Int)^(9:Int).toNat=1000000000:=rfl;rw[pS] at c1 d1 ⊢;have ht:Zx 31 (c-1000000000+1):=sm ⋯;have hb:Zx 31 (1+d):=sm ⋯;refine (zab bJ ⋯ hb ∅).imp ?_;rintro _ _ ⟨rfl,rfl⟩;exact⟨_,rfl,zet ⋯ ht hb,l3,(k1.trans k2).trans k3⟩
 .ext;refine (vk l1 ∅).imp ?_;rintro _ S2 ⟨c,rfl,c0,c1,l2,k2⟩;ext;refine (vk l2 ∅).imp ?_;rintro _ S3 ⟨d,rfl,d0,d1,l3,k3⟩;ext;have ht:Zx 31 (c-3):=sm ⋯;have hb:Zx 31 (1+d):=sm ⋯;refine (zab bJ ⋯ hb ∅).imp ?_;rintro _ _ ⟨rfl,rfl⟩;exact⟨_,rfl,zet ⋯ ht hb,l3,(k1.trans k2).trans k3⟩
end
section
variable {fu:Nat} {mx:Nat} {S S' S2:Sto} {x y z:Xv} {bs:List (Str×Nat)} {ln many:Nat}
inductive Way where
 |leaf (q:Q2)
 |point (st:List Nat)
 |mark (t:Tst)
 |fork (lv n:Nat) (ks:List Nat)
 |fixed (i lv m:Nat)
 |op (w i j:Nat)
noncomputable def opS:Nat->Str
 |0=>"greater"
 |1=>"product"
 |_=>"sum"
noncomputable def wyX:Way->Xv
 | .leaf q=> .tup [.str "leaf",qv q]
 | .point st=> .tup [.str "point",.tup (ksX st)]
 | .mark t=> .tup [.str "mark",tsX t]
 | .fork lv n _=> .tup [.str "fork",.int (lv:Int),.ref n]
 | .fixed i lv m=> .tup [.str "fixed",.int (i:Int),.int (lv:Int),.int (m:Int)]
 | .op w i j=> .tup [.str (opS w),.int (i:Int),.int (j:Int)]
def Wd (bs:List (Str×Nat)) (many:Nat) (S:Sto) (lo:Nat):Way->Prop
 | .leaf q=>Fb 31 q
 | .point st=>yJ (bs.map (·.2)) st
 | .mark t=>zcP bs t
 | .fork lv n ks=>∃b,bs[lv]? =some b/\ks.length=b.2/\(∀k∈ks,k<many)/\S[n]? =some (.lst (ksX ks))/\lo<=n
 | .fixed i lv m=>i<many/\∃b,bs[lv]? =some b/\m<b.2
 | .op w i j=>w<3/\i<many/\j<many
noncomputable def jn:Way->Nat
 | .op _ _ _=>3
 |_=>0
theorem zeu {m:Nat} (hl:yl mx ln S) (hm:0<m):W (zv fu [.ref ln,.int (m:Int)] S) λv S'=>∃c:Nat,v= .int (c:Int)/\c<m/\yl (mx-1) ln S'/\Kp (· =ln) S S':=by
 refine (zhs hl ⋯).imp ?_;rintro _ S1 ⟨c,rfl,c0,c1,l1,k1⟩;exact⟨c.toNat,by rw[ub c0],⋯,l1,k1⟩
theorem zhH {m:Nat} (hl:yl mx ln S) (hm:0<m):W (zv fu [.ref ln,.int (m:Int)] S) λv S'=>∃c:Nat,v= .int (c:Int)/\c<m/\yl mx ln S'/\Kp (· =ln) S S':=by
 refine (zeu hl hm).imp ?_;rintro _ S1 ⟨c,rfl,c1,l1,k1⟩;exact⟨c,rfl,c1,l1.more ⋯,k1⟩
theorem zpD (bJ:Big fu) (hl:yl mx ln S) (h9:bs.length<=9) (h1:∀b∈bs,1<=b.2/\b.2<=9):W (XH fu [.ref ln,.tup (bsX bs),.int (many:Int)] S) λv S'=>∃w:Way,v=wyX w/\Wd bs many S' S.length w/\yl (mx-jn w) ln S'/\Kp (· =ln) S S':=by
 have jA:=hl.lt;walk_at "wr";unfold XG;refine zk (yB (yZ (zm (zq rfl (zm (zbL (yI ?_)))))));refine (zeu (m:=9) hl ∅).imp ?_;rintro _ S1 ⟨c,rfl,hc,me,k1⟩;have l1:yl mx ln S1:=me.more ⋯;have nj:=k1.1;dsimp only[qW];have leaf:W (wO [(eC (.str "leaf")),(zP (ZW fu) [(za 0)])] [some (.ref ln),some (.tup (bsX bs)),some (.int (many:Int)),some (.int (c:Int)),none,none] S1) λv S'=>∃w:Way,v=wyX w/\Wd bs many S' S.length w/\yl (mx-jn w) ln S'/\Kp (· =ln) S S':=by
  ext;refine (zmi bJ l1).imp ?_;rintro _ S2 ⟨q,rfl,hq,l2,k2⟩;ext;exact⟨.leaf q,rfl,hq,l2,k1.trans k2⟩
 refine zk (zC (zjL ?_));ext;refine yQ (λ_=>⟨λ_=>yf leaf,nofun⟩) (λhm=> ?_);ext;refine yQ (λ_=>yf leaf) (λqz=>zr ?_);have eG:0<many:=by omega
 refine zk (zC ?_);ext;refine yQ (λ_=> ?_) (λiu=>zr ?_)
 .ext;refine (zkF l1 h9 λb hb=>(h1 b hb).1).imp ?_;rintro _ S2 ⟨st,rfl,eQ,l2,k2⟩;ext;exact⟨.point st,rfl,eQ,l2,k1.trans k2⟩
 refine zk (zC ?_);ext;refine yQ (λ_=> ?_) (λeL=>zr ?_)
 .ext;refine (zob l1 h9).imp ?_;rintro _ S2 ⟨t,rfl,ht,l2,k2⟩;ext;exact⟨.mark t,rfl,ht,l2,k1.trans k2⟩
 have last:∀N:Rho->Sto->Prop,WS (zu (zY (zP (zv fu) [(za 0),(za 2)]) (gN 5)) (yd (wO [(eOp yA (Wj [(eC (.str "greater")),(eC (.str "product")),(eC (.str "sum"))]) (eOp WJ (za 3) (eC (.int 3)))),(za 5),(zP (zv fu) [(za 0),(za 2)])])) [some (.ref ln),some (.tup (bsX bs)),some (.int (many:Int)),some (.int (c:Int)),none,none] S1) N (λv S'=>∃w:Way,v=wyX w/\Wd bs many S' S.length w/\yl (mx-jn w) ln S'/\Kp (· =ln) S S'):=λN=>by
  refine zk (yB (yZ (zm (zq rfl (zm (zq rfl (yI ?_)))))));refine (zeu me eG).imp ?_;rintro _ S2 ⟨i,rfl,hi,l2,k2⟩;dsimp only[qW];ext;refine YT ∅ ?_;have e3:atI [Xv.str "greater",.str "product",.str "sum"] ((c:Int) % 3)=some (.str (opS (c % 3))):=by
   have:c % 3=0\/c % 3=1\/c % 3=2:=by omega
   rw[show ((c:Int) % 3)=((c % 3:Nat):Int) by omega];obtain h|h|h:=this<;>rw[h]<;>rfl
  refine zU xN e3 ?_;ext;refine (zeu l2.app eG).imp ?_;rintro _ S3 ⟨j,rfl,hj,l3,k3⟩;ext;exact⟨.op (c % 3) i j,rfl,⟨⋯,hi,hj⟩,l3.more (by show mx-1-1-1<=mx-3;omega),(k1.trans k2).trans ((Kp.pre (qQ _ _)).trans k3)⟩
 refine zk (zC (UD ?_));ext;refine yQ (λh5=> ?_) (λ_=>⟨nofun,λ_=>zr (last _)⟩);ext;refine vt ?_;rw[vv];ext;refine yQ (λqA=> ?_) (λ_=>zr (last _));refine zk (yB (yZ (zm (zq rfl (zm (wn (zm (zq rfl (yI (vt ?_)))))))))) ;rw[vv];ext;refine (zhH l1 ⋯).imp ?_;rintro _ S2 ⟨lv,rfl,dW,l2,k2⟩;dsimp only[qW];have eb:bs[lv]? =some bs[lv]:=qN dW;generalize bs[lv]=b at eb;have hsz:=h1 b (qS eb);refine zk (zC ?_);ext;refine yQ (λh6=> ?_) (λh6=>zr ?_)
 .refine yf (zak (zm (zbL (zm (zq rfl (zm (xH (wD (yw (yw (zq rfl (zq rfl ?_)))))))))))) ;refine zG (l:=bsX bs) rfl (zQ (UO eb)) ?_;ext;refine⟨⟨⋯,⋯⟩,_,rfl,?_⟩;rw[rH];refine xn (xs:=xy 0 b.2) (by rw[yj];exact Zw ⋯) (λi es S3=>∃ks,es=ksX ks/\ks.length=i/\(∀k∈ks,k<many)/\yl mx ln S3/\Kp (· =ln) S2 S3) (λ_ _ _ _ _=>rfl) ?_ ⟨[],rfl,rfl,(λk hk=>by cases hk),l2,Kp.refl _⟩ ?_
  .rintro i w0 dc S3 hw _ ⟨ks,rfl,cu,cM,l3,k3⟩;refine .of rfl ?_;dsimp only[xZ,rR,qW];ext;refine⟨rfl,?_⟩;ext;refine (zhH l3 eG).imp ?_;rintro _ S4 ⟨k,rfl,hk,l4,k4⟩;refine⟨ks++[k],by rw[Vc],by simp[cu],λj hj=> ?_,l4,k3.trans k4⟩;rcases uF.1 hj with h|h
   .exact cM j h
   .rw[tD] at h;omega
  .rintro dc S3 _ ⟨ks,rfl,cu,cM,l3,k3⟩;rw[yj] at cu;ext;have:=k2.1;have:=k3.1;exact⟨.fork lv S3.length ks,rfl,⟨b,eb,cu,cM,yy,⋯⟩,l3.app,((k1.trans k2).trans k3).app⟩
 .ext;refine (zhH l2 eG).imp ?_;rintro _ S3 ⟨i,rfl,hi,l3,k3⟩;ext;refine zG (l:=bsX bs) rfl (zQ (UO eb)) ?_;ext;refine (zhH l3 ⋯).imp ?_;rintro _ S4 ⟨m,rfl,bX,l4,k4⟩;ext;exact⟨.fixed i lv m,rfl,⟨hi,b,eb,bX⟩,l4,((k1.trans k2).trans k3).trans k4⟩
end
section
variable {fu N:Nat} {S S':Sto} {x y:Xv}
noncomputable def zkN (a b:Q2):Q2:=ziu (a.1*b.2+b.1*a.2) (a.2*b.2)
noncomputable def zkO (a b:Q2):Q2:=ziu (a.1*b.1) (a.2*b.2)
noncomputable def zaT (a b:Q2):Q2:=if a.1*b.2<b.1*a.2 then b else a
noncomputable def opQ:Nat->Q2->Q2->Q2
 |0=>zaT
 |1=>zkO
 |_=>zkN
theorem Fb.le1 {q:Q2} (h:Fb N q):intBits q.1<=N:=h.b1.le
theorem Fb.le2 {q:Q2} (h:Fb N q):intBits q.2<=N:=h.b2.le
theorem zmj {a b:Q2} (ha:Fb N a) (hb:Fb N b):Fb (2*N+1) (zkN a b):=
 zet (uy ha.pos hb.pos) (((ha.b1.mul hb.b2)).add (hb.b1.mul ha.b2) ⋯ ⋯) ((ha.b2.mul hb.b2).mono ⋯)
theorem zmk {a b:Q2} (ha:Fb N a) (hb:Fb N b):Fb (2*N+1) (zkO a b):=
 zet (uy ha.pos hb.pos) ((ha.b1.mul hb.b1).mono ⋯) ((ha.b2.mul hb.b2).mono ⋯)
theorem zml {a b:Q2} (ha:Fb N a) (hb:Fb N b):Fb N (zaT a b):=by
 unfold zaT;split
 .exact hb
 .exact ha
theorem zoh {a b:Q2} (w:Nat) (ha:Fb N a) (hb:Fb N b):Fb (2*N+1) (opQ w a b):=by
 match w with
 |0=>exact (zml ha hb).mono ⋯
 |1=>exact zmk ha hb
 |_+2=>exact zmj ha hb
theorem zoi (bJ:Big fu) {a b:Q2} (ha:Fb N a) (hb:Fb N b) (hN:4*N<=134217728) (hx:QX x a) (hy:QX y b):W (zef fu [x,y] S) λv S'=>v=qv (zkN a b)/\S=S':=by
 have l1:=ha.le1;have l2:=ha.le2;have l3:=hb.le1;have l4:=hb.le2;walk_at "wr";unfold za6;ext;refine zG hx Yt ?_;ext;refine zG hy vZ ?_;refine xU ⋯ ?_;ext;refine zG hy Yt ?_;ext;refine zG hx vZ ?_;refine xU ⋯ ?_;ext;refine zG hx vZ ?_;ext;refine zG hy vZ ?_;refine xU ⋯ ?_;ext;exact zfA bJ (uy ha.pos hb.pos) (ha.b2.mul hb.b2) ⋯
theorem zmm (bJ:Big fu) {a b:Q2} (ha:Fb N a) (hb:Fb N b) (hN:4*N<=134217728) (hx:QX x a) (hy:QX y b):W (zb7 fu [x,y] S) λv S'=>v=qv (zkO a b)/\S=S':=by
 have l1:=ha.le1;have l2:=ha.le2;have l3:=hb.le1;have l4:=hb.le2;walk_at "wr";unfold TH;ext;refine zG hx Yt ?_;ext;refine zG hy Yt ?_;refine xU ⋯ ?_;ext;refine zG hx vZ ?_;ext;refine zG hy vZ ?_;refine xU ⋯ ?_;ext;exact zfA bJ (uy ha.pos hb.pos) (ha.b2.mul hb.b2) ⋯
theorem ziw {a b:Q2} (ha:Fb N a) (hb:Fb N b) (hN:4*N<=134217728) (hx:QX x a) (hy:QX y b):W (UK fu [x,y] S) λv S'=>QX v (zaT a b)/\S=S':=by
 have l1:=ha.le1;have l2:=ha.le2;have l3:=hb.le1;have l4:=hb.le2;walk_at "wr";unfold WY;ext;refine WK ?_;refine xT (yZ ?_);ext;refine W.imp (P:=λv S'=>v= .bl (decide (a.1*b.2<b.1*a.2))/\S=S') ?_ ?_
 .walk_at "wr";unfold TJ;ext;refine zG hx Yt ?_;ext;refine zG hy vZ ?_;refine xU ⋯ ?_;ext;refine zG hy Yt ?_;ext;refine zG hx vZ ?_;refine xU ⋯ ?_;ext;exact⟨rfl,rfl⟩
 .rintro _ _ ⟨rfl,rfl⟩;refine⟨_,rfl,yQ (λh=> ?_) (λh=> ?_)⟩
  .ext;exact⟨by unfold zaT;rw[if_pos h];exact hy,rfl⟩
  .ext;exact⟨by unfold zaT;rw[if_neg h];exact hx,rfl⟩
theorem zoj {m:Nat} {P:Xv->Sto->Prop} (h:S[m]? =some (.lst [x,y])) (k:P x S):WO (yA (.ref m) (.int 0) S) P:=zU (zh h) rfl k
theorem zok {m:Nat} {P:Xv->Sto->Prop} (h:S[m]? =some (.lst [x,y])) (k:P y S):WO (yA (.ref m) (.int 1) S) P:=zU (zh h) rfl k
variable {sn fn dn:Nat} {fs fs':List zy} {ss:List Nat} {bl:List Xv}
theorem zkP (bJ:Big fu) (hN:4*N<=134217728):zar fu (Fb N) (.lam TC []) zkN:=⟨TC,[],zdl fu,rfl,Tp,λha hb hx hy e=>by
 unfold zdl;refine Tq rfl rfl ?_;unfold zpm;dsimp only[rR,ud,uA,uU];ext;refine zoj e ?_;ext;refine zok e ?_;ext;refine (zoi bJ ha hb hN hx hy).imp ?_;rintro _ _ ⟨rfl,rfl⟩
 exact⟨zfp _,rfl⟩⟩
theorem zkQ (bJ:Big fu) (hN:4*N<=134217728):zar fu (Fb N) (.lam TD []) zkO:=⟨TD,[],zdm fu,rfl,(zd6 ∅).trans Tp,λha hb hx hy e=>by
 unfold zdm;refine Tq rfl rfl ?_;unfold zpo;dsimp only[rR,ud,uA,uU];ext;refine zoj e ?_;ext;refine zok e ?_;ext;refine (zmm bJ ha hb hN hx hy).imp ?_;rintro _ _ ⟨rfl,rfl⟩
 exact⟨zfp _,rfl⟩⟩
theorem zkR (hN:4*N<=134217728):zar fu (Fb N) (.lam TF []) zaT:=⟨TF,[],zdn fu,rfl,(zd6 ∅).trans ((zd6 ∅).trans Tp),λha hb hx hy e=>by
 unfold zdn;refine Tq rfl rfl ?_;unfold zpq;dsimp only[rR,ud,uA,uU];ext;refine zoj e ?_;ext;refine zok e ?_;ext;refine (ziw ha hb hN hx hy).imp ?_;rintro v _ ⟨hv,rfl⟩
 exact⟨hv,rfl⟩⟩
noncomputable abbrev JnP (fu:Nat) (ss:List Nat) (op:Q2->Q2->Q2) (sn fn dn:Nat) (bl:List Xv) (fs:List zy) (a b:Nat) (S:Sto):Xv->Sto->Prop:=λv S'=>∃(r:Nat) (fs':List zy),v= .int (r:Int)/\TX ss op fs' a b r/\WF ss fs'/\yN sn fn dn (.tup bl) fs (cst ss ss.length) S fs' S'
theorem zmn (bJ:Big fu) (hN:4*N<=134217728) (aV:Bx9 ss bl) (hz:∃st,yJ ss st) (h:xh sn fn dn (.tup bl) fs S) (w:WF ss fs) (ht:Tb S) {a b:Nat} {fa fb:zy} (ea:fs[a]? =some fa) (eb:fs[b]? =some fb) (va:Vb (Fb N) ss fs a) (vb:Vb (Fb N) ss fs b) (hf:fs.length+cst ss ss.length<=1000000) (hc:cst ss ss.length<=1000000):
  W (Xd fu [.ref sn,.int (a:Int),.int (b:Int)] S) (JnP fu ss zkN sn fn dn bl fs a b S):=by
 walk_at "wr";unfold Xc;refine yf (Vy ?_);ext;refine⟨_,_,rfl,h.o,rfl,?_⟩;refine zm (zak ?_);ext;refine zbX ht.t1 rfl ?_;ext;exact UN aV hz (zkP bJ hN) h w ht ea eb va vb hf hc
theorem zev (bJ:Big fu) (hN:4*N<=134217728) (aV:Bx9 ss bl) (hz:∃st,yJ ss st) (h:xh sn fn dn (.tup bl) fs S) (w:WF ss fs) (ht:Tb S) {a b:Nat} {fa fb:zy} (ea:fs[a]? =some fa) (eb:fs[b]? =some fb) (va:Vb (Fb N) ss fs a) (vb:Vb (Fb N) ss fs b) (hf:fs.length+cst ss ss.length<=1000000) (hc:cst ss ss.length<=1000000):
  W (vF fu [.ref sn,.int (a:Int),.int (b:Int)] S) (JnP fu ss zkO sn fn dn bl fs a b S):=by
 walk_at "wr";unfold vE;refine yf (Vy ?_);ext;refine⟨_,_,rfl,h.o,rfl,?_⟩;refine zm (zak ?_);ext;refine zbX ht.t2 rfl ?_;ext;exact UN aV hz (zkQ bJ hN) h w ht ea eb va vb hf hc
theorem zkS (hN:4*N<=134217728) (aV:Bx9 ss bl) (hz:∃st,yJ ss st) (h:xh sn fn dn (.tup bl) fs S) (w:WF ss fs) (ht:Tb S) {a b:Nat} {fa fb:zy} (ea:fs[a]? =some fa) (eb:fs[b]? =some fb) (va:Vb (Fb N) ss fs a) (vb:Vb (Fb N) ss fs b) (hf:fs.length+cst ss ss.length<=1000000) (hc:cst ss ss.length<=1000000):
  W (Yo fu [.ref sn,.int (a:Int),.int (b:Int)] S) (JnP fu ss zaT sn fn dn bl fs a b S):=by
 walk_at "wr";unfold Yn;refine yf (Vy ?_);ext;refine⟨_,_,rfl,h.o,rfl,?_⟩;refine zm (zak ?_);ext;refine zbX ht.t3 rfl ?_;ext;exact UN aV hz (zkR hN) h w ht ea eb va vb hf hc
end
section
variable {fu N:Nat} {S S' S2:Sto} {x y z:Xv} {ss:List Nat} {bl:List Xv}
theorem zkT {op:Q2->Q2->Q2} {T1 T2:List Q2} {j:Nat} {a b:Q2} (h1:T1[j]? =some a) (h2:T2[j]? =some b):(uN op T1 T2)[j]? =some (op a b):=by
 rw[List.getElem?_zipWith,h1,h2]
theorem zix (bJ:Big fu) {wd:Nat} (hw:wd<3) {T1 T2:List Q2} {n1 n2:Nat} (h1:S[n1]? =some (.lst (T1.map qv))) (h2:S[n2]? =some (.lst (T2.map qv))) (hl:T1.length=T2.length) (jB:T1.length<=1000) (f1:∀q∈T1,Fb N q) (f2:∀q∈T2,Fb N q) (hN:4*N<=134217728):
  W (Xh fu [.str (opS wd),.ref n1,.ref n2] S) λv S'=>∃n,v= .ref n/\S'[n]? =some (.lst ((uN (opQ wd) T1 T2).map qv))/\S.length<=n/\Kp K0 S S':=by
 have n1l:=(qO.1 h1).1;have n2l:=(qO.1 h2).1;walk_at "wr";unfold Zu;ext;refine vR (wD (wn (zm (zq rfl (yI (YU (zh (yx (qQ S [Ce.lst []]) h1)) ?_))))));rw[qV];refine⟨_,rfl,⟨⋯,⋯⟩,_,rfl,?_⟩;rw[rH];refine wC (xs:=xy 0 T1.length) (λj ρ S2=>∃(a4 a5 a6:Option Xv),ρ=[some (.str (opS wd)),some (.ref n1),some (.ref n2),some (.ref S.length),a4,a5,a6]/\S2[S.length]? =some (.lst (((uN (opQ wd) T1 T2).take j).map qv))/\Kp K0 S S2) (λ_ _ _ _ _=>rfl) ?_ ?_ ?_
 .rintro j w0 ρ S2 kF ⟨a4,a5,a6,rfl,hf,k2⟩;obtain⟨hj,rfl⟩:=yX kF;rw[sy];have e1:T1[j]? =some T1[j]:=qN hj;have e2:T2[j]? =some T2[j]:=qN ⋯;have b1:=f1 _ (rq hj);have b2:=f2 T2[j] (rq _);generalize T1[j]=a at e1 b1;generalize T2[j]=b at e2 b2;have l1:=b1.le1;have l2:=b1.le2;have l3:=b2.le1;have l4:=b2.le2;refine .of rfl ?_;dsimp only[qW];ext;refine zU (zh (k2.2 _ _ h1 id)) (zQ (zdu e1)) ?_;ext;refine zU (zh (k2.2 _ _ h2 id)) (zQ (zdu e2)) ?_;ext;have mH:(uN (opQ wd) T1 T2).length=T1.length:=by rw[uP];omega
  have fin:∀{r:Q2},r=opQ wd a b->WO (xx (.ref S.length) [qv r] S2) λ_ S3=>∃(a4 a5 a6:Option Xv),([some (.str (opS wd)),some (.ref n1),some (.ref n2),some (.ref S.length),some (.int (j:Int)),some (qv a),some (qv b)]:Rho)=[some (.str (opS wd)),some (.ref n1),some (.ref n2),some (.ref S.length),a4,a5,a6]/\S3[S.length]? =some (.lst (((uN (opQ wd) T1 T2).take (j+1)).map qv))/\Kp K0 S S3:=by
   rintro r rfl;refine vp (wQ hf) (by rw[qV,sG];exact VP ⋯) ⟨_,_,_,rfl,?_,k2.set (.inr (qT _))⟩;rw[wb hf];have ez:=zkT (op:=opQ wd) e1 e2;obtain⟨iJ,kx⟩:=qO.1 ez;rw[si iJ,kx];simp
  match wd,hw with
  |2,_=>
   refine zC ?_;ext;refine zw ⟨_,rfl,λ_=> ?_,λz=>absurd z ∅⟩;refine wB (Yc ?_);ext;refine⟨⟨_,zh hf⟩,?_⟩;ext;refine zG rfl Yt ?_;ext;refine zG rfl vZ ?_;refine xU ⋯ ?_;ext;refine zG rfl Yt ?_;ext;refine zG rfl vZ ?_;refine xU ⋯ ?_;ext;refine zG rfl vZ ?_;ext;refine zG rfl vZ ?_;refine xU ⋯ ?_;ext;refine (zab bJ (uy b1.pos b2.pos) (b1.b2.mul b2.b2) ⋯).imp ?_;rintro _ _ ⟨rfl,rfl⟩;ext;exact fin rfl
  |1,_=>
   refine zC ?_;ext;refine zw ⟨_,rfl,λz=>absurd z ∅,λ_=> ?_⟩;refine zC ?_;ext;refine zw ⟨_,rfl,λ_=> ?_,λz=>absurd z ∅⟩;refine wB (Yc ?_);ext;refine⟨⟨_,zh hf⟩,?_⟩;ext;refine zG rfl Yt ?_;ext;refine zG rfl Yt ?_;refine xU ⋯ ?_;ext;refine zG rfl vZ ?_;ext;refine zG rfl vZ ?_;refine xU ⋯ ?_;ext;refine (zab bJ (uy b1.pos b2.pos) (b1.b2.mul b2.b2) ⋯).imp ?_;rintro _ _ ⟨rfl,rfl⟩;ext;exact fin rfl
  |0,_=>
   refine zC ?_;ext;refine zw ⟨_,rfl,λz=>absurd z ∅,λ_=> ?_⟩;refine zC ?_;ext;refine zw ⟨_,rfl,λz=>absurd z ∅,λ_=> ?_⟩;refine zC ?_;ext;refine zG rfl Yt ?_;ext;refine zG rfl vZ ?_;refine xU ⋯ ?_;ext;refine zG rfl Yt ?_;ext;refine zG rfl vZ ?_;refine xU ⋯ ?_;ext;refine yQ (λhc=> ?_) (λhc=> ?_)
   .refine wB (Yc ?_);ext;refine⟨⟨_,zh hf⟩,?_⟩;ext;exact fin (r:=b) (by show b=zaT a b;unfold zaT;rw[if_pos hc])
   .refine wB (Yc ?_);ext;refine⟨⟨_,zh hf⟩,?_⟩;ext;exact fin (r:=a) (by show a=zaT a b;unfold zaT;rw[if_neg hc])
 .exact⟨none,none,none,rfl,yy,Kp.pre (qQ _ _)⟩
 .rintro ρ S2 ⟨a4,a5,a6,rfl,hf,k2⟩;rw[yj,A1 (by rw[uP];omega)] at hf;ext;exact⟨hf,qT _,k2⟩
theorem zmo {P:Xv->Sto->Prop} {l m:List Xv} (h1:yH S x=some l) (h2:yH S y=some m) (hl:l.length+m.length<=100) (k:P (.ref S.length) (S++[.lst (l++m)])):WO (zaB x y S) P:= .of (by unfold zaB;rw[h1,h2];dsimp only;rw[if_pos (rk hl ∅)]) k
theorem zmp {T:List Q2} {n:Nat} (h:S[n]? =some (.lst (T.map qv))) (hl:T.length<=1000):W (wM fu [.ref n] S) λv S'=>(∃b,v= .bl b)/\S<+:S':=by
 walk_at "wr";unfold ZX;refine yf (wn (zm (xH (zaC (zq rfl ⟨_,zh h,_,zh h,?_⟩)))));refine xn (by rw[qV];exact rS (VP hl)) (λi es S2=>(∃bs:List Bool,es=bs.map Xv.bl)/\S2=S) (λ_ _ _ _ ⟨_,e⟩=>by rw[e];exact zh h) ?_ ⟨⟨[],rfl⟩,rfl⟩ ?_
 .rintro i w0 dc S2 hw _ ⟨⟨bs,rfl⟩,rfl⟩;rw[qY] at hw;cases e:T[i]? with
  |none=>rw[e] at hw;cases hw
  |some q=>
   rw[e] at hw;cases hw;refine .of rfl ?_;dsimp only[xZ,rR,qW];ext;refine⟨rfl,?_⟩;ext;refine zG rfl Yt ?_;ext;refine zes ?_;ext;refine zG rfl vZ ?_;ext;exact⟨⟨bs++[_],by rw[sk];rfl⟩,rfl⟩
 .rintro dc S2 _ ⟨⟨bs,rfl⟩,rfl⟩;ext;refine zks (bs:=bs) xN (zcg bs) ⟨⟨_,rfl⟩,qQ _ _⟩
end
section
variable {fu N:Nat} {S S' S2:Sto} {x y z:Xv} {ss:List Nat} {bl:List Xv} {fs fs':List zy} {bs:List (Str×Nat)} {st:List Nat} {i j:Nat} {f g:zy}
theorem zm1:∀{ss:List Nat},(∀s∈ss,1<=s)->wt ss<=2*(ss.length+1)*prd ss
 |[],_=>by simp[wt,prd]
 |s::r,h=>by
  have h1:=zm1 (ss:=r) λt ht=>h t (r9 _ ht);have h2:=h s rE;have h3:=zeq (ss:=r) λt ht=>h t (r9 _ ht);have h4:1<=s*prd r:=uV h2 h3;show 2+s*wt r<=2*(r.length+1+1)*(s*prd r);have h5:s*wt r<=s*(2*(r.length+1)*prd r):=ua _ h1;have h6:s*(2*(r.length+1)*prd r)=2*(r.length+1)*(s*prd r):=by rw[Nat.mul_left_comm]
  have h7:2*(r.length+1+1)*(s*prd r)=2*(r.length+1)*(s*prd r)+2*(s*prd r):=by rw[show 2*(r.length+1+1)=2*(r.length+1)+2 by omega,Nat.add_mul]
  omega
theorem zol (aV:Bx9 ss bl) (hp:prd ss<=20):cst ss ss.length<=400:=by
 unfold cst;rw[su,sO];have h1:=zm1 (ss:=ss) λs hs=>(aV.siz s hs).1;have h2:2*(ss.length+1)*prd ss<=20*20:=Nat.mul_le_mul (by have:=aV.l9;omega) hp;omega
theorem zmq (aV:Bx9 ss bl):∃st,yJ ss st:=by
 refine⟨rh ss.length 0,by simp,λi x s e1 e2=> ?_⟩;rw[tN] at e1;split at e1
 .cases e1;exact (aV.siz s (qS e2)).1
 .cases e1
theorem zom (w:WF ss fs) (hz:∃st,yJ ss st) {lw s:Nat} (es:ss[lw]? =some s) (ei:fs[i]? =some f) (hd:∀st,yJ ss st->∀m,m<s->∀q h,VA fs st q h i->∃h',VA fs (st.set lw m) q h' i):lvl ss.length f≠lw:=λe=>by
 have oW:=(qO.1 es).1;cases f with
 |leaf q=>have:ss.length=lw:=e;omega
 |fork lv ks=>
  obtain rfl:lv=lw:=e;obtain⟨⟨s',es',hl⟩,hk,hn⟩:=w.ok i lv ks ei;rw[es] at es';cases es';refine hn λk hm k' bX=> ?_;obtain⟨_,fk,e1,l1⟩:=hk k hm;obtain⟨_,fk',e2,l2⟩:=hk k' bX;obtain⟨m,em⟩:=rL hm;obtain⟨m',em'⟩:=rL bX;have i7:=(qO.1 em).1;have oZ:=(qO.1 em').1;refine w.canon hz e1 e2 λst hs=> ?_;have gm:lv<st.length:=by rw[hs.1];exact oW
  have fL:=hs.set es (m:=m) ⋯;obtain⟨q,v⟩:=w.val' fL ei;obtain⟨h',v'⟩:=hd _ fL m' ⋯ q _ v;rw[Bh] at v';obtain⟨k1,h1,q1,v⟩:=v.kid ei (by rw[rK,if_pos rfl,if_pos gm]);obtain⟨k2,h2,q2,v'⟩:=v'.kid ei (by rw[rK,if_pos rfl,if_pos gm]);rw[em] at q1;cases q1;rw[em'] at q2;cases q2;exact⟨q,h1,h2,v.other w Vd e1 l1,v'.other w Vd e2 l2⟩
noncomputable def zs:Nat->List Nat->List Nat
 |0,st=>st
 |n+1,st=>zs n (st.set n 0)
theorem zm2:∀(n:Nat) {st:List Nat},n<=st.length->zs n st=rh n 0++st.drop n
 |0,st,_=>rfl
 |n+1,st,h=>by
  show zs n (st.set n 0)=_;have e:(st.set n 0).drop n=0::st.drop (n+1):=by
   rw[sA (by rw[sV];omega),List.getElem_set_self]
   congr 1
   rw[List.drop_set,if_pos ⋯]
  rw[zm2 n (by rw[sV];omega),e,sN,List.append_assoc];rfl
theorem zhI (aV:Bx9 ss bl):∀(n:Nat) {st:List Nat},n<=ss.length->yJ ss st->yJ ss (zs n st)
 |0,st,_,h=>h
 |n+1,st,hn,h=>by
  have es:ss[n]? =some ss[n]:=qN ⋯;exact zhI aV n ⋯ (h.set es (aV.siz _ (rq _)).1)
def DV (ss:List Nat) (bs:List (Str×Nat)) (Ts:List (List Q2)):Way->List Nat->Q2->Prop
 | .leaf q,_,r=>r=q
 | .point p,st,r=>r=bQ (decide (st=p))
 | .mark t,st,r=>r=mkQ bs t st
 | .fork lv _ ks,st,r=>∃m k T,st[lv]? =some m/\ks[m]? =some k/\Ts[k]? =some T/\T[idx ss (zs (lv+1) st)]? =some r
 | .fixed i lv m,st,r=>∃T,Ts[i]? =some T/\T[idx ss (st.set lv m)]? =some r
 | .op w i j,st,r=>∃T1 T2 a b,Ts[i]? =some T1/\Ts[j]? =some T2/\T1[idx ss st]? =some a/\T2[idx ss st]? =some b/\r=opQ w a b
structure Due (ss:List Nat) (bs:List (Str×Nat)) (Ts:List (List Q2)) (w:Way) (T:List Q2):Prop where
 len:T.length=prd ss
 at_:∀st,yJ ss st->∃r,T[idx ss st]? =some r/\DV ss bs Ts w st r
theorem zm3 (b:Bool) (hN:1<=N):Fb N (bQ b):=by
 cases b
 .exact⟨∅,∅,ux ∅,by show 1<2^N;exact uZ ⋯⟩
 .exact⟨∅,∅,by show 1<2^N;exact uZ ⋯,by show 1<2^N;exact uZ ⋯⟩
theorem DV.fb {Ts:List (List Q2)} {w:Way} {r:Q2} {many lo:Nat} (h:DV ss bs Ts w st r) (hw:Wd bs many S lo w) (hN:31<=N) (hT:∀T∈Ts,∀q∈T,Fb N q):Fb (if jn w=0 then N else 2*N+1) r:=by
 cases w with
 |leaf q=>obtain rfl:r=q:=h;exact Fb.mono hw hN
 |point p=>obtain rfl:r=_:=h;exact zm3 _ (by show 1<=N;omega)
 |mark t=>obtain rfl:r=_:=h;exact zm3 _ (by show 1<=N;omega)
 |fork lv n ks=>obtain⟨m,k,T,_,_,e,e2⟩:=h;exact hT T (qS e) r (qS e2)
 |fixed i lv m=>obtain⟨T,e,e2⟩:=h;exact hT T (qS e) r (qS e2)
 |op o i j=>
  obtain⟨T1,T2,a,b,e1,e2,e3,e4,rfl⟩:=h;exact zoh o (hT T1 (qS e1) a (qS e3)) (hT T2 (qS e2) b (qS e4))
theorem Due.fb {L:List (List Nat)} {Ts:List (List Q2)} {w:Way} {T:List Q2} {many lo:Nat} (gl:ww ss L) (h:Due ss bs Ts w T) (hw:Wd bs many S lo w) (hN:31<=N) (hT:∀T∈Ts,∀q∈T,Fb N q):∀q∈T,Fb (if jn w=0 then N else 2*N+1) q:=λq hq=>by
 obtain⟨k,hk⟩:=rL hq;have cu:k<L.length:=by rw[gl.len,<-h.len];exact (qO.1 hk).1
 obtain⟨hs,ix⟩:=gl.at_ k _ (qN cu);obtain⟨r,e,d⟩:=h.at_ _ hs;rw[ix,hk] at e;cases e;exact d.fb hw hN hT
end
section
variable {fu N:Nat} {S S' S2:Sto} {x y z:Xv} {ss:List Nat} {bl:List Xv} {fs fs':List zy} {bs:List (Str×Nat)} {st:List Nat} {L:List (List Nat)} {n aZ tl lo:Nat} {cs:List Nat} {Ts:List (List Q2)}
theorem zgI {P:Xv->Sto->Prop} {F:List Nat->Q2} {ρ:Rho} {cap:List (Option Nat)} {m e:TwE} (hp:prd ss<=1000) (gl:ww ss L) (hn:S[n]? =some (.lst (Ze L))) (hm:W (m ρ S) λv S'=>v= .ref n/\S'=S)
  (he:∀st S2,yJ ss st->S<+:S2->W (e ((xZ cap ρ).set 0 (some (.tup (ksX st)))) S2) λv S'=>v=qv (F st)/\S2<+:S')
  (k:∀S2,S<+:S2->P (.ref S2.length) (S2++[.lst ((L.map F).map qv)])):W (xm cap (iL m) (gN 0) xi e ρ S) P:=by
 refine xH (zaC (hm.imp ?_));rintro _ _ ⟨rfl,rfl⟩;have gT:L.length<=1000:=by rw[gl.len];exact hp
 refine⟨_,zh hn,_,zh hn,?_⟩;rename_i S;refine xn (by rw[Xk];exact rS (VP gT)) (λi es S2=>es=((L.take i).map F).map qv/\S<+:S2) (λ_ _ _ _ ⟨_,e⟩=>zh (yx e hn)) ?_ ⟨by simp,rM _⟩ ?_
 .rintro i w0 dc S2 hw _ ⟨rfl,p⟩;obtain⟨st,dP,rfl⟩:=zck hw;refine .of rfl ?_;ext;refine⟨rfl,?_⟩;refine (he st S2 (gl.at_ i st dP).1 p).imp ?_;rintro _ S3 ⟨rfl,p3⟩;refine⟨?_,p.trans p3⟩;obtain⟨hi,e1⟩:=qO.1 dP;rw[si hi,sk,sk,e1];rfl
 .rintro dc S2 _ ⟨rfl,p⟩;rw[Xk,tL];exact k S2 p
theorem zgJ (gl:ww ss L) {F:List Nat->Q2} (hs:yJ ss st):(L.map F)[idx ss st]? =some (F st):=by rw[qY,gl.has hs];rfl
structure zdv (ss:List Nat) (N:Nat) (S:Sto) (c:Nat) (T:List Q2):Prop where
 at_:S[c]? =some (.lst (T.map qv))
 len:T.length=prd ss
 fb:∀q∈T,Fb N q
noncomputable abbrev zgK (ss:List Nat) (bs:List (Str×Nat)) (Ts:List (List Q2)) (w:Way) (S:Sto):Xv->Sto->Prop:=λv S'=>∃(n:Nat) (T:List Q2),v= .ref n/\S'[n]? =some (.lst (T.map qv))/\S.length<=n/\Due ss bs Ts w T/\Kp K0 S S'
theorem YF {cs:List Nat} {i c:Nat} (h:cs[i]? =some c):(cs.map Xv.ref)[i]? =some (.ref c):=by rw[qY,h];rfl
theorem zfB (hp:prd ss<=1000) (gl:ww ss L) {F:List Nat->Q2->Prop} {body:TwS} {w iA bx:Xv} {N0:Rho->Sto->Prop} {R:Xv->Sto->Prop} (hL:S[aZ]? =some (.lst (Ze L)))
  (hb:∀(st:List Nat) (T':List Q2) (i:Nat) (a6 a7:Option Xv) (S3:Sto),yJ ss st->L[i]? =some st->T'.length=i->Kp K0 S S3->S3[S.length]? =some (.lst (T'.map qv))->S3[aZ]? =some (.lst (Ze L))->
   WS (body [some bx,some (.ref aZ),some w,some iA,some (.ref S.length),some (.tup (ksX st)),a6,a7] S3) (λρ S4=>∃(r:Q2) (a6 a7:Option Xv),ρ=[some bx,some (.ref aZ),some w,some iA,some (.ref S.length),some (.tup (ksX st)),a6,a7]/\F st r/\Kp K0 S S4/\S4[S.length]? =some (.lst ((T'++[r]).map qv))/\S4[aZ]? =some (.lst (Ze L))) R)
  (k:∀(T':List Q2) (S3:Sto) (a5 a6 a7:Option Xv),T'.length=prd ss->(∀st,yJ ss st->∃r,T'[idx ss st]? =some r/\F st r)->Kp K0 S S3->S3[S.length]? =some (.lst (T'.map qv))->N0 [some bx,some (.ref aZ),some w,some iA,some (.ref S.length),a5,a6,a7] S3):
  WS (XN (iL (za 1)) (gN 5) body [some bx,some (.ref aZ),some w,some iA,some (.ref S.length),none,none,none] (S++[.lst []])) N0 R:=by
 have kK:=(qO.1 hL).1;have lK:=yx (qQ S [Ce.lst []]) hL;have je:(S++[Ce.lst []])[S.length]? =some (.lst (([]:List Q2).map qv)):=yy;have k2:Kp K0 S (S++[Ce.lst []]):=Kp.pre (qQ _ _);refine vR (zaC (zq rfl ⟨_,zh lK,_,zh lK,?_⟩));refine wC (xs:=Ze L) (λi ρ S3=>∃(T':List Q2) (a5 a6 a7:Option Xv),ρ=[some bx,some (.ref aZ),some w,some iA,some (.ref S.length),a5,a6,a7]/\S3[S.length]? =some (.lst (T'.map qv))/\T'.length=i/\S3[aZ]? =some (.lst (Ze L))/\Kp K0 S S3/\∀(k:Nat) st,k<i->L[k]? =some st->∃r,T'[k]? =some r/\F st r) (λi ρ S3 _ ⟨_,_,_,_,_,_,_,e,_⟩=>zh e) ?_ ⟨[],none,none,none,rfl,je,rfl,lK,k2,λk st hk=>by omega⟩ ?_
 .rintro i w0 ρ S3 hw ⟨T',a5,a6,a7,rfl,eW,dY,gy,k3,gx⟩;obtain⟨st,dP,rfl⟩:=zck hw;obtain⟨dS,ix⟩:=gl.at_ i _ dP;refine .of rfl ?_;dsimp only[qW];refine YS _ (hb st T' i a6 a7 S3 dS dP dY k3 eW gy) ?_;rintro ρ S4 ⟨r,a6,a7,rfl,hF,k4,iw,hV⟩;refine⟨T'++[r],_,a6,a7,rfl,iw,by simp[dY],hV,k4,λk st' hk e=> ?_⟩;rcases Nat.lt_or_ge k i with ft|ft
  .rw[qR ⋯];exact gx k st' ft e
  .have:k=i:=by omega
   subst this;rw[dP] at e;cases e;exact⟨r,by rw[qU ⋯,dY,su];rfl,hF⟩
 .rintro ρ S3 ⟨T',a5,a6,a7,rfl,eW,dY,gy,k3,gx⟩;rw[Xk] at dY gx;refine k T' S3 a5 a6 a7 (by rw[dY,gl.len]) (λst hs=> ?_) k3 eW;have e:=gl.has hs;exact gx _ st (qO.1 e).1 e
theorem zpE {st:List Nat} {n:Nat} (h:n<=st.length):rh n (Xv.int 0)++(ksX st).drop n=ksX (zs n st):=by
 rw[zm2 n h];unfold ksX;rw[<-v7,sk,Au];rfl
section
variable (bJ:Big fu) (hN:4*N<=134217728) (h9:bs.length<=9) (aV:Bx9 ss (bsX bs)) (bZ:bs.map (·.2)=ss) (hp:prd ss<=1000) (gl:ww ss L) (hL:S[aZ]? =some (.lst (Ze L))) (ht:S[tl]? =some (.lst (cs.map Xv.ref))) (hc:∀(j:Nat) T,Ts[j]? =some T->∃c,cs[j]? =some c/\zdv ss N S c T)
include h9 bZ hp gl hL
theorem zkU {q:Q2}:W (xB fu [.tup (bsX bs),.ref aZ,wyX (.leaf q),.ref tl] S) (zgK ss bs Ts (.leaf q) S):=by
 walk_at "wr";unfold xW wyX;refine zk (zC ?_);ext;refine zw ⟨_,rfl,λ_=> ?_,λz=>absurd z ∅⟩;refine yf (zgI (F:=λ_=>q) hp gl hL (zq rfl ⟨rfl,rfl⟩) (λst S2 hs _=> ?_) λS2 p=> ?_)
 .dsimp only[xZ,rR,qW];ext;exact⟨rfl,rM _⟩
 .exact⟨_,_,rfl,yy,p.length_le,⟨by rw[qV,gl.len],λst hs=>⟨_,zgJ gl hs,rfl⟩⟩,Kp.pre (p.trans (qQ _ _))⟩
theorem ziy {pt:List Nat} (i5:yJ ss pt):W (xB fu [.tup (bsX bs),.ref aZ,wyX (.point pt),.ref tl] S) (zgK ss bs Ts (.point pt) S):=by
 walk_at "wr";unfold xW wyX;refine zk (zC ?_);ext;refine zw ⟨_,rfl,λz=>absurd z ∅,λ_=>zr ?_⟩;refine zk (zC ?_);ext;refine zw ⟨_,rfl,λ_=> ?_,λz=>absurd z ∅⟩;refine yf (zgI (F:=λst=>bQ (decide (st=pt))) hp gl hL (zq rfl ⟨rfl,rfl⟩) (λst S2 hs _=> ?_) λS2 p=> ?_)
 .dsimp only[xZ,rR,qW];ext;refine zj3 (za8 st) (za8 pt) rfl (zm0 (n:=39) (by rw[hs.1,i5.1])) ?_;ext;refine WO.of (show Uu [.bl _] _=some (.int _,_) from rfl) ?_;ext;refine⟨?_,rM _⟩;rw[uS];rfl
 .exact⟨_,_,rfl,yy,p.length_le,⟨by rw[qV,gl.len],λst hs=>⟨_,zgJ gl hs,rfl⟩⟩,Kp.pre (p.trans (qQ _ _))⟩
theorem zkV {t:Tst} (oB:zcP bs t):W (xB fu [.tup (bsX bs),.ref aZ,wyX (.mark t),.ref tl] S) (zgK ss bs Ts (.mark t) S):=by
 walk_at "wr";unfold xW wyX;refine zk (zC ?_);ext;refine zw ⟨_,rfl,λz=>absurd z ∅,λ_=>zr ?_⟩;refine zk (zC ?_);ext;refine zw ⟨_,rfl,λz=>absurd z ∅,λ_=>zr ?_⟩;refine zk (zC ?_);ext;refine zw ⟨_,rfl,λ_=> ?_,λz=>absurd z ∅⟩;refine yf (zgI (F:=mkQ bs t) hp gl hL (zq rfl ⟨rfl,rfl⟩) (λst S2 hs _=> ?_) λS2 p=> ?_)
 .dsimp only[xZ,rR,qW];ext;exact zmh h9 (by rw[hs.1,<-bZ,qV]) oB
 .exact⟨_,_,rfl,yy,p.length_le,⟨by rw[qV,gl.len],λst hs=>⟨_,zgJ gl hs,rfl⟩⟩,Kp.pre (p.trans (qQ _ _))⟩
include ht hc
theorem ziz {i lv m s:Nat} (hi:i<Ts.length) (es:ss[lv]? =some s) (hm:m<s):W (xB fu [.tup (bsX bs),.ref aZ,wyX (.fixed i lv m),.ref tl] S) (zgK ss bs Ts (.fixed i lv m) S):=by
 have dW:=(qO.1 es).1;have jB:ss.length<=9:=by rw[<-bZ,qV];exact h9
 have eT:Ts[i]? =some Ts[i]:=qN hi;generalize Ts[i]=T at eT;obtain⟨c,ec,fA⟩:=hc i T eT;have jI:=(qO.1 fA.at_).1;walk_at "wr";unfold xW wyX;refine zk (zC ?_);ext;refine zw ⟨_,rfl,λz=>absurd z ∅,λ_=>zr ?_⟩;refine zk (zC ?_);ext;refine zw ⟨_,rfl,λz=>absurd z ∅,λ_=>zr ?_⟩;refine zk (zC ?_);ext;refine zw ⟨_,rfl,λz=>absurd z ∅,λ_=>zr ?_⟩;refine zk (yB (XO (yI ?_)));dsimp only[qW];refine zk (zC ?_);ext;refine zw ⟨_,rfl,λ_=> ?_,λz=>absurd z ∅⟩;refine zk (zfB (F:=DV ss bs Ts (.fixed i lv m)) hp gl hL (λst T' i' a6 a7 S3 dS dP dY k3 eW gy=> ?_) λT' S3 a5 a6 a7 dY gx k3 eW=> ?_)
 .have gI:lv<st.length:=by rw[dS.1];exact dW
  have il:=(qO.1 dP).1;rw[gl.len] at il;refine zk (yB (yw (yw (zhc (zq rfl ?_)))));ext;refine zG rfl (show atI [Xv.str "fixed",.int (i:Int),.int (lv:Int),.int (m:Int)] 2=some (.int (lv:Int)) from rfl) ?_;ext;refine zgH ?_;rw[zod _ _ (by rw[yW];omega)];ext;refine zG rfl (show atI [Xv.str "fixed",.int (i:Int),.int (lv:Int),.int (m:Int)] 3=some (.int (m:Int)) from rfl) ?_;ext;refine Ue (by have:=dS.1;rw[sG,yW];simp only[ra,sQ];omega) ?_;refine zhc (zq rfl ?_);ext;refine zG rfl (show atI [Xv.str "fixed",.int (i:Int),.int (lv:Int),.int (m:Int)] 2=some (.int (lv:Int)) from rfl) ?_;ext;refine zgH ?_;rw[show (lv:Int)+1=((lv+1:Nat):Int) by omega,zfy _ _ (by rw[yW];omega)];refine Ue (by have:=dS.1;rw[rd,sG,tK,yW];simp only[ra,sQ];omega) ?_;rw[zmd gI];dsimp only[qW];refine wB (Yc (zq rfl ⟨⟨_,zh eW⟩,zm (yw (yw (zq rfl ?_)))⟩));ext;refine zU (zh (k3.2 _ _ ht id)) (zQ (YF ec)) ?_;refine Yc (zq rfl ⟨⟨_,zh gy⟩,zm (zq rfl (yI ?_))⟩);refine zdt gl (dS.set es hm) gy ?_;have lj:idx ss (st.set lv m)<T.length:=by rw[fA.len];exact VR (dS.set es hm)
  have eR:T[idx ss (st.set lv m)]? =some T[idx ss (st.set lv m)]:=qN lj;refine zU (zh (k3.2 _ _ fA.at_ id)) (zQ (zdu eR)) ?_;ext;refine vp (wQ eW) (by rw[qV,dY];exact VP ⋯) ?_;have:=(qO.1 hL).1;exact⟨_,_,_,rfl,⟨T,eT,eR⟩,k3.set (.inr (qT _)),by rw[wb eW,sk];rfl,xu gy ⋯⟩
 .ext;exact⟨_,T',rfl,eW,qT _,⟨dY,gx⟩,k3⟩
include aV in
theorem zkW {lv m0:Nat} {ks:List Nat} {s:Nat} (es:ss[lv]? =some s) (cM:ks.length=s) (hk:∀k∈ks,k<Ts.length) (p8:S[m0]? =some (.lst (ksX ks))):W (xB fu [.tup (bsX bs),.ref aZ,wyX (.fork lv m0 ks),.ref tl] S) (zgK ss bs Ts (.fork lv m0 ks) S):=by
 have dW:=(qO.1 es).1;have jB:ss.length<=9:=by rw[<-bZ,qV];exact h9
 walk_at "wr";unfold xW wyX;refine zk (zC ?_);ext;refine zw ⟨_,rfl,λz=>absurd z ∅,λ_=>zr ?_⟩;refine zk (zC ?_);ext;refine zw ⟨_,rfl,λz=>absurd z ∅,λ_=>zr ?_⟩;refine zk (zC ?_);ext;refine zw ⟨_,rfl,λz=>absurd z ∅,λ_=>zr ?_⟩;refine zk (yB (XO (yI ?_)));dsimp only[qW];refine zk (zC ?_);ext;refine zw ⟨_,rfl,λz=>absurd z ∅,λ_=>zr ?_⟩;refine zk (zC ?_);ext;refine zw ⟨_,rfl,λ_=> ?_,λz=>absurd z ∅⟩;refine zk (zfB (F:=DV ss bs Ts (.fork lv m0 ks)) hp gl hL (λst T' i' a6 a7 S3 dS dP dY k3 eW gy=> ?_) λT' S3 a5 a6 a7 dY gx k3 eW=> ?_)
 .have gI:lv<st.length:=by rw[dS.1];exact dW
  have il:=(qO.1 dP).1;have qG:=(qO.1 hL).1;rw[gl.len] at il;refine zk (yB (yw (wn (zm (xH (wD ?_))))));ext;refine⟨⟨⋯,⋯⟩,_,rfl,?_⟩;rw[show ((lv:Int)+1).toNat=lv+1 by omega];refine xn (xs:=xy 0 (lv+1)) (by rw[yj];exact rS (VP ⋯)) (λj dc S4=>dc=rh j (.int 0)/\S4=S3) (λ_ _ _ _ _=>rfl) ?_ ⟨rfl,rfl⟩ ?_
  .rintro j w0 dc S4 hw _ ⟨rfl,rfl⟩;refine .of rfl ?_;ext;refine⟨rfl,?_⟩;ext;exact⟨by rw[sN],rfl⟩
  rintro dc S4 _ ⟨rfl,rfl⟩;rw[yj];have k4:Kp K0 S (S4++[Ce.lst (rh (lv+1) (Xv.int 0))]):=k3.trans (Kp.pre (qQ _ _));have iw:=yx (qQ S4 [Ce.lst (rh (lv+1) (Xv.int 0))]) eW;have hV:=yx (qQ S4 [Ce.lst (rh (lv+1) (Xv.int 0))]) gy;ext;refine TV yy ?_;generalize S4++[Ce.lst (rh (lv+1) (Xv.int 0))]=S5 at k4 iw hV;refine zhc (zq rfl ?_);ext;refine zgH ?_;rw[show (lv:Int)+1=((lv+1:Nat):Int) by omega,zfy _ _ (by rw[yW];omega)];refine Ue (by have:=dS.1;rw[uC,tK,yW];omega) ?_;rw[zpE ⋯];dsimp only[qW];obtain⟨m,em,hm⟩:=dS.get es;have ek:ks[m]? =some ks[m]:=qN ⋯;have cu:=hk ks[m] (rq _);generalize ks[m]=k at ek cu;have eT:Ts[k]? =some Ts[k]:=qN cu;generalize Ts[k]=T at eT;obtain⟨c,ec,fA⟩:=hc k T eT;refine zk (yB (yw ?_));ext;refine zG rfl (show atI [Xv.str "fork",.int (lv:Int),.ref m0] 2=some (.ref m0) from rfl) ?_;ext;refine zG rfl (zQ (wc em)) ?_;refine zU (zh (k4.2 _ _ p8 id)) (zQ (wc ek)) ?_;dsimp only[qW];refine wB (Yc (zq rfl ⟨⟨_,zh iw⟩,zm (yw (yw (zq rfl ?_)))⟩));ext;refine zU (zh (k4.2 _ _ ht id)) (zQ (YF ec)) ?_;refine Yc (zq rfl ⟨⟨_,zh hV⟩,zm (zq rfl (yI ?_))⟩);have mI:=zhI aV (lv+1) ⋯ dS;refine zdt gl mI hV ?_;have lj:idx ss (zs (lv+1) st)<T.length:=by rw[fA.len];exact VR mI
  have eR:T[idx ss (zs (lv+1) st)]? =some T[idx ss (zs (lv+1) st)]:=qN lj;refine zU (zh (k4.2 _ _ fA.at_ id)) (zQ (zdu eR)) ?_;ext;refine vp (wQ iw) (by rw[qV,dY];exact VP ⋯) ?_;exact⟨_,_,_,rfl,⟨m,k,T,em,ek,eT,eR⟩,k4.set (.inr (qT _)),by rw[wb iw,sk];rfl,xu hV ⋯⟩
 .ext;exact⟨_,T',rfl,eW,qT _,⟨dY,gx⟩,k3⟩
end
end
section
variable {fu N:Nat} {S S' S2:Sto} {x y z:Xv} {ss:List Nat} {bl:List Xv} {fs fs':List zy} {bs:List (Str×Nat)} {st:List Nat} {sn fn dn nn lo:Nat} {is:List Nat} {Ts:List (List Q2)} {n a r:Nat}
structure Zd (ss:List Nat) (n:Nat) (fs:List zy) (a r:Nat):Prop where
 lv:∃fa fr,fs[a]? =some fa/\fs[r]? =some fr/\n<=lvl ss.length fr
 va:∀st,yJ ss st->∀q h,VA fs (zs n st) q h a->∃h',VA fs st q h' r
theorem Zd.mono (aV:Bx9 ss bl) (hn:n<=ss.length) (g:Zd ss n fs a r) (w:WF ss fs) (p:fs<+:fs'):Zd ss n fs' a r:=by
 obtain⟨fa,fr,ea,er,hl⟩:=g.lv;refine⟨⟨fa,fr,yx p ea,yx p er,hl⟩,λst hs q h v=> ?_⟩;obtain⟨h,v⟩:=g.va st hs q _ (v.back w p (zhI aV n hn hs) ea);exact⟨h,v.mono p⟩
theorem Zd.step {r' s:Nat} (w:WF ss fs) (hz:∃st,yJ ss st) (es:ss[n]? =some s) (fL:1<=s) (g:Zd ss n fs a r) (d:Fxd ss n 0 fs r r'):Zd ss (n+1) fs a r':=by
 obtain⟨fa,fr,ea,er,hl⟩:=g.lv;obtain⟨qH,fr',nD,er',gU⟩:=d.le;rw[er] at nD;cases nD;have ne:lvl ss.length fr'≠n:=zom w hz es er' λst hs m hm q h v=>by
  obtain⟨q0,v0⟩:=w.val' (hs.set es fL) er;obtain⟨h1,v1⟩:=d.va st hs q0 _ v0;have:=v.uniq v1;subst this;exact d.va (st.set n m) (hs.set es hm) q _ (by rw[Bh];exact v0)
 refine⟨⟨fa,fr',ea,er',⋯⟩,λst hs q h v=> ?_⟩;obtain⟨h1,v1⟩:=g.va (st.set n 0) (hs.set es fL) q h v;exact d.va st hs q h1 v1
def zfC (ss:List Nat) (Ts:List (List Q2)) (is:List Nat) (fs:List zy):Prop:=∀(j:Nat) T,Ts[j]? =some T->∃i f,is[j]? =some i/\fs[i]? =some f/\Zc ss fs 0 T i
theorem zfC.mono (h:zfC ss Ts is fs) (p:fs<+:fs'):zfC ss Ts is fs':=λj T e=>by
 obtain⟨i,f,e1,e2,t⟩:=h j T e;exact⟨i,f,e1,yx p e2,t.mono p⟩
theorem Zc.at_ {T:List Q2} {i:Nat} {q:Q2} (t:Zc ss fs 0 T i) (hs:yJ ss st) (e:T[idx ss st]? =some q):∃h,VA fs st q h i:=by
 obtain⟨q',h,e',v⟩:=t st hs;rw[sO,sO,e] at e';cases e';exact⟨h,v⟩
theorem Zc.vb {T:List Q2} {i:Nat} (h:Zc ss fs 0 T i) (f:∀q∈T,Fb N q):Vb (Fb N) ss fs i:=λst hs q hh v=>by
 obtain⟨q',h',e,v'⟩:=h st hs;rw[v.uniq v'];exact f q' (qS e)
noncomputable abbrev zaH (ss:List Nat) (bs:List (Str×Nat)) (Ts:List (List Q2)) (w:Way) (sn fn dn:Nat) (fs:List zy) (S:Sto):Xv->Sto->Prop:=λv S'=>∃(r:Nat) (fs':List zy),v= .int (r:Int)/\(∃f,fs'[r]? =some f)/\(∀st,yJ ss st->∀q,DV ss bs Ts w st q->∃h,VA fs' st q h r)/\WF ss fs'/\yN sn fn dn (.tup (bsX bs)) fs 33000 S fs' S'
section
variable (h9:bs.length<=9) (h1:∀b∈bs,1<=b.2/\b.2<=9) (bZ:bs.map (·.2)=ss) (hc:cst ss ss.length<=400) (h:xh sn fn dn (.tup (bsX bs)) fs S) (w:WF ss fs) (hf:fs.length<=860000)
include h9 bZ h w hf hc
theorem ziA {q:Q2}:W (xl fu [.ref sn,wyX (.leaf q),.ref nn] S) (zaH ss bs Ts (.leaf q) sn fn dn fs S):=by
 walk_at "wr";unfold xX wyX;refine zk (zC ?_);ext;refine zw ⟨_,rfl,λ_=> ?_,λz=>absurd z ∅⟩;refine yf (zW ?_);ext;refine⟨_,_,rfl,h.o,rfl,?_⟩;ext;refine (UM h ⋯ (zfp q)).imp ?_;rintro _ S2 ⟨i,aY,rfl,e1,ad,g⟩;exact⟨i,aY,rfl,⟨_,e1⟩,λst hs q' e=>⟨0,by obtain rfl:q'=q:=e;exact .leaf e1⟩,w.leaf g.st.nd ad,g.more ⋯⟩
include h1
theorem zgL {pt:List Nat} (i5:yJ ss pt):W (xl fu [.ref sn,wyX (.point pt),.ref nn] S) (zaH ss bs Ts (.point pt) sn fn dn fs S):=by
 subst bZ;walk_at "wr";unfold xX wyX;refine zk (zC ?_);ext;refine zw ⟨_,rfl,λz=>absurd z ∅,λ_=>zr ?_⟩;refine zk (zC ?_);ext;refine zw ⟨_,rfl,λ_=> ?_,λz=>absurd z ∅⟩;refine yf (zW ?_);ext;refine⟨_,_,rfl,h.o,rfl,?_⟩;ext;refine (zmc h9 h1 i5 h w ⋯).imp ?_;rintro _ S2 ⟨i,aY,rfl,e1,pt',w2,g⟩;exact⟨i,aY,rfl,e1,λst hs q e=>by obtain rfl:q=_:=e;exact pt' st hs,w2,g.more ⋯⟩
theorem ziB {t:Tst} (ht:zcP bs t) (hT:Tb S):W (xl fu [.ref sn,wyX (.mark t),.ref nn] S) (zaH ss bs Ts (.mark t) sn fn dn fs S):=by
 subst bZ;walk_at "wr";unfold xX wyX;refine zk (zC ?_);ext;refine zw ⟨_,rfl,λz=>absurd z ∅,λ_=>zr ?_⟩;refine zk (zC ?_);ext;refine zw ⟨_,rfl,λz=>absurd z ∅,λ_=>zr ?_⟩;refine zk (zC ?_);ext;refine zw ⟨_,rfl,λ_=> ?_,λz=>absurd z ∅⟩;refine yf (zW ?_);ext;refine⟨_,_,rfl,h.o,rfl,?_⟩;ext;refine (zkH h9 h1 ht h w hT.t5 ⋯).imp ?_;rintro _ S2 ⟨i,aY,rfl,e1,mk,w2,g⟩;exact⟨i,aY,rfl,e1,λst hs q e=>by obtain rfl:q=_:=e;exact mk st hs,w2,g.more ⋯⟩
variable (hn:S[nn]? =some (.lst (ksX is))) (jw:nn≠fn) (eF:zfC ss Ts is fs)
include hn eF
theorem zgM {i lv m s:Nat} (hi:i<Ts.length) (es:ss[lv]? =some s) (hm:m<s):W (xl fu [.ref sn,wyX (.fixed i lv m),.ref nn] S) (zaH ss bs Ts (.fixed i lv m) sn fn dn fs S):=by
 subst bZ;have aV:=zcl h1 h9;obtain⟨k,f,ek,ef,tl⟩:=eF i _ (qN hi);have eT:Ts[i]? =some Ts[i]:=qN hi;walk_at "wr";unfold xX wyX;refine zk (zC ?_);ext;refine zw ⟨_,rfl,λz=>absurd z ∅,λ_=>zr ?_⟩;refine zk (zC ?_);ext;refine zw ⟨_,rfl,λz=>absurd z ∅,λ_=>zr ?_⟩;refine zk (zC ?_);ext;refine zw ⟨_,rfl,λz=>absurd z ∅,λ_=>zr ?_⟩;refine zk (zC ?_);ext;refine zw ⟨_,rfl,λ_=> ?_,λz=>absurd z ∅⟩;refine yf (zW ?_);ext;refine⟨_,_,rfl,h.o,rfl,?_⟩;ext;refine zU (zh hn) (zQ (wc ek)) ?_;ext;refine zG rfl (show atI [Xv.str "fixed",.int (i:Int),.int (lv:Int),.int (m:Int)] 2=some (.int (lv:Int)) from rfl) ?_;ext;refine zG rfl (show atI [Xv.str "fixed",.int (i:Int),.int (lv:Int),.int (m:Int)] 3=some (.int (m:Int)) from rfl) ?_;ext;refine (zhA aV es hm h w ef ⋯).imp ?_;rintro _ S2 ⟨r,aY,rfl,fx,w2,g⟩;obtain⟨_,fr,_,er,_⟩:=fx.le;refine⟨r,aY,rfl,⟨fr,er⟩,λst hs q d=> ?_,w2,g.more ⋯⟩;obtain⟨T,e1,e2⟩:=d;rw[eT] at e1;cases e1;obtain⟨h',v⟩:=tl.at_ (hs.set es hm) e2;exact fx.va st hs q h' (v.mono g.pre)
include jw
theorem ziC (hz:∃st,yJ ss st) {lv m0 s:Nat} {ks:List Nat} (es:ss[lv]? =some s) (cM:ks.length=s) (hk:∀k∈ks,k<Ts.length) (jz:S[m0]? =some (.lst (ksX ks))) (oV:m0≠fn):W (xl fu [.ref sn,wyX (.fork lv m0 ks),.ref nn] S) (zaH ss bs Ts (.fork lv m0 ks) sn fn dn fs S):=by
 have aV:Bx9 ss (bsX bs):=by rw[<-bZ];exact zcl h1 h9
 have dW:=(qO.1 es).1;have jB:ss.length<=9:=by rw[<-bZ,qV];exact h9
 have hsz:=aV.siz s (qS es);have gp:s<=9:=by
  have:=qS es;rw[<-bZ,tS] at this;obtain⟨b,hb,rfl⟩:=this;exact (h1 b hb).2
 generalize jK:cst ss ss.length=c at hc;walk_at "wr";unfold xX wyX;refine zk (zC ?_);ext;refine zw ⟨_,rfl,λz=>absurd z ∅,λ_=>zr ?_⟩;refine zk (zC ?_);ext;refine zw ⟨_,rfl,λz=>absurd z ∅,λ_=>zr ?_⟩;refine zk (zC ?_);ext;refine zw ⟨_,rfl,λz=>absurd z ∅,λ_=>zr ?_⟩;refine zk (zC ?_);ext;refine zw ⟨_,rfl,λz=>absurd z ∅,λ_=>zr ?_⟩;refine zk (zC ?_);ext;refine zw ⟨_,rfl,λ_=> ?_,λz=>absurd z ∅⟩;ext;obtain⟨q0,q1,q2⟩:=h.isome;have eS:=(qO.1 hn).1;have gQ:=(qO.1 jz).1;have g1:=yN.of_pre h (qQ S [Ce.lst []]);have mV:=yx (qQ S [Ce.lst []]) hn;have jy:=yx (qQ S [Ce.lst []]) jz;have iV:(S++[Ce.lst []])[S.length]? =some (.lst (ksX [])):=yy;generalize S++[Ce.lst []]=S1 at g1 mV jy iV;refine vR (zaC ?_);ext;refine zG rfl (show atI [Xv.str "fork",.int (lv:Int),.ref m0] 2=some (.ref m0) from rfl) ?_;refine⟨_,zh jy,_,zh jy,?_⟩
 refine wC (xs:=ksX ks) (λi ρ S2=>∃(aY:List zy) (js:List Nat) (a4 a5 a6:Option Xv),ρ=[some (.ref sn),some (.tup [.str "fork",.int (lv:Int),.ref m0]),some (.ref nn),some (.ref S.length),a4,a5,a6]/\S2[S.length]? =some (.lst (ksX js))/\js.length=i/\yN sn fn dn (.tup (bsX bs)) fs (i*(9*c)) S aY S2/\WF ss aY/\S2[nn]? =some (.lst (ksX is))/\S2[m0]? =some (.lst (ksX ks))/\
   ∀(m j:Nat),js[m]? =some j->∃k a,ks[m]? =some k/\is[k]? =some a/\Zd ss (lv+1) aY a j) (λi ρ S2 _ ⟨_,_,_,_,_,_,_,_,_,_,_,e,_⟩=>zh e) ?_ ⟨fs,[],none,none,none,rfl,iV,rfl,g1.more ⋯,w,mV,jy,λm k e=>by simp at e⟩ ?_
 .rintro i w0 ρ S2 hw ⟨aY,js,a4,a5,a6,rfl,ic,gq,g2,w2,dh,kT,jC⟩;have hi:i<ks.length:=by have:=(qO.1 hw).1;rw[yW] at this;exact this
  have ek:ks[i]? =some ks[i]:=qN hi;have cu:=hk ks[i] (rq _);generalize ks[i]=k at ek cu;rw[wc ek] at hw;cases hw;obtain⟨a,f,ea,ef,tl⟩:=eF k _ (qN cu);refine .of rfl ?_;dsimp only[qW];ext;refine zU (zh dh) (zQ (wc ea)) ?_
  try dsimp only[qW]
  refine zk (vR (wD ?_));ext;refine⟨⟨⋯,⋯⟩,_,rfl,?_⟩;rw[show ((lv:Int)+1).toNat=lv+1 by omega];have jD:i*(9*c)<=8*(9*c):=rN _ ⋯;have f2:=g2.len;refine wC (xs:=xy 0 (lv+1)) (λn ρ S3=>∃(cG:List zy) (r:Nat) (a6:Option Xv),ρ=[some (.ref sn),some (.tup [.str "fork",.int (lv:Int),.ref m0]),some (.ref nn),some (.ref S.length),some (.int (k:Int)),some (.int (r:Int)),a6]/\yN sn fn dn (.tup (bsX bs)) aY (n*c) S2 cG S3/\WF ss cG/\Zd ss n cG a r) (λ_ _ _ _ _=>rfl) ?_ ⟨aY,a,a6,rfl,g2.st.grown.more ⋯,w2,⟨f,f,yx g2.pre ef,yx g2.pre ef,tI _⟩,λst hs q h v=>⟨h,v⟩⟩ ?_
  .rintro n w0 ρ S3 hw ⟨cG,r,a6,rfl,g3,w3,zd⟩;obtain⟨mW,rfl⟩:=yX hw;rw[sy];have en:ss[n]? =some ss[n]:=qN ⋯;have fL:=(aV.siz ss[n] (rq _)).1;obtain⟨_,fr,_,er,_⟩:=zd.lv;have ql:n*c<=8*c:=rN _ ⋯;have f3:=g3.len;refine .of rfl ?_;dsimp only[qW];refine yB (zW ?_);ext;refine⟨_,_,rfl,g3.st.o,rfl,?_⟩;ext;refine (zhA (m:=0) aV en fL g3.st w3 er ⋯).imp ?_;rintro _ S4 ⟨r',dm,rfl,fx,w4,g4⟩;dsimp only[qW];rw[jK] at g4;exact⟨dm,r',_,rfl,(g3.trans g4).more (by rw[sM];exact qT _),w4,(zd.mono aV ⋯ w3 g4.pre).step w4 hz en fL fx⟩
  .rintro ρ S3 ⟨cG,r,a6,rfl,g3,w3,zd⟩;rw[yj] at g3 zd;have f3:=g3.len;have qq:(lv+1)*c<=9*c:=rN _ ⋯;have du:=g3.kp.2 _ _ ic (λz=>by have:=g2.st.flt;have:=h.flt;rcases z with z|z<;>omega);have kn:∀{m:Nat} {l:List Xv},S2[m]? =some (.lst l)->m≠fn->S3[m]? =some (.lst l):=λ{m l} e q=>g3.kp.2 _ _ e λz=>z.elim q (g2.st.nd' e);refine wB (Yc (zq rfl ⟨⟨_,zh du⟩,zm (zq rfl (yI ?_))⟩));refine vp (wQ du) (by rw[yW];exact VN ⋯) ?_;refine⟨cG,js++[r],_,_,_,rfl,by rw[wb du,zaa],by simp[gq],((g2.trans g3).set (qT _) q0 q1 q2).more (by have e9:(i+1)*(9*c)=i*(9*c)+9*c:=sM i (9*c);omega),w3,xu (kn dh jw) ⋯,xu (kn kT oV) ⋯,λm j e=> ?_⟩;rcases rW m js.length with bX|bX|bX
   .rw[qR bX] at e;obtain⟨k',a',e1,e2,zd'⟩:=jC m j e;exact⟨k',a',e1,e2,zd'.mono aV ⋯ w2 g3.pre⟩
   .subst bX;rw[qU (qT _),su] at e;cases e;rw[gq];exact⟨k,a,ek,ea,zd⟩
   .rw[r6 (by simp;omega)] at e;cases e
 .rintro ρ S3 ⟨aY,js,a4,a5,a6,rfl,du,gq,g3,w2,qm,qp,jC⟩;rw[yW] at gq g3;have f2:=g3.len;have qk:ks.length*(9*c)<=9*(9*c):=rN _ ⋯;have h0:js[0]? =some js[0]:=qN ⋯;refine yf (zW ?_);ext;refine⟨_,_,rfl,g3.st.o,rfl,?_⟩;ext;refine (zaq g3.st ⋯ du h0 ⋯).imp ?_;rintro _ S4 ⟨r,dm,rfl,fo,ad,g⟩;have dR:∀k∈js,∃f,aY[k]? =some f/\lv<lvl ss.length f:=λk hk=>by
   obtain⟨m,bX⟩:=rL hk;obtain⟨_,_,_,_,zd⟩:=jC m k bX;obtain⟨_,fr,_,er,hl⟩:=zd.lv;exact⟨fr,er,hl⟩
  have w4:WF ss dm:=by
   rcases ad with rfl|⟨cV,ad⟩
   .exact w2
   .refine w2.fork g.st.nd (.inr ad) es ⋯ dR λz=>cV λk hk=> ?_;exact z k hk js[0] (rq _)
  refine⟨r,dm,rfl,?_,λst hs q d=> ?_,w4,(g3.trans g).more ⋯⟩
  .obtain⟨k0,e0,⟨all,rfl⟩|⟨_,e⟩⟩:=fo
   .obtain⟨f,e1,e2⟩:=dR r (qS e0);exact⟨f,yx g.pre e1⟩
   .exact⟨_,e⟩
  .obtain⟨m,k,T,em,ek,eT,eR⟩:=d;have gQ:m<js.length:=by have:=(qO.1 ek).1;omega
   have ej:js[m]? =some js[m]:=qN gQ;obtain⟨k',a,ek',ea,zd⟩:=jC m _ ej;rw[ek] at ek';cases ek';obtain⟨a',f,ea',ef,tl⟩:=eF k T eT;rw[ea] at ea';cases ea';obtain⟨h1,v1⟩:=tl.at_ (zhI aV (lv+1) ⋯ hs) eR;obtain⟨h2,v2⟩:=zd.va st hs q h1 (v1.mono g3.pre);exact⟨_,fo.va em ej (v2.mono g.pre)⟩
end
end
section
variable {fu N:Nat} {S S' S2:Sto} {x y z:Xv} {ss:List Nat} {fs fs':List zy} {bs:List (Str×Nat)} {st:List Nat} {sn fn dn nn lo aZ tl many:Nat} {is cs:List Nat} {Ts:List (List Q2)} {L:List (List Nat)}
theorem TX.dv {w i j a b r:Nat} {T1 T2:List Q2} (g:TX ss (opQ w) fs a b r) (e1:Ts[i]? =some T1) (e2:Ts[j]? =some T2) (t1:Zc ss fs 0 T1 a) (t2:Zc ss fs 0 T2 b) (hs:yJ ss st) {q:Q2} (d:DV ss bs Ts (.op w i j) st q):∃h,VA fs st q h r:=by
 obtain⟨U1,U2,p1,p2,f1,f2,f3,f4,rfl⟩:=d;rw[e1] at f1;cases f1;rw[e2] at f2;cases f2;obtain⟨h1,v1⟩:=t1.at_ hs f3;obtain⟨h2,v2⟩:=t2.at_ hs f4;exact g.va st hs _ _ _ _ v1 v2
theorem zmr (bJ:Big fu) (hN:4*N<=134217728) (aV:Bx9 ss (bsX bs)) (hz:∃st,yJ ss st) (hc:cst ss ss.length<=400) (h:xh sn fn dn (.tup (bsX bs)) fs S) (w:WF ss fs) (hf:fs.length<=860000) (hT:Tb S) (hn:S[nn]? =some (.lst (ksX is))) (eF:zfC ss Ts is fs) (gv:∀T∈Ts,∀q∈T,Fb N q)
  {o i j:Nat} (ho:o<3) (hi:i<Ts.length) (hj:j<Ts.length):W (xl fu [.ref sn,wyX (.op o i j),.ref nn] S) (zaH ss bs Ts (.op o i j) sn fn dn fs S):=by
 have e1:Ts[i]? =some Ts[i]:=qN hi;have e2:Ts[j]? =some Ts[j]:=qN hj;have b1:=gv Ts[i] (rq _);have b2:=gv Ts[j] (rq _);generalize Ts[i]=T1 at e1 b1;generalize Ts[j]=T2 at e2 b2;obtain⟨a,fa,ia,ea,ta⟩:=eF i T1 e1;obtain⟨b,fb,ib,eb,tb⟩:=eF j T2 e2;have fin:∀(v:Xv) (S':Sto),JnP fu ss (opQ o) sn fn dn (bsX bs) fs a b S v S'->zaH ss bs Ts (.op o i j) sn fn dn fs S v S':=by
  rintro _ S' ⟨r,aY,rfl,g,w2,gr⟩;obtain⟨_,_,fr,_,_,er,_⟩:=g.lv;exact⟨r,aY,rfl,⟨fr,er⟩,λst hs q d=>g.dv e1 e2 (ta.mono gr.pre) (tb.mono gr.pre) hs d,w2,gr.more ⋯⟩
 walk_at "wr";unfold xX wyX;have hw:opS o≠"leaf"/\opS o≠"point"/\opS o≠"mark"/\opS o≠"fixed"/\opS o≠"fork":=by
  match o,ho with
  |0,_=>decide
  |1,_=>decide
  |2,_=>decide
 refine zk (zC ?_);ext;refine zw ⟨_,rfl,λz=>absurd (of_decide_eq_true z) hw.1,λ_=>zr ?_⟩;refine zk (zC ?_);ext;refine zw ⟨_,rfl,λz=>absurd (of_decide_eq_true z) hw.2.1,λ_=>zr ?_⟩;refine zk (zC ?_);ext;refine zw ⟨_,rfl,λz=>absurd (of_decide_eq_true z) hw.2.2.1,λ_=>zr ?_⟩;refine zk (zC ?_);ext;refine zw ⟨_,rfl,λz=>absurd (of_decide_eq_true z) hw.2.2.2.1,λ_=>zr ?_⟩;refine zk (zC ?_);ext;refine zw ⟨_,rfl,λz=>absurd (of_decide_eq_true z) hw.2.2.2.2,λ_=>zr ?_⟩;have two:atI [Xv.str (opS o),.int (i:Int),.int (j:Int)] 2=some (.int (j:Int)):=rfl;clear hw
 match o,ho with
 |2,_=>
  refine zk (zC ?_);ext;refine zw ⟨_,rfl,λ_=> ?_,λz=>absurd z ∅⟩;refine yf (zW ?_);ext;refine⟨_,_,rfl,h.o,rfl,?_⟩;ext;refine zU (zh hn) (zQ (wc ia)) ?_;ext;refine zG rfl two ?_;refine zU (zh hn) (zQ (wc ib)) ?_;ext;exact (zmn bJ hN aV hz h w hT ea eb (ta.vb b1) (tb.vb b2) ⋯ ⋯).imp fin
 |1,_=>
  refine zk (zC ?_);ext;refine zw ⟨_,rfl,λz=>absurd z ∅,λ_=>zr ?_⟩;refine zk (zC ?_);ext;refine zw ⟨_,rfl,λ_=> ?_,λz=>absurd z ∅⟩;refine yf (zW ?_);ext;refine⟨_,_,rfl,h.o,rfl,?_⟩;ext;refine zU (zh hn) (zQ (wc ia)) ?_;ext;refine zG rfl two ?_;refine zU (zh hn) (zQ (wc ib)) ?_;ext;exact (zev bJ hN aV hz h w hT ea eb (ta.vb b1) (tb.vb b2) ⋯ ⋯).imp fin
 |0,_=>
  refine zk (zC ?_);ext;refine zw ⟨_,rfl,λz=>absurd z ∅,λ_=>zr ?_⟩;refine zk (zC ?_);ext;refine zw ⟨_,rfl,λz=>absurd z ∅,λ_=>zr ?_⟩;refine yf (zW ?_);ext;refine⟨_,_,rfl,h.o,rfl,?_⟩;ext;refine zU (zh hn) (zQ (wc ia)) ?_;ext;refine zG rfl two ?_;refine zU (zh hn) (zQ (wc ib)) ?_;ext;exact (zkS hN aV hz h w hT ea eb (ta.vb b1) (tb.vb b2) ⋯ ⋯).imp fin
theorem zon (bJ:Big fu) (hN:4*N<=134217728) (hp:prd ss<=1000) (gl:ww ss L) (ht:S[tl]? =some (.lst (cs.map Xv.ref))) (hc:∀(j:Nat) T,Ts[j]? =some T->∃c,cs[j]? =some c/\zdv ss N S c T)
  {o i j:Nat} (ho:o<3) (hi:i<Ts.length) (hj:j<Ts.length):W (xB fu [.tup (bsX bs),.ref aZ,wyX (.op o i j),.ref tl] S) (zgK ss bs Ts (.op o i j) S):=by
 have e1:Ts[i]? =some Ts[i]:=qN hi;have e2:Ts[j]? =some Ts[j]:=qN hj;generalize Ts[i]=T1 at e1;generalize Ts[j]=T2 at e2;obtain⟨c1,f1,t1⟩:=hc i T1 e1;obtain⟨c2,f2,t2⟩:=hc j T2 e2;walk_at "wr";unfold xW wyX;have hw:opS o≠"leaf"/\opS o≠"point"/\opS o≠"mark"/\opS o≠"fixed"/\opS o≠"fork":=by
  match o,ho with
  |0,_=>decide
  |1,_=>decide
  |2,_=>decide
 refine zk (zC ?_);ext;refine zw ⟨_,rfl,λz=>absurd (of_decide_eq_true z) hw.1,λ_=>zr ?_⟩;refine zk (zC ?_);ext;refine zw ⟨_,rfl,λz=>absurd (of_decide_eq_true z) hw.2.1,λ_=>zr ?_⟩;refine zk (zC ?_);ext;refine zw ⟨_,rfl,λz=>absurd (of_decide_eq_true z) hw.2.2.1,λ_=>zr ?_⟩;refine zk (yB (XO (yI ?_)));dsimp only[qW];refine zk (zC ?_);ext;refine zw ⟨_,rfl,λz=>absurd (of_decide_eq_true z) hw.2.2.2.1,λ_=>zr ?_⟩;refine zk (zC ?_);ext;refine zw ⟨_,rfl,λz=>absurd (of_decide_eq_true z) hw.2.2.2.2,λ_=>zr ?_⟩;have p:=qQ S [Ce.lst []];ext;refine zU (zh (yx p ht)) (zQ (YF f1)) ?_;ext;refine zG rfl (show atI [Xv.str (opS o),.int (i:Int),.int (j:Int)] 2=some (.int (j:Int)) from rfl) ?_;refine zU (zh (yx p ht)) (zQ (YF f2)) ?_;ext;refine (zix bJ ho (yx p t1.at_) (yx p t2.at_) (by rw[t1.len,t2.len]) (by rw[t1.len];exact hp) t1.fb t2.fb hN).imp ?_;rintro _ S2 ⟨n,rfl,hn,eS,k⟩;refine⟨n,_,rfl,hn,by have:=p.length_le;omega,⟨by rw[uP,t1.len,t2.len,Nat.min_self],λst hs=> ?_⟩,(Kp.pre p).trans k⟩;have l1:idx ss st<T1.length:=by rw[t1.len];exact VR hs
 have l2:idx ss st<T2.length:=by rw[t2.len];exact VR hs
 have x1:=qN l1;have x2:=qN l2;exact⟨_,zkT x1 x2,T1,T2,_,_,e1,e2,x1,x2,rfl⟩
theorem za9 {lv:Nat} {b:Str×Nat} (bZ:bs.map (·.2)=ss) (e:bs[lv]? =some b):ss[lv]? =some b.2:=by rw[<-bZ,qY,e];rfl
theorem zpF (bJ:Big fu) (hN:4*N<=134217728) (h9:bs.length<=9) (aV:Bx9 ss (bsX bs)) (bZ:bs.map (·.2)=ss) (hp:prd ss<=1000) (gl:ww ss L) (hL:S[aZ]? =some (.lst (Ze L))) (ht:S[tl]? =some (.lst (cs.map Xv.ref))) (hc:∀(j:Nat) T,Ts[j]? =some T->∃c,cs[j]? =some c/\zdv ss N S c T)
  {w:Way} (hw:Wd bs Ts.length S lo w):W (xB fu [.tup (bsX bs),.ref aZ,wyX w,.ref tl] S) (zgK ss bs Ts w S):=by
 cases w with
 |leaf q=>exact zkU h9 bZ hp gl hL
 |point p=>subst bZ;exact ziy h9 rfl hp gl hL hw
 |mark t=>exact zkV h9 bZ hp gl hL hw
 |fork lv n ks=>obtain⟨b,eb,hl,hk,hn,_⟩:=hw;exact zkW h9 aV bZ hp gl hL ht hc (za9 bZ eb) hl hk hn
 |fixed i lv m=>obtain⟨hi,b,eb,hm⟩:=hw;exact ziz h9 bZ hp gl hL ht hc hi (za9 bZ eb) hm
 |op o i j=>exact zon bJ hN hp gl ht hc hw.1 hw.2.1 hw.2.2
theorem zoo (bJ:Big fu) (hN:4*N<=134217728) (h9:bs.length<=9) (h1:∀b∈bs,1<=b.2/\b.2<=9) (bZ:bs.map (·.2)=ss) (hz:∃st,yJ ss st) (hc:cst ss ss.length<=400) (h:xh sn fn dn (.tup (bsX bs)) fs S) (wf:WF ss fs) (hf:fs.length<=860000) (hT:Tb S) (hn:S[nn]? =some (.lst (ksX is))) (jw:nn≠fn) (i6:fn<lo) (eF:zfC ss Ts is fs) (gv:∀T∈Ts,∀q∈T,Fb N q)
  {w:Way} (hw:Wd bs Ts.length S lo w):W (xl fu [.ref sn,wyX w,.ref nn] S) (zaH ss bs Ts w sn fn dn fs S):=by
 have aV:Bx9 ss (bsX bs):=by rw[<-bZ];exact zcl h1 h9
 cases w with
 |leaf q=>exact ziA h9 bZ hc h wf hf
 |point p=>subst bZ;exact zgL h9 h1 rfl hc h wf hf hw
 |mark t=>exact ziB h9 h1 bZ hc h wf hf hw hT
 |fork lv n ks=>obtain⟨b,eb,hl,hk,jz,oY⟩:=hw;exact ziC h9 h1 bZ hc h wf hf hn jw eF hz (za9 bZ eb) hl hk jz ⋯
 |fixed i lv m=>obtain⟨hi,b,eb,hm⟩:=hw;exact zgM h9 h1 bZ hc h wf hf hn eF hi (za9 bZ eb) hm
 |op o i j=>exact zmr bJ hN aV hz hc h wf hf hT hn eF gv hw.1 hw.2.1 hw.2.2
end
section
variable {fu N:Nat} {S S' S2:Sto} {x y z:Xv} {ss:List Nat} {fs fs':List zy} {bs:List (Str×Nat)} {st:List Nat} {sn fn dn nn aZ tl:Nat} {is cs:List Nat} {Ts:List (List Q2)} {L:List (List Nat)}
noncomputable def qD (q:Q2):D:= .tup [.int q.1,.int q.2]
theorem zop {n:Nat} (q:Q2):vD S (n+2) (qv q)=some (qD q):=by
 show (vx (vD S (n+1)) [.int q.1,.int q.2]).map D.tup=_;rfl
theorem zhJ {n:Nat}:∀T:List Q2,vx (vD S (n+2)) (T.map qv)=some (T.map qD)
 |[]=>rfl
 |q::T=>by
  rw[rC,rC];unfold vx;rw[zop,zhJ T];rfl
theorem zfD {c:Nat} {T:List Q2} (h:S[c]? =some (.lst (T.map qv))):vD S 40 (.ref c)=some (.lst (T.map qD)):=by
 show (yH S (.ref c)).bind (λl=>(vx (vD S 39) l).map D.lst)=_;rw[zh h,r0,zhJ T];rfl
theorem zpS {n:Nat} (a b:Q2):eqG (n+2) (qD a) (qD b)=some (decide (a=b)):=by
 obtain⟨a1,a2⟩:=a;obtain⟨b1,b2⟩:=b;unfold qD;dsimp only;show (Yi (eqG (n+1)) [.int a1,.int a2] [.int b1,.int b2]).map (· &&(([D.int a1,.int a2]:List D).length==([D.int b1,.int b2]:List D).length))=_;have e1:eqG (n+1) (.int a1) (.int b1)=some (a1==b1):=rfl;have e2:eqG (n+1) (.int a2) (.int b2)=some (a2==b2):=rfl;simp only[Yi,e1,e2,r0,sE,B6];by_cases h1:a1=b1
 .by_cases h2:a2=b2
  .subst h1 h2;simp
  .simp[h2]
 .simp[h1]
theorem zkX {n:Nat}:∀(l m:List Q2),l.length=m.length->Yi (eqG (n+2)) (l.map qD) (m.map qD)=some (decide (l=m))
 |[],[],_=>by simp[Yi]
 |[],_::_,h=>by simp at h
 |_::_,[],h=>by simp at h
 |a::l,b::m,h=>by
  have ih:=zkX (n:=n) l m (by simpa using h);simp only[rC,Yi,zpS,r0,ih,sE];by_cases h1:a=b
  .subst h1;simp
  .simp[h1]
theorem zoq {l m:List Q2} (h:l.length=m.length):eqG 40 (.lst (l.map qD)) (.lst (m.map qD))=some (decide (l=m)):=by
 unfold eqG;dsimp only;rw[if_pos (by rw[qV,qV,h]),zkX l m h]
theorem Zc.same (w:WF ss fs) (hz:∃st,yJ ss st) (gl:ww ss L) {i j:Nat} {f g:zy} {T U:List Q2} (ei:fs[i]? =some f) (ej:fs[j]? =some g) (t:Zc ss fs 0 T i) (u:Zc ss fs 0 U j) (hT:T.length=prd ss) (hU:U.length=prd ss):i=j↔T=U:=by
 constructor
 .rintro rfl;apply tQ;intro k;by_cases hk:k<L.length
  .obtain⟨hs,ix⟩:=gl.at_ k _ (qN hk);obtain⟨q,h,e,v⟩:=t _ hs;obtain⟨q',h',e',v'⟩:=u _ hs;rw[sO,sO,ix] at e e';rw[e,e',v.uniq v']
  .rw[gl.len] at hk;rw[r6 ⋯,r6 ⋯]
 .rintro rfl;refine w.canon hz ei ej λst hs=> ?_;obtain⟨q,h,e,v⟩:=t _ hs;obtain⟨q',h',e',v'⟩:=u _ hs;rw[e] at e';cases e';exact⟨q,h,h',v,v'⟩
theorem zms (bJ:Big fu) (aV:Bx9 ss (bsX bs)) (hz:∃st,yJ ss st) (hp:prd ss<=1000) (gl:ww ss L) (hL:S[aZ]? =some (.lst (Ze L))) (h:xh sn fn dn (.tup (bsX bs)) fs S) (w:WF ss fs) (hn:S[nn]? =some (.lst (ksX is))) (ht:S[tl]? =some (.lst (cs.map Xv.ref))) (hc:∀(j:Nat) T,Ts[j]? =some T->∃c,cs[j]? =some c/\zdv ss N S c T) (eF:zfC ss Ts is fs) (eI:is.length=Ts.length) (gA:Ts.length<=24):
  W (ZZ fu [.ref sn,.ref aZ,.ref nn,.ref tl] S) λv S'=>v= .bl true/\Kp K0 S S':=by
 walk_at "wr";unfold ZY;refine zk (vR (wD (wn (zm (zq rfl (yI (YU (zh hn) ?_)))))));rw[yW];refine⟨_,rfl,⟨⋯,⋯⟩,_,rfl,?_⟩;rw[rH];refine wC (xs:=xy 0 is.length) (λj ρ S2=>∃(a4 a5:Option Xv),ρ=[some (.ref sn),some (.ref aZ),some (.ref nn),some (.ref tl),a4,a5]/\Kp K0 S S2) (λ_ _ _ _ _=>rfl) ?_ ⟨none,none,rfl,Kp.refl _⟩ ?_
 .rintro j w0 ρ S2 hw ⟨a4,a5,rfl,k2⟩;obtain⟨hj,rfl⟩:=yX hw;rw[sy];have eT:Ts[j]? =some Ts[j]:=qN ⋯;generalize Ts[j]=T at eT;obtain⟨i,f,ei,ef,tt⟩:=eF j T eT;obtain⟨c,ec,fA⟩:=hc j T eT;refine .of rfl ?_;dsimp only[qW];refine zk (zC (zdU (xT (yZ ?_))));ext;refine zU (zh (k2.2 _ _ hn id)) (zQ (wc ei)) ?_;ext;refine zU (zh (k2.2 _ _ ht id)) (zQ (YF ec)) ?_;ext;refine (zhF bJ aV hp (k2.2 _ _ hL id) gl (h.keep k2 id id id) w ef tt (k2.2 _ _ fA.at_ id)).imp ?_;rintro _ S3 ⟨rfl,k3⟩;have k3:=k2.trans k3;refine⟨_,rfl,nofun,λ_=>zr ?_⟩;refine vR (wD (zq rfl ⟨_,rfl,⟨⋯,⋯⟩,_,rfl,?_⟩));rw[rH];refine wC (xs:=xy 0 j) (λk ρ S4=>∃(a5:Option Xv),ρ=[some (.ref sn),some (.ref aZ),some (.ref nn),some (.ref tl),some (.int (j:Int)),a5]/\Kp K0 S S4) (λ_ _ _ _ _=>rfl) ?_ ⟨a5,rfl,k3⟩ ?_
  .rintro k w0 ρ S4 hw ⟨a5,rfl,k4⟩;obtain⟨hk,rfl⟩:=yX hw;rw[sy];have eU:Ts[k]? =some Ts[k]:=qN ⋯;generalize Ts[k]=U at eU;obtain⟨i',f',ei',ef',tu⟩:=eF k U eU;obtain⟨c',ec',lF⟩:=hc k U eU;refine .of rfl ?_;dsimp only[qW];refine zC (xT (yw (yw (yw (zq rfl (zq rfl ?_))))));refine zU (zh (k4.2 _ _ hn id)) (zQ (wc ei)) ?_;ext;refine zU (zh (k4.2 _ _ hn id)) (zQ (wc ei')) ?_;ext;refine zU (zh (k4.2 _ _ ht id)) (zQ (YF ec)) ?_;ext;refine zU (zh (k4.2 _ _ ht id)) (zQ (YF ec')) ?_;refine zj3 (zfD (k4.2 _ _ fA.at_ id)) (zfD (k4.2 _ _ lF.at_ id)) rfl (zoq (by rw[fA.len,lF.len])) ?_;have iff:=Zc.same w hz gl ef ef' tt tu fA.len lF.len;refine zlT ⟨_,rfl,λz=> ?_,λ_=>zr ⟨_,rfl,k4⟩⟩;exfalso;by_cases q:i=i'
   .rw[decide_eq_true (show (i:Int)=(i':Int) by rw[q]),decide_eq_true (iff.1 q)] at z;simp at z
   .rw[decide_eq_false (show ¬(i:Int)=(i':Int) by omega),decide_eq_false (λz=>q (iff.2 z))] at z;simp at z
  .rintro ρ S4 ⟨a5,rfl,k4⟩;exact⟨_,_,rfl,k4⟩
 .rintro ρ S2 ⟨a4,a5,rfl,k2⟩;ext;exact⟨rfl,k2⟩
end
section
variable {fu N mx:Nat} {S S' S2:Sto} {x y z:Xv} {ss:List Nat} {bs:List (Str×Nat)} {L:List (List Nat)} {ln aZ b c:Nat} {cs:List Nat} {Ts:List (List Q2)} {T:List Q2} {Tk:Nat->List (List Q2)} {is:Nat->List Nat} {fs fs':Nat->List zy}
structure OS (ss:List Nat) (bs:List (Str×Nat)) (sn nn:Nat) (Ts:List (List Q2)) (is:List Nat) (fs:List zy) (S:Sto):Prop where
 st:xh sn (sn+1) (sn+2) (.tup (bsX bs)) fs S
 wf:WF ss fs
 nd:S[nn]? =some (.lst (ksX is))
 len:is.length=Ts.length
 ok:zfC ss Ts is fs
theorem OS.keep {sn nn:Nat} {is:List Nat} {fs:List zy} {w:Nat->Prop} (h:OS ss bs sn nn Ts is fs S) (k:Kp w S S') (h0:¬w sn) (h1:¬w (sn+1)) (h2:¬w (sn+2)) (h3:¬w nn):OS ss bs sn nn Ts is fs S':=⟨h.st.keep k h0 h1 h2,h.wf,k.2 _ _ h.nd h3,h.len,h.ok⟩
structure LW (ss:List Nat) (bs:List (Str×Nat)) (L:List (List Nat)) (ln aZ b c mx N:Nat) (cs:List Nat) (Ts:List (List Q2)) (Tk:Nat->List (List Q2)) (is:Nat->List Nat) (fs:Nat->List zy) (S:Sto):Prop where
 ord:6<=ln/\ln<aZ/\aZ<b/\b+6<c
 left:yl mx ln S
 tb:Tb S
 hL:S[aZ]? =some (.lst (Ze L))
 hs:S[b+6]? =some (.lst [.ref b,.ref (b+3)])
 hn:S[c+2]? =some (.lst [.ref c,.ref (c+1)])
 ht:S[c+3]? =some (.lst (cs.map Xv.ref))
 lc:cs.length=Ts.length
 hc:∀(j:Nat) T,Ts[j]? =some T->∃d,cs[j]? =some d/\zdv ss N S d T/\c+4<=d
 os:∀k,k<2->OS ss bs (b+3*k) (c+k) (Tk k) (is k) (fs k) S
theorem LW.tabs (h:LW ss bs L ln aZ b c mx N cs Ts Tk is fs S):∀(j:Nat) T,Ts[j]? =some T->∃d,cs[j]? =some d/\zdv ss N S d T:=λj T e=>by
 obtain⟨d,a,b,_⟩:=h.hc j T e;exact⟨d,a,b⟩
theorem LW.fb (h:LW ss bs L ln aZ b c mx N cs Ts Tk is fs S):∀T∈Ts,∀q∈T,Fb N q:=λT hT=>by
 obtain⟨j,e⟩:=rL hT;obtain⟨d,_,t,_⟩:=h.hc j T e;exact t.fb
theorem LW.keep (h:LW ss bs L ln aZ b c mx N cs Ts Tk is fs S) (k:Kp K0 S S'):LW ss bs L ln aZ b c mx N cs Ts Tk is fs S':=
 ⟨h.ord,h.left.keep k id,h.tb.keep k (λ_ _ _=>id),k.2 _ _ h.hL id,k.2 _ _ h.hs id,k.2 _ _ h.hn id,k.2 _ _ h.ht id,h.lc,λj T e=>(let ⟨d,a,t,l⟩:=h.hc j T e;⟨d,a,⟨k.2 _ _ t.at_ id,t.len,t.fb⟩,l⟩),λi hi=>(h.os i hi).keep k id id id id⟩
theorem LW.take {my:Nat} (h:LW ss bs L ln aZ b c mx N cs Ts Tk is fs S) (l:yl my ln S') (k:Kp (· =ln) S S'):LW ss bs L ln aZ b c my N cs Ts Tk is fs S':=by
 obtain⟨o1,o2,o3,o4⟩:=h.ord;refine⟨h.ord,l,h.tb.keep k (λi _ _ e=>by omega),k.2 _ _ h.hL ⋯,k.2 _ _ h.hs ⋯,k.2 _ _ h.hn ⋯,k.2 _ _ h.ht ⋯,h.lc,λj T e=> ?_,λi hi=>(h.os i hi).keep k ⋯ ⋯ ⋯ ⋯⟩;obtain⟨d,a,t,l⟩:=h.hc j T e;exact⟨d,a,⟨k.2 _ _ t.at_ ⋯,t.len,t.fb⟩,l⟩
theorem LW.table {M d:Nat} (h:LW ss bs L ln aZ b c mx N cs Ts Tk is fs S) (hM:N<=M) (hd:S[d]? =some (.lst (T.map qv))) (hl:T.length=prd ss) (hf:∀q∈T,Fb M q) (i6:c+4<=d):LW ss bs L ln aZ b c mx M (cs++[d]) (Ts++[T]) Tk is fs (S.set (c+3) (.lst ((cs++[d]).map Xv.ref))):=by
 obtain⟨o1,o2,o3,o4⟩:=h.ord;have k:Kp (· =c+3) S (S.set (c+3) (.lst ((cs++[d]).map Xv.ref))):=(Kp.refl _).set (.inl rfl);refine⟨h.ord,h.left.keep k ⋯,h.tb.keep k (λi _ _ e=>by omega),k.2 _ _ h.hL ⋯,k.2 _ _ h.hs ⋯,k.2 _ _ h.hn ⋯,wb h.ht,by simp[h.lc],λj U e=> ?_,λi hi=>(h.os i hi).keep k ⋯ ⋯ ⋯ ⋯⟩;rcases rW j Ts.length with hj|hj|hj
 .rw[qR hj] at e;obtain⟨d',a,t,l⟩:=h.hc j U e;exact⟨d',by rw[qR (by rw[h.lc];exact hj)];exact a,⟨k.2 _ _ t.at_ ⋯,t.len,λq hq=>(t.fb q hq).mono hM⟩,l⟩
 .subst hj;rw[qU (qT _),su] at e;cases e;exact⟨d,by rw[qU (by rw[h.lc];exact qT _),h.lc,su];rfl,⟨k.2 _ _ hd ⋯,hl,hf⟩,i6⟩
 .rw[r6 (by simp;omega)] at e;cases e
noncomputable def Vr {α:Type} (f:Nat->α) (k:Nat) (v:α):Nat->α:=λj=>if j=k then v else f j
theorem LW.grown {k m:Nat} {aY:List zy} (hk:k<2) (h:LW ss bs L ln aZ b c mx N cs Ts Tk is fs S) (w:WF ss aY) (g:yN (b+3*k) (b+3*k+1) (b+3*k+2) (.tup (bsX bs)) (fs k) m S aY S'):LW ss bs L ln aZ b c mx N cs Ts Tk is (Vr fs k aY) S':=by
 obtain⟨o1,o2,o3,o4⟩:=h.ord;have kp:=g.kp;refine⟨h.ord,h.left.keep kp ⋯,h.tb.keep kp (λi _ _ e=>by omega),kp.2 _ _ h.hL ⋯,kp.2 _ _ h.hs ⋯,kp.2 _ _ h.hn ⋯,kp.2 _ _ h.ht ⋯,h.lc,λj T e=> ?_,λi hi=> ?_⟩
 .obtain⟨d,a,t,l⟩:=h.hc j T e;exact⟨d,a,⟨kp.2 _ _ t.at_ ⋯,t.len,t.fb⟩,l⟩
 .unfold Vr;by_cases e:i=k
  .subst e;rw[if_pos rfl];have o:=h.os i hi;exact⟨g.st,w,kp.2 _ _ o.nd ⋯,o.len,o.ok.mono g.pre⟩
  .rw[if_neg e];exact (h.os i hi).keep kp ⋯ ⋯ ⋯ ⋯
theorem LW.node {k r:Nat} {f:zy} (hk:k<2) (h:LW ss bs L ln aZ b c mx N cs Ts Tk is fs S) (er:(fs k)[r]? =some f) (tl:Zc ss (fs k) 0 T r):LW ss bs L ln aZ b c mx N cs Ts (Vr Tk k (Tk k++[T])) (Vr is k (is k++[r])) fs (S.set (c+k) (.lst (ksX (is k++[r])))):=by
 obtain⟨o1,o2,o3,o4⟩:=h.ord;have kp:Kp (· =c+k) S (S.set (c+k) (.lst (ksX (is k++[r])))):=(Kp.refl _).set (.inl rfl);refine⟨h.ord,h.left.keep kp ⋯,h.tb.keep kp (λi _ _ e=>by omega),kp.2 _ _ h.hL ⋯,kp.2 _ _ h.hs ⋯,kp.2 _ _ h.hn ⋯,kp.2 _ _ h.ht ⋯,h.lc,λj T e=> ?_,λi hi=> ?_⟩
 .obtain⟨d,a,t,l⟩:=h.hc j T e;exact⟨d,a,⟨kp.2 _ _ t.at_ ⋯,t.len,t.fb⟩,l⟩
 .unfold Vr;by_cases e:i=k
  .subst e;rw[if_pos rfl,if_pos rfl];have o:=h.os i hi;refine⟨o.st.keep kp ⋯ ⋯ ⋯,o.wf,wb o.nd,by simp[o.len],λj U e=> ?_⟩;rcases rW j (Tk i).length with hj|hj|hj
   .rw[qR hj] at e;obtain⟨a,fa,e1,e2,t⟩:=o.ok j U e;exact⟨a,fa,by rw[qR (by rw[o.len];exact hj)];exact e1,e2,t⟩
   .subst hj;rw[qU (qT _),su] at e;cases e;exact⟨r,f,by rw[qU (by rw[o.len];exact qT _),o.len,su];rfl,er,tl⟩
   .rw[r6 (by simp;omega)] at e;cases e
  .rw[if_neg e,if_neg e];exact (h.os i hi).keep kp ⋯ ⋯ ⋯ ⋯
theorem zkY {k:Nat} (hk:k<2) {p q:Nat}:atI [Xv.ref p,.ref (p+q)] (k:Int)=some (.ref (p+q*k)):=by
 match k,hk with
 |0,_=>rw[Nat.mul_zero];rfl
 |1,_=>rw[Nat.mul_one];rfl
noncomputable def NB (s:Nat):Nat:=32*2^s-1
theorem zhK (s:Nat):2*NB s+1=NB (s+1):=by
 unfold NB;have:=ux (a:=2) (n:=s) ∅;rw[Nat.pow_succ];omega
theorem zpG (s:Nat):31<=NB s:=by
 unfold NB;have:=ux (a:=2) (n:=s) ∅;omega
theorem zm4 {s:Nat} (h:s<=20):4*NB s<=134217728:=by
 unfold NB;have h1:2^s<=2^20:=tW ∅ h;have h2:(2:Nat)^20=1048576:=by decide
 omega
end
section
variable {fu N M mx:Nat} {S S' S2:Sto} {x y z:Xv} {ss:List Nat} {bs:List (Str×Nat)} {L:List (List Nat)} {ln aZ b c d lo:Nat} {cs:List Nat} {Ts Us:List (List Q2)} {T:List Q2} {Tk:Nat->List (List Q2)} {is:Nat->List Nat} {fs fs':Nat->List zy}
theorem Wd.keep {w:Way} {many:Nat} {p:Nat->Prop} (h:Wd bs many S lo w) (k:Kp p S S') (hp:∀n,lo<=n->¬p n):Wd bs many S' lo w:=by
 cases w with
 |fork lv n ks=>obtain⟨b,e1,e2,e3,e4,e5⟩:=h;exact⟨b,e1,e2,e3,k.2 _ _ e4 (hp n e5),e5⟩
 |_=>exact h
theorem Wd.low {w:Way} {many lo':Nat} (h:Wd bs many S lo w) (hl:lo'<=lo):Wd bs many S lo' w:=by
 cases w with
 |fork lv n ks=>obtain⟨b,e1,e2,e3,e4,e5⟩:=h;exact⟨b,e1,e2,e3,e4,⋯⟩
 |_=>exact h
theorem Zy {α:Type} {f:Nat->α} {k:Nat} {v:α}:Vr f k v k=v:=by unfold Vr;exact if_pos rfl
theorem zmt {α:Type} {f:Nat->α} {k:Nat} {u v:α}:Vr (Vr f k u) k v=Vr f k v:=by
 funext j;unfold Vr;by_cases e:j=k
 .rw[if_pos e,if_pos e]
 .rw[if_neg e,if_neg e,if_neg e]
theorem zhL {k:Nat} (hk:k<2):atI [Xv.ref b,.ref (b+3)] (k:Int)=some (.ref (b+3*k)):=zkY hk
theorem zkZ {k:Nat} (hk:k<2):atI [Xv.ref c,.ref (c+1)] (k:Int)=some (.ref (c+k)):=by
 have:=zkY (k:=k) hk (p:=c) (q:=1);rw[Nat.one_mul] at this;exact this
noncomputable def zhM (fu:Nat):TwS:=zu (zY (zP (xl fu) [(eOp yA (za 4) (za 9)),(za 7),(eOp yA (za 5) (za 9))]) (gN 10)) (zu (Zz (eMt xx (eOp yA (za 5) (za 9)) [(za 10)])) (zu (sIf (zbu (bE (zP (vL fu) [(eOp yA (za 4) (za 9)),(za 3),(za 10),(za 8)]))) (yd (eC (.bl false))) yo) (sIf (bE (eOp zcw (zP (yU fu 12) [(eOp yA (za 4) (za 9)),(za 2),(eC (.int 0)),(za 8)]) (za 10))) (yd (eC (.bl false))) yo)))
noncomputable abbrev Ul (x0:Xv) (bs:List (Str×Nat)) (ln aZ b c:Nat) (a7 a8 a9 cy:Option Xv):Rho:=[some x0,some (.ref ln),some (.tup (bsX bs)),some (.ref aZ),some (.ref (b+6)),some (.ref (c+2)),some (.ref (c+3)),a7,a8,a9,cy]
theorem zmu {x0:Xv} {cy:Option Xv} {k:Nat} {w:Way} {R:Xv->Sto->Prop} (bJ:Big fu) (hN:4*N<=134217728) (h9:bs.length<=9) (h1:∀b∈bs,1<=b.2/\b.2<=9) (bZ:bs.map (·.2)=ss) (hz:∃st,yJ ss st) (hc:cst ss ss.length<=400) (hp:prd ss<=1000) (gl:ww ss L) (hk:k<2)
  (h:LW ss bs L ln aZ b c mx M cs Us Tk is fs S) (nh:Tk k=Ts) (gA:Ts.length<=24) (gv:∀T∈Ts,∀q∈T,Fb N q) (hw:Wd bs Ts.length S lo w) (i6:c+4<=lo) (hd:S[d]? =some (.lst (T.map qv))) (ja:c+4<=d) (dj:Due ss bs Ts w T) (hf:(fs k).length<=850000):
  WS (zhM fu (Ul x0 bs ln aZ b c (some (wyX w)) (some (.ref d)) (some (.int (k:Int))) cy) S) (λρ S'=>∃(r:Nat) (aY:List zy),ρ=Ul x0 bs ln aZ b c (some (wyX w)) (some (.ref d)) (some (.int (k:Int))) (some (.int (r:Int)))/\LW ss bs L ln aZ b c mx M cs Us (Vr Tk k (Ts++[T])) (Vr is k (is k++[r])) (Vr fs k aY) S'/\aY.length<=(fs k).length+33400/\Kp (λn=>n=b+3*k+1\/n=b+3*k+2\/n=c+k) S S') R:=by
 have aV:Bx9 ss (bsX bs):=by rw[<-bZ];exact zcl h1 h9
 have jB:=aV.l9;obtain⟨o1,o2,o3,o4⟩:=h.ord;have o:=h.os k hk;rw[nh] at o;have qj:∀n,¬(n=b+3*k+1\/n=b+3*k+2)->¬(n=b+3*k+1\/n=b+3*k+1+1):=λn z=>z;unfold zhM;refine zk (yB (yZ (zm ?_)));ext;refine zU (zh h.hs) (zhL hk) ?_;ext;refine zU (zh h.hn) (zkZ hk) ?_;ext;refine (zoo bJ hN h9 h1 bZ hz hc o.st o.wf ⋯ h.tb o.nd ⋯ (lo:=lo) ⋯ o.ok gv hw).imp ?_;rintro _ S1 ⟨r,aY,rfl,⟨fr,er⟩,ot,w2,g⟩
 try dsimp only[qW]
 have q1:=g.len;have l1:=h.grown hk w2 g;have tl:Zc ss aY 0 T r:=λst hs=>by
  obtain⟨q,e,dv⟩:=dj.at_ st hs;obtain⟨hh,v⟩:=ot st hs q dv;exact⟨q,hh,by rw[sO,sO];exact e,v⟩
 have m3:=l1.os k hk;refine zk (wB (Yc ?_));ext;refine zU (zh l1.hn) (zkZ hk) ?_;refine⟨⟨_,zh m3.nd⟩,?_⟩;ext;refine vp (wQ m3.nd) (by rw[yW,o.len];exact VN ⋯) ?_;rw[<-zaa];have l2:=l1.node (T:=T) (r:=r) (f:=fr) hk (by rw[Zy];exact er) (by rw[Zy];exact tl);have ka:Kp (λn=>n=b+3*k+1\/n=b+3*k+2\/n=c+k) S (S1.set (c+k) (.lst (ksX (is k++[r])))):=(g.kp.mono λn z=>z.elim .inl λz=> .inr (.inl z)).set (.inl (.inr (.inr rfl)));rw[nh] at l2;generalize S1.set (c+k) (.lst (ksX (is k++[r])))=S2 at l2 ka;have hd2:=ka.2 _ _ hd ⋯;have jW:=l2.os k hk;rw[Zy,Zy,Zy] at jW;refine zk (zC (zdU (xT (yZ (zm ?_)))));ext;refine zU (zh l2.hs) (zhL hk) ?_;ext;refine (zhF bJ aV hp l2.hL gl jW.st jW.wf er tl hd2).imp ?_;rintro _ S3 ⟨rfl,k3⟩;refine⟨_,rfl,nofun,λ_=>zr ?_⟩;have l3:=l2.keep k3;have jV:=l3.os k hk;rw[Zy,Zy,Zy] at jV;have nU:=ka.trans (k3.mono λ_ z=>z.elim);have lz:=k3.2 _ _ hd2 id;refine zC (xT (yw (yZ (zm ?_))));ext;refine zU (zh l3.hs) (zhL hk) ?_;ext;refine (zme aV hp ss.length 12 (lv:=0) ⋯ ⋯ jV.st jV.wf lz ⋯ (by rw[sO];exact dj.len) ⋯).imp ?_;rintro _ S4 ⟨i,dm,rfl,⟨fi,ei,_⟩,nH,w4,g4⟩;have q4:=g4.len;have:i=r:=(Zc.same w4 hz gl ei (yx g4.pre er) nH (tl.mono g4.pre) dj.len dj.len).2 rfl;subst this;ext;have l4:=l3.grown (k:=k) hk w4 (by rw[Zy];exact g4);rw[zmt] at l4;refine⟨λz=> ?_,λ_=>zr ⟨i,dm,rfl,l4,⋯,nU.trans (g4.kp.mono λn z=>z.elim .inl λz=> .inr (.inl z))⟩⟩;simp at z
noncomputable def TkF (Ts:List (List Q2)) (T:List Q2) (i:Nat):Nat->List (List Q2):=λj=>if j<i then Ts++[T] else Ts
theorem zk0 (i:Nat):Vr (TkF Ts T i) i (Ts++[T])=TkF Ts T (i+1):=by
 funext j;unfold Vr TkF;by_cases e:j=i
 .rw[if_pos e,if_pos ⋯]
 .rw[if_neg e];by_cases q:j<i
  .rw[if_pos q,if_pos ⋯]
  .rw[if_neg q,if_neg ⋯]
theorem zor {x0:Xv} {a9 cy:Option Xv} {w:Way} {R:Xv->Sto->Prop} {F:Nat} (bJ:Big fu) (hN:4*N<=134217728) (h9:bs.length<=9) (h1:∀b∈bs,1<=b.2/\b.2<=9) (bZ:bs.map (·.2)=ss) (hz:∃st,yJ ss st) (hc:cst ss ss.length<=400) (hp:prd ss<=1000) (gl:ww ss L)
  (h:LW ss bs L ln aZ b c mx M cs Us (λ_=>Ts) is fs S) (gA:Ts.length<=24) (gv:∀T∈Ts,∀q∈T,Fb N q) (hw:Wd bs Ts.length S lo w) (i6:c+4<=lo) (hd:S[d]? =some (.lst (T.map qv))) (ja:c+4<=d) (dj:Due ss bs Ts w T) (hF:F<=850000) (hf:∀k,k<2->(fs k).length<=F):
  WS (XN (iR1 (eC (.int 2))) (gN 9) (zhM fu) (Ul x0 bs ln aZ b c (some (wyX w)) (some (.ref d)) a9 cy) S) (λρ S'=>∃(is':Nat->List Nat) (fs':Nat->List zy) (a9 cy:Option Xv),ρ=Ul x0 bs ln aZ b c (some (wyX w)) (some (.ref d)) a9 cy/\LW ss bs L ln aZ b c mx M cs Us (λ_=>Ts++[T]) is' fs' S'/\∀k,k<2->(fs' k).length<=F+33400) R:=by
 obtain⟨o1,o2,o3,o4⟩:=h.ord;refine vR (wD (zbL ⟨_,rfl,⟨∅,∅⟩,_,rfl,?_⟩));refine wC (xs:=xy 0 2) (λi ρ S2=>∃(is':Nat->List Nat) (fs':Nat->List zy) (a9 cy:Option Xv),ρ=Ul x0 bs ln aZ b c (some (wyX w)) (some (.ref d)) a9 cy/\LW ss bs L ln aZ b c mx M cs Us (TkF Ts T i) is' fs' S2/\Wd bs Ts.length S2 lo w/\S2[d]? =some (.lst (T.map qv))/\(∀k,i<=k->k<2->(fs' k).length<=F)/\∀k,k<i->(fs' k).length<=F+33400) (λ_ _ _ _ _=>rfl) ?_ ⟨is,fs,a9,cy,rfl,h,hw,hd,λk _ hk=>hf k hk,λk hk=>by omega⟩ ?_
 .rintro i w0 ρ S2 kF ⟨is',fs',a9,cy,rfl,l2,i3,hd2,f1,f2⟩;obtain⟨hi,rfl⟩:=yX kF;rw[sy];refine .of rfl ?_;dsimp only[qW];refine YS _ (zmu (Ts:=Ts) (w:=w) bJ hN h9 h1 bZ hz hc hp gl hi l2 (by unfold TkF;exact if_neg (sZ _)) gA gv i3 i6 hd2 ja dj (by have:=f1 i (qT _) hi;omega)) ?_;rintro ρ S3 ⟨r,aY,rfl,l3,q3,k3⟩;rw[zk0] at l3;refine⟨_,_,_,_,rfl,l3,i3.keep k3 (λn hn=>by omega),k3.2 _ _ hd2 ⋯,λk hk ic=> ?_,λk hk=> ?_⟩
  .unfold Vr;rw[if_neg ⋯];exact f1 k ⋯ ic
  .unfold Vr;by_cases e:k=i
   .rw[if_pos e];have:=f1 i (qT _) hi;omega
   .rw[if_neg e];exact f2 k ⋯
 .rintro ρ S3 ⟨is',fs',a9,cy,rfl,l3,_,_,_,f2⟩;rw[yj] at l3 f2;refine⟨is',fs',a9,cy,rfl,?_,f2⟩;refine⟨l3.ord,l3.left,l3.tb,l3.hL,l3.hs,l3.hn,l3.ht,l3.lc,l3.hc,λk hk=> ?_⟩;have:=l3.os k hk;unfold TkF at this;rw[if_pos hk] at this;exact this
noncomputable def zk1 (fu:Nat):TwS:=zu (zY (zP (XH fu) [(za 1),(za 2),(eFn wA [(za 6)])]) (gN 7)) (zu (sIf (zbt (bE (eOp (we false) (eOp zB (za 7) (eC (.int 0))) (eC (.str "product")))) (bE (zP (wM fu) [(eOp zaB (eOp yA (za 6) (eOp zB (za 7) (eC (.int 1)))) (eOp yA (za 6) (eOp zB (za 7) (eC (.int 2)))))]))) (zY (wO [(eC (.str "greater")),(eOp zB (za 7) (eC (.int 1))),(eOp zB (za 7) (eC (.int 2)))]) (gN 7)) yo) (zu (zY (zP (xB fu) [(za 2),(za 3),(za 7),(za 6)]) (gN 8)) (zu (Zz (eMt xx (za 6) [(za 8)])) (XN (iR1 (eC (.int 2))) (gN 9) (zhM fu)))))
theorem zmv {x0:Xv} {a8 a9 cy:Option Xv} {w:Way} {R:Xv->Sto->Prop} (hp:prd ss<=50) (h:LW ss bs L ln aZ b c mx N cs Ts Tk is fs S) (hw:Wd bs Ts.length S lo w):
  WS (sIf (zbt (bE (eOp (we false) (eOp zB (za 7) (eC (.int 0))) (eC (.str "product")))) (bE (zP (wM fu) [(eOp zaB (eOp yA (za 6) (eOp zB (za 7) (eC (.int 1)))) (eOp yA (za 6) (eOp zB (za 7) (eC (.int 2)))))]))) (zY (wO [(eC (.str "greater")),(eOp zB (za 7) (eC (.int 1))),(eOp zB (za 7) (eC (.int 2)))]) (gN 7)) yo (Ul x0 bs ln aZ b c (some (wyX w)) a8 a9 cy) S) (λρ S'=>∃w':Way,ρ=Ul x0 bs ln aZ b c (some (wyX w')) a8 a9 cy/\Wd bs Ts.length S' lo w'/\jn w'=jn w/\S<+:S') R:=by
 have no:∀{s:Str} {l:List Xv},s≠"product"->wyX w= .tup (.str s::l)->WS (sIf (zbt (bE (eOp (we false) (eOp zB (za 7) (eC (.int 0))) (eC (.str "product")))) (bE (zP (wM fu) [(eOp zaB (eOp yA (za 6) (eOp zB (za 7) (eC (.int 1)))) (eOp yA (za 6) (eOp zB (za 7) (eC (.int 2)))))]))) (zY (wO [(eC (.str "greater")),(eOp zB (za 7) (eC (.int 1))),(eOp zB (za 7) (eC (.int 2)))]) (gN 7)) yo (Ul x0 bs ln aZ b c (some (wyX w)) a8 a9 cy) S) (λρ S'=>∃w':Way,ρ=Ul x0 bs ln aZ b c (some (wyX w')) a8 a9 cy/\Wd bs Ts.length S' lo w'/\jn w'=jn w/\S<+:S') R:=by
  intro s l hs e;have fin:∃w':Way,Ul x0 bs ln aZ b c (some (.tup (.str s::l))) a8 a9 cy=Ul x0 bs ln aZ b c (some (wyX w')) a8 a9 cy/\Wd bs Ts.length S lo w'/\jn w'=jn w/\S<+:S:=⟨w,by rw[e],hw,rfl,rM _⟩;rw[e];refine zC (UD (xT (yw (yw (zq rfl (zbL (zG rfl (zQ (i:=0) (z:= .str s) rfl) ?_)))))));ext;refine zw ⟨_,rfl,λz=>absurd (of_decide_eq_true z) hs,λ_=>⟨nofun,λ_=>zr fin⟩⟩
 cases w with
 |leaf q=>exact no ∅ rfl
 |point p=>exact no ∅ rfl
 |mark t=>exact no ∅ rfl
 |fork lv n ks=>exact no ∅ rfl
 |fixed i lv m=>exact no ∅ rfl
 |op o i j=>
  by_cases ho:o=1
  .subst ho;clear no;obtain⟨_,hi,hj⟩:=hw;have e1:Ts[i]? =some Ts[i]:=qN hi;have e2:Ts[j]? =some Ts[j]:=qN hj;generalize Ts[i]=T1 at e1;generalize Ts[j]=T2 at e2;obtain⟨c1,f1,t1⟩:=h.tabs i T1 e1;obtain⟨c2,f2,t2⟩:=h.tabs j T2 e2;have two:atI [Xv.str (opS 1),.int (i:Int),.int (j:Int)] 2=some (.int (j:Int)):=rfl;refine zC (UD ?_);unfold wyX;ext;refine zw ⟨_,rfl,λ_=> ?_,λz=>absurd z ∅⟩;ext;refine zU (zh h.ht) (zQ (YF f1)) ?_;ext;refine zG rfl two ?_;refine zU (zh h.ht) (zQ (YF f2)) ?_;refine zmo (zh t1.at_) (zh t2.at_) (by rw[qV,qV,t1.len,t2.len];omega) ?_;ext;refine (zmp (T:=T1++T2) (by rw[sk];exact yy) (by rw[rd,t1.len,t2.len];omega)).imp ?_;rintro _ S3 ⟨⟨v,rfl⟩,p3⟩;have p:=(qQ S [Ce.lst (T1.map qv++T2.map qv)]).trans p3;refine⟨v,rfl,λ_=> ?_,λ_=>zr ⟨.op 1 i j,rfl,⟨∅,hi,hj⟩,rfl,p⟩⟩;ext;refine zG rfl two ?_;ext;exact⟨.op 0 i j,rfl,⟨∅,hi,hj⟩,rfl,p⟩
  .exact no (l:=[.int (i:Int),.int (j:Int)]) (s:=opS o) (by
    have:=hw.1
    match o,this,ho with
    |0,_,_=>decide
    |2,_,_=>decide) rfl
structure WI (ss:List Nat) (bs:List (Str×Nat)) (L:List (List Nat)) (ln aZ b c:Nat) (Ts:List (List Q2)) (S:Sto):Prop where
 w:∃mx s cs is fs,LW ss bs L ln aZ b c mx (NB s) cs Ts (λ_=>Ts) is fs S/\(mx≠0->3*s+mx<=63)/\s<=21/\∀k,k<2->(fs k).length<=1+33400*Ts.length
theorem zos {x0:Xv} {a7 a8 a9 cy:Option Xv} {R:Xv->Sto->Prop} {s:Nat} (bJ:Big fu) (h9:bs.length<=9) (h1:∀b∈bs,1<=b.2/\b.2<=9) (bZ:bs.map (·.2)=ss) (hz:∃st,yJ ss st) (hc:cst ss ss.length<=400) (hp:prd ss<=50) (gl:ww ss L)
  (h:LW ss bs L ln aZ b c mx (NB s) cs Ts (λ_=>Ts) is fs S) (hs:s<=20) (hm:3*s+mx<=63) (gA:Ts.length<24) (hf:∀k,k<2->(fs k).length<=1+33400*Ts.length):
  WS (zk1 fu (Ul x0 bs ln aZ b c a7 a8 a9 cy) S) (λρ S'=>∃(T:List Q2) (a7 a8 a9 cy:Option Xv),ρ=Ul x0 bs ln aZ b c a7 a8 a9 cy/\WI ss bs L ln aZ b c (Ts++[T]) S') R:=by
 have aV:Bx9 ss (bsX bs):=by rw[<-bZ];exact zcl h1 h9
 obtain⟨o1,o2,o3,o4⟩:=h.ord;have jI:=(qO.1 h.ht).1;unfold zk1;refine zk (yB (yZ (zm (zq rfl (zm (zq rfl (zm (wn (zm (zq rfl (yI (YU (zh h.ht) ?_)))))))))))) ;rw[qV,h.lc];ext;refine (zpD bJ h.left h9 h1).imp ?_;rintro _ S1 ⟨w,rfl,hw,lf,k1⟩
 try dsimp only[qW]
 have l1:=h.take lf k1;have mM:Wd bs Ts.length S1 (c+4) w:=hw.low ⋯;refine zk (YS _ (zmv hp l1 mM) ?_);rintro _ S2 ⟨w',rfl,i3,hj,p2⟩;have l2:=l1.keep (Kp.pre p2);refine zk (yB (yZ (zm (zq rfl (zm (zq rfl (zm (zq rfl (zm (zq rfl (yI ?_)))))))))));refine (zpF bJ (zm4 hs) h9 aV bZ ⋯ gl l2.hL l2.ht l2.tabs i3).imp ?_;rintro _ S3 ⟨n,T,rfl,hn,eS,dj,k3⟩
 try dsimp only[qW]
 have l3:=l2.keep k3;have pB:=(qO.1 l2.ht).1;refine zk (wB (Yc (zq rfl ⟨⟨_,zh l3.ht⟩,zm (zq rfl (yI ?_))⟩)));refine vp (wQ l3.ht) (by rw[qV,l3.lc];exact VN ⋯) ?_;rw[show cs.map Xv.ref++[Xv.ref n]=(cs++[n]).map Xv.ref by rw[sk];rfl];have iZ:=dj.fb gl i3 (zpG s) l2.fb;have kt:Kp (· =c+3) S3 (S3.set (c+3) (.lst ((cs++[n]).map Xv.ref))):=(Kp.refl _).set (.inl rfl);obtain⟨s',iO,pK,pq,bX⟩:∃s',s'<=21/\NB s<=NB s'/\(∀q∈T,Fb (NB s') q)/\(mx-jn w≠0->3*s'+(mx-jn w)<=63):=by
  by_cases iW:jn w=0
  .refine⟨s,⋯,qT _,λq hq=> ?_,λ_=>by omega⟩;have:=iZ q hq;rw[if_pos (by rw[hj];exact iW)] at this;exact this
  .have h3:jn w=3:=by
    cases w with
    |op _ _ _=>rfl
    |_=>exact absurd rfl iW
   refine⟨s+1,⋯,by rw[<-zhK];omega,λq hq=> ?_,λ_=>by omega⟩;have:=iZ q hq;rw[if_neg (by rw[hj];exact iW),zhK] at this;exact this
 have l4:=l3.table (T:=T) (d:=n) pK hn dj.len pq ⋯;have mL:=(i3.keep k3 (λ_ _=>id)).keep kt (λm hm=>by omega);have jx:=kt.2 _ _ hn ⋯;generalize S3.set (c+3) (.lst ((cs++[n]).map Xv.ref))=S4 at l4 mL jx;refine YS _ (zor (Ts:=Ts) (F:=1+33400*Ts.length) bJ (zm4 hs) h9 h1 bZ hz hc ⋯ gl l4 ⋯ h.fb mL (qT _) jx ⋯ dj ⋯ hf) ?_;rintro _ S5 ⟨is',fs',a9,cy,rfl,l5,f5⟩;refine⟨T,_,_,_,_,rfl,⟨_,s',_,is',fs',l5,bX,iO,λk hk=> ?_⟩⟩;have:=f5 k hk;rw[rd,uD];omega
theorem zot {x0:Xv} {R:Xv->Sto->Prop} (bJ:Big fu) (h9:bs.length<=9) (h1:∀b∈bs,1<=b.2/\b.2<=9) (bZ:bs.map (·.2)=ss) (hz:∃st,yJ ss st) (hc:cst ss ss.length<=400) (hp:prd ss<=50) (gl:ww ss L):∀(d m:Nat) {S:Sto} {Ts:List (List Q2)} {a7 a8 a9 cy:Option Xv},Ts.length+d=24->d<m->WI ss bs L ln aZ b c Ts S->
  WS (zai (zbt (bE (eOp dGt (eFn wA [(za 1)]) (eC (.int 0)))) (bE (eOp dLt (eFn wA [(za 6)]) (eC (.int 24))))) (zk1 fu) m (Ul x0 bs ln aZ b c a7 a8 a9 cy) S) (λρ S'=>∃(Ts:List (List Q2)) (a7 a8 a9 cy:Option Xv),ρ=Ul x0 bs ln aZ b c a7 a8 a9 cy/\WI ss bs L ln aZ b c Ts S'/\Ts.length<=24) R:=by
 intro d
 induction d with
 |zero=>
  intro m S Ts a7 a8 a9 cy hd hm hi;obtain⟨m,rfl⟩:∃k,m=k+1:=⟨m-1,⋯⟩;obtain⟨mx,s,cs,is,fs,h,mX,hs,hf⟩:=id hi.w;obtain⟨ns,en,eS⟩:=h.left;refine VX (UD ?_);ext;refine YU (zh en) ?_;ext;refine yQ (λ_=> ?_) (λ_=>⟨nofun,λ_=>⟨Ts,_,_,_,_,rfl,hi,⋯⟩⟩);ext;refine YU (zh h.ht) ?_;rw[qV,h.lc];ext;refine yQ (λz=>absurd z ⋯) (λ_=>⟨Ts,_,_,_,_,rfl,hi,⋯⟩)
 |succ d ih=>
  intro m S Ts a7 a8 a9 cy hd hm hi;obtain⟨m,rfl⟩:∃k,m=k+1:=⟨m-1,⋯⟩;obtain⟨mx,s,cs,is,fs,h,mX,hs,hf⟩:=id hi.w;obtain⟨ns,en,eS⟩:=h.left;refine VX (UD ?_);ext;refine YU (zh en) ?_;ext;rw[qV];refine yQ (λdg=> ?_) (λ_=>⟨nofun,λ_=>⟨Ts,_,_,_,_,rfl,hi,⋯⟩⟩);ext;refine YU (zh h.ht) ?_;rw[qV,h.lc];ext;refine yQ (λz=> ?_) (λz=>absurd ⋯ z);have oU:=mX ⋯;refine YS _ (zos bJ h9 h1 bZ hz hc hp gl h ⋯ oU ⋯ hf) ?_;rintro _ S2 ⟨T,a7,a8,a9,cy,rfl,pe⟩;exact ih m (by rw[rd,uD];omega) ⋯ pe
end
section
variable {fu:Nat} {S S' S2:Sto} {x y z:Xv} {ss:List Nat} {bs:List (Str×Nat)} {L:List (List Nat)} {ln aZ b c:Nat} {Ts:List (List Q2)}
theorem zmw {P:Xv->Sto->Prop} {l:List Xv} (h:yH S x=some l) (k:P (.ref S.length) (S++[.lst l.reverse])):WO (Vx x S) P:= .of (by unfold Vx;rw[h];rfl) k
theorem ziD (l:List Int) (lo hi:Option Int):∃m:List Int,L2.Ui (l.map Xv.int) lo hi=m.map Xv.int/\m.length<=l.length:=by
 unfold L2.Ui;rw[<-v7,<-Af];exact⟨_,rfl,by rw[sG,tK];omega⟩
theorem zmx {c:Int} (c0:0<=c) (c1:c<4):∃most:Nat,(1<=most/\most<=20)/\atI [Xv.int 6,.int 9,.int 12,.int 20] c=some (.int (most:Int)):=by
 obtain⟨cn,rfl⟩:∃cn:Nat,c=(cn:Int):=⟨c.toNat,⋯⟩
 match cn,(show cn<4 by omega) with
 |0,_=>exact⟨6,⋯,rfl⟩
 |1,_=>exact⟨9,⋯,rfl⟩
 |2,_=>exact⟨12,⋯,rfl⟩
 |3,_=>exact⟨20,⋯,rfl⟩
theorem zk2:WF ss []:=⟨A6,λi lv ks e=>by simp at e⟩
theorem zm5 {P:Xv->Sto->Prop} {ρ:Rho} {bx:Xv} (hv:ρ[2]? =some (some bx)) (k:∀S2,xh S.length (S.length+1) (S.length+2) bx [] S2->Kp K0 S S2->S2.length=S.length+3->P (.ref S.length) S2):W (zbR "Store" (xV fu) [(za 2)] ρ S) P:=by
 refine zlE (zm (zq (by rw[hv]) (yI ?_)));refine (zn8 (n:=S.length) yy bx).imp ?_;rintro _ S2 ⟨rfl,st,k2,len⟩;rw[rd,ra,sQ] at st len;refine⟨rfl,k S2 st ⟨⋯,λn d e z=> ?_⟩ len⟩;have hn:=(qO.1 e).1;exact k2.2 _ _ (yx (qQ _ _) e) ⋯
theorem zpH {x0:Xv} {a7 a8 a9 cy:Option Xv} (bJ:Big fu) (h9:bs.length<=9) (h1:∀b∈bs,1<=b.2/\b.2<=9) (bZ:bs.map (·.2)=ss) (hz:∃st,yJ ss st) (hp:prd ss<=50) (gl:ww ss L) (hi:WI ss bs L ln aZ b c Ts S) (gA:Ts.length<=24):
  W (eFn zbF [(xm [none,some 3,some 6,some 4,some 5] (iR1 (eC (.int 2))) (gN 0) xi (zP (ZZ fu) [(eOp yA (za 3) (za 0)),(za 1),(eOp yA (za 4) (za 0)),(za 2)]))] (Ul x0 bs ln aZ b c a7 a8 a9 cy) S) λv _=>v= .bl true:=by
 have aV:Bx9 ss (bsX bs):=by rw[<-bZ];exact zcl h1 h9
 obtain⟨mx,s,cs,is,fs,h,_,_,_⟩:=hi.w;refine wn (zm (xH (wD (zbL ⟨_,rfl,⟨∅,∅⟩,_,rfl,?_⟩))));refine xn (xs:=xy 0 2) (by rw[yj];exact rS (VN ∅)) (λj es S2=>es=rh j (.bl true)/\Kp K0 S S2) (λ_ _ _ _ _=>rfl) ?_ ⟨rfl,Kp.refl _⟩ ?_
 .rintro j w0 es S2 hw _ ⟨rfl,k2⟩;obtain⟨hj,rfl⟩:=yX hw;rw[sy];have l2:=h.keep k2;have o:=l2.os j hj;refine .of rfl ?_;dsimp only[xZ,rR,qW];ext;refine⟨rfl,?_⟩;ext;refine zU (zh l2.hs) (zhL hj) ?_;ext;refine zU (zh l2.hn) (zkZ hj) ?_;ext;refine (zms bJ aV hz ⋯ gl l2.hL o.st o.wf o.nd l2.ht l2.tabs o.ok o.len gA).imp ?_;rintro _ S3 ⟨rfl,k3⟩;exact⟨by rw[sN],k2.trans k3⟩
 .rintro es S2 _ ⟨rfl,k2⟩;ext;refine zce xN (VO _) ?_;simp
theorem zpI (bJ:Big fu) (ns:List Int) (hl:ns.length<=63):W (zgA fu [.ref 0] (.frz (ns.map Xv.int)::Vj.map .tab)) λv _=>v= .bl true:=by
 have lU:Tb (Ce.frz (ns.map Xv.int)::Vj.map .tab):=⟨rfl,rfl,rfl,rfl,rfl⟩;have iM:yH (Ce.frz (ns.map Xv.int)::Vj.map .tab) (.ref 0)=some (ns.map Xv.int):=rfl;have mH:(Ce.frz (ns.map Xv.int)::Vj.map Ce.tab).length=6:=rfl;generalize (Ce.frz (ns.map Xv.int)::Vj.map Ce.tab)=Z at lU iM mH;walk_at "wr";unfold zgz;ext;refine zjQ iM ?_;obtain⟨ms,em,gQ⟩:=ziD ns none (some 200);rw[em];refine zmw xN ?_;rw[<-AF];have l0:yl 63 (Z++[Ce.lst (ms.map Xv.int)]).length ((Z++[Ce.lst (ms.map Xv.int)])++[Ce.lst (ms.reverse.map Xv.int)]):=⟨ms.reverse,yy,by rw[Ah];omega⟩;have lT:=(lU.pre (qQ _ [Ce.lst (ms.map Xv.int)])).pre (qQ _ [Ce.lst (ms.reverse.map Xv.int)]);have jA:6<=(Z++[Ce.lst (ms.map Xv.int)]).length:=by rw[rd];omega
 generalize (Z++[Ce.lst (ms.map Xv.int)]).length=ln at l0 jA ⊢;generalize ((Z++[Ce.lst (ms.map Xv.int)])++[Ce.lst (ms.reverse.map Xv.int)])=S0 at l0 lT ⊢;ext;refine (vk l0.app ∅).imp ?_;rintro _ S1 ⟨cw,rfl,c0,c1,l1,k1⟩;have qt:=l0.lt;have nL:=(lT.pre (qQ _ _)).keep k1 (λi _ _ e=>by omega);have hm:=k1.2 _ _ yy (show ¬S0.length=ln by omega);obtain⟨most,mY,h4⟩:=zmx c0 c1;refine zU (zh hm) h4 ?_;ext;refine (zl2 ⋯ l1).imp ?_;rintro _ S3 ⟨bs,rfl,hG,lG,oP,l3,k3⟩;have nK:=nL.keep k3 (λi _ _ e=>by omega);have aV:=zcl hG lG;have kP:prd (bs.map (·.2))<=20:=by omega
 have lB:=zol aV kP;have hz:=zmq aV;ext;refine (zkw aV.toBx aV.l9 ⋯).imp ?_;rintro _ S4 ⟨aZ,L,rfl,hL,gl,kK,k4⟩;have nJ:=nK.keep k4 (λ_ _ _=>id);have l4:=l3.keep k4 id;have mZ:=l3.lt;have hV:=(qO.1 hL).1
 try dsimp only[qW]
 refine zk (yB (XO (zm (zm5 rfl λS5 fK k5 gG=>zm (zm5 rfl λS6 lX k6 k9=>yI ?_)))))
 try dsimp only[qW]
 obtain⟨b,hb⟩:∃b,S4.length=b:=⟨_,rfl⟩;rw[hb] at fK gG;have nV:=k5.trans k6;rw[gG] at lX k9;have e6:S6.length=b+6:=by omega
 rw[hb,gG,e6];have kM:(S6++[Ce.lst [.ref b,.ref (b+3)]])[b+6]? =some (.lst [.ref b,.ref (b+3)]):=by rw[<-e6];exact yy
 have k7:Kp K0 S6 (S6++[Ce.lst [.ref b,.ref (b+3)]]):=Kp.pre (qQ _ _);have jZ:(S6++[Ce.lst [.ref b,.ref (b+3)]]).length=b+7:=by rw[rd,e6];rfl
 generalize S6++[Ce.lst [.ref b,.ref (b+3)]]=S7 at kM k7 jZ;have kc:=nV.trans k7;have jT:=(fK.keep k6 id id id).keep k7 id id id;have iC:=lX.keep k7 id id id;refine zk (wB (zW ?_));ext;refine zU (zh kM) rfl ?_;refine⟨_,_,rfl,iC.o,rfl,?_⟩;ext;refine (UM (q:=(7,5)) iC (tI _) (zfp (7,5))).imp ?_;rintro _ S8 ⟨i8,ny,rfl,e8,pY,g8⟩;have w8:WF (bs.map (·.2)) ny:=zk2.leaf g8.st.nd pY;have k8:=g8.kp;have pL:=k8.2 _ _ (kc.2 _ _ hL id) ⋯;have oK:=k8.2 _ _ kM ⋯;have jS:=jT.keep k8 ⋯ ⋯ ⋯;have nI:=(nJ.keep kc (λ_ _ _=>id)).keep k8 (λi _ _ e=>by omega);have l8:=(l4.keep kc id).keep k8 ⋯;have nR:=k8.1;have q8:=g8.len;refine zk (yB (XO (zm (XO (yI (zm (XO (yI (yI ?_)))))))))
 try dsimp only[qW]
 refine zk (yB (XO (yI ?_)))
 try dsimp only[qW]
 obtain⟨c,hc⟩:∃c,S8.length=c:=⟨_,rfl⟩;have iu:(S8++[Ce.lst []]).length=c+1:=by rw[rd,hc];rfl
 have eL:(S8++[Ce.lst []]++[Ce.lst []]).length=c+2:=by rw[rd,iu];rfl
 rw[hc,iu,eL];have jL:(S8++[Ce.lst []]++[Ce.lst []]++[Ce.lst [.ref c,.ref (c+1)]]).length=c+3:=by rw[rd,eL];rfl
 rw[jL];have gH:Kp K0 S8 (S8++[Ce.lst []]++[Ce.lst []]++[Ce.lst [.ref c,.ref (c+1)]]++[Ce.lst []]):=(((Kp.pre (qQ _ _)).app).app).app;have n0:(S8++[Ce.lst []]++[Ce.lst []]++[Ce.lst [.ref c,.ref (c+1)]]++[Ce.lst []])[c]? =some (.lst (ksX [])):=yx (qQ _ _) (yx (qQ _ _) (yx (qQ _ _) (by rw[<-hc];exact yy)));have n1:(S8++[Ce.lst []]++[Ce.lst []]++[Ce.lst [.ref c,.ref (c+1)]]++[Ce.lst []])[c+1]? =some (.lst (ksX [])):=yx (qQ _ _) (yx (qQ _ _) (by rw[<-iu];exact yy));have n2:(S8++[Ce.lst []]++[Ce.lst []]++[Ce.lst [.ref c,.ref (c+1)]]++[Ce.lst []])[c+2]? =some (.lst [.ref c,.ref (c+1)]):=yx (qQ _ _) (by rw[<-eL];exact yy);have n3:(S8++[Ce.lst []]++[Ce.lst []]++[Ce.lst [.ref c,.ref (c+1)]]++[Ce.lst []])[c+3]? =some (.lst (([]:List Nat).map Xv.ref)):=by rw[<-jL];exact yy
 generalize S8++[Ce.lst []]++[Ce.lst []]++[Ce.lst [.ref c,.ref (c+1)]]++[Ce.lst []]=S9 at gH n0 n1 n2 n3;have wi:WI (bs.map (·.2)) bs L ln aZ b c [] S9:=by
  refine⟨63,0,[],λ_=>[],λk=>if k=0 then [] else ny,⟨⟨jA,⋯,⋯,⋯⟩,l8.keep gH id,nI.keep gH (λ_ _ _=>id),gH.2 _ _ pL id,gH.2 _ _ oK id,n2,n3,rfl,λj T e=>by simp at e,λk hk=> ?_⟩,λ_=>by omega,⋯,λk hk=> ?_⟩
  .match k,hk with
   |0,_=>exact⟨jS.keep gH id id id,zk2,n0,rfl,λj T e=>by simp at e⟩
   |1,_=>exact⟨g8.st.keep gH id id id,w8,n1,rfl,λj T e=>by simp at e⟩
  .match k,hk with
   |0,_=>exact tI _
   |1,_=>exact q8
 refine zk (zhd ?_);refine YS _ (zot (x0:= .ref 0) (ss:=bs.map (·.2)) bJ lG hG rfl hz lB ⋯ gl 24 fu rfl (by have:=bJ.le;omega) wi) ?_;rintro _ S10 ⟨Ts,a7,a8,a9,cy,rfl,wi,gA⟩;exact yf (zpH bJ lG hG rfl hz ⋯ gl wi gA)
theorem zpJ (bJ:Big fu) (ns:List Int) (hl:ns.length<=63):∃S,zgA fu [.ref 0] (.frz (ns.map Xv.int)::Vj.map .tab)=some (.ok (.bl true) S):=by
 obtain⟨_,S,e,rfl⟩:=zpI bJ ns hl;exact⟨S,e⟩
end
end
noncomputable def zew:Nat:=2^9000
theorem zfE:Big zew:=by unfold Big zew;exact qT _
theorem zou {P:Program} {w:World} {K:qP} {mg:Str->Option Value} {base:Heap} (T:Tx K mg) {ts c7:List Addr} (hT:zlH K ts Vj c7):yD P w K mg base (CXE P w) 65 T.cO.a T.cO.fd ["_law_script"] (zb1 K c7):=zlJ (zlO (fu:=zew) T) hT λns hl=>zpJ zfE ns hl
noncomputable def zpK {K:qP} {h:Heap} {mg:Str->Option Value} (X:K.In h) (G:h.Ns mainGlobals mg)
  {aw:Addr}  {cU:Addr} {eO:Option Addr} {eN:Nat} {eM:Array (Option Value)} {dJ:Tok} {dI:Tok} {f7:Addr} {gD:Option Addr} {gC:Nat} {gB:Array (Option Value)} {f6:Tok} {eZ:Tok}
  (aq:rz K mainGlobals "Store"=some (some (.ref aw)))
  (H0:FL K "_wall" zhp)
  (H1:FL K "common_part" XQ)
  (H2:FL K "lowest" zb2)
  (H3:FL K "plus" zgr)
  (H4:FL K "times" zd9)
  (H5:FL K "under" zea)
  (H6:FL K "greater" zal)
  (H7:FL K "place_of" WM)
  (H8:FL K "worth" zeb)
  (H9:FL K "holds" zec)
  (H10:ML K aw "__init__" "Store.__init__" ZF)
  (H11:ML K aw "number_of" "Store.number_of" Zm)
  (H12:ML K aw "leaf" "Store.leaf" WN)
  (H13:ML K aw "fork" "Store.fork" Yw)
  (H14:ML K aw "told" "Store.told" Tz)
  (H15:ML K aw "level_of" "Store.level_of" ZG)
  (H16:ML K aw "kids_of" "Store.kids_of" Yk)
  (H17:ML K aw "kid_at" "Store.kid_at" YW)
  (H18:ML K aw "value_at" "Store.value_at" ZH)
  (H19:ML K aw "added" "Store.added" vI)
  (H20:ML K aw "multiplied" "Store.multiplied" xF)
  (H21:ML K aw "higher" "Store.higher" wY)
  (H22:ML K aw "reckoned_of" "Store.reckoned_of" xw)
  (H23:ML K aw "chosen_by" "Store.chosen_by" Xx)
  (H24:ML K aw "joined" "Store.joined" YX)
  (H25:ML K aw "joined_below" "Store.joined_below" xo)
  (H26:ML K aw "leaf_by" "Store.leaf_by" xO)
  (H27:ML K aw "choice_among" "Store.choice_among" Yd)
  (H28:ML K aw "fixed" "Store.fixed" XR)
  (H29:ML K aw "fixed_below" "Store.fixed_below" wg)
  (H30:ML K aw "marked" "Store.marked" wZ)
  (H31:ML K aw "made" "Store.made" WP)
  (H32:ML K aw "made_behind" "Store.made_behind" wj)
  (H33:ML K aw "point" "Store.point" ZP)
  (H34:ML K aw "nodes_below" "Store.nodes_below" Yu)
  (H35:FL K "_law_take" VB)
  (H36:FL K "_law_word" VC)
  (H37:FL K "_law_names" vq)
  (H38:FL K "_law_boxes" WQ)
  (H39:FL K "_law_state" Yx)
  (H40:FL K "_law_operand" YY)
  (H41:FL K "_law_test" VD)
  (H42:FL K "_law_low" UI)
  (H43:FL K "_law_same" Ye)
  (H44:FL K "_law_whole" WR)
  (H45:FL K "_law_joined" XS)
  (H46:FL K "_law_small" WT)
  (H47:FL K "_law_states" ZQ)
  (H48:FL K "_law_built" WU)
  (H49:FL K "_law_tells" Yy)
  (H50:FL K "_law_mark" Xy)
  (H51:FL K "_law_way" WV)
  (H52:FL K "_law_due" vT)
  (H53:FL K "_law_made" VE)
  (H54:FL K "_law_great" Yz)
  (H55:FL K "_law_apart" WW)
  (H56:FL K "law" zhq)
  (c5:(Yv K ⟨some "Store","added","Store.added"⟩).isSome=true)
  (bq:(Yv K ⟨some "Store","multiplied","Store.multiplied"⟩).isSome=true)
  (bW:(Yv K ⟨some "Store","higher","Store.higher"⟩).isSome=true)
  (bh:(Yv K ⟨some "Store","reckoned_of","Store.reckoned_of"⟩).isSome=true)
  (bV:(Yv K ⟨some "Store","marked","Store.marked"⟩).isSome=true)
  (d8:tT K aw Str.empty=true) (d7:um K aw=true) (d6:w5 K aw=true) (d5:rF K (.ref aw) "__setattr__"=some (some (.builtin "object.__setattr__"))) (dC:z4 K aw=true) (dz:t9 K (.ref aw)=true)
  (az:rF K (.ref aw) "boxes"=some none)
  (aA:rF K (.ref aw) "facts"=some none)
  (aF:rF K (.ref aw) "numbers"=some none)
  (fJ:rz K mainGlobals "abs"=some none)
  (fI:rz K mainGlobals "all"=some none)
  (fH:rz K mainGlobals "any"=some none)
  (e7:rz K mainGlobals "bool"=some none)
  (fG:rz K mainGlobals "int"=some none)
  (cg:rz K mainGlobals "isinstance"=some none)
  (fF:rz K mainGlobals "len"=some none)
  (dZ:rz K mainGlobals "list"=some none)
  (fE:rz K mainGlobals "min"=some none)
  (dG:rz K mainGlobals "range"=some none)
  (cF:rz K mainGlobals "reversed"=some none)
  (fD:rz K mainGlobals "str"=some none)
  (dF:rz K mainGlobals "tuple"=some none)
  (bI:rz K mainGlobals "NOUGHT"=some (some (.ref cU)))
  (d3:K.lookup cU=some ⟨.type "tuple",eO,.seq #[.int 0 dJ,.int 1 dI] eN,eM⟩)
  (cL:rz K mainGlobals "ONE"=some (some (.ref f7)))
  (fh:K.lookup f7=some ⟨.type "tuple",gD,.seq #[.int 1 f6,.int 1 eZ] gC,gB⟩):Tx K mg:={g6:=H0.to X G (λ_ _ _ _ _ _=>at_ λ_=>at0 rfl),bj:=H1.to X G (λ_ _ _ _ _ _=>at_ λ_=>at_ λ_=>at0 rfl),c9:=H2.to X G (λ_ _ _ _ _ _=>at_ λ_=>at_ λ_=>at0 rfl),d9:=H3.to X G (λ_ _ _ _ _ _=>at_ λ_=>at_ λ_=>at0 rfl),cI:=H4.to X G (λ_ _ _ _ _ _=>at_ λ_=>at_ λ_=>at0 rfl),cH:=H5.to X G (λ_ _ _ _ _ _=>at_ λ_=>at_ λ_=>at0 rfl),cb:=H6.to X G (λ_ _ _ _ _ _=>at_ λ_=>at_ λ_=>at0 rfl),bS:=H7.to X G (λ_ _ _ _ _ _=>at_ λ_=>at_ λ_=>at0 rfl),cz:=H8.to X G (λ_ _ _ _ _ _=>at_ λ_=>at_ λ_=>at_ λ_=>at0 rfl),cJ:=H9.to X G (λ_ _ _ _ _ _=>at_ λ_=>at_ λ_=>at_ λ_=>at0 rfl),aJ:=H10.to (λ_ _ _ _ _ _=>at_ λ_=>at_ λ_=>at0 rfl),cY:=⟨dC,(H10.to (ps:=["self","boxes"]) (λ_ _ _ _ _ _=>at_ λ_=>at_ λ_=>at0 rfl)).mt.at_,(H10.to (ps:=["self","boxes"]) (λ_ _ _ _ _ _=>at_ λ_=>at_ λ_=>at0 rfl)).mt.fn,dz⟩,aC:=H11.to (λ_ _ _ _ _ _=>at_ λ_=>at_ λ_=>at0 rfl),au:=H12.to (λ_ _ _ _ _ _=>at_ λ_=>at_ λ_=>at0 rfl),ay:=H13.to (λ_ _ _ _ _ _=>at_ λ_=>at_ λ_=>at_ λ_=>at0 rfl),dD:=H14.to (λ_ _ _ _ _ _=>at_ λ_=>at_ λ_=>at0 rfl),ax:=H15.to (λ_ _ _ _ _ _=>at_ λ_=>at_ λ_=>at0 rfl),aB:=H16.to (λ_ _ _ _ _ _=>at_ λ_=>at_ λ_=>at0 rfl),aK:=H17.to (λ_ _ _ _ _ _=>at_ λ_=>at_ λ_=>at_ λ_=>at_ λ_=>at0 rfl),aM:=H18.to (λ_ _ _ _ _ _=>at_ λ_=>at_ λ_=>at_ λ_=>at0 rfl),aU:=H19.to (λ_ _ _ _ _ _=>at_ λ_=>at_ λ_=>at_ λ_=>at0 rfl),aG:=H20.to (λ_ _ _ _ _ _=>at_ λ_=>at_ λ_=>at_ λ_=>at0 rfl),aO:=H21.to (λ_ _ _ _ _ _=>at_ λ_=>at_ λ_=>at_ λ_=>at0 rfl),ao:=H22.to (λ_ _ _ _ _ _=>at_ λ_=>at_ λ_=>at_ λ_=>at0 rfl),cK:=H23.to (λ_ _ _ _ _ _=>at_ λ_=>at_ λ_=>at_ λ_=>at0 rfl),aD:=H24.to (λ_ _ _ _ _ _=>at_ λ_=>at_ λ_=>at_ λ_=>at_ λ_=>at0 rfl),aH:=H25.to (λ_ _ _ _ _ _=>at_ λ_=>at_ λ_=>at_ λ_=>at_ λ_=>at0 rfl),aP:=H26.to (λ_ _ _ _ _ _=>at_ λ_=>at_ λ_=>at_ λ_=>at0 rfl),cx:=H27.to (λ_ _ _ _ _ _=>at_ λ_=>at_ λ_=>at0 rfl),aL:=H28.to (λ_ _ _ _ _ _=>at_ λ_=>at_ λ_=>at_ λ_=>at_ λ_=>at0 rfl),av:=H29.to (λ_ _ _ _ _ _=>at_ λ_=>at_ λ_=>at_ λ_=>at_ λ_=>at_ λ_=>at0 rfl),aN:=H30.to (λ_ _ _ _ _ _=>at_ λ_=>at_ λ_=>at0 rfl),bg:=H31.to (λ_ _ _ _ _ _=>at_ λ_=>at_ λ_=>at_ λ_=>at0 rfl),aj:=H32.to (λ_ _ _ _ _ _=>at_ λ_=>at_ λ_=>at_ λ_=>at_ λ_=>at0 rfl),b0:=H33.to (λ_ _ _ _ _ _=>at_ λ_=>at_ λ_=>at0 rfl),cB:=H34.to (λ_ _ _ _ _ _=>at_ λ_=>at_ λ_=>at0 rfl),ai:=H35.to X G (λ_ _ _ _ _ _=>at_ λ_=>at_ λ_=>at0 rfl),bu:=H36.to X G (λ_ _ _ _ _ _=>at_ λ_=>at_ λ_=>at0 rfl),bD:=H37.to X G (λ_ _ _ _ _ _=>at_ λ_=>at_ λ_=>at0 rfl),bG:=H38.to X G (λ_ _ _ _ _ _=>at_ λ_=>at_ λ_=>at0 rfl),bB:=H39.to X G (λ_ _ _ _ _ _=>at_ λ_=>at_ λ_=>at0 rfl),aW:=H40.to X G (λ_ _ _ _ _ _=>at_ λ_=>at_ λ_=>at0 rfl),bL:=H41.to X G (λ_ _ _ _ _ _=>at_ λ_=>at_ λ_=>at0 rfl),b8:=H42.to X G (λ_ _ _ _ _ _=>at_ λ_=>at_ λ_=>at0 rfl),aQ:=H43.to X G (λ_ _ _ _ _ _=>at_ λ_=>at_ λ_=>at0 rfl),bA:=H44.to X G (λ_ _ _ _ _ _=>at_ λ_=>at0 rfl),bp:=H45.to X G (λ_ _ _ _ _ _=>at_ λ_=>at_ λ_=>at_ λ_=>at0 rfl),bC:=H46.to X G (λ_ _ _ _ _ _=>at_ λ_=>at0 rfl),bo:=H47.to X G (λ_ _ _ _ _ _=>at_ λ_=>at0 rfl),aR:=H48.to X G (λ_ _ _ _ _ _=>at_ λ_=>at_ λ_=>at_ λ_=>at_ λ_=>at0 rfl),b9:=H49.to X G (λ_ _ _ _ _ _=>at_ λ_=>at_ λ_=>at_ λ_=>at_ λ_=>at0 rfl),bM:=H50.to X G (λ_ _ _ _ _ _=>at_ λ_=>at_ λ_=>at_ λ_=>at0 rfl),bT:=H51.to X G (λ_ _ _ _ _ _=>at_ λ_=>at_ λ_=>at_ λ_=>at0 rfl),bU:=H52.to X G (λ_ _ _ _ _ _=>at_ λ_=>at_ λ_=>at_ λ_=>at_ λ_=>at0 rfl),bN:=H53.to X G (λ_ _ _ _ _ _=>at_ λ_=>at_ λ_=>at_ λ_=>at0 rfl),bF:=H54.to X G (λ_ _ _ _ _ _=>at_ λ_=>at0 rfl),bH:=H55.to X G (λ_ _ _ _ _ _=>at_ λ_=>at_ λ_=>at_ λ_=>at_ λ_=>at0 rfl),cO:=H56.to X G (λ_ _ _ _ _ _=>at_ λ_=>at0 rfl),cC:=c5,bR:=bq,cm:=bW,bO:=bh,ck:=bV,aq:=aw,dB:=uz X G aq,af:=⟨d8,d7,d6,d5⟩,ae:=aq,az:=az,aA:=aA,aF:=aF,dM:=rY X G fJ,dq:=rY X G fI,fe:=rY X G fH,dU:=rY X G e7,cX:=rY X G fG,aE:=rY X G cg,aX:=rY X G fF,dA:=rY X G dZ,fc:=rY X G fE,aI:=rY X G dG,cW:=rY X G cF,eD:=rY X G fD,cf:=rY X G dF,bI:=cU,cZ:=uz X G bI,de:=λH=> .inr ⟨_,_,_,d3,rfl,rfl,by show 2<=sizeLine;decide,(.cons ⟨_,rfl⟩ (.cons ⟨_,rfl⟩ .nil))⟩,cL:=f7,fg:=uz X G cL,fC:=λH=> .inr ⟨_,_,_,fh,rfl,rfl,by show 2<=sizeLine;decide,(.cons ⟨_,rfl⟩ (.cons ⟨_,rfl⟩ .nil))⟩}
theorem zov {l:z6} {w:World} {K:qP} {mg:Str->Option Value} {fa:Addr} {ts:List Addr} (hB:zdi K ts Vj=true) (pk:mg "law"=some (.ref fa)) (T:Tx K mg):
  ∃fd:FuncData,(∀(s:Shared) (v:Value),BindsTo s fd ⟨[v],[]⟩ [("_law_script",v)])/\∀base:Heap,K.In base->base.Ns mainGlobals mg->yD l.prog w K mg base (CXE l.prog w) 65 fa fd ["_law_script"] (zb1 K (Vz K Vj)):=by
 have e:=zn6 T.cO (λ_ _=>trivial) pk;subst e
 exact⟨_,λs v=>by
  obtain⟨_,_,_,_,_,_,_,_,_,e,_⟩:=T.cO.F.ex;rw[e]
  exact .of_eq rfl,λbase _ _=>zou T (zho hB)⟩
theorem zpT {l:z6} {q:Program} {loose:List Str} {XP:(Str->Option Value)->Heap->Prop} {YP:World->Heap->Prop} {d:DefRec} {K:Params->qP} {ts:List Addr} (hn:l.most=some 63) (j9:d.params.defaults=[])
  (hY:∀(w:World) (h:Heap),YP w h->(K w.params).In h/\∀P∈ts,h.get? P=some (tR #[])) (hB:∀w:World,zdi (K w.params) ts Vj=true)
  (F:∀(w:World) (mg:Str->Option Value) (fa:Addr) (h:Heap),zdi (K w.params) ts Vj=true->(K w.params).In h->h.Ns mainGlobals mg->mg d.name=some (.ref fa)->
   ∃fd:FuncData,(∀(s:Shared) (u:Value),BindsTo s fd ⟨[u],[]⟩ [("_law_script",u)])/\∀base:Heap,(K w.params).In base->base.Ns mainGlobals mg->yD l.prog w (K w.params) mg base (CXE l.prog w) 65 fa fd ["_law_script"] (zb1 (K w.params) (Vz (K w.params) Vj))) (lq:importsNone q=true) (fj:l.prog.given.tree=none):
  B4 q loose XP YP l.row.toRowW d [] (λf vs=>AK f vs):=
 L2.zkd (n:=63) (k:=65) (x:="_law_script") (CX:=λw=>CXE l.prog w) hn ∅ j9 ⟨rfl,∅,∅,rfl⟩ hY hB (λw mg fa h=>F w mg fa h (hB w)) (λ_ _ _ _ _ ⟨_,_,_,_,_,z⟩=>z) lq fj
end Prf
open PySem PySem.W PyProof.Rows
local macro_rules | `(tactic| walk_at "fl") => `(tactic| exact Prf.zpk (by k_is) (by k_is) (by k_is) (by k_is))
local macro_rules | `(tactic| walk_at "ml") => `(tactic| exact Prf.zpl (by k_is) (by k_is) (by k_is) (by k_is) (by k_is))
set_option maxRecDepth 100000 in
set_option maxHeartbeats 0 in
theorem PySem.Challenge.cw_lots_k43_whole_one_function_one_node_holds : PySem.Challenge.rw_lots_k43_whole_one_function_one_node.Holds := by
 w_on;o_law;k_head;(case hw=>w_witness2)
 k_fill
 refine Prf.zpT (l:=PySem.Challenge.rw_lots_k43_whole_one_function_one_node) rfl rfl (λw h Y=>⟨PySem.W.km_in_of Y,PySem.W.km_tabs_of Y⟩) ?B ?F ?I rfl
 case I=>kernel_rfl
 case B=>intro w;kernel_rfl
 case F=>
  intro w mg fa h hB KX G gR;refine' Prf.zov hB gR (Prf.zpK KX G ?aq ?H0 ?H1 ?H2 ?H3 ?H4 ?H5 ?H6 ?H7 ?H8 ?H9 ?H10 ?H11 ?H12 ?H13 ?H14 ?H15 ?H16 ?H17 ?H18 ?H19 ?H20 ?H21 ?H22 ?H23 ?H24 ?H25 ?H26 ?H27 ?H28 ?H29 ?H30 ?H31 ?H32 ?H33 ?H34 ?H35 ?H36 ?H37 ?H38 ?H39 ?H40 ?H41 ?H42 ?H43 ?H44 ?H45 ?H46 ?H47 ?H48 ?H49 ?H50 ?H51 ?H52 ?H53 ?H54 ?H55 ?H56 ?c5 ?bq ?bW ?bh ?bV ?d8 ?d7 ?d6 ?d5 ?dC ?dz ?az ?aA ?aF ?fJ ?fI ?fH ?e7 ?fG ?cg ?fF ?dZ ?fE ?dG ?cF ?fD ?dF ?bI ?d3 ?cL ?fh)
  (case aq=>k_is);(case H0=>walk_at "fl");(case H1=>walk_at "fl");(case H2=>walk_at "fl");(case H3=>walk_at "fl");(case H4=>walk_at "fl")
  (case H5=>walk_at "fl");(case H6=>walk_at "fl");(case H7=>walk_at "fl");(case H8=>walk_at "fl");(case H9=>walk_at "fl");(case H10=>walk_at "ml")
  (case H11=>walk_at "ml");(case H12=>walk_at "ml");(case H13=>walk_at "ml");(case H14=>walk_at "ml");(case H15=>walk_at "ml");(case H16=>walk_at "ml")
  (case H17=>walk_at "ml");(case H18=>walk_at "ml");(case H19=>walk_at "ml");(case H20=>walk_at "ml");(case H21=>walk_at "ml");(case H22=>walk_at "ml")
  (case H23=>walk_at "ml");(case H24=>walk_at "ml");(case H25=>walk_at "ml");(case H26=>walk_at "ml");(case H27=>walk_at "ml");(case H28=>walk_at "ml")
  (case H29=>walk_at "ml");(case H30=>walk_at "ml");(case H31=>walk_at "ml");(case H32=>walk_at "ml");(case H33=>walk_at "ml");(case H34=>walk_at "ml")
  (case H35=>walk_at "fl");(case H36=>walk_at "fl");(case H37=>walk_at "fl");(case H38=>walk_at "fl");(case H39=>walk_at "fl");(case H40=>walk_at "fl")
  (case H41=>walk_at "fl");(case H42=>walk_at "fl");(case H43=>walk_at "fl");(case H44=>walk_at "fl");(case H45=>walk_at "fl");(case H46=>walk_at "fl")
  (case H47=>walk_at "fl");(case H48=>walk_at "fl");(case H49=>walk_at "fl");(case H50=>walk_at "fl");(case H51=>walk_at "fl");(case H52=>walk_at "fl")
  (case H53=>walk_at "fl");(case H54=>walk_at "fl");(case H55=>walk_at "fl");(case H56=>walk_at "fl");(case c5=>kernel_rfl);(case bq=>kernel_rfl)
  (case bW=>kernel_rfl);(case bh=>kernel_rfl);(case bV=>kernel_rfl);(case d8=>k_is);(case d7=>k_is);(case d6=>k_is)
  (case d5=>k_is);(case dC=>k_is);(case dz=>k_is);(case az=>k_is);(case aA=>k_is);(case aF=>k_is)
  (case fJ=>k_is);(case fI=>k_is);(case fH=>k_is);(case e7=>k_is);(case fG=>k_is);(case cg=>k_is)
  (case fF=>k_is);(case dZ=>k_is);(case fE=>k_is);(case dG=>k_is);(case cF=>k_is);(case fD=>k_is)
  (case dF=>k_is);(case bI=>k_is);(case d3=>k_is);(case cL=>k_is);(case fh=>k_is)
