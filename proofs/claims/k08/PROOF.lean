import PyProof.Rows.All
import Wide.All
import OpenK.AllK
import Wide.FinOn
import Lean
import PyProof.EqAt
import PyProof.EqKinds
import PyProof.TupleCall
import PySem.Challenge.RW_lots_k08_whole_equations_answered
set_option Elab.async false
set_option linter.all false
set_option tactic.hygienic false
set_option maxRecDepth 100000
set_option compiler.extract_closed false
set_option genSizeOf false
abbrev n8.{u}(a:Type u):=List a
abbrev pU.{u}(a:Type u):=Option a
abbrev pW:=PySem.Value
abbrev pX:=PySem.Shared
abbrev qo:=PySem.Addr
open Option renaming some->dB,none->fC
open Bool renaming true->fN,false->kb
local macro_rules|`(tactic|omega)=>`(tactic|first|with_reducible assumption | lia | omega +splitDisjunctions)
set_option hygiene false in
local macro_rules|`(tactic|walk_at $s:str)=>do
 let g(s:String):=(s.splitOn " ").toArray.map fun n=>(Lean.mkIdent (.mkSimple n):Lean.Term)
 let i(s:String):=`(tactic|intro $(g s)*)
 let r(s z x:String):Lean.MacroM _:=do`(tactic|($(<-i s);rcases $((g z)[0]!) e with⟨$(Lean.mkIdent (.mkSimple x)):ident,S1,e1,e⟩|⟨c,S1,e1,rfl⟩))
 match s.getString with
 |"!a"=>r "F j σ H ρ S r Q En0 e k" "zo" "x"
 |"!b"=>do`(tactic|($(<-i "X hP hw hK hc i pins s σ H E I hf st hg");subst hP hw hK))
 |"!c"=>r "F j σ H ρ S r Q En0 e k" "zo" "xs"
 |"!d"=>r "F j σ H ρ S r R En0 e k" "zo" "x"
 |"!e"=>i "F j σ H ρ S S' x y z u v Q E1 hx hy h k"
 |"!f"=>r "F j D' σ H ρ S fl E0 e k" "xk" "x"
 |"!g"=>r "F j σ H ρ S r Q En0 e kk" "zo" "x"
 |"!h"=>i "F j σ H ρ S S' xs z vs Q E1 hv h k"
 |"!i"=>`(tactic|(rw[g8] at e;obtain⟨n0,jq⟩:=p0;obtain⟨a,k5,rfl,lJ,f0,_⟩:=E1.dk hu g8))
 |"!j"=>`(tactic|(subst e;exact I1.fpOk (B1 _) (I1.hok.fresh (B1 _))))
 |"!k"=>`(tactic|(rcases zo e1 with⟨y,S2,e2,e1⟩|⟨c,S2,e2,z⟩))
 |"q1"=>`(tactic|first|exact .inl rfl|exact .inr rfl|assumption)
 |"!m"=>`(tactic|first|exact .inl rfl|exact .inr (.inl rfl)|exact .inr (.inr rfl))
 |"!n"=>`(tactic|first|exact zdE _ ∅ ∅|rfl)
 |_=>Lean.Macro.throwUnsupported
open List renaming getElem?_eq_getElem->AK,getElem?_eq_some_iff->AQ,getD_eq_getElem?_getD->AU,length_map->AV,getElem?_map->AW,mem_of_getElem?->AX,getElem?_append_left->B2,getElem?_append_right->B4,mem_singleton->B5,replicate->B6,size_toArray->B8,map_cons->Be,mem_append->Bf,mem_cons->Bi,mem_append_right->Bn,length_cons->Bo,mem_map->Bq,mem_cons_of_mem->Br,getElem?_set->Bs,take_succ->Bt,getElem?_eq_none->Bu,take_length->Bx,getElem?_of_mem->By,length_append->Bz,length_take->BI,mem_cons_self->BJ,set->BL,lookup_cons->BQ,range->BX,getElem_mem->C8,nodup_cons->Cb,map_append->Ci,replicate_succ->Ck,getElem?_range->Cm,find?_cons->Ct,mem_range->Cw,getElem?_zip_eq_some->CH,getElem_inj->CK,getElem?_take_of_lt->CN,all_eq_true->CO,idxOf_lt_length_of_mem->CU,lookup->D0,append_nil->D2,getElem?_mapIdx->D6,flatten_cons->D7,any_cons->D8,getElem?_replicate->D9,length_set->Dj,mem_append_left->Dl,mem_or_eq_of_mem_set->Dn,filter_cons->Dp,any_eq_true->Dq,filterMap_cons->Dt,map_congr_left->Du,mem_filter->Dv,of_mem_zip->Dx,map_singleton->Dz,range_succ->DA,getElem_idxOf->DC,take_of_length_le->DF,length_singleton->DH,mem_of_mem_take->DQ,all_cons->DR,zip_cons_cons->DX,lookup_append->Eb,map_map->Ec,filter_append->Ee,set_set->Ef,ext_getElem?->Em,getElem_map->Ez,cons_append->EA,length_filter_le->EE,dropLast_eq_take->EG,getElem?_zipWith->EI,getElem?_set_ne->EJ,length_nil->ER,mem_iff_getElem->EY,take_append_of_le_length->F6,length_zipWith->F7,drop_eq_getElem_cons->Ft,eq_of_mem_replicate->FH,getElem?_cons_succ->FQ,length_eq_zero_iff->FV,forIn_cons->FZ,length_zip->G2,getElem?_set_self->G5,range_succ_eq_map->G8,getElem?_reverse->Gj,nodup_nil->Gk,forIn_nil->Gm,length_dropLast->Gq,getElem?_zipIdx->Gr,contains_eq_mem->Gs,replicate_succ'->Gx,filter_sublist->GK,length_reverse->GL,mem_filterMap->GO,map_nil->GR,find?_eq_none->GY,map_set->He,append_assoc->Hg,getElem_take->Hk,length_range->Hl,nodup_append->Hn,foldl->HE,nil_append->HG,take_zero->HW,drop_zero->HY,all_map->Ir,toArray->Iu,any_map->Iv
open PySem.W renaming Frag->AO,nsIn->Bc,findIn->Bh,mg_none_of->BD,kitOne->C2,mroIn->C7,emptyDict->CF,mg_of->CT,keepIn->CZ,instObj->D1,kla_obj->D3,fnOf->Dg,kitMeta->Dk,hasDictIn->DG,tabObj->DJ,plainGet->DN,codeHdIn->DP,typeIn->Eg,codeIn->Eh,plainOver->Ek,specialIn->El,cellsFrom_some->Ep,makesIn->EK,looks_findIn->EL,InstAt->F8,subIn->Fk,methodObj->Fp,kitx_list->Fs,isFn->FA,envX->FD,takerIn->FX,takesIn->FY,findObj->G0,OpenLaw->G1,lookIn->Gg,kitCls->Gi,excIn->Gz,clsIn->GA,codeHd_of_K->GI,callWith_K->GP,codeRec_of->GQ,kitx_tuple->GX,kitx_dict->Hj,handedIn->Hu,isClsIn->HU,kla_fn->HV,WalkO->Ie,KitX->Iq
open Option renaming map_eq_some_iff->AY,bind_some->B7,bind_eq_some_iff->BF,map_some->Cd,getD_some->Cu,isSome_iff_exists->CM,bind->Er,map->F1,isSome_some->GW,isSome_map->Hi,getD_none->Hv,bind_none->HB
open Nat renaming le_trans->AZ,le_refl->B1,lt_of_lt_of_le->B3,le_of_lt->Ba,ne_of_lt->Bj,lt_of_le_of_lt->Bp,ne_of_gt->BE,mul_le_mul_right->BR,pow_le_pow_right->Ca,mul_le_mul_left->Cp,le_succ->Cq,lt_succ_of_lt->Cr,lt_irrefl->Cv,zero_le->Cy,lt_succ_self->CB,le_of_eq->CD,gcd->CJ,sub_self->CP,mul_le_mul->De,add_sub_cancel->Dh,le_add_right->Dr,pow_succ->DL,div_add_mod->DV,mul_comm->DY,zero_add->E8,pow_mul->Et,pow_pos->Ew,mul_assoc->Ey,mod_eq_of_lt->EC,min_self->EZ,pow_add->F9,mul_mod->Fb,mod_lt->Fx,succ_ne_self->FC,pow_zero->FE,pow_lt_pow_iff_right->FI,gcd_pos_of_pos_right->FJ,gcd_comm->FK,div_div_eq_div_mul->Gb,le_mul_of_pos_left->Ge,add_mul_div_right->Gn,div_lt_of_lt_mul->Gw,le_of_dvd->GC,pow_succ'->GF,add_assoc->GH,succ_mul->GU,add_comm->GV,mod_mod_of_dvd->GZ,eq_zero_or_pos->Hd,gcd_dvd_right->Hm,le_of_lt_succ->Ho,add_mul->Hq,Coprime->Hr,two_mul->Hs,le_of_not_lt->Hw,not_lt_of_le->Hx,gcd_dvd_left->Hy,div_eq_of_lt->Hz,coprime_comm->HD,not_lt->HM,min_eq_left->HP,add_le_add->HX
open Int renaming toNat_natCast->B9,mul_le_mul_of_nonneg_left->Bg,mul_le_mul_of_nonneg_right->BH,emod_lt_of_pos->BK,mul_zero->BU,natAbs_mul->BV,gcd->C3,emod_nonneg->C6,mul_comm->C9,ediv_eq_of_eq_mul_right->Cz,natAbs_ediv_le_natAbs->CI,le_of_lt->CQ,zero_mul->CW,fdiv_eq_ediv_of_nonneg->CY,le_trans->D4,pow_succ->D5,mul_nonneg->Df,zero_add->Di,ofNat_le->Ds,natCast_pow->DB,mul_one->DE,mul_ediv_add_emod->DM,mul_assoc->DS,mul_neg->DT,mul_pos->DU,eq_of_mul_eq_mul_left->DW,natAbs_natCast->Ed,mul_nonneg_of_nonpos_of_nonpos->Eo,le_refl->Es,lt_of_not_ge->ED,natAbs_dvd_natAbs->EH,pow_zero->F0,mul_eq_zero->F4,neg_mul->Fe,one_mul->Ff,dvd_trans->Fo,add_zero->FG,mul_sub->Gc,mul_le_mul->Gp,mul_ediv_cancel'->Gv,sub_add_cancel->Ha,sub_zero->Hb,dvd_refl->Hc,pow_pos->Ht,ediv_le_self->HA,natCast_emod->HC,neg_mul_neg->HN,natAbs_neg->HZ
open Bool renaming false_ne_true->Bm,and_eq_true->Cj,eq_iff_iff->Dw,false_eq_true->E9,noConfusion->EB,or_eq_true->EW,beq_eq_decide_eq->Gf,or_false->Ic
open Classical renaming byContradiction->Bv,propDecidable->Ei
open PySem renaming mem_of_lookup->Bw,intBits_le_iff->EV,frameOf->Gy,Within->GN,call->HF,Expr->HH
open Option.some renaming injEq->BG,inj->C0
open Ne renaming symm->BM
open PyProof.Rows renaming callWith_type1->BO
open False renaming elim->BP
open PySem.F renaming plainAttrs_list->BZ,slot_list_append->C4,type_list_append->C5,plain_min_loop->CV,plainAttrs_dict->Dc,plain_extend_loop->Dm,slot_dict_pop->DI,slot_zip_next->DK,slot_dict_items->Ej,slot_dict_get->EF,entry_extend_loop->Fu,args_dict_pop_3->FO,args_dict_get_3->FP,plain_list_iadd->FR,args_zip_next_1->FT,type_dict_items->FU,entry_dict_pop->G6,entry_dict_get->G7,entry_min_loop->G9,entry_zip_next->Ga,type_dict_pop->Gh
open Rat renaming intCast_mul->C1,zero_mul->F5,one_mul->Fg,mul_zero->FN,intCast_eq_zero_iff->FW,intCast_inj->G4,add_zero->Hf,intCast_add->HQ,mul_eq_zero->HR,intCast_neg->HS
open True renaming intro->CG
open Array renaming length_toList->Dd,forIn_toList->DZ,append_assoc->Fh,getD_eq_getD_getElem?->Fj,getElem?_eq_getElem->Fw,size->Gu,toList_append->GJ,getD->HI,size_push->HK,toList->Ik
open ForInStep renaming yield->Dy
open List.Pairwise renaming nil->Fq
open Sum renaming inl->Fy,inr->Fz
open Prod.mk renaming injEq->GB,inj->Iw
open Function renaming comp->GD
open Array.Perm renaming refl->HJ
open List.cons renaming injEq->HL
open PySem.EqMixed renaming eq_bool_str->Ig,eq_str_bool->Ih,ne_bool_str->Ii,ne_str_bool->Ij,eq_int_str->Il,eq_str_int->Im,ne_int_str->Io,ne_str_int->Ip
open PySem.W.Looks renaming here->Iy
open PySem PySem.Spec PyProof.Rows
noncomputable section
local macro_rules|`(∅)=>`(by decide)|`(⋯)=>`(by omega)|`(nofun)=>`(fun z=>by cases z)|`(*...*)=>`(by decide+kernel)
structure PySem.W.Fast:Prop where(tw10017112720059209649 tw10156962560799306470 tw1020033059526891639 tw10226053584198437333 tw10315861574781422945 tw10321894652842973055 tw10348496727283039679 tw10407865796864353096 tw10419566346529910020 tw1052120989975296317 tw10602970315910148072 tw10615480241463640601 tw10683405265539479511 tw10718011959622161720 tw10718632548574276533 tw1083252028232090020 tw11026076977251322941 tw11103293242784797460 tw11164527454830464044 tw11168975799286597455 tw11169666491520997745 tw1117648209102776289 tw11180547360283217216 tw11188932337524877750 tw11387838643716191326 tw1139017684009360256 tw11434126243417968642 tw11549682476525448156 tw11611598130266184648 tw11631071904113543863 tw11973373191252529951 tw11998068258962791303 tw12096841518006859798 tw12159694353672025387 tw12180643172233830348 tw1218957352319649743 tw12232484067041805465 tw1223707373271239923 tw12460100413002707802 tw12481907398613652630 tw12505343985453013972 tw12524607811499949013 tw12595710595370510260 tw1264192017051920310 tw12642521657880702370 tw12659368839410478474 tw12660106007624511191 tw12706253092285970906 tw12768623293644339142 tw12800942027409631599 tw12832863567865113673 tw12863959959849908240 tw12889604203397687942 tw12893939192471924203 tw12991229580740729169 tw13010654724755051961 tw13034932069129803165 tw13158344622098187549 tw13292902859441773543 tw1344260189171666118 tw13450165087354761652 tw13478714534960733960 tw13653876326358072681 tw13662342419588112380 tw13678657048106806339 tw13710384735386615955 tw13722450297040315430 tw13761711612419278355 tw13769442881564543307 tw13827390557559170093 tw13847841337789205374 tw1385936294218419825 tw13869304034387594289 tw13880510595782259069 tw13886051759910773814 tw13890514376985674818 tw13897613000800137847 tw13937921100271880844 tw14026587056320675645 tw14039787355039742154 tw14044031133332688091 tw14265460464355343857 tw14380979497115690573 tw14392203073680777882 tw1442663028019097225 tw14450753989644665064 tw14481916532495758954 tw14542120864919334401 tw14544941860794609138 tw14699510850870914007 tw14757480288989147234 tw14913445705463170036 tw14917644775562192878 tw1498371299074444026 tw15009939116743929686 tw15030667569647389504 tw15150469491281029374 tw15188876041117780518 tw15252045609617027320 tw15258435830647837366 tw15327199657178158020 tw15506337173667969190 tw15628134313466526960 tw15641786637798956263 tw15668017576490470007 tw15703804574207631118 tw15704502219121198117 tw15739993218888212745 tw15776671298611713797 tw15838536733068612379 tw15912144551174223452 tw15915184015979461266 tw15924518284191135094 tw15962714635057144354 tw15964767787239652651 tw15966234206948410674 tw15987334851188698956 tw16016747770879801527 tw16018035822125362298 tw16029662462018262107 tw16096781324296009258 tw16099495505966519788 tw16120662511897341809 tw1613686931013171189 tw16144372757231589929 tw16286554396945615142 tw16319303430879694782 tw16319384489108631700 tw1643351134678003971 tw1644055590001488441 tw16502892982854549874 tw16529049590497728474 tw16531516695860944129 tw16600246747178146956 tw1664629912091492814 tw16648356326230175255 tw16745949572144060647 tw16776377470076484505 tw16820564664445242750 tw16899209965991353056 tw16917619923721798400 tw16967325502550161331 tw17060415134419747132 tw17078082013876429830 tw17087143166708079083 tw17108237061174081988 tw17121338428332967296 tw17148212013971659403 tw1719412436621055452 tw17280292388950026316 tw17286922564975491322 tw1729948153521112581 tw1731825072866103981 tw17356465423576315244 tw17380668437136327895 tw17399178807194178464 tw1740915583432970811 tw17518604888294925092 tw17569551770915470890 tw17700607745224437758 tw17775664717896363937 tw17804368511339458394 tw1783149994412775787 tw1788009074936033633 tw18088375870573533291 tw18127767604562127220 tw18128111184130408201 tw18136610412691275532 tw18153051204292725653 tw18172558009226214047 tw18183116562723670053 tw18227858869507206366 tw18262672710361759347 tw18317503809639435317 tw18327749655794703620 tw18328335228868350091 tw18429907726614409753 tw18435095352712940293 tw1911053767158703570 tw1920517461163715026 tw2017839617040068785 tw2143020297798971364 tw2152311016084898213 tw2173302809429303433 tw2228088744235956894 tw2278904408374009937 tw2370943366890082545 tw2420607733708978630 tw2469876835288615226 tw2482988045442935827 tw2508557768300300901 tw2551800438317162702 tw2553254171022957036 tw2562382766780352504 tw2586039542242278541 tw2722978723300986423 tw2900370853089457668 tw2963001083318721269 tw3073145610249523078 tw3097562643946150710 tw3109164507192187735 tw3187345020705895847 tw3204784282728179138 tw3317514785060045230 tw3321641147447990834 tw3409706433637145919 tw3422574499843906137 tw3435294873408988106 tw3444208334313504541 tw3467127940769956716 tw357117085980943223 tw3582829748592652041 tw3664185189168325809 tw370941774217360509 tw3715856402136502835 tw3963544015282252267 tw3975181640216913139 tw4018982234961739992 tw4063723728156970786 tw4077351114974142059 tw4099949255967221153 tw4148042248370660488 tw4171371525056670581 tw4332060170135849713 tw4411041570881562879 tw4448383697220378796 tw4495667474760468229 tw4644095834297588868 tw4685759535181934585 tw4808029732414086911 tw4895626689683190368 tw490247390674796079 tw492882107814695134 tw49399646608558569 tw4947842172943060555 tw50067192633430154 tw5162140300362787438 tw5206901159531516649 tw5295799669931673386 tw530410850879581 tw5355000204008456781 tw544757988754596696 tw5561450094738783439 tw5583915766040917606 tw5584403721650735745 tw5687862784985348401 tw5723375944508400802 tw5738055237972595241 tw5799291481924564654 tw5912959205401326826 tw5920196061278023446 tw5921384473355656331 tw5947680907611725200 tw5981070195199735701 tw5992325541435285148 tw613622656912036963 tw6220597104834303760 tw6315130058739381983 tw6429569719186116162 tw648194240447299082 tw6495393196579669166 tw6512225582098261105 tw65406624451720271 tw6548533791512132327 tw6629401529888995215 tw6844949947352410874 tw6898133165237837269 tw7000712134555706033 tw7108423773565479415 tw710916339693173790 tw7187574911089616398 tw7216895216188123887 tw7247436522770491369 tw7377254433223786920 tw7417796043160907952 tw7470463076852426749 tw747701531627020763 tw7489609268219988854 tw7700205788399618145 tw7701140131769817158 tw7717441884609086161 tw780172260857491712 tw7862961607308097462 tw7931514380131286337 tw7993917511665825102 tw8017210454062935100 tw8053753054713096648 tw8142391247005901363 tw8162835689835399671 tw8173020140787295141 tw8202153732795556513 tw8329563277930296420 tw8399133318170693943 tw844223975069544222 tw8599991361605212358 tw8606192642111864616 tw8637947100555493977 tw8670509513029177432 tw8706466834835541886 tw8807839224212802667 tw8870355590907028598 tw9073355379183852882 tw9094895681546324674 tw9277787720739298935 tw9326138939190852049 tw9340538711423479682 tw9363154895846621039 tw9367042025953002540 tw9433281588187828234 tw9485537840231007300 tw9510047739425900351 tw9521496194253682534 tw9657509455011152054 tw9668339052449366859 tw9782237867538307825 tw9838954933993092568 tw9845587935077429120 tw986329994945620734 tw9904798100934657913 tw9919523776144261058 tw999959259964120250:True)
namespace L2
abbrev Key:=Sum Int Str
noncomputable def zae:Key->pW->Bool
 | .inl k,v=>Value.isInt k v
 | .inr x,v=>Value.isStrOf x v
noncomputable def znA(w:World):Key->Int
 | .inl k=>hashInt k
 | .inr x=>hashStr w x
theorem yJ:∀{k:Key} {v:pW},zae k v=fN->(∃i t,k=Fy i/\v=Value.int i t)\/(∃x t,k=Fz x/\v=Value.str x t)
 | .inl i,v,h=>by
  obtain⟨t,e⟩:=Value.isInt_shape (k:=i) (v:=v) h;exact .inl ⟨i,t,rfl,e⟩
 | .inr x,v,h=>by
  obtain⟨t,e⟩:=Value.isStrOf_shape (x:=x) (v:=v) h;exact .inr ⟨x,t,rfl,e⟩
def zbB(i:Int)(t:Tok):zae (.inl i) (.int i t)=fN:=by simp[zae,Value.isInt]
def zbC(x:Str)(t:Tok):zae (.inr x) (.str x t)=fN:=by simp[zae,Value.isStrOf]
def znB(a b:Int):decide ((Fy a:Key)=Fy b)=(a==b):=by
 by_cases e:a=b;subst e;simp;have h:¬(Fy a:Key)=Fy b:=λq=>e (Sum.inl.inj q);rw[decide_eq_false h];exact(beq_eq_false_iff_ne.mpr e).symm
def znC(a b:Str):decide ((Fz a:Key)=Fz b)=decide (a=b):=by
 by_cases e:a=b;subst e;simp;have h:¬(Fz a:Key)=Fz b:=λq=>e (Sum.inr.inj q);rw[decide_eq_false h,decide_eq_false e]
def znD(a:Int)(b:Str):decide ((Fy a:Key)=Fz b)=kb:=decide_eq_false (λq=>nomatch q)
def znE(a:Str)(b:Int):decide ((Fz a:Key)=Fy b)=kb:=decide_eq_false (λq=>nomatch q)
noncomputable def yi(prog:Program)(w:World):PySem.KeyKind prog w Key where
 is:=zae
 hash:=znA w
 inj:=λv a b ha hb=>by
  rcases yJ ha with⟨i,t,rfl,rfl⟩|⟨x,t,rfl,rfl⟩
  .rcases yJ hb with⟨j,u,rfl,e⟩|⟨y,u,rfl,e⟩
   .injection e with e1 _;rw[e1]
   exact nomatch e
  rcases yJ hb with⟨j,u,rfl,e⟩|⟨y,u,rfl,e⟩
  .exact nomatch e
  injection e with e1 _;rw[e1]
 byValue:=λk v h=>by
  rcases yJ h with⟨i,t,rfl,rfl⟩|⟨x,t,rfl,rfl⟩<;>rfl
 pyHash:=λhv h=>by
  rcases yJ hv with⟨i,t,rfl,rfl⟩|⟨x,t,rfl,rfl⟩
  .exact wpAny_pyHash_int h
  exact wpAny_pyHash_str h
 eqBool:=λhu hv h=>by
  rcases yJ hu with⟨i,t,rfl,rfl⟩|⟨x,t,rfl,rfl⟩
  .rcases yJ hv with⟨j,u,rfl,rfl⟩|⟨y,u,rfl,rfl⟩
   .rw[znB] at h;exact wpAny_eqBool_int h
   rw[znD] at h;exact SeqAt.EqAt.int_str i t y u _ _ _ _ h
  rcases yJ hv with⟨j,u,rfl,rfl⟩|⟨y,u,rfl,rfl⟩
  .rw[znE] at h;exact SeqAt.EqAt.str_int x t j u _ _ _ _ h
  rw[znC] at h;exact wpAny_eqBool_str h
 «strs» :=λk x t v h=>by
  rcases yJ h with⟨i,u,rfl,e⟩|⟨y,u,rfl,e⟩
  .exact nomatch e
  injection e with e1 _
  subst e1;cases v<;>rfl
def zdB(prog:Program)(w:World)(i:Int)(t:Tok):(yi prog w).is (.inl i) (.int i t)=fN:=zbB i t
def zdC(prog:Program)(w:World)(x:Str)(t:Tok):(yi prog w).is (.inr x) (.str x t)=fN:=zbC x t
inductive V where
 |non|bl (b:Bool)|int (i:Int)|str (x:Str)|byt (b:Array UInt8)|flt (b:UInt64)|ref (a:Addr)|ty (n:String)
 deriving DecidableEq
def zE:V->pW->Prop
 | .non,u=>u=Value.none
 | .bl b,u=>u=Value.bool b
 | .int i,u=>∃t,u=Value.int i t
 | .str x,u=>∃t,u=Value.str x t
 | .byt b,u=>∃t,u=Value.bytes b t
 | .flt b,u=>∃t,u=Value.float b t
 | .ref a,u=>u=Value.ref a
 | .ty n,u=>u=Value.type n
noncomputable abbrev zK:n8 V->n8 pW->Prop:=Paired zE
def zK.length(r:zK xs us):xs.length=us.length:=Paired.length r
theorem zK.get:∀{xs:n8 V} {us:n8 pW} {i:Nat} {x:V},zK xs us->xs[i]? =dB x->∃u,us[i]? =dB u/\zE x u
 |_,_,_,_,.nil,e=>by simp at e
 |_,_,0,_,.cons r _,e=>by simp at e;subst e;exact⟨_,rfl,r⟩
 |_,_,i+1,x,.cons _ t,e=>by
  obtain⟨u,h1,h2⟩:=zK.get (i:=i) (x:=x) t (by simpa using e);exact⟨u,by simpa using h1,h2⟩
theorem zK.set(r:zE x u):∀{xs:n8 V} {us:n8 pW} (i:Nat),zK xs us->zK (xs.set i x) (us.set i u)
 |_,_,_,.nil=> .nil
 |_,_,0,.cons _ t=> .cons r t
 |_,_,i+1,.cons q t=> .cons q (zK.set r i t)
def zK.append(h:zK xs us)(k:zK ys ws):zK (xs++ys) (us++ws):=by
 induction h with
 |nil=>exact k
 |cons r _ ih=>exact .cons r ih
theorem zK.take:∀{xs:n8 V} {us:n8 pW} (n:Nat),zK xs us->zK (xs.take n) (us.take n)
 |_,_,0,_=> .nil
 |_,_,_+1,.nil=> .nil
 |_,_,n+1,.cons r t=> .cons r (zK.take n t)
theorem zK.drop:∀{xs:n8 V} {us:n8 pW} (n:Nat),zK xs us->zK (xs.drop n) (us.drop n)
 |_,_,0,r=>r
 |_,_,_+1,.nil=> .nil
 |_,_,n+1,.cons _ t=>zK.drop n t
def Yz:pU V->pU pW->Prop
 |some v,dB u=>zE v u
 |none,fC=>True
 |_,_=>False
def KV{κ:Type}:n8 (κ×V)->n8 (κ×pW)->Prop:=Paired λ(p:κ×V) (q:κ×pW)=>p.1=q.1/\zE p.2 q.2
noncomputable def kV:Key->V
 | .inl i=> .int i
 | .inr x=> .str x
inductive NK where
 |int (i:Int)|str (x:Str)|tup (l:List NK)
noncomputable instance:DecidableEq NK:=λa b=>Ei (a=b)
mutual
noncomputable def zif(w:World):NK->Int
 | .int i=>znA w (.inl i)
 | .str x=>znA w (.inr x)
 | .tup l=>reduceHash (Builtin.Tuple.tupleHashOf (zig w l))
noncomputable def zig(w:World):n8 NK->n8 Int
 |[]=>[]
 |k::r=>zif w k::zig w r
end
mutual
noncomputable def zll:NK->Nat
 | .int _=>0
 | .str _=>0
 | .tup l=>zmY l+1
noncomputable def zmY:n8 NK->Nat
 |[]=>0
 |k::r=>max (zll k) (zmY r)
end
noncomputable def znF(w:World)(x:NK×qo×pW):DictEntry:={hash:=zif w x.1,key:= .ref x.2.1,val:=x.2.2}
set_option genInjectivity false in
inductive HO where
 |lst (xs:List V)
 |tup (xs:List V)
 |dK (kvs:List (Key×V))|dT (kvs:List (List Key×V))
 |dN (ks:List (NK×Addr×V))
 |set (S:Int->Bool) (n:Nat)
 |ins (C dx:Addr) (fs:List (Str×V))
 |own (x:Addr)
 |xd (fs:List (Str×V))
 |met (f x:Addr)
 |rng (lo hi:Int)
 |frz (o:Obj) (u:HO)
 |tbl (ps:Array Value)
 |ext (φ:Heap->Prop)
abbrev Hp:=qo->pU HO
noncomputable def upd(H:Hp)(a:qo)(o:HO):Hp:=λb=>if b=a then dB o else H b
def zt{H:Hp}:upd H a o a=dB o:=by unfold upd;rw[if_pos rfl]
def zi{H:Hp}(h:b≠a):upd H a o b=H b:=by unfold upd;rw[if_neg h]
def zpc{H:Hp}(h:H a=dB o)(h':H b=dB u)(d:o≠u):a≠b:=by
 intro e;subst e;rw[h] at h';exact d (C0 h')
def wm{H:Hp}(h:H a=dB o)(h':H b=fC):a≠b:=by
 intro e;subst e;rw[h] at h';cases h'
def Uj(h:Heap)(a:qo)(items:Array pW):Prop:=∃o,h.get? a=dB o/\o.cls= .type "tuple"/\∃n,o.data= .seq items n/\o.dict=fC
def Uj.tup{h:Heap}{a:qo}{items:Array pW}(x:Uj h a items):IsTup h a items:=by
 obtain⟨o,e,c,n,d,_⟩:=x;exact⟨o,e,c,n,d⟩
def Uj.new(h:Heap)(items:Array pW):Uj (h.push {cls:= .type "tuple",data:= .seq items}) h.objs.size items:=⟨_,Heap.get?_push_size _ rfl,rfl,_,rfl,rfl⟩
section
variable(P:Program)(w:World)
def yz(H:Hp)(h:Heap)(a:qo):HO->Prop
 | .lst xs=>xs.length<=sizeLine/\∃(ae:n8 pW) (n:Nat),zK xs ae/\h.get? a=dB {cls:= .type "list",data:= .seq ae.toArray n}
 | .tup xs=>xs.length<=sizeLine/\∃ae:n8 pW,zK xs ae/\Uj h a ae.toArray
 | .dK kvs=>kvs.length<=sizeLine/\(a==sysModules)=kb/\∃vs,KV kvs vs/\h.DictOf (yi P w) a vs
 | .dT kvs=>kvs.length<=sizeLine/\(a==sysModules)=kb/\∃xs:n8 (n8 Key×qo×pW),
   Paired (λ(p:n8 Key×V) (q:n8 Key×qo×pW)=>p.1=q.1/\H q.2.1=dB (.tup (p.1.map kV))/\zE p.2 q.2.2) kvs xs/\
   ∃o es ep,h.get? a=dB o/\o.ExactDict/\o.data= .dict es ep/\es.toList=xs.map (entryOfKey (tupleKind (yi P w)))/\(xs.map (·.1)).Nodup
 | .dN ks=>ks.length<=sizeLine/\(a==sysModules)=kb/\∃xs:n8 (NK×qo×pW),Paired (λ(p:NK×qo×V) (q:NK×qo×pW)=>p.1=q.1/\p.2.1=q.2.1/\zE p.2.2 q.2.2) ks xs/\
   ∃o es ep,h.get? a=dB o/\o.ExactDict/\o.data= .dict es ep/\es.toList=xs.map (znF w)/\(xs.map (·.1)).Nodup
 | .set S n=>h.SetOf (intKind P w) a S n
 | .ins C dx fs=>H dx=dB (.own a)/\fs.length<=1000/\dx≠a/\h.get? a=dB (D1 C dx)/\
   ∃mA,h.Ns1 dx mA/\(∀f,Yz (fs.lookup f) (mA f))/\GN mA (fs.map (·.1))
 | .own _=>∃o,h.get? a=dB o
 | .xd fs=>∃mA,h.Ns1 a mA/\∀f,Yz (fs.lookup f) (mA f)
 | .rng lo hi=>∃t u v,h.get? a=dB {cls:= .type "range",data:= .fields #[.int lo t,.int hi u,.int 1 v]}
 | .frz o u=>h.get? a=dB o/\yz H h a u
 | .tbl ps=>h.get? a=dB {cls:= .none,data:= .fields ps}
 | .met f x=>h.get? a=dB (Fp (.ref f) (.ref x))
 | .ext φ=>φ h/\(∃o,h.get? a=dB o)/\∀h1 h2:Heap,φ h1->(∀o,h1.get? a=dB o->h2.get? a=dB o)->φ h2
def HOk(H:Hp)(h:Heap):Prop:=∀a o,H a=dB o->yz P w H h a o
end
section
variable{P:Program}{w:World}{H H':Hp}{h h':Heap}{a:qo}{o:HO}
def yz.lt(x:yz P w H h a o):a<h.objs.size:=by
 cases o with
 |lst xs=>obtain⟨_,_,_,_,e⟩:=x;exact Heap.lt_size e
 |tup xs=>obtain⟨_,_,_,p⟩:=x;exact p.tup.lt
 |dK kvs=>obtain⟨_,_,_,_,o,_,_,e,_⟩:=x;exact Heap.lt_size e
 |dT kvs=>obtain⟨_,_,_,_,o,_,_,e,_⟩:=x;exact Heap.lt_size e
 |dN ks=>obtain⟨_,_,_,_,o,_,_,e,_⟩:=x;exact Heap.lt_size e
 |set S n=>obtain⟨o,_,_,_,e,_⟩:=x;exact Heap.lt_size e
 |ins C dx fs=>obtain⟨_,_,_,e,_⟩:=x;exact Heap.lt_size e
 |own y=>obtain⟨_,e⟩:=x;exact Heap.lt_size e
 |xd fs=>obtain⟨_,⟨_,_,_,e,_⟩,_⟩:=x;exact Heap.lt_size e
 |rng lo hi=>obtain⟨_,_,_,e⟩:=x;exact Heap.lt_size e
 |frz ob u=>obtain⟨e,_⟩:=x;exact Heap.lt_size e
 |tbl ps=>exact Heap.lt_size (show h.get? a=dB _ from x)
 |met f y=>exact Heap.lt_size (show h.get? a=dB _ from x)
 |ext φ=>obtain⟨_,⟨_,e⟩,_⟩:=x;exact Heap.lt_size e
def Paired.mapP{α β:Type}{F G:α->β->Prop}{l₁:n8 α}{l₂:n8 β}(h:Paired F l₁ l₂)(f:∀a b,F a b->G a b):Paired G l₁ l₂:=by
 induction h with
 |nil=>exact .nil
 |cons r _ ih=>exact .cons (f _ _ r) ih
def yz.stay(x:yz P w H h a o)(k:∀b u,(b=a\/H b=dB (.own a))->h.get? b=dB u->h'.get? b=dB u)
  (ho:∀b,H b=dB (.own a)->H' b=dB (.own a)) (ht:∀b xs,H b=dB (.tup xs)->H' b=dB (.tup xs)):yz P w H' h' a o:=by
 induction o with
 |lst xs=>obtain⟨z,ae,n,r,e⟩:=x;exact⟨z,ae,n,r,k _ _ (.inl rfl) e⟩
 |tup xs=>obtain⟨z,ae,r,ob,e,c⟩:=x;exact⟨z,ae,r,ob,k _ _ (.inl rfl) e,c⟩
 |dK kvs=>obtain⟨z,y,vs,r,ob,es,ep,e,c⟩:=x;exact⟨z,y,vs,r,ob,es,ep,k _ _ (.inl rfl) e,c⟩
 |dT kvs=>
  obtain⟨z,y,xs,r,ob,es,ep,e,c⟩:=x;exact⟨z,y,xs,Paired.mapP r λp q z=>⟨z.1,ht _ _ z.2.1,z.2.2⟩,ob,es,ep,k _ _ (.inl rfl) e,c⟩
 |dN ks=>obtain⟨z,y,xs,r,ob,es,ep,e,c⟩:=x;exact⟨z,y,xs,r,ob,es,ep,k _ _ (.inl rfl) e,c⟩
 |set S n=>obtain⟨ob,es,ep,t,e,c⟩:=x;exact⟨ob,es,ep,t,k _ _ (.inl rfl) e,c⟩
 |ins C dx fs=>
  obtain⟨d,z,ne,e,mA,⟨od,es,ep,e2,c⟩,r⟩:=x;exact⟨ho _ d,z,ne,k _ _ (.inl rfl) e,mA,⟨od,es,ep,k _ _ (.inr d) e2,c⟩,r⟩
 |own y=>obtain⟨ob,e⟩:=x;exact⟨ob,k _ _ (.inl rfl) e⟩
 |xd fs=>obtain⟨mA,⟨od,es,ep,e,c⟩,r⟩:=x;exact⟨mA,⟨od,es,ep,k _ _ (.inl rfl) e,c⟩,r⟩
 |rng lo hi=>obtain⟨t,u,v,e⟩:=x;exact⟨t,u,v,k _ _ (.inl rfl) e⟩
 |frz ob u ih=>obtain⟨e,q⟩:=x;exact⟨k _ _ (.inl rfl) e,ih q⟩
 |tbl ps=>
  have e:h.get? a=dB {cls:= .none,data:= .fields ps}:=x;show h'.get? a=dB {cls:= .none,data:= .fields ps};exact k a _ (.inl rfl) e
 |met f y=>
  have e:h.get? a=dB (Fp (.ref f) (.ref y)):=x;show h'.get? a=dB (Fp (.ref f) (.ref y));exact k a _ (.inl rfl) e
 |ext φ=>obtain⟨p,⟨o,e⟩,st⟩:=x;exact⟨st _ _ p λo q=>k _ _ (.inl rfl) q,⟨o,k _ _ (.inl rfl) e⟩,st⟩
def HOk.lt(x:HOk P w H h)(e:H a=dB o):a<h.objs.size:=(x a o e).lt
def HOk.fresh(x:HOk P w H h)(e:h.objs.size<=a):H a=fC:=by
 cases q:H a with
 |none=>rfl
 |some u=>exact absurd (B3 (x.lt q) e) (Cv _)
def HOk.kept(x:HOk P w H h)(k:∀b u,h.get? b=dB u->h'.get? b=dB u):HOk P w H h':=λa o e=>
 (x a o e).stay (λb u _ q=>k b u q) (λ_ q=>q) λ_ _ q=>q
def HOk.laid(x:HOk P w H h)(k:∀b u,h.get? b=dB u->h'.get? b=dB u)(hp:h.objs.size<=a)(new:yz P w (upd H a o) h' a o):HOk P w (upd H a o) h':=λb u e=>by
 have hn:=x.fresh hp;by_cases hb:b=a;subst hb;rw[zt] at e;cases e;exact new
 rw[zi hb] at e;exact(x b u e).stay (λc v _ q=>k c v q) (λc q=>by rw[zi (wm q hn)];exact q) λc xs q=>by rw[zi (wm q hn)];exact q
end
def Rd(H:Hp)(a:qo)(u:HO):Prop:=H a=dB u\/∃o,H a=dB (.frz o u)
def Rd.ok{P:Program}{H:Hp}(r:Rd H a u)(x:HOk P w H h):yz P w H h a u:=by
 rcases r with r|⟨o,r⟩
 .exact x a u r
 obtain⟨_,q⟩:=x a _ r;exact q
def Mut:pU HO->Prop
 |some (.lst _)=>True
 |some (.dK _)=>True
 |some (.dT _)=>True
 |some (.dN _)=>True
 |some (.set _ _)=>True
 |some (.ins _ _ _)=>True
 |some (.ext _)=>True
 |_=>False
section
variable{P:Program}{H:Hp}
def HOk.write(ok:HOk P w H h)(mu:Mut (H x))(he:e=x\/H e=dB (.own x))(k:∀b u,b≠e->h.get? b=dB u->h'.get? b=dB u)(j8:∃u,h'.get? e=dB u)
  (new:yz P w (upd H x o') h' x o'):HOk P w (upd H x o') h':=λb u q=>by
 have kF:∀c y,H c=dB (.own y)->c≠x:=λc y r z=>by subst z;rw[r] at mu;exact mu
 have nu:∀c xs,H c=dB (.tup xs)->c≠x:=λc xs r z=>by subst z;rw[r] at mu;exact mu
 by_cases hb:b=x;subst hb;rw[zt] at q;cases q;exact new;rw[zi hb] at q;by_cases jU:b=e
 .have q':H b=dB (.own x):=by
   rcases he with z|z;exact absurd (jU.trans z) hb;rw[jU];exact z
  rw[q] at q';cases q';obtain⟨v,hv⟩:=j8;exact⟨v,by rw[jU];exact hv⟩
 refine (ok b u q).stay (λc v hc r=>k c v ?_ r) (λc r=>by rw[zi (kF c b r)];exact r) λc xs r=>by rw[zi (nu c xs r)];exact r
 rcases hc with rfl|hc;exact jU;rintro rfl;rcases he with z|z;exact kF c b hc z;rw[hc] at z;cases z;exact hb rfl
end
structure Un(fs ex:n8 qo)(H H':Hp)(h h':Heap):Prop where
 keep:∀b o,h.get? b=dB o->H b=fC->b∉fs->b∉ex->h'.get? b=dB o
 slot:∀b o,h.get? b=dB o->H b=fC->b∈fs->b∉ex->∃sl,h'.get? b=dB {o with slots:=sl}
 free:∀b o,h.get? b=dB o->H b=fC->b∉ex->H' b=fC
 there:∀b o,h.get? b=dB o->b∉ex->∃o',h'.get? b=dB o'
 tups:∀b xs,H b=dB (.tup xs)->H' b=dB (.tup xs)
 frzs:∀b o u,H b=dB (.frz o u)->H' b=dB (.frz o u)
 tbls:∀b ps,H b=dB (.tbl ps)->∃more,H' b=dB (.tbl (ps++more))
section
variable{H H1 H2:Hp}
def Un.any(u:Un fs ex H H1 h h1)(q:h.get? b=dB ob)(n:H b=fC)(hx:b∉ex):∃sl,h1.get? b=dB {ob with slots:=sl}:=by
 by_cases hb:b∈fs;exact u.slot b ob q n hb hx;exact⟨ob.slots,u.keep b ob q n hb hx⟩
def Un.trans(a:Un fs ex H H1 h h1)(b:Un fs ex H1 H2 h1 h2):Un fs ex H H2 h h2 where
 keep:=λc ob q n hc hx=>b.keep c ob (a.keep c ob q n hc hx) (a.free c ob q n hx) hc hx
 slot:=λc ob q n hc hx=>by
  obtain⟨sl,e1⟩:=a.slot c ob q n hc hx;obtain⟨sl',e2⟩:=b.slot c _ e1 (a.free c ob q n hx) hc hx;exact⟨sl',e2⟩
 free:=λc ob q n hx=>by
  obtain⟨o',e1⟩:=a.there c ob q hx;exact b.free c o' e1 (a.free c ob q n hx) hx
 there:=λc ob q hx=>by
  obtain⟨o',e1⟩:=a.there c ob q hx;exact b.there c o' e1 hx
 tups:=λc xs q=>b.tups c xs (a.tups c xs q)
 frzs:=λc ob xs q=>b.frzs c ob xs (a.frzs c ob xs q)
 tbls:=λc ps q=>by
  obtain⟨m1,e1⟩:=a.tbls c ps q;obtain⟨m2,e2⟩:=b.tbls c _ e1;exact⟨m1++m2,by rw[e2,Fh]⟩
def Un.kept(k:∀b u,h.get? b=dB u->h'.get? b=dB u):Un fs ex H H h h':=
 ⟨λb ob q _ _ _=>k b ob q,λb ob q _ _ _=>⟨ob.slots,k b ob q⟩,λ_ _ _ n _=>n,λb ob q _=>⟨ob,k b ob q⟩,λ_ _ q=>q,λ_ _ _ q=>q,λ_ ps q=>⟨#[],by rw[q];simp⟩⟩
def Un.refl:Un fs ex H H h h:=Un.kept λ_ _ q=>q
def Un.laid(k:∀b u,h.get? b=dB u->h'.get? b=dB u)(hp:h.objs.size<=a)(hn:H a=fC):Un fs ex H (upd H a o) h h' where
 keep:=λb u q _ _ _=>k b u q
 slot:=λb u q _ _ _=>⟨u.slots,k b u q⟩
 free:=λb u q n _=>by rw[zi (Bj (B3 (Heap.lt_size q) hp))];exact n
 there:=λb u q _=>⟨u,k b u q⟩
 tups:=λb xs q=>by rw[zi (wm q hn)];exact q
 frzs:=λb u xs q=>by rw[zi (wm q hn)];exact q
 tbls:=λb ps q=>⟨#[],by rw[zi (wm q hn),q];simp⟩
def Un.write(mu:Mut (H x))(he:e=x\/H e=dB (.own x))(k:∀b u,b≠e->h.get? b=dB u->h'.get? b=dB u)(j8:∃u,h'.get? e=dB u):Un fs ex H (upd H x o) h h':=by
 have hx:∀b,H b=fC->b≠x:=λb n z=>by subst z;rw[n] at mu;exact mu
 have hb:∀b,H b=fC->b≠e:=λb n z=>by
  subst z;rcases he with r|r;exact hx b n r;rw[n] at r;cases r
 have hm:∀b u,H b=dB u->¬Mut (dB u)->b≠x:=λb u q nm z=>by subst z;rw[q] at mu;exact nm mu
 refine⟨λb u q n _ _=>k b u (hb b n) q,λb u q n _ _=>⟨u.slots,k b u (hb b n) q⟩,λb u q n _=>by rw[zi (hx b n)];exact n,λb u q _=> ?_,
  λb xs q=>by rw[zi (hm b _ q λz=>z)];exact q,λb u xs q=>by rw[zi (hm b _ q λz=>z)];exact q,λb ps q=>⟨#[],by rw[zi (hm b _ q λz=>z),q];simp⟩⟩
 by_cases jU:b=e;subst jU;exact j8;exact⟨u,k b u jU q⟩
end
noncomputable def trk(h:Heap)(H:Hp):n8 qo:=(BX h.objs.size).filter λa=>(H a).isSome
noncomputable def zcq(h:Heap)(H:Hp):Heap:=PySem.W.hideAll h (trk h H)
def zhk(h:Heap)(H:Hp):(zcq h H).objs.size=h.objs.size:=PySem.W.hideAll_size _ _
def zih{H:Hp}(e:h.get? b=dB o)(n:H b=fC):(zcq h H).get? b=dB o:=
 PySem.W.hideAll_get _ e λhm=>by
  have q:(H b).isSome=fN:=(Dv.mp hm).2;rw[n] at q;simp at q
def zlm{H:Hp}(e:(zcq h H).get? b=dB o):h.get? b=dB o/\H b=fC:=by
 have e':h.get? b=dB o:=PySem.W.of_hideAll (trk h H) e;refine⟨e',?_⟩;cases q:H b with
 |none=>rfl
 |some x=>
  have hm:b∈trk h H:=Dv.mpr ⟨Cw.mpr (Heap.lt_size e'),by simp[q]⟩;have z:(zcq h H).get? b=fC:=PySem.W.hideAll_none (trk h H) hm;rw[z] at e;cases e
structure Mod(P:Program)(K:AO)(mg:Str->pU pW)(base:Heap):Prop where
 kin:K.In base
 glob:base.Ns mainGlobals mg
 blt:∃mb,base.Ns builtinsNs mb/\∀x:Str,x≠"__name__"->mb x=bootBuiltins x
 nolimit:base.NoLimit
 bmn:∃bm ob,mg "__builtins__"=dB (.ref bm)/\bm≠builtinsNs/\base.get? bm=dB ob/\ob.cls= .type "module"/\ob.dict=dB builtinsNs/\ob.data= .plain
 seer:base.NoSeer
 tree:P.given.tree=fC
set_option genInjectivity false in
structure Cx where
 prog:Program
 w:World
 K:AO
 mg:Str->pU pW
 base:Heap
 A:Around
 N:n8 Str
 s₀:pX
 H₀:Hp
 env:Env
 outer:n8 Env
 stack:n8 Env
 ex:n8 qo
 fn:Str->Bool
 zn:Str->Bool
 calm:Bool
 pn:n8 (qo×Obj)
 xe:pW->pX->Prop
noncomputable def frs(l:n8 Env):n8 qo:=l.filterMap (·.frame)
noncomputable abbrev Cx.fs(X:Cx):n8 qo:=frs X.outer
def Vis(sc:Scope)(x:Str):Prop:=sc.names.lookup x=dB .local\/sc.names.lookup x=dB .cell\/sc.names.lookup x=dB .free
def Loc(sc:Scope)(x:Str):Prop:=sc.names.lookup x=dB .local\/sc.names.lookup x=dB .cell
def zqu(env:Env)(h:Heap)(m:Str->pU pW)(x:Str)(u:pW):Prop:=
 (env.kindOf x=dB .local/\m x=dB u)\/((env.kindOf x=dB .cell\/env.kindOf x=dB .free)/\∃c,env.cells.lookup x=dB c/\h.IsCell c (dB u))
structure Cx.Ok(X:Cx):Prop where
 mod:Mod X.prog X.K X.mg X.base
 kind:X.env.scope.kind= .function
 glob:X.env.globals=mainGlobals
 blt:X.env.builtins=builtinsNs
 above:X.s₀.heap.objs.size<=X.env.locals
 inj:∀x y c,X.env.cells.lookup x=dB c->X.env.cells.lookup y=dB c->x=y
 has:∀x,(X.env.kindOf x=dB .cell\/X.env.kindOf x=dB .free)->∃c,X.env.cells.lookup x=dB c
 cab:∀x c,(X.fn x=fN\/X.zn x=fN)->X.env.cells.lookup x=dB c->X.s₀.heap.objs.size<=c
 hd:X.calm=fN->X.A.handled=fC
 frames:X.A.frames=dB X.stack
 stk:X.stack=X.outer\/(X.stack=X.env::X.outer/\X.env.frame=dB X.env.locals)
 exf:∀b∈X.ex,b≠X.env.locals/\∀x c,X.env.cells.lookup x=dB c->c≠b
 bs:∀b o,X.base.get? b=dB o->X.s₀.heap.get? b=dB o/\X.H₀ b=fC
 bsz:X.base.objs.size<=X.s₀.heap.objs.size
 noex:∀b o,X.base.get? b=dB o->b∉X.ex
 exfs:∀b∈X.ex,b∉X.fs
 funs:X.s₀.heap.FunFrames X.base X.outer
 frf:∀b∈X.fs,X.H₀ b=fC
structure Inv(X:Cx)(pins:n8 (qo×Obj))(σ:n8 (pU V))(H:Hp)(s:pX):Prop where
 ok:X.Ok
 os:s.os=X.s₀.os
 bare:AllBare s.gens
 base:Un X.fs X.ex X.H₀ H X.s₀.heap s.heap
 loc:∃m,s.heap.Ns X.env.locals m/\∀(i:Nat) (x:Str) (v:V),X.N[i]? =dB x->σ[i]? =dB (dB v)->Vis X.env.scope x->∃u,zE v u/\zqu X.env s.heap m x u
 cell:∀x c,X.env.cells.lookup x=dB c->∃v,s.heap.IsCell c v
 free:H X.env.locals=fC
 freeC:∀x c,X.env.cells.lookup x=dB c->H c=fC\/(X.fn x=kb/\∃o,H c=dB (.frz o (.own 0)))
 pin:∀p∈X.pn++pins,s.heap.get? p.1=dB p.2/\H p.1=fC/\p.1≠X.env.locals/\p.1∉X.fs/\∀v,p.2.data≠ .cell v
 hok:HOk X.prog X.w H s.heap
 len:σ.length=X.N.length
section
variable{X:Cx}{pins:n8 (qo×Obj)}{σ:n8 (pU V)}{H H':Hp}{s:pX}{h':Heap}
def Cx.Ok.nofr(ok:X.Ok)(e:X.base.get? b=dB o):b∉X.fs:=λhb=>by
 have:=(ok.funs.mem hb).1;rw[e] at this;cases this
def Inv.bs(I:Inv X pins σ H s):∀b o,X.base.get? b=dB o->s.heap.get? b=dB o/\H b=fC:=λb o e=>
 ⟨I.base.keep b o (I.ok.bs b o e).1 (I.ok.bs b o e).2 (I.ok.nofr e) (I.ok.noex b o e),I.base.free b o (I.ok.bs b o e).1 (I.ok.bs b o e).2 (I.ok.noex b o e)⟩
def Inv.bk(I:Inv X pins σ H s):∀b o,X.base.get? b=dB o->s.heap.get? b=dB o:=λb o e=>(I.bs b o e).1
def Inv.mod(I:Inv X pins σ H s):Mod X.prog X.K X.mg X.base:=I.ok.mod
def Inv.kIn(I:Inv X pins σ H s):X.K.In s.heap:=I.ok.mod.kin.keeps I.bk
def Inv.nolimit(I:Inv X pins σ H s):s.heap.NoLimit:=I.ok.mod.nolimit.keeps I.bk
def Inv.lt(I:Inv X pins σ H s):X.env.locals<s.heap.objs.size:=let ⟨_,hn,_⟩:=I.loc;hn.lt
def Inv.sz(I:Inv X pins σ H s):X.s₀.heap.objs.size<=s.heap.objs.size:=AZ I.ok.above (Ba I.lt)
def Inv.nofs(I:Inv X pins σ H s){a:qo}(h:s.heap.objs.size<=a):a∉X.fs:=λhb=>by
 obtain⟨_,o,ho,_⟩:=I.ok.funs.mem hb;exact absurd (B3 (Heap.lt_size ho) (AZ I.sz h)) (Cv _)
def Inv.cne(I:Inv X pins σ H s):∀x c,X.env.cells.lookup x=dB c->c≠X.env.locals:=λx c e z=>by
 obtain⟨v,o,ho,hd⟩:=I.cell x c e;obtain⟨m,⟨o',es,ep,gY,gq,_⟩,_⟩:=I.loc;rw[z,gY] at ho;cases ho;rw[gq] at hd;cases hd
def Inv.funs(I:Inv X pins σ H s):s.heap.FunFrames X.base X.outer:=by
 have all:∀(l:n8 Env),(∀b∈frs l,b∈X.fs)->X.s₀.heap.FunFrames X.base l->s.heap.FunFrames X.base l:=by
  intro l
  induction l with
  |nil=>intro _ _;trivial
  |cons env r ih=>
   intro hs hl;obtain⟨hk,⟨L,o,hf,hn,ho,hd⟩,hr⟩:=hl;have hL:L∈X.fs:=hs L (by unfold frs;rw[Dt,hf];exact BJ);obtain⟨sl,e⟩:=I.base.slot L o ho (I.ok.frf L hL) hL λz=>I.ok.exfs L z hL;exact⟨hk,⟨L,_,hf,hn,e,hd⟩,ih (λb hb=>hs b (by unfold frs;rw[Dt,hf];exact Br _ hb)) hr⟩
 exact all X.outer (λ_ hb=>hb) I.ok.funs
def Inv.stack(I:Inv X pins σ H s):s.heap.FunFrames X.base X.stack:=by
 rcases I.ok.stk with e|⟨e,hf⟩
 .rw[e];exact I.funs
 rw[e];obtain⟨m,hn,_⟩:=I.loc;refine .cons (by rw[I.ok.kind];decide) hf hn ?_ I.funs;exact Heap.get?_none_of_le (AZ I.ok.bsz I.ok.above)
def Inv.stkSub(I:Inv X pins σ H s):∀b∈frs X.stack,b∈X.env.locals::X.fs:=λb hb=>by
 rcases I.ok.stk with e|⟨e,hf⟩
 .rw[e] at hb;exact Br _ hb
 rw[e] at hb;unfold frs at hb;rw[Dt,hf] at hb;exact hb
def Inv.stkFree(I:Inv X pins σ H s):∀b∈frs X.stack,H b=fC:=λb hb=>by
 rcases Bi.mp (I.stkSub b hb) with e|hb;rw[e];exact I.free;obtain⟨_,o,ho,_⟩:=I.ok.funs.mem hb;exact I.base.free b o ho (I.ok.frf b hb) λz=>I.ok.exfs b z hb
def Inv.step{g':Array GenState}{t':Nat}{d':Drawn}{ch:n8 qo}(I:Inv X pins σ H s)
  (hU:∀b∈ch,(b∈X.ex\/X.s₀.heap.objs.size<=b)/\b≠X.env.locals/\(∀x c,X.env.cells.lookup x=dB c->c≠b)/\∀p∈X.pn++pins,p.1≠b)
  (keep:∀b o,b≠X.env.locals->b∉X.fs->b∉ch->s.heap.get? b=dB o->H b=fC->h'.get? b=dB o)
  (slot:∀b o,b≠X.env.locals->b∈X.fs->b∉ch->s.heap.get? b=dB o->H b=fC->∃sl,h'.get? b=dB {o with slots:=sl}) (free:∀b o,b∉ch->s.heap.get? b=dB o->H b=fC->H' b=fC)
  (there:∀b o,b∉ch->s.heap.get? b=dB o->∃o',h'.get? b=dB o')
  (tups:∀b xs,H b=dB (.tup xs)->H' b=dB (.tup xs)) (frzs:∀b o u,H b=dB (.frz o u)->H' b=dB (.frz o u)) (tbls:∀b ps,H b=dB (.tbl ps)->∃more,H' b=dB (.tbl (ps++more)))
  (ns:∀m,s.heap.Ns X.env.locals m->h'.Ns X.env.locals m) (hok:HOk X.prog X.w H' h') (hg:AllBare g'):
  Inv X pins σ H' {s with heap:=h',gens:=g',drawn:=d',toks:=t'}:=by
 have qj:∀b o,X.s₀.heap.get? b=dB o->b≠X.env.locals:=λb o e=>Bj (B3 (Heap.lt_size e) I.ok.above);have mo:∀b o,X.s₀.heap.get? b=dB o->b∉X.ex->b∉ch:=λb o e hx hb=>by
  rcases(hU b hb).1 with z|z;exact hx z;exact absurd (B3 (Heap.lt_size e) z) (Cv _)
 have cellK:∀x c,X.env.cells.lookup x=dB c->∀v,s.heap.IsCell c v->h'.IsCell c v:=λx c e v ⟨o,ho,hd⟩=>by
  have kH:c∉ch:=λz=>(hU c z).2.2.1 x c e rfl;rcases I.freeC x c e with hf|⟨_,o',hf⟩
  .by_cases hc:c∈X.fs;obtain⟨sl,q⟩:=slot c o (I.cne x c e) hc kH ho hf;exact⟨_,q,hd⟩;exact⟨o,keep c o (I.cne x c e) hc kH ho hf,hd⟩
  have h1:=(I.hok c _ hf).1;rw[ho] at h1;cases h1;exact⟨o,(hok c _ (frzs c _ _ hf)).1,hd⟩
 refine⟨I.ok,I.os,hg,⟨λb o e n hb hx=> ?_,λb o e n hb hx=> ?_,λb o e n hx=> ?_,λb o e hx=> ?_,λb xs e=>tups b xs (I.base.tups b xs e),λb o xs e=>frzs b o xs (I.base.frzs b o xs e),λb ps e=> ?_⟩,?_,λx c e=> ?_,?_,λx c e=> ?_,λp hp=> ?_,hok,I.len⟩;exact keep b o (qj b o e) hb (mo b o e hx) (I.base.keep b o e n hb hx) (I.base.free b o e n hx);obtain⟨sl,e1⟩:=I.base.slot b o e n hb hx;obtain⟨sl',e2⟩:=slot b _ (qj b o e) hb (mo b o e hx) e1 (I.base.free b o e n hx);exact⟨sl',e2⟩;obtain⟨o',e1⟩:=I.base.there b o e hx;exact free b o' (mo b o e hx) e1 (I.base.free b o e n hx);obtain⟨o',e1⟩:=I.base.there b o e hx;exact there b o' (mo b o e hx) e1;obtain⟨m1,e1⟩:=I.base.tbls b ps e;obtain⟨m2,e2⟩:=tbls b _ e1;exact⟨m1++m2,by rw[e2,Fh]⟩
 .obtain⟨m,hn,hl⟩:=I.loc;refine⟨m,ns m hn,λi x v e1 e2 e3=> ?_⟩;obtain⟨u,r,l⟩:=hl i x v e1 e2 e3;refine⟨u,r,?_⟩;rcases l with l|⟨k,c,e,z⟩
  .exact .inl l
  exact .inr ⟨k,c,e,cellK x c e _ z⟩
 .obtain⟨v,z⟩:=I.cell x c e;exact⟨v,cellK x c e v z⟩
 .obtain⟨m,⟨o,_,_,ho,_⟩,_⟩:=I.loc;exact free _ o (λz=>(hU _ z).2.1 rfl) ho I.free
 .obtain⟨v,o,ho,hd⟩:=I.cell x c e;rcases I.freeC x c e with hf|⟨z,o',hf⟩
  .exact .inl (free c o (λz=>(hU c z).2.2.1 x c e rfl) ho hf)
  exact .inr ⟨z,o',frzs c _ _ hf⟩
 obtain⟨e,n,ne,nf,d⟩:=I.pin p hp;have kH:p.1∉ch:=λz=>(hU p.1 z).2.2.2 p hp rfl;exact⟨keep p.1 p.2 ne nf kH e n,free p.1 p.2 kH e n,ne,nf,d⟩
def Inv.un(I:Inv X pins σ H s)(u:Un X.fs [] H H' s.heap h')(hok:HOk X.prog X.w H' h'):Inv X pins σ H' {s with heap:=h',toks:=t'}:=by
 obtain⟨m,⟨o,es,ep,ho,r⟩,_⟩:=id I.loc;obtain⟨sl,hL⟩:=u.any ho I.free (by simp)
 exact I.step (g':=s.gens) (d':=s.drawn) (ch:=[]) (λ_ z=>nomatch z) (λb o _ hb _ e n=>u.keep b o e n hb (by simp)) (λb o _ hb _ e n=>u.slot b o e n hb (by simp)) (λb o _ e n=>u.free b o e n (by simp)) (λb o _ e=>u.there b o e (by simp)) u.tups u.frzs u.tbls (λm' hm=>by
  obtain⟨o',es',ep',gY,r'⟩:=hm;rw[ho] at gY;cases gY
  exact⟨_,es',ep',hL,r'⟩) hok I.bare
def Inv.call(I:Inv X pins σ H s)(u:Un (frs X.stack) ch H H' s.heap h')(hok:HOk X.prog X.w H' h')(hg:AllBare g')
  (hU:∀b∈ch,(b∈X.ex\/X.s₀.heap.objs.size<=b)/\b≠X.env.locals/\(∀x c,X.env.cells.lookup x=dB c->c≠b)/\∀p∈X.pn++pins,p.1≠b):
  Inv X pins σ H' {s with heap:=h',gens:=g',drawn:=d',toks:=t'}:=by
 obtain⟨m,⟨o,es,ep,ho,r⟩,_⟩:=id I.loc;obtain⟨sl,hL⟩:=u.any ho I.free λz=>(hU _ z).2.1 rfl
 exact I.step (ch:=ch) hU (λb o hL hb hc e n=>u.keep b o e n (λz=>(Bi.mp (I.stkSub b z)).elim hL hb) hc) (λb o _ _ hc e n=>u.any e n hc) (λb o hc e n=>u.free b o e n hc) (λb o hc e=>u.there b o e hc) u.tups u.frzs u.tbls (λm' hm=>by
  obtain⟨o',es',ep',gY,r'⟩:=hm;rw[ho] at gY;cases gY
  exact⟨_,es',ep',hL,r'⟩) hok hg
def Inv.turned(I:Inv X pins σ H s)(k:∀b o,b≠it->s.heap.get? b=dB o->h'.get? b=dB o)(hn:H it=fC)(hL:it≠X.env.locals)
  (h1:it∈X.ex\/X.s₀.heap.objs.size<=it) (h2:∀x c,X.env.cells.lookup x=dB c->c≠it) (h3:∀p∈X.pn++pins,p.1≠it):Inv X pins σ H {s with heap:=h',toks:=t'}:=by
 have g9:∀b u,H b=dB u->b≠it:=λb u e z=>by rw[z,hn] at e;cases e
 refine I.step (g':=s.gens) (d':=s.drawn) (ch:=[it]) (λb hb=> ?_) (λb o _ _ hc e _=>k b o (λz=>hc (by simp[z])) e) (λb o _ _ hc e _=>⟨o.slots,k b o (λz=>hc (by simp[z])) e⟩) (λ_ _ _ _ n=>n)
  (λb o hc e=>⟨o,k b o (λz=>hc (by simp[z])) e⟩) (λ_ _ e=>e) (λ_ _ _ e=>e) (λb ps e=>⟨#[],by rw[e];simp⟩) (λm hm=> ?_) (λb u e=> ?_) I.bare
 .have e:b=it:=by simpa using hb
  subst e;exact⟨h1,hL,h2,h3⟩
 .obtain⟨o,es,ep,ho,r⟩:=hm;exact⟨o,es,ep,k _ o (BM hL) ho,r⟩
 refine (I.hok b u e).stay (λc v hc q=>k c v ?_ q) (λ_ q=>q) λ_ _ q=>q;rcases hc with z|z;rw[z];exact g9 b u e;exact g9 c _ z
def Inv.tok(I:Inv X pins σ H s)(t:Nat):Inv X pins σ H {s with toks:=t}:=I.un (h':=s.heap) (t':=t) Un.refl I.hok
def Inv.kept(I:Inv X pins σ H s)(k:∀b u,s.heap.get? b=dB u->h'.get? b=dB u):Inv X pins σ H {s with heap:=h',toks:=t'}:=I.un (Un.kept k) (I.hok.kept k)
def Inv.laid{a:qo}(I:Inv X pins σ H s)(k:∀b u,s.heap.get? b=dB u->h'.get? b=dB u)(hp:s.heap.objs.size<=a)(new:yz X.prog X.w (upd H a o) h' a o):
  Inv X pins σ (upd H a o) {s with heap:=h',toks:=t'}:=I.un (Un.laid k hp (I.hok.fresh hp)) (I.hok.laid k hp new)
def Inv.write(I:Inv X pins σ H s)(mu:Mut (H x))(he:e=x\/H e=dB (.own x))(k:∀b u,b≠e->s.heap.get? b=dB u->h'.get? b=dB u)(j8:∃u,h'.get? e=dB u)
  (new:yz X.prog X.w (upd H x o) h' x o):Inv X pins σ (upd H x o) {s with heap:=h',toks:=t'}:=I.un (Un.write mu he k j8) (I.hok.write mu he k j8 new)
def Inv.weak(I:Inv X pins σ H s)(hl:σ'.length=σ.length)(w:∀(i:Nat) v,σ'[i]? =dB (dB v)->σ[i]? =dB (dB v)):Inv X pins σ' H s:=
 ⟨I.ok,I.os,I.bare,I.base,let ⟨m,hn,gj⟩:=I.loc;⟨m,hn,λi x v e1 e2 e3=>gj i x v e1 (w i v e2) e3⟩,I.cell,I.free,I.freeC,I.pin,I.hok,hl.trans I.len⟩
def Inv.pins_of(I:Inv X pins σ H s)(h:∀p∈pins',s.heap.get? p.1=dB p.2/\H p.1=fC/\p.1≠X.env.locals/\p.1∉X.fs/\∀v,p.2.data≠ .cell v):Inv X pins' σ H s:=
 ⟨I.ok,I.os,I.bare,I.base,I.loc,I.cell,I.free,I.freeC,λp hp=>(Bf.mp hp).elim (λz=>I.pin p (Dl _ z)) (h p),I.hok,I.len⟩
def zdD{N:n8 Str}(hN:N.Nodup){i j:Nat}{x:Str}(a:N[i]? =dB x)(b:N[j]? =dB x):i=j:=by
 obtain⟨h1,e1⟩:=AQ.mp a;obtain⟨h2,e2⟩:=AQ.mp b;exact(CK hN).mp (e1.trans e2.symm)
def zbD{A:Around}{E:pW->pX->Prop}{Q:Unit->pX->Prop}(I:Inv X pins σ H s)(hN:X.N.Nodup)(hi:X.N[i]? =dB x)(hx:Loc X.env.scope x)(r:zE v u)
  (h:∀s',Inv X pins (σ.set i (dB v)) H s'->(∃a,Heap.SameBut a s.heap s'.heap/\(a=X.env.locals\/X.env.cells.lookup x=dB a))->Q () s') (hf:X.fn x=fN\/X.env.scope.names.lookup x=dB .local:=by walk_at "q1"):wpAny M A (storeName X.env x u) Q E s:=by
 obtain⟨m,hn,hl⟩:=id I.loc;have pw:(X.env.scope.kind== .class||(X.env.scope.kind== .module&&X.env.locals !=X.env.globals))=kb:=by rw[I.ok.kind];rfl
 have hiσ:i<σ.length:=by rw[I.len];exact(AQ.mp hi).1
 have cne:=I.cne;have tracked:∀{a:qo} {h':Heap},(∃o,s.heap.get? a=dB o/\H a=fC)->Heap.SameBut a s.heap h'->HOk X.prog X.w H h':=λ{a h'} ha hs b ob e=>by
  obtain⟨_,_,j7⟩:=ha;refine(I.hok b ob e).stay (λc w' hc q=>(hs.2 c ?_).trans q) (λ_ q=>q) λ_ _ q=>q;rintro rfl;rcases hc with rfl|hc;rw[j7] at e;cases e;rw[j7] at hc;cases hc
 rcases hx with hk|hk
 .refine wpAny_storeName_local hk hn (λh' tT hs=> ?_) pw;obtain⟨oL,_,_,il,_⟩:=id hn;refine h _ ⟨I.ok,I.os,I.bare,⟨λb o e n hb hx=> ?_,λb o e n hb hx=> ?_,I.base.free,λb o e hx=> ?_,I.base.tups,I.base.frzs,I.base.tbls⟩,⟨_,tT,λj y v' e1 e2 e3=> ?_⟩,λy c e=> ?_,I.free,I.freeC,λp hp=> ?_,tracked ⟨oL,il,I.free⟩ hs,by simpa using I.len⟩ ⟨_,hs,.inl rfl⟩;exact (hs.2 b (Bj (B3 (Heap.lt_size e) I.ok.above))).trans (I.base.keep b o e n hb hx);obtain⟨sl,e1⟩:=I.base.slot b o e n hb hx;exact⟨sl,(hs.2 b (Bj (B3 (Heap.lt_size e) I.ok.above))).trans e1⟩;obtain⟨o',e1⟩:=I.base.there b o e hx;exact⟨o',(hs.2 b (Bj (B3 (Heap.lt_size e) I.ok.above))).trans e1⟩
  .by_cases hj:j=i;subst hj;rw[hi] at e1;cases e1;rw[G5 hiσ] at e2;cases e2;exact⟨u,r,.inl ⟨hk,by simp⟩⟩
   rw[EJ (BM hj)] at e2;obtain⟨u',r',q⟩:=hl j y v' e1 e2 e3;refine⟨u',r',?_⟩;rcases q with⟨k,e⟩|⟨k,c,e,z⟩
   .refine .inl ⟨k,?_⟩;have:y≠x:=λe=>hj (zdD hN e1 (e ▸ hi));simp[this,e]
   exact .inr ⟨k,c,e,z.sameBut hs (cne y c e)⟩
  .obtain⟨w',z⟩:=I.cell y c e;exact⟨w',z.sameBut hs (cne y c e)⟩
  obtain⟨e,n,ne,nf,d⟩:=I.pin p hp;exact⟨(hs.2 p.1 ne).trans e,n,ne,nf,d⟩
 have gP:X.fn x=fN:=by
  rcases hf with z|z;exact z;rw[z] at hk;cases hk
 obtain⟨c,hc⟩:=I.ok.has x (.inl hk);have dP:H c=fC:=(I.freeC x c hc).elim (λz=>z) λz=>by rw[gP] at z;cases z.1
 obtain⟨w',z⟩:=I.cell x c hc;refine wpAny_storeName_cell I.ok.kind hk hc z (λh' eK hs=> ?_);obtain⟨oc,mJ,oB⟩:=id z;refine h {s with heap:=h'} ⟨I.ok,I.os,I.bare,⟨λb o e n hb hx=> ?_,λb o e n hb hx=> ?_,I.base.free,λb o e hx=> ?_,I.base.tups,I.base.frzs,I.base.tbls⟩,⟨m,hn.sameBut hs (BM (cne x c hc)),λj y v' e1 e2 e3=> ?_⟩,λy c' e=> ?_,I.free,I.freeC,λp hp=> ?_,tracked ⟨oc,mJ,dP⟩ hs,by simpa using I.len⟩ ⟨c,hs,.inr hc⟩;exact (hs.2 b (Bj (B3 (Heap.lt_size e) (I.ok.cab x c (.inl gP) hc)))).trans (I.base.keep b o e n hb hx);obtain⟨sl,e1⟩:=I.base.slot b o e n hb hx;exact⟨sl,(hs.2 b (Bj (B3 (Heap.lt_size e) (I.ok.cab x c (.inl gP) hc)))).trans e1⟩;obtain⟨o',e1⟩:=I.base.there b o e hx;exact⟨o',(hs.2 b (Bj (B3 (Heap.lt_size e) (I.ok.cab x c (.inl gP) hc)))).trans e1⟩
 .by_cases hj:j=i;subst hj;rw[hi] at e1;cases e1;rw[G5 hiσ] at e2;cases e2;exact⟨u,r,.inr ⟨.inl hk,c,hc,eK⟩⟩
  rw[EJ (BM hj)] at e2;obtain⟨u',r',q⟩:=hl j y v' e1 e2 e3;refine⟨u',r',?_⟩;rcases q with q|⟨k,c',e,z'⟩
  .exact .inl q
  refine .inr ⟨k,c',e,z'.sameBut hs ?_⟩;rintro rfl;exact hj (zdD hN e1 (I.ok.inj _ _ _ e hc ▸ hi))
 .by_cases rM:c'=c;subst rM;exact⟨_,eK⟩;obtain⟨w2,z2⟩:=I.cell y c' e;exact⟨w2,z2.sameBut hs rM⟩
 obtain⟨e,n,ne,nf,d⟩:=I.pin p hp;refine⟨(hs.2 p.1 ?_).trans e,n,ne,nf,d⟩;intro q;rw[q,mJ] at e;have q':oc=p.2:=C0 e;exact d w' (by rw[<-q'];exact oB)
def Vw{A:Around}{E:pW->pX->Prop}{Q:Unit->pX->Prop}(I:Inv X pins σ H s)(hN:X.N.Nodup)(hi:X.N[i]? =dB x)(hx:Loc X.env.scope x)(r:zE v u)
  (h:∀s',Inv X pins (σ.set i (dB v)) H s'->Q () s') (hf:X.fn x=fN\/X.env.scope.names.lookup x=dB .local:=by walk_at "q1"):wpAny M A (storeName X.env x u) Q E s:=
 zbD I hN hi hx r (λs' I' _=>h s' I') hf
def Inv.call'(I:Inv X pins σ H s)(ho:s'.os=s.os)(u:Un (frs X.stack) ch H H' s.heap s'.heap)(hok:HOk X.prog X.w H' s'.heap)(hg:AllBare s'.gens)
  (hU:∀b∈ch,(b∈X.ex\/X.s₀.heap.objs.size<=b)/\b≠X.env.locals/\(∀x c,X.env.cells.lookup x=dB c->c≠b)/\∀p∈X.pn++pins,p.1≠b):Inv X pins σ H' s':=by
 obtain⟨h',g',d',t',o'⟩:=s';have e:o'=s.os:=ho;subst e;exact I.call (g':=g') (t':=t') (d':=d') u hok hg hU
end
abbrev XK:=pW->pU qo->Hp->Prop
abbrev St:=n8 (pU V)
variable{prog:PySem.Program}{A:PySem.Around}{E:PySem.Value->PySem.Shared->Prop}{X:L2.Cx}{K:uk}{pins:n8 (PySem.Addr×PySem.Obj)}{σ:L2.St}{H:L2.Hp}{s:PySem.Shared}{Q:PySem.Value->PySem.Shared->Prop}
abbrev VK:=V->Hp->Prop
abbrev TE:=St->Hp->VK->Prop
abbrev TT:=St->Hp->(Bool->Hp->Prop)->Prop
abbrev TA:=St->Hp->(n8 V->Hp->Prop)->Prop
structure Vx where
 nx:St->Hp->Prop
 rt:VK
 bk:St->Hp->Prop:=λ_ _=>False
 ct:St->Hp->Prop:=λ_ _=>False
abbrev TS:=Vx->St->Hp->Prop
def EP(X:Cx)(pins:n8 (qo×Obj))(σ:St)(Q:VK)(u:pW)(s':pX):Prop:=∃v H',Inv X pins σ H' s'/\zE v u/\Q v H'
def TP(X:Cx)(pins:n8 (qo×Obj))(σ:St)(Q:Bool->Hp->Prop)(b:Bool)(s':pX):Prop:=∃H',Inv X pins σ H' s'/\Q b H'
def AP(X:Cx)(pins:n8 (qo×Obj))(σ:St)(Q:n8 V->Hp->Prop)(us:n8 pW)(s':pX):Prop:=∃vs H',Inv X pins σ H' s'/\zK vs us/\Q vs H'
def SP(X:Cx)(pins:n8 (qo×Obj))(D:Vx)(f:Flow)(s':pX):Prop:=
 match f with
 | .next=>∃σ' H',Inv X pins σ' H' s'/\D.nx σ' H'
 | .brk=>∃σ' H',Inv X pins σ' H' s'/\D.bk σ' H'
 | .cont=>∃σ' H',Inv X pins σ' H' s'/\D.ct σ' H'
 | .ret u=>∃v σ' H',Inv X pins σ' H' s'/\zE v u/\D.rt v H'
def PE(X:Cx)(e:Expr)(t:TE):Prop:=
 ∀(pins:n8 (qo×Obj)) (s:pX) (σ:St) (H:Hp) (Q:VK),Inv X pins σ H s->t σ H Q->wpAny (model X.prog X.w) X.A (eval e X.env) (EP X pins σ Q) X.xe s
def PT(X:Cx)(e:Expr)(t:TT):Prop:=
 ∀(pins:n8 (qo×Obj)) (s:pX) (σ:St) (H:Hp) (Q:Bool->Hp->Prop),Inv X pins σ H s->t σ H Q->wpAny (model X.prog X.w) X.A (isTrue e X.env (eval e X.env)) (TP X pins σ Q) X.xe s
def PW(X:Cx)(e:Expr)(t:TT):Prop:=
 ∀(whole:Sem pW) (pins:n8 (qo×Obj)) (s:pX) (σ:St) (H:Hp) (Q:Bool->Hp->Prop),Inv X pins σ H s->t σ H Q->wpAny (model X.prog X.w) X.A (isTrue e X.env whole) (TP X pins σ Q) X.xe s
def PW.pt(h:PW X e t):PT X e t:=h _
def PA(X:Cx)(es:n8 Expr)(t:TA):Prop:=
 ∀(pos:Pos) (pins:n8 (qo×Obj)) (s:pX) (σ:St) (H:Hp) (Q:n8 V->Hp->Prop),Inv X pins σ H s->t σ H Q->wpAny (model X.prog X.w) X.A (spliced (backTo pos (starEach es X.env))) (AP X pins σ Q) X.xe s
def PS(X:Cx)(st:Stmt)(t:TS):Prop:=
 ∀(pins:n8 (qo×Obj)) (s:pX) (σ:St) (H:Hp) (D:Vx),Inv X pins σ H s->t D σ H->wpAny (model X.prog X.w) X.A (exec st X.env) (SP X pins D) X.xe s
def PSs(X:Cx)(st:n8 Stmt)(t:TS):Prop:=
 ∀(pins:n8 (qo×Obj)) (s:pX) (σ:St) (H:Hp) (D:Vx),Inv X pins σ H s->t D σ H->wpAny (model X.prog X.w) X.A (execs st X.env) (SP X pins D) X.xe s
def thn{α:Type}{t:Sem α}{Q Q':α->pX->Prop}(h:wpAny M A t Q E s)(hQ:∀a s,Q a s->Q' a s):wpAny M A t Q' E s:=wpAny_mono h hQ λ_ _ x=>x
section
def bin(ha:PE X a ta)(hb:PE X b tb){R:V->V->Hp->Prop}(I:Inv X pins σ H s)(h:ta σ H λx H1=>tb σ H1 λy H2=>R x y H2)
  {α:Type} {Q:α->pX->Prop} {f:pW->pW->Sem α}
  (hf:∀v u s2 x y H2,Inv X pins σ H2 s2->zE x v->zE y u->R x y H2->wpAny (model X.prog X.w) X.A (f v u) Q X.xe s2):
  wpAny (model X.prog X.w) X.A (eval a X.env) (λv s₁=>wpAny (model X.prog X.w) X.A (eval b X.env) (λu s₂=>wpAny (model X.prog X.w) X.A (f v u) Q X.xe s₂) X.xe s₁) X.xe s:=by
 refine thn (ha pins s σ H _ I h) ?_;rintro v s1 ⟨x,H1,I1,r1,q1⟩;refine thn (hb pins s1 σ H1 _ I1 q1) ?_;rintro u s2 ⟨y,H2,I2,r2,q2⟩;exact hf v u s2 x y H2 I2 r1 r2 q2
def znG(i:Nat):TE:=λσ H Q=>∃v,σ[i]? =dB (dB v)/\Q v H
def tC(v:V):TE:=λ_ H Q=>Q v H
def znH{i:Nat}{x:Str}{pos:Pos}(hN:X.N[i]? =dB x)(hv:Vis X.env.scope x)(hd:(x==("__debug__":Str))=kb:=by decide)(cZ:(x==("__classdict__":Str))=kb:=by decide):PE X (.Name x pos) (znG i):=by
 intro pins s σ H Q I h;obtain⟨v,e,h⟩:=h;obtain⟨m,hn,hl⟩:=I.loc;obtain⟨u,r,l⟩:=hl i x v hN e hv;have fin:EP X pins σ Q u s:=⟨v,H,I,r,h⟩;rcases l with⟨hk,hm⟩|⟨hk,c,hc,ja⟩
 .exact wpAny_Name (wpAny_loadName_local I.ok.kind hk hn hm fin) hd
 rcases hk with hk|hk;exact wpAny_Name (wpAny_loadName_cell I.ok.kind hk hc ja fin) hd;exact wpAny_Name (wpAny_loadName_free I.ok.kind hk hc ja fin cZ) hd
def zg{i j pos}:PE X (.Constant (.int i) j pos) (tC (.int i)):=λ_ _ _ H _ I h=>wpAny_Constant_int ⟨.int i,H,I.tok _,⟨_,rfl⟩,h⟩
def Xp{b j pos}:PE X (.Constant (.bool b) j pos) (tC (.bl b)):=λ_ _ _ H _ I h=>Constant_bool ⟨.bl b,H,I,rfl,h⟩
def YA{j pos}:PE X (.Constant .none j pos) (tC .non):=λ_ _ _ H _ I h=>Constant_none ⟨.non,H,I,rfl,h⟩
def Xw{x j pos}:PE X (.Constant (.str x) j pos) (tC (.str x)):=λ_ _ _ H _ I h=>Calls.Constant_str ⟨.str x,H,I.tok _,⟨_,rfl⟩,h⟩
def Gl(X:Cx)(x:Str):Prop:=X.env.kindOf x=dB .globalImplicit
def zcr(I:Inv X pins σ H s)(hg:Gl X x)(hm:X.mg x=dB u)(h:Q u s)
  (hd:(x==("__debug__":Str))=kb:=by decide):wpAny (model X.prog X.w) X.A (eval (.Name x pos) X.env) Q E s:=
 Calls.Name_function_global I.ok.kind hg (Calls.loadGlobal_global (by rw[I.ok.glob];exact I.mod.glob.keeps I.bk) hm h) hd
def vq{x:Str}{u:pW}{pos:Pos}(I:Inv X pins σ H s)(hg:Gl X x)(hm:X.mg x=fC)(hv:bootBuiltins x=dB u)(h:Q u s)
  (hn:x≠"__name__":=by decide) (hd:(x==("__debug__":Str))=kb:=by decide):wpAny (model X.prog X.w) X.A (eval (.Name x pos) X.env) Q E s:=by
 obtain⟨mb,h1,h2⟩:=I.mod.blt;exact Calls.Name_function_global I.ok.kind hg (Calls.loadGlobal_builtin (by rw[I.ok.glob];exact I.mod.glob.keeps I.bk) hm (by rw[I.ok.blt];exact h1.keeps I.bk) ((h2 x hn).trans hv) h) hd
def YB(hg:Gl X x)(hm:X.mg x=dB u)(r:zE v u)(hd:(x==("__debug__":Str))=kb:=by decide):PE X (.Name x pos) (tC v):=
 λ_ _ _ H _ I h=>zcr I hg hm ⟨v,H,I,r,h⟩ hd
def Zz{x:Str}{v:V}{u:pW}{pos:Pos}(hg:Gl X x)(hm:X.mg x=fC)(hv:bootBuiltins x=dB u)(r:zE v u)(hn:x≠"__name__":=by decide)(hd:(x==("__debug__":Str))=kb:=by decide):PE X (.Name x pos) (tC v):=
 λ_ _ _ H _ I h=>vq I hg hm hv ⟨v,H,I,r,h⟩ hn hd
def t2I(ta tb:TE)(k:Int->Int->Hp->Prop):St->Hp->Prop:=λσ H=>ta σ H λx H1=>tb σ H1 λy H2=>∃i j,x= .int i/\y= .int j/\k i j H2
def PC(X:Cx)(op:CmpOp)(a b:Expr)(t:TE):Prop:=
 ∀(pins:n8 (qo×Obj)) (s:pX) (σ:St) (H:Hp) (Q:VK),Inv X pins σ H s->t σ H Q->
  wpAny (model X.prog X.w) X.A (eval a X.env) (λv s₁=>wpAny (model X.prog X.w) X.A (eval b X.env) (λu s₂=>wpAny (model X.prog X.w) X.A (compareOp op v u) (EP X pins σ Q) X.xe s₂) X.xe s₁) X.xe s
def zdE(b:Expr)(h:op≠ .In)(h2:op≠ .NotIn):behindInMarks op b=kb:=by
 have e1:(op==CmpOp.In)=kb:=by cases op<;>first|rfl|exact absurd rfl h
 have e2:(op==CmpOp.NotIn)=kb:=by cases op<;>first|rfl|exact absurd rfl h2
 cases b<;>first|rfl|(show(_&&(_||_)&&_)=kb;rw[e1,e2];simp)
def zdF(p:Int->Int->Bool)(ta tb:TE):TE:=λσ H Q=>t2I ta tb (λi j H2=>Q (.bl (p i j)) H2) σ H
noncomputable abbrev tLt:TE->TE->TE:=zdF λi j=>decide (i<j)
noncomputable abbrev tLe:TE->TE->TE:=zdF λi j=>decide (i<=j)
noncomputable abbrev tGt:TE->TE->TE:=zdF λi j=>decide (j<i)
noncomputable abbrev tGe:TE->TE->TE:=zdF λi j=>decide (j<=i)
noncomputable abbrev zpd:TE->TE->TE:=zdF λi j=>decide (i=j)
noncomputable abbrev zpe:TE->TE->TE:=zdF λi j=> !decide (i=j)
def zcs{p:Int->Int->Bool}(ha:PE X a ta)(hb:PE X b tb)
  (rule:∀(i j:Int) (t u:Tok) (Q:pW->pX->Prop) (s:pX),Q (.bool (p i j)) s->wpAny (model X.prog X.w) X.A (compareOp op (.int i t) (.int j u)) Q X.xe s):PC X op a b (zdF p ta tb):=by
 intro pins s σ H Q I h;refine bin ha hb I h λv u s2 x y H2 I2 rx ry q=> ?_;obtain⟨i,j,rfl,rfl,q⟩:=q;obtain⟨t,rfl⟩:=rx;obtain⟨t',rfl⟩:=ry;exact rule i j t t' _ s2 ⟨.bl _,H2,I2,rfl,q⟩
def zga(ha:PE X a ta)(hb:PE X b tb):PC X .Lt a b (tLt ta tb):=zcs ha hb λ_ _ _ _ _ _ h=>lt_int h
def Zo(ha:PE X a ta)(hb:PE X b tb):PC X .Gt a b (tGt ta tb):=zcs ha hb λ_ _ _ _ _ _ h=>gt_int h
def Xx(ha:PE X a ta)(hb:PE X b tb):PC X .Eq a b (zpd ta tb):=zcs ha hb λ_ _ _ _ _ _ h=>eq_int (by rw[Gf];exact h)
def vV(ha:PE X a ta)(hb:PE X b tb):PC X .NotEq a b (zpe ta tb):=zcs ha hb λ_ _ _ _ _ _ h=>ne_int (by rw[bne,Gf];exact h)
def zpf(ta:TE):TE:=λσ H Q=>ta σ H λx H1=>Q (.bl (decide (x= .non))) H1
def zmZ(ta:TE):TE:=λσ H Q=>ta σ H λx H1=>Q (.bl (!decide (x= .non))) H1
def zE.none_iff(r:zE x v):(v==Value.none)=decide (x= .non):=by
 cases x with
 |non=>cases r;rfl
 |bl _=>cases r;rfl
 |int _=>obtain⟨t,rfl⟩:=r;rfl
 |str _=>obtain⟨t,rfl⟩:=r;rfl
 |byt _=>obtain⟨t,rfl⟩:=r;rfl
 |flt _=>obtain⟨t,rfl⟩:=r;rfl
 |ref _=>cases r;rfl
 |ty _=>cases r;rfl
def Xy{j pos'}(ha:PE X a ta):PC X .Is a (.Constant .none j pos') (zpf ta):=by
 intro pins s σ H Q I h;refine thn (ha pins s σ H _ I h) ?_;rintro v s1 ⟨x,H1,I1,r1,q1⟩;exact Constant_none (is_none_gen ⟨.bl _,H1,I1,by rw[r1.none_iff];rfl,q1⟩)
def zln{j pos'}(ha:PE X a ta):PC X .IsNot a (.Constant .none j pos') (zmZ ta):=by
 intro pins s σ H Q I h;refine thn (ha pins s σ H _ I h) ?_;rintro v s1 ⟨x,H1,I1,r1,q1⟩;exact Constant_none (isnot_none_gen ⟨.bl _,H1,I1,by rw[r1.none_iff];rfl,q1⟩)
def tB(t:TE):TT:=λσ H Q=>t σ H λx H1=>∃c,x= .bl c/\Q c H1
def zii(h:PC X op a b t)(h1:behindInMarks op b=kb:=by walk_at "!n"):PE X (.Compare a [op] [b] pos) t:=λpins s σ H Q I hw=>wpAny_Compare1 (h pins s σ H Q I hw) h1
def zI(h:PC X op a b t)(h1:behindInMarks op b=kb:=by walk_at "!n"):PT X (.Compare a [op] [b] pos) (tB t):=by
 intro pins s σ H Q I hw;refine wpAny_isTrue_Compare1 (thn (h pins s σ H _ I hw) λv s1 h1=>thn h1 λu s2 h2=>thn h2 ?_) h1;rintro c s3 ⟨x,H1,I1,r1,q1⟩;obtain⟨d,rfl,q⟩:=q1;cases r1;exact wpAny_truthy_bool ⟨H1,I1,q⟩
def wu(h:PE X e t)(he:∀whole,isTrue e X.env whole=(do let v <-whole;standAt e.pos;holding [v] (truthy v)):=by intro _;rfl):PT X e (tB t):=by
 intro pins s σ H Q I hw;refine isTrue_plain (thn (h pins s σ H _ I hw) ?_) (he _);rintro v s1 ⟨x,H1,I1,r1,q1⟩;obtain⟨d,rfl,q⟩:=q1;cases r1;exact wpAny_truthy_bool ⟨H1,I1,q⟩
def zpg(t u:TT):TT:=λσ H Q=>t σ H λc H1=>if c=fN then u σ H1 Q else Q kb H1
def tOr(t u:TT):TT:=λσ H Q=>t σ H λc H1=>if c=fN then Q fN H1 else u σ H1 Q
def zph(t:TT):TT:=λσ H Q=>t σ H λc H1=>Q (!c) H1
def zgb(ha:PT X a tA):PW X (.BoolOp .And [a] pos) tA:=by
 intro wh pins s σ H Q I h;refine isTrue_and (thn (ha pins s σ H Q I h) λc s1 e=> ?_);cases c with
 |true=>exact isTrue_and_nil e
 |false=>exact e
def ZN(ha:PT X a tA):PW X (.BoolOp .Or [a] pos) tA:=by
 intro wh pins s σ H Q I h;refine isTrue_or (thn (ha pins s σ H Q I h) λc s1 e=> ?_);cases c with
 |false=>exact isTrue_or_nil e
 |true=>exact e
def zij(ha:PT X a tA)(hb:PW X (.BoolOp .And (b::rest) pos) tB'):PW X (.BoolOp .And (a::b::rest) pos) (zpg tA tB'):=by
 intro wh pins s σ H Q I h;refine isTrue_and (thn (ha pins s σ H _ I h) ?_);rintro c s1 ⟨H1,I1,q1⟩;cases c with
 |true=>exact hb wh pins s1 σ H1 Q I1 q1
 |false=>exact⟨H1,I1,q1⟩
def Ye(ha:PT X a tA)(hb:PW X (.BoolOp .Or (b::rest) pos) tB'):PW X (.BoolOp .Or (a::b::rest) pos) (tOr tA tB'):=by
 intro wh pins s σ H Q I h;refine isTrue_or (thn (ha pins s σ H _ I h) ?_);rintro c s1 ⟨H1,I1,q1⟩;cases c with
 |true=>exact⟨H1,I1,q1⟩
 |false=>exact hb wh pins s1 σ H1 Q I1 q1
def vW(ha:PT X a tA):PT X (.UnaryOp .Not a pos) (zph tA):=by
 intro pins s σ H Q I h;exact isTrue_not (ha pins s σ H (λc H1=>Q (!c) H1) I h)
def zm0(ta tb:TE):TE:=λσ H Q=>ta σ H λx H1=>∃c,x= .bl c/\if c=fN then tb σ H1 Q else Q (.bl kb) H1
def zm1(ta:TE):TE:=λσ H Q=>ta σ H λx H1=>∃c,x= .bl c/\Q (.bl (!c)) H1
def zeV{op}(h:PE X a t):PE X (.BoolOp op [a] pos) t:=λpins s σ H Q I hw=>BoolOp_one (h pins s σ H Q I hw)
def zeW(ha:PE X a ta)(hb:PE X (.BoolOp .And (b::rest) pos) tb):PE X (.BoolOp .And (a::b::rest) pos) (zm0 ta tb):=by
 intro pins s σ H Q I h;refine BoolOp_and (thn (ha pins s σ H _ I h) ?_);rintro v s1 ⟨x,H1,I1,r1,q1⟩;obtain⟨c,rfl,q1⟩:=q1;cases r1;refine wpAny_truthy_bool ?_;cases c with
 |true=>exact hb pins s1 σ H1 Q I1 q1
 |false=>exact⟨.bl kb,H1,I1,rfl,q1⟩
def znI(ha:PE X a ta):PE X (.UnaryOp .Not a pos) (zm1 ta):=by
 intro pins s σ H Q I h;refine UnaryOp_ (thn (ha pins s σ H _ I h) ?_);rintro v s1 ⟨x,H1,I1,r1,q1⟩;obtain⟨c,rfl,q1⟩:=q1;cases r1;exact not_of (wpAny_truthy_bool ⟨.bl (!c),H1,I1,rfl,q1⟩)
def tIf(t:TT)(ta tb:TE):TE:=λσ H Q=>t σ H λc H1=>if c=fN then ta σ H1 Q else tb σ H1 Q
def Zp(hc:PT X c tA)(ha:PE X a ta)(hb:PE X b tb):PE X (.IfExp c a b pos) (tIf tA ta tb):=by
 intro pins s σ H Q I h;refine wpAny_IfExp (thn (hc pins s σ H _ I h) ?_);rintro d s1 ⟨H1,I1,q1⟩;cases d with
 |true=>exact ha pins s1 σ H1 Q I1 q1
 |false=>exact hb pins s1 σ H1 Q I1 q1
end
def SqL(K:AO)(H:Hp)(a:qo)(xs:n8 V):Prop:=
 Rd H a (.lst xs)\/
  ∃(o:Obj) (ae:Array pW) (n:Nat),K.lookup a=dB o/\o.cls= .type "list"/\o.dict=fC/\o.data= .seq ae n/\ae.size<=sizeLine/\zK xs ae.toList
def SqT(K:AO)(H:Hp)(a:qo)(xs:n8 V):Prop:=
 Rd H a (.tup xs)\/
  ∃(o:Obj) (ae:Array pW) (n:Nat),K.lookup a=dB o/\o.cls= .type "tuple"/\o.data= .seq ae n/\ae.size<=sizeLine/\zK xs ae.toList
def SqX(K:AO)(H:Hp)(a:qo)(xs:n8 V):Prop:=
 Rd H a (.lst xs)\/∃(ae:Array pW) (n:Nat),K.lookup a=dB {cls:= .type "list",data:= .seq ae n}/\ae.size<=sizeLine/\zK xs ae.toList
def SqX.sql{K:AO}{H:Hp}{a:qo}{xs:n8 V}(h:SqX K H a xs):SqL K H a xs:=by
 rcases h with h|⟨ae,n,hk,hz,r⟩
 .exact .inl h
 exact .inr ⟨_,ae,n,hk,rfl,rfl,rfl,hz,r⟩
def SqX.of{K:AO}(h:H a=dB (.lst xs)):SqX K H a xs:= .inl (.inl h)
noncomputable def zqv:pW->pU V
 | .none=>dB .non
 | .bool b=>dB (.bl b)
 | .int i _=>dB (.int i)
 | .str x _=>dB (.str x)
 | .bytes b _=>dB (.byt b)
 | .float b _=>dB (.flt b)
 | .ref a=>dB (.ref a)
 | .type n=>dB (.ty n)
 |_=>fC
def zE.abs(r:zE x u):zqv u=dB x:=by
 cases x with
 |non=>cases r;rfl
 |bl _=>cases r;rfl
 |int _=>obtain⟨t,rfl⟩:=r;rfl
 |str _=>obtain⟨t,rfl⟩:=r;rfl
 |byt _=>obtain⟨t,rfl⟩:=r;rfl
 |flt _=>obtain⟨t,rfl⟩:=r;rfl
 |ref _=>cases r;rfl
 |ty _=>cases r;rfl
def zE.inj(r:zE x u)(q:zE y u):x=y:=C0 (r.abs.symm.trans q.abs)
def zK.inj(h:zK xs us)(k:zK ys us):xs=ys:=by
 induction h generalizing ys with
 |nil=>cases k;rfl
 |cons r _ ih=>
  cases k with
  |cons r' t'=>rw[r.inj r',ih t']
section
def SqT.of{K:AO}(h:H a=dB (.tup xs)):SqT K H a xs:= .inl (.inl h)
def Inv.list(I:Inv X pins σ H s)(h:SqL X.K H a xs):∃ae:n8 pW,zK xs ae/\PlainL s.heap a ae.toArray/\xs.length<=sizeLine:=by
 rcases h with h|⟨o,ae,n,hk,hc,hd,hs,hz,r⟩
 .obtain⟨z,ae,n,r,e⟩:=h.ok I.hok;exact⟨ae,r,⟨_,n,e,rfl,rfl,rfl⟩,z⟩
 refine⟨ae.toList,r,⟨o,n,I.kIn a o hk,hc,hd,by simpa using hs⟩,?_⟩;have e:=r.length;simp only[Dd] at e;omega
def Inv.tuple(I:Inv X pins σ H s)(h:SqT X.K H a xs):∃ae:n8 pW,zK xs ae/\IsTup s.heap a ae.toArray/\xs.length<=sizeLine:=by
 rcases h with h|⟨o,ae,n,hk,hc,hs,hz,r⟩
 .obtain⟨z,ae,r,p⟩:=h.ok I.hok;exact⟨ae,r,p.tup,z⟩
 refine⟨ae.toList,r,⟨o,I.kIn a o hk,hc,n,by simpa using hs⟩,?_⟩;have e:=r.length;simp only[Dd] at e;omega
def Inv.list_inj(I:Inv X pins σ H s)(h:SqL X.K H a xs)(h':SqL X.K H a ys):xs=ys:=by
 obtain⟨ae,r,⟨o,n,e,_,_,d⟩,_⟩:=I.list h;obtain⟨its',r',⟨o',n',e',_,_,d'⟩,_⟩:=I.list h';rw[e] at e';cases e';rw[d] at d';injection d' with d1 _
 have:ae=its':=by simpa using congrArg Ik d1
 subst this;exact r.inj r'
def Inv.tuple_inj(I:Inv X pins σ H s)(h:SqT X.K H a xs)(h':SqT X.K H a ys):xs=ys:=by
 obtain⟨ae,r,⟨o,e,_,n,d⟩,_⟩:=I.tuple h;obtain⟨its',r',⟨o',e',_,n',d'⟩,_⟩:=I.tuple h';rw[e] at e';cases e';rw[d] at d';injection d' with d1 _
 have:ae=its':=by simpa using congrArg Ik d1
 subst this;exact r.inj r'
end
noncomputable abbrev Cx.wish(X:Cx)(E:pW->pX->Prop):Cx:={X with xe:=E}
noncomputable abbrev Cx.nox(X:Cx):Cx:=X.wish λ_ _=>False
section
variable{st:Stmt}{rest:n8 Stmt}{t u:TS}{e:Expr}{te:TE}{pos:Pos}
def zm2:TS:=λD σ H=>D.nx σ H
def znJ(t u:TS):TS:=λD σ H=>t {D with nx:=u D} σ H
def zH:PSs X [] zm2:=λ_ _ σ H _ I h=>wpAny_execs_nil ⟨σ,H,I,h⟩
def zik(h1:PS X st t)(h2:PSs X rest u):PSs X (st::rest) (znJ t u):=by
 intro pins s σ H D I h;refine wpAny_execs_cons (thn (h1 pins s σ H {D with nx:=u D} I h) λf s1 q=> ?_);cases f with
 |next=>
  obtain⟨σ',H',I',q⟩:=q;exact h2 pins s1 σ' H' D I' q
 |ret v=>exact q
 |brk=>exact q
 |cont=>exact q
def zlo(h1:PS X st t):PSs X [st] t:=by
 intro pins s σ H D I h;refine wpAny_execs_cons (thn (h1 pins s σ H D I h) λf s1 q=> ?_);cases f with
 |next=>exact wpAny_execs_nil q
 |ret v=>exact q
 |brk=>exact q
 |cont=>exact q
def Inv.quiet(I:Inv X pins σ H s):interactive X.env=kb:=by simp[interactive,I.ok.kind]
def zm3(te:TE):TS:=λD σ H=>te σ H λ_ H1=>D.nx σ H1
def Zh(he:PE X e te)(hs:swapsWith e fC pos.line X.env=pure kb:=by rfl):PS X (.Expr e pos) (zm3 te):=by
 intro pins s σ H D I h;refine wpAny_Expr_any (thn (he pins s σ H _ I h) ?_) I.quiet hs;rintro v s1 ⟨x,H1,I1,r1,q1⟩;exact⟨σ,H1,I1,q1⟩
def zpi(te:TE):TS:=λD σ H=>te σ H D.rt
def znK(he:PE X e te):PS X (.Return (dB e) pos) (zpi te):=by
 intro pins s σ H D I h;refine wpAny_Return_some (thn (he pins s σ H _ I h) ?_);rintro v s1 ⟨x,H1,I1,r1,q1⟩;exact⟨x,σ,H1,I1,r1,q1⟩
def zpj(c:TT)(t u:TS):TS:=λD σ H=>c σ H λb H1=>if b=fN then t D σ H1 else u D σ H1
def yo(hc:PT X c tc)(ha:PSs X a t)(hb:PSs X b u):PS X (.If c a b pos) (zpj tc t u):=by
 intro pins s σ H D I h;refine wpAny_If (thn (hc pins s σ H _ I h) ?_);rintro d s1 ⟨H1,I1,q1⟩;cases d with
 |true=>exact ha pins s1 σ H1 D I1 q1
 |false=>exact hb pins s1 σ H1 D I1 q1
end
abbrev TG:=V->St->Hp->(St->Hp->Prop)->Prop
abbrev TGs:=n8 V->St->Hp->(St->Hp->Prop)->Prop
def PG(X:Cx)(target:Expr)(t:TG):Prop:=
 ∀(pins:n8 (qo×Obj)) (s:pX) (σ:St) (H:Hp) (v:V) (u:pW) (Q:St->Hp->Prop),Inv X pins σ H s->zE v u->t v σ H Q->
  wpAny (model X.prog X.w) X.A (assign target X.env u) (λ_ s'=>∃σ' H',Inv X pins σ' H' s'/\Q σ' H') X.xe s
def PGs(X:Cx)(ts:n8 Expr)(t:TGs):Prop:=
 ∀(pins:n8 (qo×Obj)) (s:pX) (σ:St) (H:Hp) (vs:n8 V) (us:n8 pW) (Q:St->Hp->Prop),Inv X pins σ H s->zK vs us->t vs σ H Q->
  wpAny (model X.prog X.w) X.A (assignInOrder ((assignEach ts X.env).map (·.2)) us) (λ_ s'=>∃σ' H',Inv X pins σ' H' s'/\Q σ' H') X.xe s
abbrev znL:=V->V->V->Hp->(Hp->Prop)->Prop
def zpk(X:Cx)(t:znL):Prop:=
 ∀(pins:n8 (qo×Obj)) (s:pX) (σ:St) (H:Hp) (o i v:V) (ov iv u:pW) (Q:Hp->Prop),Inv X pins σ H s->zE o ov->zE i iv->zE v u->t o i v H Q->
  wpAny (model X.prog X.w) X.A (setItem ov iv u) (λ_ s'=>∃H',Inv X pins σ H' s'/\Q H') X.xe s
abbrev TIp:=V->V->Hp->VK->Prop
section
variable{pos:Pos}
def zbE(i:Nat):TG:=λv σ H Q=>Q (σ.set i (dB v)) H
def zgc(hN:X.N.Nodup)(hi:X.N[i]? =dB x)(hx:Loc X.env.scope x)(hf:X.fn x=fN\/X.env.scope.names.lookup x=dB .local:=by walk_at "q1"):PG X (.Name x pos) (zbE i):=by
 intro pins s σ H v u Q I r h;exact wpAny_assign_Name (Vw I hN hi hx r (λs' I'=>⟨_,H,I',h⟩) hf)
def znM:TGs:=λvs σ H Q=>vs=[]/\Q σ H
def zil(t:TG)(u:TGs):TGs:=λvs σ H Q=>∃v r,vs=v::r/\t v σ H λσ' H'=>u r σ' H' Q
def yZ:PGs X [] znM:=by
 intro pins s σ H vs us Q I r h;obtain⟨e,h⟩:=h;subst e;cases r;exact assignInOrder_nil ⟨σ,H,I,h⟩
def zF(h1:PG X e t)(h2:PGs X es u)
  (hs:(assignEach (e::es) X.env).map (·.2)=assign e X.env::(assignEach es X.env).map (·.2):=by rfl):PGs X (e::es) (zil t u):=by
 intro pins s σ H vs us Q I r h;obtain⟨v,vr,e1,h⟩:=h;subst e1;cases r with
 |cons r rr=>
  rw[hs];refine assignInOrder_cons (thn (h1 pins s σ H _ _ _ I r h) ?_);rintro _ s1 ⟨σ1,H1,I1,q1⟩;exact h2 pins s1 σ1 H1 _ _ Q I1 rr q1
def zlp(K:AO)(n:Nat)(t:TGs):TG:=λv σ H Q=>∃a xs,v= .ref a/\SqT K H a xs/\xs.length=n/\t xs σ H Q
def znN{es:n8 Expr}{k:Nat}{t:TGs}{n:Nat}(hc:X.calm=fN)(h:PGs X es t)
  (hn:(assignEach es X.env).length=n:=by rfl) (dW:(assignEach es X.env).findIdx? (·.1)=fC:=by rfl):PG X (.Tuple es k pos) (zlp X.K n t):=by
 intro pins s σ H v u Q I r hw;obtain⟨a,xs,e1,hq,hl,hw⟩:=hw;subst e1;cases r;obtain⟨ae,rv,ht,hz⟩:=I.tuple hq;refine assign_Tuple_tuple (I.ok.hd hc) ht (by simp[hn,<-hl,rv.length]) dW λh' hx=> ?_;have I1:Inv X pins σ H {s with heap:=h'}:=I.kept (t':=s.toks) λb o e=>hx b o (Bj (Heap.lt_size e)) e;exact h pins _ σ H xs _ Q I1 (by simpa using rv) hw
def zpl(to ti:TE)(t:znL):TG:=λv σ H Q=>to σ H λo H1=>ti σ H1 λi H2=>t o i v H2 λH3=>Q σ H3
def Uk(ho:PE X o to)(hi:PE X i ti)(hs:zpk X t)
  (ha:∀v,assign (.Subscript o i pos) X.env v=(do
   let ov <-holding [v] (eval o X.env)
   let iv <-holding [v,ov] (eval i X.env)
   standAt pos
   holding [v,ov,iv] (setItem ov iv v)
   release [v,ov,iv] []):=by intro _;rfl):PG X (.Subscript o i pos) (zpl to ti t):=by
 intro pins s σ H v u Q I r h;rw[ha];refine wpAny_bind (wpAny_holding (thn (ho pins s σ H _ I h) ?_));rintro ov s1 ⟨x,H1,I1,r1,q1⟩;refine wpAny_bind (wpAny_holding (thn (hi pins s1 σ H1 _ I1 q1) ?_));rintro iv s2 ⟨y,H2,I2,r2,q2⟩;refine wpAny_bind (wpAny_standAt (wpAny_bind (wpAny_holding (thn (hs pins s2 σ H2 x y v ov iv u _ I2 r1 r2 r q2) ?_))));rintro _ s3 ⟨H3,I3,q3⟩;exact wpAny_release ⟨σ,H3,I3,q3⟩
def znO(te:TE)(g:TG):TS:=λD σ H=>te σ H λx H1=>g x σ H1 D.nx
def Ul(he:PE X e te)(hg:PG X tg g)(hs:swapsWithSole [tg] e pos.line X.env=pure kb:=by rfl)(hw:swappedStores [tg] e X.env=pure fC:=by rfl)
  (h1:(assignEach [tg] X.env).map (·.2)=[assign tg X.env]:=by rfl):PS X (.Assign [tg] e pos) (znO te g):=by
 intro pins s σ H D I h;refine wpAny_Assign_stores (thn (he pins s σ H _ I h) ?_) hs hw;rintro v s1 ⟨x,H1,I1,r1,q1⟩;rw[h1];exact thn (hg pins s1 σ H1 x v _ I1 r1 q1) λ_ s2 q=>q
def zim{i:Nat}{x:Str}{e:Expr}{te:TE}{pos':Pos}(hN:X.N.Nodup)(hi:X.N[i]? =dB x)(hx:Loc X.env.scope x)(he:PE X e te)(hs:swapsWith e (dB (.Name x pos')) pos.line X.env=pure kb:=by rfl)(hf:X.fn x=fN\/X.env.scope.names.lookup x=dB .local:=by walk_at "q1"):
  PS X (.Assign [.Name x pos'] e pos) (znO te (zbE i)):=by
 intro pins s σ H D I h;refine wpAny_Assign_Name (thn (he pins s σ H _ I h) ?_) hs;rintro v s1 ⟨y,H1,I1,r1,q1⟩;exact Vw I1 hN hi hx r1 (λs2 I2=>⟨_,H1,I2,q1⟩) hf
def zpm(i j:Nat)(ta:TA):TS:=λD σ H=>ta σ H λvs H1=>∃v w,vs=[v,w]/\D.nx ((σ.set i (dB v)).set j (dB w)) H1
def znP{kt k2 ni}(hc:X.calm=fN)(hN:X.N.Nodup)(hi:X.N[i]? =dB x)(hj:X.N[j]? =dB y)(h9:i≠j)
  (hx:X.env.scope.names.lookup x=dB .local) (hy:X.env.scope.names.lookup y=dB .local) (ha:PA X [a,b] ta)
  (hw:swappedStores [.Tuple [.Name x px,.Name y py] kt pt] (.Tuple [a,b] k2 ni) X.env=pure (dB [x,y]))
  (hs:swapsWithSole [.Tuple [.Name x px,.Name y py] kt pt] (.Tuple [a,b] k2 ni) pos.line X.env=pure kb:=by rfl):
  PS X (.Assign [.Tuple [.Name x px,.Name y py] kt pt] (.Tuple [a,b] k2 ni) pos) (zpm i j ta):=by
 intro pins s σ H D I h;rw[exec_Assign_arm];refine wpAny_bind (wpAny_standAt ?_);rw[hs];refine wpAny_bind (wpAny_pure ?_);rw[if_neg ∅];refine wpAny_bind (Tuple_ (thn (ha _ pins s σ H _ I h) ?_));rintro us s1 ⟨vs,H1,I1,r1,q1⟩;obtain⟨v,w,e1,q1⟩:=q1;subst e1;obtain⟨u1,u2,rfl,rv,rw'⟩:∃u1 u2,us=[u1,u2]/\zE v u1/\zE w u2:=by
  cases r1 with
  |cons p q=>
   cases q with
   |cons p' q'=>
    cases q';exact⟨_,_,rfl,p,p'⟩
 refine wpAny_newObj_type ?_ (by show 2<=sizeLine;decide);have I2:Inv X pins σ H1 {s1 with heap:=s1.heap.push {cls:= .type "tuple",data:= .seq [u1,u2].toArray}}:=I1.kept (t':=s1.toks) λb o e=>Heap.get?_push_of_some _ e;rw[hw];refine wpAny_bind (wpAny_pure ?_);show wpAny (model X.prog X.w) X.A (do rule "assign.swapped-stores";let items <-unpackItems (.ref s1.heap.objs.size) 2 fC;assignInOrder [λv=>bindName X.env y v,λv=>bindName X.env x v] items.reverse;pure Flow.next) _ _ _;refine wpAny_bind (wpAny_rule (wpAny_bind (unpackItems_tuple (items:= #[u1,u2]) (I.ok.hd hc) (IsTup.new s1.heap _) λh' jt=> ?_)));have I3:=I2.kept (h':=h') (t':=s1.toks) λb o e=>jt b o (Bj (Heap.lt_size e)) e;show wpAny _ _ (assignInOrder [λv=>bindName X.env y v,λv=>bindName X.env x v] [u2,u1]>>=λ_=>pure Flow.next) _ _ _;refine wpAny_bind (assignInOrder_cons (wpAny_bindName (Vw I3 hN hj (.inl hy) rw' (λs2 I4=> ?_) (.inr hy))));refine assignInOrder_cons (wpAny_bindName (Vw I4 hN hi (.inl hx) rv (λs3 I5=>assignInOrder_nil (wpAny_pure ?_)) (.inr hx)));rw[List.set_comm _ _ (BM h9)] at I5;exact⟨_,H1,I5,q1⟩
def zin(c:TT)(tb:TS):TS:=λD σ H=>∃W:Nat->St->Hp->Prop,(∃m,W m σ H)/\∀m σ H,W m σ H->
 c σ H λb H1=>if b=fN then ∃N:St->Hp->Prop,(∀σ' H',N σ' H'->∃m',m'<m/\W m' σ' H')/\tb {D with nx:=N,ct:=N,bk:=D.nx} σ H1 else D.nx σ H1
def Xz(hp:PassesOwn (model X.prog X.w) X.A X.env X.xe)(hc:PT X c tc)(hb:PSs X body tb):PS X (.While c body [] pos) (zin tc tb):=by
 intro pins s σ H D I h;obtain⟨W,⟨m0,w0⟩,turn⟩:=h;refine wpAny_While (codeAny_whileLoop (λn s'=>∃σ' H',Inv X pins σ' H' s'/\W n σ' H') ?_ m0 ⟨σ,H,I,w0⟩);rintro n s1 ⟨σ1,H1,I1,w1⟩;refine wpAny_passesOwn hp (thn (hc pins s1 σ1 H1 _ I1 (turn n σ1 H1 w1)) ?_);rintro b s2 ⟨H2,I2,q2⟩;cases b with
 |true=>
  obtain⟨N,hN,q2⟩:=q2;rw[if_pos rfl];refine wpAny_passesOwn hp (thn (hb pins s2 σ1 H2 _ I2 q2) λf s3 q3=> ?_);cases f with
  |next=>
   obtain⟨σ3,H3,I3,n3⟩:=q3;obtain⟨m',hm,w3⟩:=hN σ3 H3 n3;exact⟨m',hm,σ3,H3,I3,w3⟩
  |cont=>
   obtain⟨σ3,H3,I3,n3⟩:=q3;obtain⟨m',hm,w3⟩:=hN σ3 H3 n3;exact⟨m',hm,σ3,H3,I3,w3⟩
  |brk=>exact q3
  |ret v=>exact q3
 |false=>
  rw[if_neg Bm];exact wpAny_execs_nil ⟨σ1,H2,I2,q2⟩
end
structure It where
 go:Nat->Hp->Prop
 yld:Nat->Hp->V->Hp->Prop
 stop:Nat->Hp->Prop
def Um(X:Cx)(pins:n8 (qo×Obj))(H:Hp)(b:qo):Prop:=
 H b=fC/\b≠X.env.locals/\b∉X.fs/\(b∈X.ex\/X.s₀.heap.objs.size<=b)/\(∀x c,X.env.cells.lookup x=dB c->c≠b)/\∀p∈X.pn++pins,p.1≠b
def Inv.fpOk{b:qo}(I:Inv X pins σ H s)(hb:s.heap.objs.size<=b)(hn:H' b=fC):Um X pins H' b:=by
 refine⟨hn,BE (B3 I.lt hb),I.nofs hb,.inr (AZ I.sz hb),λx c e z=> ?_,λp hp z=> ?_⟩;obtain⟨v,q⟩:=I.cell x c e;exact absurd (B3 q.lt (by rw[z];exact hb)) (Cv _);exact absurd (B3 (Heap.lt_size (I.pin p hp).1) (by rw[z];exact hb)) (Cv _)
structure zdG(P:Program)(w:World)(K:AO)(tg:Expr)(J:It)(fp:n8 qo)(it:qo)(tn:Nat->Heap->Prop):Prop where
 mem:it∈fp
 obj:∀i h,tn i h->∀b∈fp,∃o,h.get? b=dB o/\∀v,o.data≠ .cell v
 keep:∀i h h',tn i h->(∀b∈fp,∀o,h.get? b=dB o->h'.get? b=dB o)->tn i h'
 item:∀(X:Cx),X.prog=P->X.w=w->X.K=K->X.calm=fN->∀(i:Nat) (pins:n8 (qo×Obj)) (s:pX) (σ:St) (H:Hp) (E:pW->pX->Prop),Inv X pins σ H s->(∀b∈fp,Um X pins H b)->tn i s.heap->J.go i H->
  wpAny (model P w) X.A (pyNext (.ref it)) (λr s1=>∃u,r=dB u/\
   wpAny (model P w) X.A (letOwnedTupleGo tg (.ref it) u) (λ_ s2=>∃x H',Inv X pins σ H' s2/\zE x u/\J.yld i H x H'/\tn (i+1) s2.heap/\∀b∈fp,H' b=fC) E s1) E s
 done:∀(X:Cx),X.prog=P->X.w=w->X.K=K->X.calm=fN->∀(i:Nat) (pins:n8 (qo×Obj)) (s:pX) (σ:St) (H:Hp) (E:pW->pX->Prop),Inv X pins σ H s->(∀b∈fp,Um X pins H b)->tn i s.heap->J.stop i H->
  wpAny (model P w) X.A (pyNext (.ref it)) (λr s1=>r=fC/\Inv X pins σ H s1) E s
 self:∀(A:Around) (i:Nat) (s:pX) (Q:pW->pX->Prop) (E:pW->pX->Prop),tn i s.heap->Q (.ref it) s->wpAny (model P w) A (pyIter (.ref it)) Q E s
abbrev TI:=St->Hp->(It->Hp->Prop)->Prop
def PIE(X:Cx)(pins:n8 (qo×Obj))(σ:St)(tg:Expr)(R:It->Hp->Prop)(nJ:pW)(s2:pX):Prop:=
 ∃(it:qo) (fp:n8 qo) (tn:Nat->Heap->Prop) (J:It) (H':Hp),nJ= .ref it/\Inv X pins σ H' s2/\zdG X.prog X.w X.K tg J fp it tn/\tn 0 s2.heap/\(∀b∈fp,Um X pins H' b)/\R J H'
def PI(X:Cx)(tg iter:Expr)(wi:TI):Prop:=
 ∀(pins:n8 (qo×Obj)) (s:pX) (σ:St) (H:Hp) (R:It->Hp->Prop),Inv X pins σ H s->wi σ H R->
  wpAny (model X.prog X.w) X.A (eval iter X.env) (λv s1=>wpAny (model X.prog X.w) X.A (pyIter v) (PIE X pins σ tg R) X.xe s1) X.xe s
def zgd{Q:Unit->pX->Prop}(ho:s.heap.get? it=dB o)(hc:o.cls= .type n)(hd:o.data= .fields vs)
    (hn:["enumerate","zip","dict_itemiterator","dict_reverseitemiterator","odict_iterator","itertools.zip_longest","itertools.pairwise"].contains n=kb) (hQ:Q () s):wpAny M A (letOwnedTupleGo tg (.ref it) u) Q E s:=by
  unfold letOwnedTupleGo;cases tg<;>first
    |exact wpAny_pure hQ
    | (cases u <;> first
        |exact wpAny_pure hQ
        | (refine wpAny_bind (wpAny_load ho ?_)
           rw[hc,hd];show wpAny M A (if (["enumerate","zip","dict_itemiterator","dict_reverseitemiterator","odict_iterator","itertools.zip_longest","itertools.pairwise"].contains n&&vs[0]? ==dB (rawInt _))=fN then _ else _) Q E s;rw[if_neg (by intro h;rw[hn,Bool.false_and] at h;cases h)]
           exact wpAny_pure hQ))
noncomputable def Itl(K:AO)(a:qo):It:=
 ⟨λi H=>∃xs x,SqL K H a xs/\xs[i]? =dB x,λi H x H'=>H'=H/\∀xs,SqL K H a xs->xs[i]? =dB x,λi H=>∃xs,SqL K H a xs/\xs.length<=i⟩
noncomputable def Itt(K:AO)(a:qo):It:=
 ⟨λi H=>∃xs x,SqT K H a xs/\xs[i]? =dB x,λi H x H'=>H'=H/\∀xs,SqT K H a xs->xs[i]? =dB x,λi H=>∃xs,SqT K H a xs/\xs.length<=i⟩
noncomputable def Itr(lo:Int)(n:Nat):It:=⟨λi _=>i<n,λi H x H'=>H'=H/\x= .int (lo+i),λi _=>n<=i⟩
def zbF{P:Program}{K:AO}(a it:qo):zdG P w K tg (Itl K a) [it] it (λi h=>h.IsListIter it a i) where
 mem:=by simp
 obj:=λi h st b hb=>by
  have e:b=it:=by simpa using hb
  subst e;obtain⟨o,e,c,d⟩:=st;exact⟨o,e,λv z=>by rw[d] at z;cases z⟩
 keep:=λi h h' st k=>st.at λo e=>k it (by simp) o e
 item:=by
  walk_at "!b";obtain⟨xs,x,hq,hx⟩:=hg;obtain⟨ae,rv,p,hz⟩:=I.list hq;obtain⟨u,hu,ru⟩:=rv.get hx;obtain⟨f0,f1,f2,f3,f4,f5⟩:=hf it (by simp);refine wpAny_pyNext_list_item st p.isList (x:=u) (by simpa using hu) λh' st' sb=> ?_;have I1:Inv X pins σ H {s with heap:=h'}:=I.turned (t':=s.toks) (λb o hb e=>(sb.2 b hb).trans e) f0 f1 f3 f4 f5;obtain⟨o,e,c,d⟩:=id st';exact⟨u,rfl,zgd (s:={s with heap:=h'}) e c d ∅ ⟨x,H,I1,ru,⟨rfl,λys hy=>by rw[I.list_inj hy hq];exact hx⟩,st',λb hb=>(hf b hb).1⟩⟩
 done:=by
  walk_at "!b";obtain⟨xs,hq,hx⟩:=hg;obtain⟨ae,rv,p,hz⟩:=I.list hq;obtain⟨f0,f1,f2,f3,f4,f5⟩:=hf it (by simp);have hl:=rv.length;exact wpAny_pyNext_list_end (I.ok.hd hc) st p.isList (by simp;omega) λh' eb=>⟨rfl,I.turned (t':=s.toks) (λb o hb e=>eb b o hb e) f0 f1 f3 f4 f5⟩
 self:=λ_ _ _ _ _ st h=>wpAny_pyIter_listiter st h
def zeX{P:Program}{K:AO}(a it:qo):zdG P w K tg (Itt K a) [it] it (λi h=>h.IsTupleIter it a i) where
 mem:=by simp
 obj:=λi h st b hb=>by
  have e:b=it:=by simpa using hb
  subst e;obtain⟨o,e,c,d⟩:=st;exact⟨o,e,λv z=>by rw[d] at z;cases z⟩
 keep:=λi h h' st k=>st.at λo e=>k it (by simp) o e
 item:=by
  walk_at "!b";obtain⟨xs,x,hq,hx⟩:=hg;obtain⟨ae,rv,p,hz⟩:=I.tuple hq;obtain⟨u,hu,ru⟩:=rv.get hx;obtain⟨f0,f1,f2,f3,f4,f5⟩:=hf it (by simp);refine wpAny_pyNext_tuple_item st (show s.heap.IsTuple a ae.toArray from p) (x:=u) (by simpa using hu) λh' st' sb=> ?_;have I1:Inv X pins σ H {s with heap:=h'}:=I.turned (t':=s.toks) (λb o hb e=>(sb.2 b hb).trans e) f0 f1 f3 f4 f5;obtain⟨o,e,c,d⟩:=id st';exact⟨u,rfl,zgd (s:={s with heap:=h'}) e c d ∅ ⟨x,H,I1,ru,⟨rfl,λys hy=>by rw[I.tuple_inj hy hq];exact hx⟩,st',λb hb=>(hf b hb).1⟩⟩
 done:=by
  walk_at "!b";obtain⟨xs,hq,hx⟩:=hg;obtain⟨ae,rv,p,hz⟩:=I.tuple hq;obtain⟨f0,f1,f2,f3,f4,f5⟩:=hf it (by simp);have hl:=rv.length;exact wpAny_pyNext_tuple_end (I.ok.hd hc) st (show s.heap.IsTuple a ae.toArray from p) (by simp;omega) λh' eb=>⟨rfl,I.turned (t':=s.toks) (λb o hb e=>eb b o hb e) f0 f1 f3 f4 f5⟩
 self:=λ_ _ _ _ _ st h=>wpAny_pyIter_tupleiter st h
def zeY{P:Program}{K:AO}(it:qo)(lo:Int)(n:Nat):zdG P w K tg (Itr lo n) [it] it (λi h=>IsRangeIter h it (lo+(i:Nat)*1) ((n:Int)-(i:Nat)) 1) where
 mem:=by simp
 obj:=λi h st b hb=>by
  have e:b=it:=by simpa using hb
  subst e
  exact⟨_,st,λv z=>by
   have z':Data.fields _=Data.cell v:=z
   cases z'⟩
 keep:=λi h h' st k=>k it (by simp) _ st
 item:=by
  walk_at "!b";obtain⟨f0,f1,f2,f3,f4,f5⟩:=hf it (by simp);have W:=Walks.range (prog:=X.prog) (w:=X.w) (I.ok.hd hc) it lo 1 n;refine W.item i s _ _ hg st λv h' tk hv st' kk=> ?_;obtain⟨t,rfl⟩:=hv;have I1:Inv X pins σ H {s with heap:=h',toks:=tk}:=I.turned (λb o hb e=>kk b o (by simpa using hb) e) f0 f1 f3 f4 f5;refine⟨_,rfl,zgd (s:={s with heap:=h',toks:=tk}) (n:="range_iterator") st' rfl rfl ∅ ⟨.int (lo+i),H,I1,⟨t,?_⟩,⟨rfl,rfl⟩,st',λb hb=>(hf b hb).1⟩⟩;rw[DE]
 done:=by
  walk_at "!b";obtain⟨f0,f1,f2,f3,f4,f5⟩:=hf it (by simp);exact wpAny_pyNext_range_end (I.ok.hd hc) st (by have:n<=i:=hg;omega) λh' eb=>⟨rfl,I.turned (t':=s.toks) (λb o hb e=>eb b o hb e) f0 f1 f3 f4 f5⟩
 self:=λ_ _ _ _ _ st h=>wpAny_pyIter_rangeiter st h
section
variable{tg:Expr}
def zio(K:AO)(tl:TE):TI:=λσ H R=>tl σ H λx H1=>∃a,x= .ref a/\(∃xs,SqL K H1 a xs)/\R (Itl K a) H1
def zlq(hl:PE X l tl):PI X tg l (zio X.K tl):=by
 intro pins s σ H R I h;refine thn (hl pins s σ H _ I h) ?_;rintro v s1 ⟨x,H1,I1,r1,q1⟩;obtain⟨a,e,⟨xs,hq⟩,q⟩:=q1;subst e;cases r1;obtain⟨ae,rv,p,hz⟩:=I1.list hq;refine wpAny_pyIter_list p.isList ?_;refine⟨s1.heap.objs.size,[s1.heap.objs.size],_,_,H1,rfl,I1.kept (t':=s1.toks) λb o e=>Heap.get?_push_of_some _ e,zbF a _,⟨_,Heap.get?_push_size _ rfl,rfl,rfl⟩,λb hb=> ?_,q⟩;have e:b=s1.heap.objs.size:=by simpa using hb
 walk_at "!j"
def zdH{R:It->Hp->Prop}{lo hi:Int}{t u v:Tok}{tk:Nat}(I:Inv X pins σ H s)(h1: -(2^62)<=lo)(h2:lo<2^62)(h3: -(2^62)<=hi)(h4:hi<2^62)
  (q:R (Itr lo (hi-lo).toNat) H):wpAny (model X.prog X.w) X.A (pyIter (.ref s.heap.objs.size)) (PIE X pins σ tg R) E {s with heap:=s.heap.push {cls:= .type "range",data:= .fields #[.int lo t,.int hi u,.int 1 v]},toks:=tk}:=by
 refine wpAny_pyIter_range (IsRange.new ..) (small_one h1 h2 h3 h4) ?_;have I1:Inv X pins σ H {s with heap:=s.heap.push {cls:= .type "range",data:= .fields #[.int lo t,.int hi u,.int 1 v]},toks:=tk}:=I.kept λb o e=>Heap.get?_push_of_some _ e
 refine⟨(s.heap.push {cls:= .type "range",data:= .fields #[.int lo t,.int hi u,.int 1 v]}).objs.size,[(s.heap.push {cls:= .type "range",data:= .fields #[.int lo t,.int hi u,.int 1 v]}).objs.size],_,_,H,rfl,
  I1.kept (t':=tk) λb o e=>Heap.get?_push_of_some _ e,zeY _ lo (hi-lo).toNat,?_,λb hb=> ?_,q⟩
 .have e1:lo+((0:Nat):Int)*1=lo:=by simp
  have e2:(((hi-lo).toNat:Nat):Int)-((0:Nat):Int)=Builtin.Range.rangeSize lo hi 1:=by rw[rangeSize_one];split<;>omega
  show IsRangeIter _ _ (lo+((0:Nat):Int)*1) ((((hi-lo).toNat:Nat):Int)-((0:Nat):Int)) 1;rw[e1,e2];exact Heap.get?_push_size _ rfl
 have e:b=(s.heap.push {cls:= .type "range",data:= .fields #[.int lo t,.int hi u,.int 1 v]}).objs.size:=by simpa using hb
 walk_at "!j"
def zm4(ta:TA):TI:=λσ H R=>ta σ H λvs H1=>∃j:Int,vs=[.int j]/\ -(2^62)<=j/\j<2^62/\R (Itr 0 j.toNat) H1
def zm5(ta:TA):TI:=λσ H R=>ta σ H λvs H1=>∃i j:Int,vs=[.int i,.int j]/\(-(2^62)<=i/\i<2^62/\ -(2^62)<=j/\j<2^62)/\R (Itr i (j-i).toNat) H1
def vt(hg:Gl X "range")(hm:X.mg "range"=fC)(ha:PA X [a] ta)(hs:starEach [a] X.env=[(kb,eval a X.env)]:=by rfl):PI X tg (.Call (.Name "range" p) [a] [] pos) (zm4 ta):=by
 intro pins s σ H R I h;refine Call_ (vq I hg hm boot_range (BO (thn (ha pos pins s σ H _ I h) ?_) hs rfl));rintro us s1 ⟨vs,H1,I1,r1,q1⟩;obtain⟨j,e,q1,q2,q⟩:=q1;subst e;cases r1 with
 |cons r rr=>
  cases rr;obtain⟨t,rfl⟩:=r;exact call_range_1 (zdH I1 ⋯ ⋯ q1 q2 (by simpa using q))
def zbG{a b:Expr}{ta:TA}{p pos:Pos}(hg:Gl X "range")(hm:X.mg "range"=fC)(ha:PA X [a,b] ta)(hs:starEach [a,b] X.env=[(kb,eval a X.env),(kb,eval b X.env)]:=by rfl)(dC:starEach [b] X.env=[(kb,eval b X.env)]:=by rfl):
  PI X tg (.Call (.Name "range" p) [a,b] [] pos) (zm5 ta):=by
 intro pins s σ H R I h;refine Call_ (vq I hg hm boot_range (BO (thn (ha pos pins s σ H _ I h) ?_) (by rw[hs,dC]) (by rw[dC];rfl)));rintro us s1 ⟨vs,H1,I1,r1,q1⟩;obtain⟨i,j,e,⟨q1,q2,q3,q4⟩,q⟩:=q1;subst e;cases r1 with
 |cons r rr=>
  cases rr with
  |cons r' rr=>
   cases rr;obtain⟨t,rfl⟩:=r;obtain⟨t',rfl⟩:=r';exact call_range_2 (zdH I1 q1 q2 q3 q4 q)
def zpn(wi:TI)(g:TG)(tb:TS):TS:=λD σ H=>wi σ H λJ H1=>∃W:Nat->Nat->St->Hp->Prop,(∃m,W 0 m σ H1)/\∀i m σ H,W i m σ H->
 (J.stop i H/\D.nx σ H)\/(J.go i H/\∃N:St->Hp->Prop,(∀σ' H',N σ' H'->∃m',m'<m/\W (i+1) m' σ' H')/\∀x H',J.yld i H x H'->g x σ H' λσ2 H2=>tb {D with nx:=N,ct:=N,bk:=D.nx} σ2 H2)
noncomputable def zaf(fp:n8 qo)(h:Heap):n8 (qo×Obj):=fp.filterMap λb=>(h.get? b).map λo=>(b,o)
def YC(hb:b∈fp)(e:h.get? b=dB o):(b,o)∈zaf fp h:=GO.mpr ⟨b,hb,by rw[e];rfl⟩
def zhl(hp:p∈zaf fp h):p.1∈fp/\h.get? p.1=dB p.2:=by
 obtain⟨b,hb,e⟩:=GO.mp hp;cases q:h.get? b with
 |none=>rw[q] at e;cases e
 |some o=>
  rw[q] at e;have e':(b,o)=p:=C0 e;subst e';exact⟨hb,q⟩
def Inv.pinned(I:Inv X pins σ H s)(hf:∀b∈fp,Um X pins H b)(ho:∀b∈fp,∃o,s.heap.get? b=dB o/\∀v,o.data≠ .cell v):Inv X (pins++zaf fp s.heap) σ H s:=
 I.pins_of λp hp=>(Bf.mp hp).elim (λz=>I.pin p (Bn _ z)) λz=>by
  obtain⟨hb,e⟩:=zhl z;obtain⟨f0,f1,f2,_⟩:=hf p.1 hb;obtain⟨o,e',d⟩:=ho p.1 hb;rw[e] at e';cases e';exact⟨e,f0,f1,f2,d⟩
def Inv.unpinned(I:Inv X (pins++pl) σ H s):Inv X pins σ H s:=I.pins_of λp hp=>I.pin p (Bn _ (Dl _ hp))
def znQ(hp:PassesOwn (model X.prog X.w) X.A X.env X.xe)(hc:X.calm=fN)(hi:PI X tg iter wi)(hg:PG X tg g)(hb:PSs X body tb)
  (hs:∀x,foldedSetIterable iter X.env x=pure x:=by intro _;rfl):PS X (.For tg iter body [] pos) (zpn wi g tb):=by
 intro pins s σ H D I h;refine wpAny_For (thn (hi pins s σ H _ I h) λv s1 h1=>thn h1 λnJ s2 h2=> ?_) hs;obtain⟨it,fp,tn,J,H2,e,I2,T,kz,f2,W,⟨m0,w0⟩,turn⟩:=h2;subst e;have stat:∀{H':Hp},(∀b∈fp,H' b=fC)->∀b∈fp,Um X pins H' b:=λhn b hb=>⟨hn b hb,(f2 b hb).2⟩;refine codeAny_forLoop_any (λn s'=>∃i σ' H',Inv X pins σ' H' s'/\tn i s'.heap/\(∀b∈fp,H' b=fC)/\W i n σ' H') ?_ m0 ⟨0,σ,H2,I2,kz,λb hb=>(f2 b hb).1,w0⟩;rintro n s3 ⟨i,σ3,H3,I3,ky,lV,w3⟩;rcases turn i n σ3 H3 w3 with⟨stop,qn⟩|⟨go,N,hN,step⟩
 .refine wpAny_passesOwn hp (thn (T.done X rfl rfl rfl hc i pins s3 σ3 H3 X.xe I3 (stat lV) ky stop) λr s4 ⟨hr,I4⟩=> ?_);subst hr;exact wpAny_execs_nil ⟨σ3,H3,I4,qn⟩
 refine wpAny_passesOwn hp (thn (T.item X rfl rfl rfl hc i pins s3 σ3 H3 X.xe I3 (stat lV) ky go) λr s4 ⟨u,hr,h4⟩=> ?_);subst hr;refine wpAny_passesOwn hp (thn h4 ?_);rintro _ s5 ⟨x,H5,I5,r5,y5,je,pO⟩;have I5':=I5.pinned (stat pO) (T.obj _ _ je);refine wpAny_passesOwn hp (thn (hg _ s5 σ3 H5 x u _ I5' r5 (step x H5 y5)) ?_);rintro _ s6 ⟨σ6,H6,I6,q6⟩;refine wpAny_passesOwn hp (thn (hb _ s6 σ6 H6 _ I6 q6) λf s7 q7=> ?_);have again:∀{σ7:St} {H7:Hp},Inv X (pins++zaf fp s5.heap) σ7 H7 s7->N σ7 H7->∃m,m<n/\∃i σ' H',Inv X pins σ' H' s7/\tn i s7.heap/\(∀b∈fp,H' b=fC)/\W i m σ' H':=λ{σ7 H7} I7 n7=>by
  obtain⟨m',hm,w7⟩:=hN σ7 H7 n7;refine⟨m',hm,i+1,σ7,H7,I7.unpinned,T.keep _ _ _ je λb hb o e=>(I7.pin (b,o) (Bn _ (Bn _ (YC hb e)))).1,λb hb=> ?_,w7⟩;obtain⟨o,e,d⟩:=T.obj _ _ je b hb;exact(I7.pin (b,o) (Bn _ (Bn _ (YC hb e)))).2.1
 cases f with
 |next=>obtain⟨σ7,H7,I7,n7⟩:=q7;exact again I7 n7
 |cont=>obtain⟨σ7,H7,I7,n7⟩:=q7;exact again I7 n7
 |brk=>obtain⟨σ7,H7,I7,q7⟩:=q7;exact⟨σ7,H7,I7.unpinned,q7⟩
 |ret v=>obtain⟨x7,σ7,H7,I7,r7,q7⟩:=q7;exact⟨x7,σ7,H7,I7.unpinned,r7,q7⟩
end
abbrev R2:=V->V->Hp->VK->Prop
def OpR(X:Cx)(f:pW->pW->Sem pW)(r:R2):Prop:=
 ∀(pins:n8 (qo×Obj)) (s:pX) (σ:St) (H:Hp) (x y:V) (v u:pW) (Q:VK),Inv X pins σ H s->zE x v->zE y u->r x y H Q->
  wpAny (model X.prog X.w) X.A (f v u) (EP X pins σ Q) X.xe s
def UnR(X:Cx)(f:pW->Sem pW)(r:V->Hp->VK->Prop):Prop:=
 ∀(pins:n8 (qo×Obj)) (s:pX) (σ:St) (H:Hp) (x:V) (v:pW) (Q:VK),Inv X pins σ H s->zE x v->r x H Q->
  wpAny (model X.prog X.w) X.A (f v) (EP X pins σ Q) X.xe s
def Yf(X:Cx)(f:pW)(r:n8 V->Hp->VK->Prop):Prop:=
 ∀(pins:n8 (qo×Obj)) (s:pX) (σ:St) (H:Hp) (xs:n8 V) (us:n8 pW) (Q:VK),Inv X pins σ H s->zK xs us->r xs H Q->
  wpAny (model X.prog X.w) X.A (call f us) (EP X pins σ Q) X.xe s
def tOp(r:R2)(ta tb:TE):TE:=λσ H Q=>ta σ H λx H1=>tb σ H1 λy H2=>r x y H2 Q
def tUn(r:V->Hp->VK->Prop)(ta:TE):TE:=λσ H Q=>ta σ H λx H1=>r x H1 Q
def rI(C:Int->Int->Prop)(g:Int->Int->V):R2:=λx y H Q=>∃i j,x= .int i/\y= .int j/\C i j/\Q (g i j) H
def rI0(g:Int->Int->V):R2:=λx y H Q=>∃i j,x= .int i/\y= .int j/\Q (g i j) H
def rU(g:Int->V):V->Hp->VK->Prop:=λx H Q=>∃i,x= .int i/\Q (g i) H
section
def znR(ha:PE X a ta)(hb:PE X b tb){R:V->V->Hp->Prop}(I:Inv X pins σ H s)
  (h:ta σ H λx H1=>tb σ H1 λy H2=>R x y H2) {f:pW->pW->Sem pW}
  (hf:∀v u s2 x y H2,Inv X pins σ H2 s2->zE x v->zE y u->R x y H2->wpAny (model X.prog X.w) X.A (f v u) Q X.xe s2):
  wpAny (model X.prog X.w) X.A (eval a X.env) (λv s₁=>wpAny (model X.prog X.w) X.A (eval b X.env) (λu s₂=>wpAny (model X.prog X.w) X.A (f v u) Q X.xe s₂) X.xe s₁) X.xe s:=by
 refine thn (ha pins s σ H _ I h) ?_;rintro v s1 ⟨x,H1,I1,r1,q1⟩;refine thn (hb pins s1 σ H1 _ I1 q1) ?_;rintro u s2 ⟨y,H2,I2,r2,q2⟩;exact hf v u s2 x y H2 I2 r1 r2 q2
def zq(ho:OpR X (binaryOp op) r)(ha:PE X a ta)(hb:PE X b tb):PE X (.BinOp a op b pos) (tOp r ta tb):=by
 intro pins s σ H Q I h;exact wpAny_BinOp (znR ha hb I h λv u s2 x y H2 I2 rx ry q=>ho pins s2 σ H2 x y v u Q I2 rx ry q)
def zbH{r:V->Hp->VK->Prop}(ho:UnR X (unaryOp op) r)(ha:PE X a ta):PE X (.UnaryOp op a pos) (tUn r ta):=by
 intro pins s σ H Q I h;refine UnaryOp_ (thn (ha pins s σ H _ I h) ?_);rintro v s1 ⟨x,H1,I1,r1,q1⟩;exact ho pins s1 σ H1 x v Q I1 r1 q1
def opI{f:pW->pW->Sem pW}{C:Int->Int->Prop}{g:Int->Int->Int}
  (rule:∀(i j:Int) (t u:Tok) (s:pX) (Q:pW->pX->Prop) (E:pW->pX->Prop),C i j->Q (.int (g i j) s.toks) {s with toks:=s.toks+1}->wpAny (model X.prog X.w) X.A (f (.int i t) (.int j u)) Q E s):
  OpR X f (rI C λi j=> .int (g i j)):=by
 intro pins s σ H x y v u Q I rx ry h;obtain⟨i,j,rfl,rfl,hc,q⟩:=h;obtain⟨t,rfl⟩:=rx;obtain⟨t',rfl⟩:=ry;exact rule i j t t' s _ _ hc ⟨.int (g i j),H,I.tok _,⟨_,rfl⟩,q⟩
def zpo{f:pW->pW->Sem pW}{g:Int->Int->Int}
  (rule:∀(i j:Int) (t u:Tok) (s:pX) (Q:pW->pX->Prop) (E:pW->pX->Prop),Q (.int (g i j) s.toks) {s with toks:=s.toks+1}->wpAny (model X.prog X.w) X.A (f (.int i t) (.int j u)) Q E s):
  OpR X f (rI0 λi j=> .int (g i j)):=by
 intro pins s σ H x y v u Q I rx ry h;obtain⟨i,j,rfl,rfl,q⟩:=h;obtain⟨t,rfl⟩:=rx;obtain⟨t',rfl⟩:=ry;exact rule i j t t' s _ _ ⟨.int (g i j),H,I.tok _,⟨_,rfl⟩,q⟩
def znS(i j:Int):Prop:=0<j/\j<1073741824
def znT(i j:Int):Prop:=0<=j/\j<=1000000/\i.natAbs<2^64
def ziq(i j:Int):Prop:=(-(2^64)<i/\i<2^64)\/(-(2^64)<j/\j<2^64)
def ziq.ok(h:ziq i j):IntMulOk i j:=by
 rcases h with⟨h1,h2⟩|⟨h1,h2⟩
 .exact .of_left (intBits_le_64 h1 h2)
 exact .of_right (intBits_le_64 h1 h2)
def xF:OpR X (binaryOp .Add) (rI0 λi j=> .int (i+j)):=zpo λ_ _ _ _ _ _ _ q=>add_int q
def wv:OpR X (binaryOp .Sub) (rI0 λi j=> .int (i-j)):=zpo λ_ _ _ _ _ _ _ q=>sub_int q
def zct:OpR X (binaryOp .Mult) (rI ziq λi j=> .int (i*j)):=opI λ_ _ _ _ _ _ _ hc q=>mul_int q hc.ok
def zge:OpR X (binaryOp .FloorDiv) (rI znS λi j=> .int (i / j)):=opI λi j _ _ _ _ _ hc q=>by
 have h1:(0:Int)<j:=hc.1;have h2:j<1073741824:=hc.2;exact floordiv_int ⋯ (by rw[CY i ⋯];exact q) (.inl (PyProof.noPylong_small ⋯))
def xu:OpR X (binaryOp .Mod) (rI (λ_ j=>0<j) λi j=> .int (i % j)):=opI λi j _ _ _ _ _ hc q=>by
 have h1:(0:Int)<j:=hc;exact mod_int' ⋯ (by rw[Int.fmod_eq_emod_of_nonneg i ⋯];exact q)
def zir:OpR X (binaryOp .Pow) (rI znT λi j=> .int (i^j.toNat)):=opI λ_ _ _ _ _ _ _ hc q=>pow_int_small hc.1 hc.2.1 hc.2.2 q
def unI{f:pW->Sem pW}{g:Int->Int}
  (rule:∀(i:Int) (t:Tok) (s:pX) (Q:pW->pX->Prop) (E:pW->pX->Prop),Q (.int (g i) s.toks) {s with toks:=s.toks+1}->wpAny (model X.prog X.w) X.A (f (.int i t)) Q E s):
  UnR X f (rU λi=> .int (g i)):=by
 intro pins s σ H x v Q I rx h;obtain⟨i,rfl,q⟩:=h;obtain⟨t,rfl⟩:=rx;exact rule i t s _ _ ⟨.int (g i),H,I.tok _,⟨_,rfl⟩,q⟩
def Uo:UnR X (unaryOp .USub) (rU λi=> .int (-i)):=unI λ_ _ _ _ _ q=>neg_int q
end
noncomputable def zpp:V->V->Bool
 | .non,.non=>fN| .non,.int _=>fN| .int _,.non=>fN| .non,.bl _=>fN| .bl _,.non=>fN| .non,.str _=>fN| .str _,.non=>fN
 | .int _,.int _=>fN| .bl _,.bl _=>fN| .str _,.str _=>fN| .byt _,.byt _=>fN
 | .int _,.str _=>fN| .str _,.int _=>fN| .bl _,.str _=>fN| .str _,.bl _=>fN
 |_,_=>kb
def rEq:R2:=λx y H Q=>zpp x y=fN/\Q (.bl (decide (x=y))) H
def rNe:R2:=λx y H Q=>zpp x y=fN/\Q (.bl (!decide (x=y))) H
def zgf:decide (V.int i=V.int j)=(i==j):=by
 rw[Dw];simp
def zis:decide (V.bl i=V.bl j)=(i==j):=by
 rw[Dw];simp
def zgg:decide (V.str i=V.str j)=(i==j):=by
 rw[Dw];simp
def zgh:decide (V.byt i=V.byt j)=(i.toList==j.toList):=by
 rw[Dw];cases i;cases j;simp
section
def yj{Q:VK}(I:Inv X pins σ H s)(q:Q (.bl k) H)(e:k=k'):EP X pins σ Q (.bool k') s:=by
 subst e;exact⟨.bl k,H,I,rfl,q⟩
def zm6:OpR X (compareOp .Eq) rEq:=by
 intro pins s σ H x y v u Q I rx ry h;obtain⟨hs,q⟩:=h;cases x with
 |non=>
  cases rx;cases y with
  |non=>cases ry;exact PySem.EqNone.eq_none_none (yj I q (by simp))
  |bl j=>cases ry;exact PySem.EqNone.eq_none_bool (yj I q (by simp))
  |int j=>obtain⟨t',rfl⟩:=ry;exact PySem.EqNone.eq_none_int (yj I q (by simp))
  |str j=>obtain⟨t',rfl⟩:=ry;exact PySem.EqNone.eq_none_str (yj I q (by simp))
  |_=>exact absurd (show kb=fN from hs) Bm
 |bl i=>
  cases rx;cases y with
  |non=>cases ry;exact PySem.EqNone.eq_bool_none (yj I q (by simp))
  |bl j=>cases ry;exact eq_bool (yj I q zis)
  |str j=>obtain⟨t',rfl⟩:=ry;exact Ig (yj I q (by simp))
  |_=>exact absurd (show kb=fN from hs) Bm
 |int i=>
  obtain⟨t,rfl⟩:=rx;cases y with
  |non=>cases ry;exact PySem.EqNone.eq_int_none (yj I q (by simp))
  |int j=>obtain⟨t',rfl⟩:=ry;exact eq_int (yj I q zgf)
  |str j=>obtain⟨t',rfl⟩:=ry;exact Il (yj I q (by simp))
  |_=>exact absurd (show kb=fN from hs) Bm
 |str i=>
  obtain⟨t,rfl⟩:=rx;cases y with
  |non=>cases ry;exact PySem.EqNone.eq_str_none (yj I q (by simp))
  |bl j=>cases ry;exact Ih (yj I q (by simp))
  |int j=>obtain⟨t',rfl⟩:=ry;exact Im (yj I q (by simp))
  |str j=>obtain⟨t',rfl⟩:=ry;exact eq_str (yj I q zgg)
  |_=>exact absurd (show kb=fN from hs) Bm
 |byt i=>
  obtain⟨t,rfl⟩:=rx;cases y with
  |byt j=>obtain⟨t',rfl⟩:=ry;exact PySem.W.eq_bytes (yj I q zgh)
  |_=>exact absurd (show kb=fN from hs) Bm
 |_=>cases y<;>exact absurd (show kb=fN from hs) Bm
def zpq:OpR X (compareOp .NotEq) rNe:=by
 intro pins s σ H x y v u Q I rx ry h;obtain⟨hs,q⟩:=h;cases x with
 |non=>
  cases rx;cases y with
  |non=>cases ry;exact PySem.EqNone.ne_none_none (yj I q (by simp))
  |bl j=>cases ry;exact PySem.EqNone.ne_none_bool (yj I q (by simp))
  |int j=>obtain⟨t',rfl⟩:=ry;exact PySem.EqNone.ne_none_int (yj I q (by simp))
  |str j=>obtain⟨t',rfl⟩:=ry;exact PySem.EqNone.ne_none_str (yj I q (by simp))
  |_=>exact absurd (show kb=fN from hs) Bm
 |bl i=>
  cases rx;cases y with
  |non=>cases ry;exact PySem.EqNone.ne_bool_none (yj I q (by simp))
  |bl j=>cases ry;exact ne_bool (yj I q (congrArg not zis))
  |str j=>obtain⟨t',rfl⟩:=ry;exact Ii (yj I q (by simp))
  |_=>exact absurd (show kb=fN from hs) Bm
 |int i=>
  obtain⟨t,rfl⟩:=rx;cases y with
  |non=>cases ry;exact PySem.EqNone.ne_int_none (yj I q (by simp))
  |int j=>obtain⟨t',rfl⟩:=ry;exact ne_int (yj I q (congrArg not zgf))
  |str j=>obtain⟨t',rfl⟩:=ry;exact Io (yj I q (by simp))
  |_=>exact absurd (show kb=fN from hs) Bm
 |str i=>
  obtain⟨t,rfl⟩:=rx;cases y with
  |non=>cases ry;exact PySem.EqNone.ne_str_none (yj I q (by simp))
  |bl j=>cases ry;exact Ij (yj I q (by simp))
  |int j=>obtain⟨t',rfl⟩:=ry;exact Ip (yj I q (by simp))
  |str j=>obtain⟨t',rfl⟩:=ry;exact ne_str (yj I q (congrArg not zgg))
  |_=>exact absurd (show kb=fN from hs) Bm
 |byt i=>
  obtain⟨t,rfl⟩:=rx;cases y with
  |byt j=>obtain⟨t',rfl⟩:=ry;exact PySem.W.ne_bytes (yj I q (congrArg not zgh))
  |_=>exact absurd (show kb=fN from hs) Bm
 |_=>cases y<;>exact absurd (show kb=fN from hs) Bm
def TC(ho:OpR X (compareOp op) r)(ha:PE X a ta)(hb:PE X b tb)(hm:behindInMarks op b=kb):PE X (.Compare a [op] [b] pos) (tOp r ta tb):=by
 intro pins s σ H Q I h;exact wpAny_Compare1 (znR ha hb I h λv u s2 x y H2 I2 rx ry q=>ho pins s2 σ H2 x y v u Q I2 rx ry q) hm
def zm7(t:TE):TT:=λσ H Q=>t σ H λx H'=>∃k,x= .bl k/\Q k H'
def ZB(ho:OpR X (compareOp op) r)(ha:PE X a ta)(hb:PE X b tb)(hm:behindInMarks op b=kb):PT X (.Compare a [op] [b] pos) (zm7 (tOp r ta tb)):=by
 intro pins s σ H Q I h
 refine wpAny_isTrue_Compare1 (thn (ha pins s σ H _ I h) λv s1 ⟨x,H1,I1,r1,q1⟩=>thn (hb pins s1 σ H1 _ I1 q1) λu s2 ⟨y,H2,I2,r2,q2⟩=>
  thn (ho pins s2 σ H2 x y v u _ I2 r1 r2 q2) λc s3 ⟨z,H3,I3,r3,k,e,q3⟩=> ?_) hm
 subst e;cases r3;exact wpAny_truthy_bool ⟨H3,I3,q3⟩
def zag:(sizeLine:Nat)<2^63:=by rw[sizeLine_eq];decide
def XA(r:zK [x] us):∃u,us=[u]/\zE x u:=by
 cases r with
 |cons r1 r2=>cases r2;exact⟨_,rfl,r1⟩
def zgi(r:zK [x,y] us):∃u w',us=[u,w']/\zE x u/\zE y w':=by
 cases r with
 |cons r1 r2=>
  cases r2 with
  |cons r3 r4=>cases r4;exact⟨_,_,rfl,r1,r3⟩
def Yg:Yf X (.builtin "abs") (λxs H Q=>∃i,xs=[.int i]/\Q (.int (if i<0 then -i else i)) H):=by
 intro pins s σ H xs us Q I r h;obtain⟨i,rfl,q⟩:=h;obtain⟨u,rfl,t,rfl⟩:=XA r;exact call_abs_int λu tk=>⟨.int (if i<0 then -i else i),H,I.tok _,⟨_,rfl⟩,q⟩
end
structure zhm(h:Heap)(x dx C:qo)(mA:Str->pU pW):Prop where
 obj:h.get? x=dB (D1 C dx)
 ns:h.Ns1 dx mA
 ne:dx≠x
set_option tactic.hygienic true in
def zhn{h:Heap}{dx:qo}{mA:Str->pU pW}(n:h.Ns1 dx mA):∃od,h.get? dx=dB od/\∀name,Gg name od=dB (mA name):=by
 obtain⟨o,es,ep,ho,hd,hk,_,hm⟩:=n;refine⟨o,ho,λname=> ?_⟩;have e:=hm name;unfold nsFind findBy at e;rw[<-Array.find?_toList] at e;unfold Gg;rw[hd];dsimp only;split;rename_i y q;rw[q] at e;exact congrArg dB e
 rename_i q;rw[q] at e;have a:es.toList.any (·.refKey)=kb:=by
  rw[List.any_eq_false];intro y hy;obtain⟨z,t,oQ⟩:=hk y (Array.mem_toList_iff.mp hy);simp[DictEntry.refKey,oQ]
 have a':¬es.toList.any (·.refKey)=fN:=by rw[a];exact Bm
 rw[if_neg a'];exact congrArg dB e
def zhm.look{mA:Str->pU pW}(I:zhm h x dx C mA):∃od,F8 h x (D1 C dx) C (dB od)/\∀name,Gg name od=dB (mA name):=
 let ⟨od,ho,hl⟩:=zhn I.ns
 ⟨od,⟨I.obj,rfl,rfl,ho⟩,hl⟩
section
variable{K:AO}{mA:Str->pU pW}
def zlr(X:K.In s.heap)(I:zhm s.heap x dx C mA)(hg:DN K C name=fN)(hh:DG K C=fN)
  (ha:Bh K (.ref C) name=dB fC) (hv:mA name=dB v) (iS:Hu v=fN) (h:Q v {s with toks:=s.toks+1}):
  wpAny (model prog w) A (getAttr (.ref x) name expr) Q E s:=by
 obtain⟨od,J,hl⟩:=I.look;exact PySem.W.get_value X J (PySem.W.plainGet_of hg).1 (PySem.W.findObj_own hh ha rfl (by rw[hl,hv])) iS h
def zls{Q:Unit->pX->Prop}(X:K.In s.heap)(I:zhm s.heap x dx C mA)
  (hs:Bh K (.ref C) "__setattr__"=dB (dB (.builtin "object.__setattr__"))) (hp:Ek K C=fN) (ht:FX K C name=dB fC) (hh:DG K C=fN)
  (hw:GN mA ns) (hsz:ns.length<=sizeLine)
  (h:∀h',zhm h' x dx C (λy=>if y=name then dB v else mA y)->Heap.SameBut dx s.heap h'->Q () {s with heap:=h',toks:=s.toks+2}):
  wpAny (model prog w) A (setAttr (.ref x) name v) Q E s:=by
 obtain⟨od,J,hl⟩:=I.look;refine PySem.W.set_plain X J hs (PySem.W.osa_open (s:={s with toks:=s.toks+1}) (r:=fC) X J hp ht λb=> ?_);obtain⟨cd,hc,gq⟩:=PySem.W.any_some hh;have hx:s.heap.get? x=dB ⟨.ref C,dB dx,.plain,#[]⟩:=I.obj;refine wpAny_bind (wpAny_pure (wpAny_bind (wpAny_bind (wpAny_loadPart hx (wpAny_bind (Iy (s:={s with toks:=s.toks+1}) (PySem.W.looks_clsIn X hc) ?_))))));rw[gq];refine wpAny_pure (a:=dB dx) (wpAny_bind (wpAny_pure (wpAny_bind ?_)));refine wpAny_nsSet1 (s:={s with toks:=s.toks+1}) I.ns λh' eJ dC=> ?_;obtain⟨oD,Ax,Az,tS,uG,uK⟩:=eJ.count (PySem.Within.cons name v hw);refine wpAny_bind (wpAny_lookBehind tS (by rw[uG];exact pastItsLine_dict (AZ uK (by rw[Bo];omega))) ?_);exact wpAny_pure (h _ ⟨(dC.2 _ (BM I.ne)).trans I.obj,eJ,I.ne⟩ dC)
def zit{R:Result->pX->Prop}(X:K.In s.heap)(hm:EK K C=fN)
  (hi:Bh K (.ref C) "__init__"=dB (dB (.ref f))) (hf:Eg K (.ref f)=dB (.type "function"))
  (h:codeAny (model prog w) (A.under (.builtin "type.__call__" ⟨.ref C::vs,kw⟩)) (.call (.ref f) ⟨.ref (s.heap.objs.size+1)::vs,kw⟩) (PySem.W.InitBack (s.heap.objs.size+1) R)
   {s with heap:=(s.heap.push CF).push (D1 C s.heap.objs.size)}):
  codeAny (model prog w) A (.call (.ref C) ⟨vs,kw⟩) R s:=by
 obtain⟨hh,g,d,t,os⟩:=s;exact PySem.W.make_core (PySem.W.makes_of X hm) (EL X hi) (λself=>PySem.W.bind_fn X self hf) (.inl rfl) h
end
noncomputable def YD(f:Str)(v:V):n8 (Str×V)->n8 (Str×V)
 |[]=>[(f,v)]
 |(g,x)::r=>if g=f then (g,v)::r else (g,x)::YD f v r
theorem UY(f g:Str)(v:V):∀fs:n8 (Str×V),(YD f v fs).lookup g=if g=f then dB v else fs.lookup g
 |[]=>by
  show D0 g [(f,v)]=_;by_cases h:g=f;have hb:(g==f)=fN:=beq_iff_eq.mpr h;simp only[D0,hb,if_pos h];have hb:(g==f)=kb:=beq_eq_false_iff_ne.mpr h;simp only[D0,hb,if_neg h]
 |(k,x)::r=>by
  have ih:=UY f g v r;rw[show YD f v ((k,x)::r)=(if k=f then (k,v)::r else (k,x)::YD f v r) from rfl];by_cases hk:k=f;rw[if_pos hk];by_cases h:g=k;have hb:(g==k)=fN:=beq_iff_eq.mpr h;simp only[D0,hb,if_pos (h.trans hk)];have hb:(g==k)=kb:=beq_eq_false_iff_ne.mpr h;simp only[D0,hb,if_neg (λe:g=f=>h (e.trans hk.symm))];rw[if_neg hk];by_cases h:g=k;have hb:(g==k)=fN:=beq_iff_eq.mpr h;simp only[D0,hb,if_neg (λe:g=f=>hk (h.symm.trans e))];have hb:(g==k)=kb:=beq_eq_false_iff_ne.mpr h;simp only[D0,hb];exact ih
theorem Up(f:Str)(v:V):∀fs:n8 (Str×V),f∈(YD f v fs).map (·.1)/\∀g,g∈fs.map (·.1)->g∈(YD f v fs).map (·.1)
 |[]=>⟨by simp[YD],λg h=>by simp at h⟩
 |(k,x)::r=>by
  obtain⟨i1,i2⟩:=Up f v r;rw[show YD f v ((k,x)::r)=(if k=f then (k,v)::r else (k,x)::YD f v r) from rfl];by_cases hk:k=f;rw[if_pos hk];subst hk;exact⟨by simp,λg h=>by simpa using h⟩;rw[if_neg hk];refine⟨?_,λg h=> ?_⟩;rw[Be];exact Br _ i1;rw[Be] at h ⊢;rcases Bi.mp h with e|e;exact Bi.mpr (.inl e);exact Br _ (i2 g e)
theorem UZ(f:Str)(v:V):∀fs:n8 (Str×V),(YD f v fs).length<=fs.length+1
 |[]=>by simp[YD]
 |(k,x)::r=>by
  have ih:=UZ f v r;rw[show YD f v ((k,x)::r)=(if k=f then (k,v)::r else (k,x)::YD f v r) from rfl];by_cases hk:k=f;rw[if_pos hk,Bo,Bo];omega;rw[if_neg hk,Bo,Bo];omega
def Yz.some_of(r:Yz (dB v) o):∃u,o=dB u/\zE v u:=by
 cases o with
 |none=>exact(show False from r).elim
 |some u=>exact⟨u,rfl,r⟩
def Yz.none_of(r:Yz fC o):o=fC:=by
 cases o with
 |none=>rfl
 |some u=>exact(show False from r).elim
def zho(r:zE v u):Hu u=fN:=by
 cases v with
 |non=>cases (show u=Value.none from r);rfl
 |bl b=>cases (show u=Value.bool b from r);rfl
 |int i=>obtain⟨t,e⟩:=(show ∃t,u=Value.int i t from r);cases e;rfl
 |str x=>obtain⟨t,e⟩:=(show ∃t,u=Value.str x t from r);cases e;rfl
 |byt b=>obtain⟨t,e⟩:=(show ∃t,u=Value.bytes b t from r);cases e;rfl
 |flt b=>obtain⟨t,e⟩:=(show ∃t,u=Value.float b t from r);cases e;rfl
 |ref a=>cases (show u=Value.ref a from r);rfl
 |ty n=>cases (show u=Value.type n from r);rfl
section
variable{P:Program}
def zcu(hok:HOk P w H h)(e:H a=dB (.ins C dx fs)):∃mA,zhm h a dx C mA/\(∀f,Yz (fs.lookup f) (mA f))/\GN mA (fs.map (·.1))/\fs.length<=1000/\H dx=dB (.own a):=by
 obtain⟨d,z,ne,ob,mA,n,r,q⟩:=(show yz P w H h a (.ins C dx fs) from hok a _ e);exact⟨mA,⟨ob,n,ne⟩,r,q,z,d⟩
end
structure Cls(K:AO)(C:qo):Prop where
 pg:DN K C Str.empty=fN
 hd:DG K C=fN
 po:Ek K C=fN
 sa:Bh K (.ref C) "__setattr__"=dB (dB (.builtin "object.__setattr__"))
def Cls.get{K:AO}(c:Cls K C)(f:Str):DN K C f=fN:=c.pg
def ww(K:AO)(C:qo)(f:Str):Prop:=Bh K (.ref C) f=dB fC
def ww.taker{K:AO}(n:ww K C f):FX K C f=dB fC:=by
 unfold FX;rw[show Bh K (.ref C) f=dB fC from n];rfl
structure Con(K:AO)(C:qo)(f:Str)(v:V)(u:pW):Prop where
 at_:Bh K (.ref C) f=dB (dB u)
 rel:zE v u
 get:El K u "__get__"=dB fC
 cp:PySem.W.copiedNames.contains f=kb
structure zqw(K:AO)(C:qo)(m:Str)(f:qo):Prop where
 at_:Bh K (.ref C) m=dB (dB (.ref f))
 fn:FA K (.ref f)=fN
 kp:CZ K (.ref f)=fN
section
def zeZ(I:Inv X pins σ H s)(e:H a=dB (.ins C dx fs))(c:Cls X.K C)(n:ww X.K C f)(l:fs.lookup f=dB v)
  (h:∀u s',Inv X pins σ H s'->zE v u->Q u s'):wpAny (model X.prog X.w) A (getAttr (.ref a) f b) Q E s:=by
 obtain⟨mA,O,r,_,_,_⟩:=zcu I.hok e;obtain⟨u,hu,ru⟩:=Yz.some_of (v:=v) (o:=mA f) (by rw[<-l];exact r f);exact zlr I.kIn O (c.get f) c.hd n hu (zho ru) (h u _ (I.tok _) ru)
def ze0{Q:Unit->pX->Prop}(I:Inv X pins σ H s)(e:H a=dB (.ins C dx fs))(c:Cls X.K C)(n:ww X.K C f)(hl:fs.length<1000)(ry:zE y u)
  (h:∀s',Inv X pins σ (upd H a (.ins C dx (YD f y fs))) s'->Q () s'):wpAny (model X.prog X.w) A (setAttr (.ref a) f u) Q E s:=by
 obtain⟨mA,O,r,wi,_,ho⟩:=zcu I.hok e;have hz:(fs.map (·.1)).length<=sizeLine:=by rw[AV,sizeLine_eq];omega
 refine zls I.kIn O c.sa c.po n.taker c.hd wi hz λh' O' sb=>h _ ?_;have hd:∃o,h'.get? dx=dB o:=let ⟨o,_,_,e',_⟩:=O'.ns;⟨o,e'⟩;refine I.write (x:=a) (e:=dx) (by rw[e];exact CG) (.inr ho) (λb q hb z=>(sb.2 b hb).trans z) hd ?_;refine⟨by rw[zi O.ne];exact ho,?_,O.ne,O'.obj,_,O'.ns,λg=> ?_,λg hg=> ?_⟩;have:=UZ f y fs;omega;show Yz ((YD f y fs).lookup g) (if g=f then dB u else mA g);rw[UY];by_cases q:g=f;rw[if_pos q,if_pos q];exact ry;rw[if_neg q,if_neg q];exact r g;by_cases q:g=f;rw[q];exact(Up f y fs).1;refine (Up f y fs).2 g (wi g λz=>hg ?_);show(if g=f then dB u else mA g)=fC;rw[if_neg q];exact z
def Inv.made(I:Inv X pins σ H s):Inv X pins σ (upd (upd H s.heap.objs.size (.own (s.heap.objs.size+1))) (s.heap.objs.size+1) (.ins C s.heap.objs.size []))
  {s with heap:=(s.heap.push CF).push (D1 C s.heap.objs.size)}:=by
 have e1:(s.heap.push CF).get? s.heap.objs.size=dB CF:=Heap.get?_push_size s.heap rfl;have e2:((s.heap.push CF).push (D1 C s.heap.objs.size)).get? (s.heap.objs.size+1)=dB (D1 C s.heap.objs.size):=by
  have:=Heap.get?_push_size (s.heap.push CF) (o:=D1 C s.heap.objs.size) rfl;rwa [Heap.size_push] at this
 have e3:(s.heap.push CF).Ns s.heap.objs.size (λ_=>fC):=⟨CF,#[],_,e1,rfl,(λe he=>absurd he (by simp)),λ_=>rfl⟩;have I1:=I.laid (a:=s.heap.objs.size) (o:= .own (s.heap.objs.size+1)) (h':=s.heap.push CF) (t':=s.toks) (λb u q=>Heap.get?_push_of_some _ q) (B1 _) ⟨_,e1⟩;refine I1.laid (a:=s.heap.objs.size+1) (o:= .ins C s.heap.objs.size []) (t':=s.toks) (λb u q=>Heap.get?_push_of_some _ q) (CD (Heap.size_push _ _)) ?_;have ne:s.heap.objs.size≠s.heap.objs.size+1:=Bj (CB _);refine⟨by rw[zi ne,zt],Cy _,ne,e2,λ_=>fC,(Heap.Ns1.of_empty e3).at λo q=>Heap.get?_push_of_some _ q,λ_=>CG,λy hy=>absurd rfl hy⟩
def zlt(hb:attributeBase e f env (eval e env)=eval e env)
  (h:wpAny (model prog w) A (eval e env) (λo s₁=>wpAny (model prog w) A (getAttr o f fN) Q E s₁) E s):wpAny (model prog w) A (eval (.Attribute e f pos) env) Q E s:=
 Attribute_any_ h (by rw[arm_eval_Attribute,hb])
end
def zpr(K:AO)(ta:TE)(f:Str):TE:=λσ H Q=>ta σ H λx H1=>∃a C dx fs v,x= .ref a/\H1 a=dB (.ins C dx fs)/\Cls K C/\ww K C f/\fs.lookup f=dB v/\Q v H1
def zps(K:AO)(ta tv:TE)(f:Str):TS:=λD σ H=>tv σ H λy H1=>ta σ H1 λx H2=>∃a C dx fs,x= .ref a/\H2 a=dB (.ins C dx fs)/\Cls K C/\ww K C f/\fs.length<1000/\
 D.nx σ (upd H2 a (.ins C dx (YD f y fs)))
section
def wP(he:PE X e ta)(hb:attributeBase e f X.env (eval e X.env)=eval e X.env):PE X (.Attribute e f pos) (zpr X.K ta f):=by
 intro pins s σ H Q I h;refine zlt hb (thn (he pins s σ H _ I h) ?_);rintro u s1 ⟨x,H1,I1,rx,a,C,dx,fs,v,ex,ea,c,n,l,q⟩;subst ex;obtain rfl:u=Value.ref a:=rx;exact zeZ I1 ea c n l λu' s2 I2 ru=>⟨v,H1,I2,ru,q⟩
def WV(ha:PE X o ta)(hv:PE X value tv)(hs:swapsWith value (dB (.Attribute o f pos')) pos.line X.env=pure kb):PS X (.Assign [.Attribute o f pos'] value pos) (zps X.K ta tv f):=by
 intro pins s σ H D I h;refine plainObj_wpAny_Assign_Attribute (thn (hv pins s σ H _ I h) ?_) hs;rintro u s1 ⟨y,H1,I1,ry,q⟩;refine thn (ha pins s1 σ H1 _ I1 q) ?_;rintro ov s2 ⟨x,H2,I2,rx,a,C,dx,fs,ex,ea,c,n,l,q2⟩;subst ex;obtain rfl:ov=Value.ref a:=rx;exact ze0 I2 ea c n l ry λs3 I3=>⟨σ,_,I3,q2⟩
end
section
variable{c:pW}{b:Bool}
inductive Tq(K:AO)(H:Hp):V->Value->Prop where
 |non:Tq K H .non (.type "NoneType")
 |bl (x:Bool):Tq K H (.bl x) (.type "bool")
 |int (i:Int):Tq K H (.int i) (.type "int")
 |str (x:Str):Tq K H (.str x) (.type "str")
 |flt (x:UInt64):Tq K H (.flt x) (.type "float")
 |lst {a:Addr} {xs:List V} (e:H a=dB (.lst xs)):Tq K H (.ref a) (.type "list")
 |frz {a:Addr} {o:Obj} {xs:List V} (e:H a=dB (.frz o (.lst xs))):Tq K H (.ref a) (.type "list")
 |tup {a:Addr} {xs:List V} (e:H a=dB (.tup xs)):Tq K H (.ref a) (.type "tuple")
 |dK {a:Addr} {kvs:List (Key×V)} (e:H a=dB (.dK kvs)):Tq K H (.ref a) (.type "dict")
 |dT {a:Addr} {kvs:List (List Key×V)} (e:H a=dB (.dT kvs)):Tq K H (.ref a) (.type "dict")
 |ins {a C dx:Addr} {fs:List (Str×V)} (e:H a=dB (.ins C dx fs)) (cl:Cls K C) (ha:Bh K (.ref C) "__class__"=dB (dB (.builtin "object.__class__")))
   (hn:El K (.builtin "object.__class__") "__get__"=dB (dB (.builtin "getset_descriptor.__get__"))) (htk:FY K (.builtin "object.__class__")=dB fN)
   (hm:C7 K C (.type "object")=dB fN):Tq K H (.ref a) (.ref C)
end
structure xh(k:Nat)(A:Around):Prop where
 hd:A.handled=fC
 dp:A.depth+3*k+5<recursionLimit
 un:A.units+16*k+200<cLine
 gd:A.guards=dB []
def xh.mono(r:xh k A)(h:j<=k):xh j A:=⟨r.hd,by have:=r.dp;omega,by have:=r.un;omega,r.gd⟩
def xh.deeper(r:xh (k+1) A)(env:Env):xh k (A.deeper env):=
 ⟨r.hd,by have:=r.dp;show A.depth+1+3*k+5<_;omega,by have:=r.un;show A.units+3+16*k+200<_;omega,r.gd⟩
def ze1:(A.under (.builtin "type.__call__" ⟨.ref C::us,kw⟩)).depth=A.depth+1:=by
 first|rfl|simp[Around.under,Code.weight,Code.isCreation,Code.isGuard,Code.isCaller,Code.frames,Code.isFrame,guardIds]
def ze2:(A.under (.builtin "type.__call__" ⟨.ref C::us,kw⟩)).units=A.units+1:=by
 first|rfl|simp[Around.under,Code.cUnits,Code.frames,Code.isFrame]
def xh.make(r:xh (k+1) A)(C:qo)(us:n8 pW)(kw:n8 (Str×pW)):xh k (A.under (.builtin "type.__call__" ⟨.ref C::us,kw⟩)):=
 ⟨r.hd,by have:=r.dp;rw[ze1];omega,by have:=r.un;rw[ze2];omega,r.gd⟩
def xh.depth(r:xh k A):A.depth<recursionLimit:=by have:=r.dp;omega
def xh.units(r:xh k A):A.units+64<cLine:=by have:=r.un;omega
def zdI:TA:=λ_ H Q=>Q [] H
def XB(ta:TE)(tr:TA):TA:=λσ H Q=>ta σ H λx H1=>tr σ H1 λxs H2=>Q (x::xs) H2
section
variable{e:Expr}{es:n8 Expr}{te:TE}{t:TA}{pos:Pos}
def ze:PA X [] zdI:=λ_ _ _ _ H Q I h=>Calls.spliced_nil ⟨[],H,I,.nil,h⟩
def zS(ha:PE X e te)(hr:PA X es t)(hs:starEach (e::es) X.env=(kb,eval e X.env)::starEach es X.env:=by rfl):PA X (e::es) (XB te t):=by
 intro pos pins s σ H Q I h;rw[hs];show wpAny _ _ (spliced ((kb,eval e X.env)::backTo pos (starEach es X.env))) _ _ s;refine Calls.spliced_cons (thn (ha pins s σ H _ I h) ?_);rintro u s1 ⟨x,H1,I1,r1,q1⟩;refine thn (hr pos pins s1 σ H1 _ I1 q1) ?_;rintro us s2 ⟨xs,H2,I2,r2,q2⟩;exact⟨x::xs,H2,I2,.cons r1 r2,q2⟩
def zpt(t:TA):TE:=λσ H Q=>t σ H λxs H1=>xs.length<=sizeLine/\∀p,H1 p=fC->Q (.ref p) (upd H1 p (.tup xs))
def zpu(t:TA):TE:=λσ H Q=>t σ H λxs H1=>xs.length<=sizeLine/\∀p,H1 p=fC->Q (.ref p) (upd H1 p (.lst xs))
def znU{x1}(h:PA X es t):PE X (.Tuple es x1 pos) (zpt t):=by
 intro pins s σ H Q I hq;refine wpAny_Tuple_spliced (thn (h pos pins s σ H _ I hq) λus s1 ⟨xs,H1,I1,r,z,q⟩=>⟨by rw[<-r.length];exact z,?_⟩);have hf:H1 s1.heap.objs.size=fC:=I1.hok.fresh (B1 _);refine⟨.ref s1.heap.objs.size,upd H1 s1.heap.objs.size (.tup xs),I1.laid (t':=s1.toks) (λb u e=>Heap.get?_push_of_some _ e) (B1 _) ?_,rfl,q _ hf⟩;exact⟨z,us,r,⟨_,Heap.get?_push_size _ rfl,rfl,_,rfl,rfl⟩⟩
def wx(h:PA X es t):PE X (.List es pos) (zpu t):=by
 intro pins s σ H Q I hq;refine wpAny_List_spliced (thn (h pos pins s σ H _ I hq) λus s1 ⟨xs,H1,I1,r,z,q⟩=>⟨by rw[<-r.length];exact z,?_⟩);have hf:H1 s1.heap.objs.size=fC:=I1.hok.fresh (B1 _);refine⟨.ref s1.heap.objs.size,upd H1 s1.heap.objs.size (.lst xs),I1.laid (t':=s1.toks) (λb u e=>Heap.get?_push_of_some _ e) (B1 _) ?_,rfl,q _ hf⟩;exact⟨z,us,0,r,Heap.get?_push_size _ rfl⟩
end
abbrev Sp:=n8 V->Hp->VK->XK->Prop
abbrev CXT:=n8 Env->Hp->pX->XK->pW->pX->Prop
structure Uq(P:Program)(w:World)(K:AO)(mg:Str->pU pW)(base:Heap)(A:Around)(outer:n8 Env)(s:pX)(H:Hp):Prop where
 frames:A.frames=dB outer
 mod:Mod P K mg base
 bs:∀b o,base.get? b=dB o->s.heap.get? b=dB o/\H b=fC
 bsz:base.objs.size<=s.heap.objs.size
 funs:s.heap.FunFrames base outer
 frf:∀b∈frs outer,H b=fC
 hok:HOk P w H s.heap
 bare:AllBare s.gens
def CE(outer:n8 Env)(P:Program)(w:World)(H:Hp)(s:pX)(Q:VK)(u:pW)(s':pX):Prop:=
 ∃v H',s'.os=s.os/\AllBare s'.gens/\Un (frs outer) [] H H' s.heap s'.heap/\HOk P w H' s'.heap/\zE v u/\Q v H'
def CR(CX:CXT)(outer:n8 Env)(P:Program)(w:World)(H:Hp)(s:pX)(Q:VK)(E:XK)(r:Result)(s':pX):Prop:=
 match r with
 | .ok (.ret u)=>CE outer P w H s Q u s'
 | .ok _=>False
 | .error e=>CX outer H s E e s'
structure ZO(P:Program)(w:World)(K:AO)(mg:Str->pU pW)(base:Heap)(CX:CXT)(k:Nat)(f:qo)(fd:FuncData)(ps:n8 Str)(sp:Sp):Prop where
 len:∀vs H Q E,sp vs H Q E->vs.length=ps.length
 run:∀(A:Around) (outer:n8 Env) (s:pX) (H:Hp) (args:Args) (us:n8 pW) (vs:n8 V) (Q:VK) (E:XK),xh k A->Uq P w K mg base A outer s H->BindsTo s fd args (ps.zip us)->zK vs us->sp vs H Q E->
  codeAny (model P w) A (.call (.ref f) args) (CR CX outer P w H s Q E) s
def ZO.imp{P:Program}{K:AO}{mg:Str->pU pW}(F:ZO P w K mg base CX k f fd ps sp)
  (h:∀vs H Q E,sp' vs H Q E->sp vs H Q E):ZO P w K mg base CX k f fd ps sp':=
 ⟨λvs H Q E q=>F.len vs H Q E (h _ _ _ _ q),λA outer s H args us vs Q E hr he hb hv hs=>F.run A outer s H args us vs Q E hr he hb hv (h _ _ _ _ hs)⟩
def Uq.make{P:Program}{K:AO}{mg:Str->pU pW}(e:Uq P w K mg base A outer s H)(C:qo)(us:n8 pW)(kw:n8 (Str×pW)):
  Uq P w K mg base (A.under (.builtin "type.__call__" ⟨.ref C::us,kw⟩)) outer s H:=⟨by first|exact e.frames|(simpa [Around.under,Code.envs,Code.isFrame,pushEnvs] using e.frames),e.mod,e.bs,e.bsz,e.funs,e.frf,e.hok,e.bare⟩
def Uq.in1{P:Program}{K:AO}{mg:Str->pU pW}(e:Uq P w K mg base A outer s H):
  Uq P w K mg base A.in1 outer s H:=⟨e.frames,e.mod,e.bs,e.bsz,e.funs,e.frf,e.hok,e.bare⟩
section
def Inv.env0(I:Inv X pins σ H s):Uq X.prog X.w X.K X.mg X.base X.A X.stack s H:=
 ⟨I.ok.frames,I.ok.mod,I.bs,AZ I.ok.bsz I.sz,I.stack,I.stkFree,I.hok,I.bare⟩
def Inv.after{Q:VK}(I:Inv X pins σ H s)(h:CE X.stack X.prog X.w H s Q u s'):EP X pins σ Q u s':=by
 obtain⟨v,H',os,bare,un,hok,r,q⟩:=h;obtain⟨hh,g,d,t,os'⟩:=s';obtain rfl:os'=s.os:=os;exact⟨v,H',I.call (h':=hh) (g':=g) (d':=d) (t':=t) (ch:=[]) un hok bare (λb z=>absurd z (by simp)),r,q⟩
end
def zgj(sp:Sp)(fm:n8 V)(E:XK)(t:TA):TE:=λσ H Q=>t σ H λvs H1=>sp (vs++fm) H1 Q E
def ziu(C:qo)(sp:Sp)(fm:n8 V)(E:XK)(t:TA):TE:=λσ H Q=>t σ H λvs H1=>∀x dx,H1 x=fC->H1 dx=fC->dx≠x->
 sp (.ref x::(vs++fm)) (upd (upd H1 dx (.own x)) x (.ins C dx [])) (λv H2=>v= .non/\Q (.ref x) H2) E
def Vy(K:AO)(fd:FuncData)(ps:n8 Str)(ds:n8 pW):Prop:=
 ∀(s:pX) (us:n8 pW),K.In s.heap->(us++ds).length=ps.length->BindsTo s fd ⟨us,[]⟩ (ps.zip (us++ds))
def Vy.all{K:AO}(h:∀us:n8 pW,us.length=ps.length->bindArgs fd ⟨us,[]⟩=pure (ps.zip us)):Vy K fd ps []:=λs us _ hl=>by
 rw[D2] at hl ⊢;exact .of_eq (h us hl)
def WW(CX:CXT)(X:Cx)(E:XK):Prop:=∀(pins:n8 (qo×Obj)) (σ:St) (H:Hp) (s:pX) (e:pW) (s':pX),Inv X pins σ H s->CX X.stack H s E e s'->X.xe e s'
section
variable{CX:CXT}{k:Nat}{f C:qo}{fd:FuncData}{ps:n8 Str}{sp:Sp}{fm:n8 V}{ds:n8 pW}{E:XK}{x m:Str}{p pos apos:Pos}{e o:Expr}{es:n8 Expr}{ta:TE}{t:TA}
def znV{Q:VK}(F:ZO X.prog X.w X.K X.mg X.base CX k f fd ps sp)(hr:xh k X.A)(hb:Vy X.K fd ps ds)(hd:zK fm ds)(hx:WW CX X E)
  (I:Inv X pins σ H s) (r:zK vs us) (h:sp (vs++fm) H Q E):wpAny (model X.prog X.w) X.A (call (.ref f) us) (EP X pins σ Q) X.xe s:=by
 have r2:zK (vs++fm) (us++ds):=r.append hd;have hl:(us++ds).length=ps.length:=by rw[<-r2.length];exact F.len _ _ _ _ h
 refine wpAny_call (codeAny_mono (F.run X.A X.stack s H ⟨us,[]⟩ (us++ds) (vs++fm) Q E hr I.env0 (hb s us I.kIn hl) r2 h) λr s' hq=> ?_);cases r with
 |error e=>exact hx pins σ H s e s' I hq
 |ok fl=>
  cases fl with
  |ret u=>exact I.after hq
  |next=>exact BP hq
  |brk=>exact BP hq
  |cont=>exact BP hq
def zgk(F:ZO X.prog X.w X.K X.mg X.base CX k f fd ps sp)(hr:xh k X.A)(hg:Gl X x)(hm:X.mg x=dB (.ref f))(hk:CZ X.K (.ref f)=fN)(hb:Vy X.K fd ps ds)(hd:zK fm ds)(hx:WW CX X E)
  (ha:PA X (e::es) t) (gn:(x==("__debug__":Str))=kb:=by decide) (he:starEach (e::es) X.env=(kb,eval e X.env)::starEach es X.env:=by rfl) (fg:(backTo pos (starEach es X.env)).any (·.1)=kb:=by rfl):
  PE X (.Call (.Name x p) (e::es) [] pos) (zgj sp fm E t):=by
 intro pins s σ H Q I h;refine wpAny_Call_Name_kw (zcr I hg hm ?_ gn);refine GP (h₀:=X.base) I.ok.mod.kin hk (thn (ha pos pins s σ H _ I h) ?_) he fg;rintro us s1 ⟨vs,H1,I1,r,q⟩;refine⟨I1.kIn,?_⟩;exact znV F hr hb hd hx I1 r q
structure Mk(K:AO)(C f:qo):Prop where
 makes:EK K C=fN
 init:Bh K (.ref C) "__init__"=dB (dB (.ref f))
 fn:FA K (.ref f)=fN
 kp:CZ K (.ref C)=fN
def ziv{Q:VK}(M:Mk X.K C f)(F:ZO X.prog X.w X.K X.mg X.base CX k f fd ps sp)(hr:xh (k+1) X.A)(hb:Vy X.K fd ps ds)(hd:zK fm ds)
  (hx:WW CX X E) (I:Inv X pins σ H s) (r:zK vs us)
  (h:∀x dx,H x=fC->H dx=fC->dx≠x->sp (.ref x::(vs++fm)) (upd (upd H dx (.own x)) x (.ins C dx [])) (λv H2=>v= .non/\Q (.ref x) H2) E):
  wpAny (model X.prog X.w) X.A (call (.ref C) us) (EP X pins σ Q) X.xe s:=by
 have hq:=h (s.heap.objs.size+1) s.heap.objs.size (I.hok.fresh (Cq _)) (I.hok.fresh (B1 _)) (Bj (CB _));have I2:=Inv.made (C:=C) I;have r2:zK (V.ref (s.heap.objs.size+1)::(vs++fm)) (Value.ref (s.heap.objs.size+1)::(us++ds)):= .cons rfl (r.append hd);have hl:(Value.ref (s.heap.objs.size+1)::us++ds).length=ps.length:=by
  have e:=r2.length;rw[F.len _ _ _ _ hq] at e;exact e.symm
 refine wpAny_call (zit (f:=f) I.kIn M.makes M.init (beq_iff_eq.mp M.fn) (codeAny_mono (F.run _ X.stack _ _ ⟨Value.ref (s.heap.objs.size+1)::us,[]⟩ (Value.ref (s.heap.objs.size+1)::(us++ds)) _ _ E (hr.make C us [])
  (I2.env0.make C us []) (hb _ (Value.ref (s.heap.objs.size+1)::us) I2.kIn hl) r2 hq) λr s' bP=> ?_))
 cases r with
 |error e=>exact hx pins σ _ _ e s' I2 bP
 |ok fl=>
  cases fl with
  |ret u=>
   obtain⟨v,H',I3,rv,ev,q3⟩:=I2.after bP;subst ev;exact⟨rv,⟨V.ref (s.heap.objs.size+1),H',I3,rfl,q3⟩⟩
  |next=>exact BP bP
  |brk=>exact BP bP
  |cont=>exact BP bP
def zgl(M:Mk X.K C f)(F:ZO X.prog X.w X.K X.mg X.base CX k f fd ps sp)(hr:xh (k+1) X.A)(hg:Gl X x)(hm:X.mg x=dB (.ref C))(hb:Vy X.K fd ps ds)(hd:zK fm ds)(hx:WW CX X E)
  (ha:PA X (e::es) t) (gn:(x==("__debug__":Str))=kb:=by decide) (he:starEach (e::es) X.env=(kb,eval e X.env)::starEach es X.env:=by rfl) (fg:(backTo pos (starEach es X.env)).any (·.1)=kb:=by rfl):
  PE X (.Call (.Name x p) (e::es) [] pos) (ziu C sp fm E t):=by
 intro pins s σ H Q I h;refine wpAny_Call_Name_kw (zcr I hg hm ?_ gn);refine GP (h₀:=X.base) I.ok.mod.kin M.kp (thn (ha pos pins s σ H _ I h) ?_) he fg;rintro us s1 ⟨vs,H1,I1,r,q⟩;refine⟨I1.kIn,?_⟩;exact ziv M F hr hb hd hx I1 r q
end
section
variable{CX:CXT}{k:Nat}{f C:qo}{fd:FuncData}{ps ks:n8 Str}{sp:Sp}{E:XK}{x m:Str}{p pos apos sO:Pos}{e o:Expr}{es:n8 Expr}{A8:n8 Keyword}{te ta:TE}{t tk:TA}{nm:pU Str}
structure zqx(K:AO)(fd:FuncData)(ps ks:n8 Str)(g:n8 pW->n8 pW->n8 pW)(gV:n8 V->n8 V->n8 V):Prop where
 to:∀(s:pX) (us ws:n8 pW),K.In s.heap->(g us ws).length=ps.length->BindsTo s fd ⟨us,ks.zip ws⟩ (ps.zip (g us ws))
 rel:∀{vs:n8 V} {us:n8 pW} {zs:n8 V} {ws:n8 pW},zK vs us->zK zs ws->zK (gV vs zs) (g us ws)
variable{g:n8 pW->n8 pW->n8 pW}{gV:n8 V->n8 V->n8 V}
end
structure zw(N P:n8 Str)(sc:Scope):Prop where
 kind:sc.kind= .function
 co:sc.isCoroutine=kb
 gen:sc.isGenerator=kb
 nd:N.Nodup
 pre:N.take P.length=P
 par:∀x∈P,sc.names.lookup x=dB .local\/sc.names.lookup x=dB .cell
 nofree:∀y∈sc.names,y.2≠ .free
theorem zbI{kindOf:Str->pU NameKind}:∀{binds:n8 (Str×pW)} {m:Str->pU pW},(∀v,(x,v)∉binds)->bindL kindOf binds m x=m x
 |[],_,_=>rfl
 |(n,v)::r,m,h=>by
  unfold bindL;rw[zbI λw hw=>h w (Br _ hw)];split
  .have:x≠n:=by rintro rfl;exact h v BJ
   simp[this]
  rfl
theorem zbJ{kindOf:Str->pU NameKind}:∀{binds:n8 (Str×pW)} {m:Str->pU pW},(∀v,(x,v)∉binds)->bindC kindOf binds m x=m x
 |[],_,_=>rfl
 |(n,v)::r,m,h=>by
  unfold bindC;rw[zbJ λw hw=>h w (Br _ hw)];split;rfl
  have:x≠n:=by rintro rfl;exact h v BJ
  simp[this]
theorem zbK{kindOf:Str->pU NameKind}:∀{P:n8 Str} {vs:n8 pW} {i:Nat} {m:Str->pU pW},P.Nodup->P[i]? =dB x->vs[i]? =dB v->kindOf x=dB .local->
  bindL kindOf (P.zip vs) m x=dB v
 |[],_,_,_,_,h,_,_=>by simp at h
 |_::_,[],_,_,_,_,h,_=>by simp at h
 |p::P,w::vs,0,m,nd,h1,h2,hk=>by
  simp at h1 h2;subst h1;subst h2;show bindL kindOf ((p,w)::P.zip vs) m p=_;unfold bindL;rw[zbI λv hv=>(Cb.mp nd).1 (Dx hv).1,if_pos hk];simp
 |p::P,w::vs,i+1,m,nd,h1,h2,hk=>by
  show bindL kindOf ((p,w)::P.zip vs) m x=_;unfold bindL;exact zbK (i:=i) (Cb.mp nd).2 (by simpa using h1) (by simpa using h2) hk
theorem zbL{kindOf:Str->pU NameKind}:∀{P:n8 Str} {vs:n8 pW} {i:Nat} {m:Str->pU pW},P.Nodup->P[i]? =dB x->vs[i]? =dB v->kindOf x≠dB .local->
  bindC kindOf (P.zip vs) m x=dB v
 |[],_,_,_,_,h,_,_=>by simp at h
 |_::_,[],_,_,_,_,h,_=>by simp at h
 |p::P,w::vs,0,m,nd,h1,h2,hk=>by
  simp at h1 h2;subst h1;subst h2;show bindC kindOf ((p,w)::P.zip vs) m p=_;unfold bindC;rw[zbJ λv hv=>(Cb.mp nd).1 (Dx hv).1,if_neg hk];simp
 |p::P,w::vs,i+1,m,nd,h1,h2,hk=>by
  show bindC kindOf ((p,w)::P.zip vs) m x=_;unfold bindC;exact zbL (i:=i) (Cb.mp nd).2 (by simpa using h1) (by simpa using h2) hk
noncomputable def Yh(N:n8 Str)(vs:n8 V):St:=vs.map dB++B6 (N.length-vs.length) fC
noncomputable def WA(CX:CXT)(P:Program)(w:World)(K:AO)(mg:Str->pU pW)(base:Heap)(N:n8 Str)(qual:Str)(scope:Scope)(f:qo)(cd:pW)(A:Around)(outer:n8 Env)(s:pX)(H:Hp)(E:XK):Cx where
 prog:=P
 w:=w
 K:=K
 mg:=mg
 base:=base
 A:=A.deeper (envOfC qual scope s.heap.objs.size f cd)
 N:=N
 s₀:=s
 H₀:=H
 env:=envOfC qual scope s.heap.objs.size f cd
 outer:=outer
 stack:=envOfC qual scope s.heap.objs.size f cd::outer
 ex:=[]
 calm:=fN
 fn:=λ_=>fN
 zn:=λ_=>kb
 pn:=[]
 xe:=λe s'=>wpAny (model P w) (A.deeper (envOfC qual scope s.heap.objs.size f cd)) (leaving (envOfC qual scope s.heap.objs.size f cd) e) (λ_ s''=>CX outer H s E e s'') (λe' s''=>CX outer H s E e' s'') s'
def zdJ{sc:Scope}{n:Nat}{x:Str}(h:sc.names.lookup x=dB .cell):∃c,(cellsFrom n sc.names []).lookup x=dB c:=by
 have q:=Ep sc.names n [] (.inl h);exact CM.mp q
def zbM{P:Program}{K:AO}{mg:Str->pU pW}{N ps:n8 Str}{E:XK}
  (S:zw N ps scope) (hd:A.handled=fC) (e0:Uq P w K mg base A outer s H) (hl:vs.length=ps.length) (r:zK vs us)
  (x:InCallC s s.heap.objs.size (bindL (envOfC qual scope s.heap.objs.size f cd).kindOf (ps.zip us) λ_=>fC) (cellsFrom (s.heap.objs.size+1) scope.names []) (bindC (envOfC qual scope s.heap.objs.size f cd).kindOf (ps.zip us) λ_=>fC) s1):
  Inv (WA CX P w K mg base N qual scope f cd A outer s H E) [] (Yh N vs) H s1:=by
 have fg:ps.length<=N.length:=by have:=congrArg List.length S.pre;rw[BI] at this;omega
 obtain⟨h1,tk,rfl,hk⟩:=x.done;have i5:∀b:qo,b∉(WA CX P w K mg base N qual scope f cd A outer s H E).ex:=λb z=>absurd (show b∈([]:n8 qo) from z) (by simp)
 refine⟨⟨e0.mod,S.kind,rfl,rfl,B1 _,λy z c h1 h2=> ?_,λy hy=> ?_,λy c _ h=> ?_,λ_=>hd,Around.frames_deeper e0.frames,.inr ⟨rfl,rfl⟩,λb z=>absurd z (i5 b),e0.bs,e0.bsz,λb _ _=>i5 b,λb z=>absurd z (i5 b),e0.funs,e0.frf⟩,
  rfl,e0.bare,Un.kept hk,⟨_,x.toInCall.ns,λi y v h1 h2 h3=> ?_⟩,λy c h=>⟨_,x.cell y c h⟩,e0.hok.fresh (B1 _),λy c h=> ?_,λp hp=>absurd (show p∈([]:n8 (qo×Obj)) from hp) (by simp),e0.hok.kept hk,?_⟩
 .exact name_of_addr x.apart (Bw h1) (Bw h2)
 .have hy:scope.names.lookup y=dB .cell\/scope.names.lookup y=dB .free:=hy;rcases hy with hy|hy;exact zdJ hy;exact absurd rfl (S.nofree _ (Bw hy))
 .exact Ba (x.above y c (Bw h))
 .have hi:i<vs.length:=by
   unfold Yh at h2;by_cases hi:i<vs.length;exact hi
   rw[B4 (by simpa using hi)] at h2;rw[D9] at h2;split at h2<;>cases h2
  have ha:vs[i]? =dB v:=by
   unfold Yh at h2;rw[B2 (by simpa using hi),AW] at h2;cases e:vs[i]? with
   |none=>rw[e] at h2;cases h2
   |some a=>rw[e] at h2;cases h2;rfl
  obtain⟨u,hu,rv⟩:=r.get ha;have hp:ps[i]? =dB y:=by
   rw[<-S.pre,CN ⋯];exact h1
  have qk:ps.Nodup:=by rw[<-S.pre];exact S.nd.sublist (List.take_sublist _ _)
  refine⟨u,rv,?_⟩;rcases S.par y (AX hp) with k|k;exact .inl ⟨k,zbK qk hp hu k⟩;obtain⟨c,e⟩:=zdJ (n:=s.heap.objs.size+1) k;refine .inr ⟨.inl k,c,e,?_⟩;have q:=x.cell y c e;rw[zbL qk hp hu (by show scope.names.lookup y≠_;rw[k];decide)] at q;exact q
 .exact .inl (e0.hok.fresh (Ba (x.above y c (Bw h))))
 unfold Yh;show _=N.length;rw[Bz,AV,List.length_replicate];omega
def zpv{CX:CXT}{P:Program}{w:World}{K:AO}{mg:Str->pU pW}{base:Heap}{k:Nat}{f:qo}{name qual:Str}{params:Arguments}{body:n8 Stmt}{scope:Scope}{dV kV doc pm bj ct oc:pW}{an od:pU qo}
  {fT:Array (pU pW)} {N ps:n8 Str} {sp:Sp} (lk:K.lookup f=dB ⟨oc,od,.func (Dg name qual params body scope dV kV doc pm an bj ct),fT⟩) (cZ:Eh K bj qual=fN) (S:zw N ps scope)
  (len:∀vs H Q E,sp vs H Q E->vs.length=ps.length)
  (dm:∀(A:Around) (outer:n8 Env) (s:pX) (H:Hp) (vs:n8 V) (Q:VK) (E:XK),xh k (A.deeper (envOfC qual scope s.heap.objs.size f bj))->sp vs H Q E->
   ∃t,PSs (WA CX P w K mg base N qual scope f bj A outer s H E) body t/\t {nx:=λ_ H'=>Q .non H',rt:=Q} (Yh N vs) H):
  ZO P w K mg base CX (k+1) f (Dg name qual params body scope dV kV doc pm an bj ct) ps sp:=by
 refine⟨len,λA outer s H args us vs Q E hr e0 hb r fV=> ?_⟩;have hl:=len _ _ _ _ fV;have KX:K.In s.heap:=e0.mod.kin.keeps λb o e=>(e0.bs b o e).1;have lim:s.heap.NoLimit:=e0.mod.nolimit.keeps λb o e=>(e0.bs b o e).1;have gO:∀y∈ps.zip us,scope.names.lookup y.1=dB .local\/(scope.names.lookup y.1=dB .cell/\((cellsFrom (s.heap.objs.size+1) scope.names []).lookup y.1).isSome=fN):=λ⟨n,v⟩ hy=>by
  rcases S.par n (Dx hy).1 with q|q;exact .inl q;exact .inr ⟨q,Ep _ _ _ (.inl q)⟩
 refine codeAny_call_function hr.depth (KX _ _ lk) rfl S.co S.gen rfl (GQ KX cZ) (hb _ _ _ _ ?_);refine wpAny_newFunctionEnv_cells S.kind gO λenv he s1 x=> ?_;subst he;refine⟨lim.keeps x.toInCall.keep,codeAny_func ?_⟩;obtain⟨t,ht,hq⟩:=dm A outer s H vs Q E (hr.deeper _) fV;have I:Inv (WA CX P w K mg base N qual scope f bj A outer s H E) [] (Yh N vs) H s1:=zbM S hr.hd e0 hl r x;refine wpAny_mono (ht [] s1 (Yh N vs) H _ I hq) (λfl s' hs=> ?_) λe s' hs=>hs;have fin:∀{σ':St} {H':Hp} {v:V} {u:pW},Inv (WA CX P w K mg base N qual scope f bj A outer s H E) [] σ' H' s'->zE v u->Q v H'->CE outer P w H s Q u s':=
  λ{σ' H' v u} J rv q=>⟨v,H',J.os,J.bare,J.base,J.hok,rv,q⟩
 cases fl with
 |ret u=>
  obtain⟨v,σ',H',J,rv,q⟩:=hs;exact fin J rv q
 |next=>
  obtain⟨σ',H',J,q⟩:=hs;exact fin (v:=V.non) (u:=Value.none) J rfl q
 |brk=>
  obtain⟨_,_,_,q⟩:=hs;exact BP q
 |cont=>
  obtain⟨_,_,_,q⟩:=hs;exact BP q
section
variable{x:Str}{p pos:Pos}{e:Expr}{es:n8 Expr}{t:TA}{id T:String}{r:n8 V->Hp->VK->Prop}
def tCB(r:n8 V->Hp->VK->Prop)(t:TA):TE:=λσ H Q=>t σ H λvs H1=>r vs H1 Q
def zY(hc:Yf X (.builtin id) r)(hg:Gl X x)(hm:X.mg x=fC)(hv:bootBuiltins x=dB (.builtin id))(ha:PA X (e::es) t)(hn:x≠"__name__":=by decide)(gn:(x==("__debug__":Str))=kb:=by decide)
  (he:starEach (e::es) X.env=(kb,eval e X.env)::starEach es X.env:=by rfl) (fg:(backTo pos (starEach es X.env)).any (·.1)=kb:=by rfl):PE X (.Call (.Name x p) (e::es) [] pos) (tCB r t):=by
 intro pins s σ H Q I h;refine wpAny_Call_Name_kw (vq I hg hm hv ?_ hn gn);refine PyProof.Rows.callWith_builtin1 (thn (ha pos pins s σ H _ I h) ?_) he fg;rintro us s1 ⟨vs,H1,I1,r1,q1⟩;exact hc pins s1 σ H1 vs us Q I1 r1 q1
def zbN(hc:Yf X (.type T) r)(hg:Gl X x)(hm:X.mg x=fC)(hv:bootBuiltins x=dB (.type T))(ha:PA X (e::es) t)(hn:x≠"__name__":=by decide)(gn:(x==("__debug__":Str))=kb:=by decide)
  (he:starEach (e::es) X.env=(kb,eval e X.env)::starEach es X.env:=by rfl) (fg:(backTo pos (starEach es X.env)).any (·.1)=kb:=by rfl):PE X (.Call (.Name x p) (e::es) [] pos) (tCB r t):=by
 intro pins s σ H Q I h;refine wpAny_Call_Name_kw (vq I hg hm hv ?_ hn gn);refine BO (thn (ha pos pins s σ H _ I h) ?_) he fg;rintro us s1 ⟨vs,H1,I1,r1,q1⟩;exact hc pins s1 σ H1 vs us Q I1 r1 q1
end
end L2
variable{prog:PySem.Program}{A:PySem.Around}{E:PySem.Value->PySem.Shared->Prop}{X:L2.Cx}{K:uk}{pins:n8 (PySem.Addr×PySem.Obj)}{σ:L2.St}{H:L2.Hp}{s:PySem.Shared}{Q:PySem.Value->PySem.Shared->Prop}
namespace HT
noncomputable def Yi:n8 Int->n8 Int->Bool
 |[],[]=>kb
 |[],_::_=>fN
 |_::_,[]=>kb
 |x::xs,y::ys=>if x=y then Yi xs ys else decide (x<y)
def zah(x y:Int)(xs ys:n8 Int):Yi (x::xs) (y::ys)=if x=y then Yi xs ys else decide (x<y):=rfl
def zba:Yi [] []=kb:=rfl
def zai(y:Int)(ys:n8 Int):Yi [] (y::ys)=fN:=rfl
def zaj(x:Int)(xs:n8 Int):Yi (x::xs) []=kb:=rfl
def ziw(A:Around)(s:pX)(a:Int)(t:Tok)(c:Int)(u:Tok):∃e,SeqAt.EqAt A s (.int a t) (.int c u) e/\(e=fN↔a=c):=
 ⟨(a==c),SeqAt.EqAt.int_int a t c u,by simp⟩
def zix(A:Around)(s:pX)(a:Int)(t:Tok)(c:Int)(u:Tok)(prog:Program)(w:World)(E:pW->pX->Prop)(Q:pW->pX->Prop)(h:Q (.bool (decide (a<c))) s):
  wpAny (model prog w) A (richCompare .Lt (.int a t) (.int c u)) Q E s:=
 (PyProof.Rows.lt_int h:wpAny (model prog w) A (compareOp .Lt (.int a t) (.int c u)) Q E s)
section
open PySem.SeqAt
open PySem.AutoSeq1 (wpAny_loadPart')
open PySem.MeetsSeq PySem.MeetsSeq2 PySem.MeetsSeq3
def zbb(l b:qo)(items bq:Array pW)(n n2:Nat)(dd pR:pU qo)(sl kC:Array (pU pW))(ns ms:n8 Int)(hi:IntsAre items.toList ns)(hj:IntsAre bq.toList ms):
  Meets (Builtin.«tuple.__lt__» ⟨[.ref l,.ref b],[]⟩)
   (λ_ R s=>s.heap.get? l=dB {cls:= .type "tuple",dict:=dd,data:= .seq items n,slots:=sl}/\s.heap.get? b=dB {cls:= .type "tuple",dict:=pR,data:= .seq bq n2,slots:=kC}/\
    R (.ok (.ret (.bool (Yi ns ms)))) s):=
 .of_wp λprog w A R s h=>by
  obtain⟨hp,g,d,tk,os⟩:=s;obtain⟨hl,hb,h⟩:=h;have f2:=AutoSeq1.sub_tuple_tuple;have z1:items.size=ns.length:=by rw[<-hi.length];simp
  have z2:bq.size=ms.length:=by rw[<-hj.length];simp
  wp_walk using wpAny_loadPart' hl,wpAny_loadPart' hb,wpAny_forIn_list _ (λrest b s'=>b.1=fC/\s'=⟨hp,g,d,tk,os⟩/\∃(vs ws:n8 pW) (ns' ms':n8 Int),rest=vs.zip ws/\
   IntsAre vs ns'/\IntsAre ws ms'/\ns'.length+bq.size=ms'.length+items.size/\R (.ok (.ret (.bool (Yi ns' ms')))) ⟨hp,g,d,tk,os⟩) _
  case turn=>
   rintro⟨y,x⟩ rest b s' ⟨eL,rfl,vs,ws,ns',ms',hz,o9,mH,hlen,hR⟩;cases o9 with
   |nil=>rw[List.zip_nil_left] at hz;cases hz
   |cons a t o8=>
    cases mH with
    |nil=>rw[List.zip_nil_right] at hz;cases hz
    |cons c u o4=>
     rw[DX] at hz;injection hz with sW lb;injection sW with hy hx
     subst hy hx;rw[zah] at hR;simp only[Bo] at hlen;obtain⟨e,he,lK⟩:=ziw A.in1 ⟨hp,g,d,tk,os⟩ a t c u;refine wpAny_bind (he prog w _ _ ?_);cases e with
     |true=>
      rw[if_pos (lK.mp rfl)] at hR
      wp_walk
      exact⟨rfl,rfl,_,_,_,_,lb,o8,o4,⋯,hR⟩
     |false=>
      rw[if_neg (λq=>absurd (lK.mpr q) Bm)] at hR;have tL:=zix A.in1 ⟨hp,g,d,tk,os⟩ a t c u prog w
      wp_walk using tL
      exact⟨_,rfl,by simpa using hR⟩
  case fin=>
   rintro⟨b1,b2⟩ s' ⟨eL,rfl,vs,ws,ns',ms',hz,o9,mH,hlen,hR⟩;simp only at eL;subst eL;have hv:Yi ns' ms'=decide (items.size<bq.size):=by
    cases o9 with
    |nil=>
     cases mH with
     |nil=>
      simp only[ER] at hlen;rw[zba];exact(decide_eq_false ⋯).symm
     |cons c u hw=>
      simp only[ER,Bo] at hlen;rw[zai];exact(decide_eq_true ⋯).symm
    |cons a t hv=>
     cases mH with
     |nil=>
      simp only[ER,Bo] at hlen;rw[zaj];exact(decide_eq_false ⋯).symm
     |cons c u hw=>
      rw[DX] at hz;cases hz
   rw[hv] at hR
   wp_walk
   exact⟨_,rfl,by simpa [Builtin.Tuple.tupleCompareSizes] using hR⟩
  case h=>
   exact⟨rfl,rfl,items.toList,bq.toList,ns,ms,rfl,hi,hj,⋯,h⟩
end
section
def ze3(hl:IsTup s.heap l items)(hb:IsTup s.heap b bq)(hi:IntsAre items.toList ns)(hj:IntsAre bq.toList ms)
  (hu:A.units<cLine) (h:Q (.bool (Yi ns ms)) s):wpAny (model prog w) A (compareOp .Lt (.ref l) (.ref b)) Q E s:=by
 obtain⟨⟨cls,dd,data,sl⟩,ho,hc,n,hd⟩:=id hl;obtain⟨⟨y6,pR,data2,kC⟩,mK,dR,n2,hd2⟩:=id hb;simp only at hc hd dR hd2;subst hc hd dR hd2;exact richCompare_meets_room (op:= .Lt) ⟨_,ho,rfl⟩ ⟨_,mK,rfl⟩ PySem.F.slot_tuple_lt PySem.F.entry_tuple_lt (PySem.F.args_tuple_lt_2 _ _) (zbb l b items bq n n2 dd pR sl kC ns ms hi hj)
  ⟨ho,mK,show Value.bool (Yi ns ms)≠Value.notImplemented/\Q (.bool (Yi ns ms)) s from ⟨(λx=>nomatch x),h⟩⟩ hu
noncomputable def sIx(n d:Nat):pU Int->Nat
 |none=>d
 |some v=>if v<0 then (v+(n:Int)).toNat else min v.toNat n
def ziy(n d:Nat):sIx n d fC=d:=rfl
def zlu(n d k:Nat):sIx n d (dB (k:Int))=min k n:=by
 show(if (k:Int)<0 then ((k:Int)+(n:Int)).toNat else min (k:Int).toNat n)=min k n;rw[if_neg ⋯,B9]
end
end HT
namespace L2
abbrev TO:=St->Hp->(pU Int->Hp->Prop)->Prop
def PO(X:Cx)(e:pU Expr)(t:TO):Prop:=
 ∀(pins:n8 (qo×Obj)) (s:pX) (σ:St) (H:Hp) (Q:pU Int->Hp->Prop),Inv X pins σ H s->t σ H Q->
  wpAny (model X.prog X.w) X.A (evalPart e X.env) (λu s'=>∃o H',Inv X pins σ H' s'/\IsPart u o/\Q o H') X.xe s
def zgm:TO:=λ_ H Q=>Q fC H
def zm8(t:TE):TO:=λσ H Q=>t σ H λx H1=>∃i,x= .int i/\Q (dB i) H1
def zak:∀{us:n8 pW},zK (ns.map V.int) us->IntsAre us ns:=by
 induction ns with
 |nil=>intro us r;rw[GR] at r;cases r;exact .nil
 |cons n ns ih=>
  intro us r;rw[Be] at r;cases r with
  |cons r1 r2=>
   obtain⟨t,e⟩:=r1;subst e;exact .cons n t (ih r2)
section
variable{e:Expr}{te:TE}{lo hi:pU Expr}{tl th:TO}{pos p2:Pos}
def zlv:PO X fC zgm:=by
 intro pins s σ H Q I h;rw[evalPart_none];exact wpAny_pure ⟨fC,H,I,.none,h⟩
def zlw(h:PE X e te):PO X (dB e) (zm8 te):=by
 intro pins s σ H Q I hw;rw[evalPart_some];refine thn (h pins s σ H _ I hw) ?_;rintro u s1 ⟨x,H1,I1,r1,q1⟩;obtain⟨i,rfl,q⟩:=q1;obtain⟨t,rfl⟩:=r1;exact⟨dB i,H1,I1,.int i t,q⟩
def SlR(X:Cx)(r:V->pU Int->pU Int->Hp->VK->Prop):Prop:=
 ∀(pins:n8 (qo×Obj)) (s:pX) (σ:St) (H:Hp) (x:V) (v vl vu:pW) (lo hi:pU Int) (sl:qo) (Q:VK),Inv X pins σ H s->zE x v->s.heap.IsSliceOf sl vl vu .none->IsPart vl lo->IsPart vu hi->r x lo hi H Q->
  ∃T id,typeLookup (.type T) "__getitem__"=pure (dB (.builtin id))/\s.TypeIs v T/\wpAny (model X.prog X.w) X.A (getItem v (.ref sl)) (EP X pins σ Q) X.xe s
def tSl(r:V->pU Int->pU Int->Hp->VK->Prop)(te:TE)(tl th:TO):TE:=λσ H Q=>te σ H λx H1=>tl σ H1 λl H2=>th σ H2 λu H3=>r x l u H3 Q
def ziz{r:V->pU Int->pU Int->Hp->VK->Prop}(hr:SlR X r)(he:PE X e te)(hl:PO X lo tl)(hu:PO X hi th):PE X (.Subscript e (.Slice lo hi fC p2) pos) (tSl r te tl th):=by
 intro pins s σ H Q I h;refine Subscript_ (thn (he pins s σ H _ I h) ?_);rintro v s1 ⟨x,H1,I1,r1,q1⟩;refine wpAny_Slice (thn (hl pins s1 σ H1 _ I1 q1) ?_);rintro vl s2 ⟨l,H2,I2,pl,q2⟩;refine thn (hu pins s2 σ H2 _ I2 q2) ?_;rintro vu s3 ⟨u,H3,I3,pu,q3⟩;rw[evalPart_none];refine wpAny_pure ?_;have I4:Inv X pins σ H3 {s3 with heap:=s3.heap.push {cls:= .type "slice",data:= .fields #[vl,vu,.none]}}:=I3.kept (t':=s3.toks) λb ob q=>Heap.get?_push_of_some _ q;obtain⟨T,id,hT,ht,hg⟩:=hr pins {s3 with heap:=s3.heap.push {cls:= .type "slice",data:= .fields #[vl,vu,.none]}} σ H3 x v vl vu l u s3.heap.objs.size Q I4 r1 (Heap.IsSliceOf.new ..) pl pu q3;show wpAny (model X.prog X.w) X.A (subscriptTail e (.Slice lo hi fC p2) v (.ref s3.heap.objs.size)) (EP X pins σ Q) X.xe {s3 with heap:=s3.heap.push {cls:= .type "slice",data:= .fields #[vl,vu,.none]}};exact tail_any (ops:=[.ref s3.heap.objs.size,v]) ht hT hg (by with_unfolding_all rfl)
noncomputable def zhp(xs:n8 V)(lo hi:pU Int):n8 V:=(xs.drop (HT.sIx xs.length 0 lo)).take (HT.sIx xs.length xs.length hi-HT.sIx xs.length 0 lo)
def zdK(xs:n8 V)(lo hi:pU Int):(zhp xs lo hi).length<=xs.length:=by
 unfold zhp;rw[BI,List.length_drop];omega
end
noncomputable def ixN(n:Nat)(i:Int):pU Nat:=if 0<=i then (if i<n then dB i.toNat else fC) else if -(n:Int)<=i then dB (i+n).toNat else fC
noncomputable def atI{α:Type}(xs:n8 α)(i:Int):pU α:=(ixN xs.length i).bind λj=>xs[j]?
def zgn(h:ixN n i=dB j):seqIndex? i n=dB j/\j<n/\ -(n:Int)<=i/\i<n:=by
 unfold ixN at h;by_cases h0:0<=i;rw[if_pos h0] at h;by_cases h1:i<n;rw[if_pos h1] at h;have e:i.toNat=j:=C0 h;exact⟨by rw[seqIndex_of h0 h1,e],⋯,⋯,h1⟩;rw[if_neg h1] at h;cases h;rw[if_neg h0] at h;by_cases h1: -(n:Int)<=i;rw[if_pos h1] at h;have e:(i+n).toNat=j:=C0 h;exact⟨by rw[seqIndex_neg ⋯ h1,e],⋯,h1,⋯⟩;rw[if_neg h1] at h;cases h
def zcv{α:Type}{xs:n8 α}{v:α}(h:atI xs i=dB v):∃j,seqIndex? i xs.length=dB j/\xs[j]? =dB v/\j<xs.length/\ -(xs.length:Int)<=i/\i<xs.length:=by
 unfold atI at h;cases e:ixN xs.length i with
 |none=>rw[e] at h;cases h
 |some j=>
  rw[e] at h;obtain⟨h1,h2,h3,h4⟩:=zgn e;exact⟨j,h1,h,h2,h3,h4⟩
def zlx(b:Expr):Prop:=∀o i,subscripted b kb o i=operate [o,i] (getItem o i)
def IxR(X:Cx)(r:R2):Prop:=
 ∀(value slice:Expr) (pins:n8 (qo×Obj)) (s:pX) (σ:St) (H:Hp) (x y:V) (v u:pW) (Q:VK),Inv X pins σ H s->zE x v->zE y u->r x y H Q->
  subscripted slice kb v u=operate [v,u] (getItem v u)->wpAny (model X.prog X.w) X.A (subscriptTail value slice v u) (EP X pins σ Q) X.xe s
def MtR(X:Cx)(id:String)(r:V->n8 V->Hp->VK->Prop):Prop:=
 ∀(pins:n8 (qo×Obj)) (s:pX) (σ:St) (H:Hp) (x:V) (xs:n8 V) (v:pW) (us:n8 pW) (Q:VK),Inv X pins σ H s->zE x v->zK xs us->r x xs H Q->
  wpAny (model X.prog X.w) X.A (call (.builtin id) (v::us)) (EP X pins σ Q) X.xe s
section
variable{a b:Expr}{ta tb:TE}{pos:Pos}
def IxR.or(h:IxR X r)(h':IxR X r'):IxR X (λx y H Q=>r x y H Q\/r' x y H Q):=by
 intro value slice pins s σ H x y v u Q I rx ry q hs;rcases q with q|q;exact h value slice pins s σ H x y v u Q I rx ry q hs;exact h' value slice pins s σ H x y v u Q I rx ry q hs
def ziA{r:R2}(hr:IxR X r)(ha:PE X a ta)(hb:PE X b tb)(hs:zlx b):PE X (.Subscript a b pos) (tOp r ta tb):=by
 intro pins s σ H Q I h;exact Subscript_ (znR ha hb I h λv u s2 x y H2 I2 rx ry q=>hr a b pins s2 σ H2 x y v u Q I2 rx ry q (hs _ _))
def zly(K:AO):R2:=λx y H Q=>∃p xs i v,x= .ref p/\y= .int i/\SqL K H p xs/\atI xs i=dB v/\Q v H
def zlz(K:AO):R2:=λx y H Q=>∃p xs i v,x= .ref p/\y= .int i/\SqT K H p xs/\atI xs i=dB v/\Q v H
def zpw:R2:=λx y H Q=>∃z i c,x= .str z/\y= .int i/\z.length<=sizeLine/\atI z.cps.toList i=dB c/\Q (.str ⟨#[c]⟩) H
def zgo:IxR X (zly X.K):=by
 intro value slice pins s σ H x y v u Q I rx ry h hs;obtain⟨p,xs,i,z,rfl,rfl,hq,he,q⟩:=h;cases rx;obtain⟨t,rfl⟩:=ry;obtain⟨ae,r,pl,hz⟩:=I.list hq;obtain⟨j,h1,h2,h3,h4,h5⟩:=zcv he;obtain⟨w,ew,rw'⟩:=r.get h2;have hl:=r.length;have hn:=zag;have fin:EP X pins σ Q w s:=⟨z,H,I,rw',q⟩;by_cases h0:0<=i
 .have hj:i.toNat=j:=by
   rw[seqIndex_of h0 h5] at h1;exact C0 h1
  exact item_listR pl.isList h0 ⋯ (by rw[hj];simpa using ew) fin hs
 have hj:(i+(ae.toArray.size:Int)).toNat=j:=by
  rw[seqIndex_neg ⋯ h4] at h1;rw[B8,<-hl];exact C0 h1
 exact subscriptTail_builtinR (x:=w) pl.isList.typeIs slot_list_getitem.lookup
  (wpAny_getItem_list_neg (Q:=λr s'=>r=w/\EP X pins σ Q r s') pl.isList ⋯ (by rw[B8]<;>omega) ⋯ (by rw[hj];simpa using ew) ⟨rfl,fin⟩) hs
def ziB:IxR X (zlz X.K):=by
 intro value slice pins s σ H x y v u Q I rx ry h hs;obtain⟨p,xs,i,z,rfl,rfl,hq,he,q⟩:=h;cases rx;obtain⟨t,rfl⟩:=ry;obtain⟨ae,r,pl,hz⟩:=I.tuple hq;obtain⟨j,h1,h2,h3,h4,h5⟩:=zcv he;obtain⟨w,ew,rw'⟩:=r.get h2;have hl:=r.length;have hn:=zag;have fin:EP X pins σ Q w s:=⟨z,H,I,rw',q⟩;exact subscriptTail_builtinR (x:=w) pl.typeIs slot_tuple_getitem.lookup
  (getItem_tuple (j:=j) (Q:=λr s'=>r=w/\EP X pins σ Q r s') pl ⋯ ⋯ (by rw[B8,<-hl];exact h1) (by simpa using ew) ⟨rfl,fin⟩) hs
def znW:IxR X zpw:=by
 intro value slice pins s σ H x y v u Q I rx ry h hs;obtain⟨z,i,c,rfl,rfl,hz,he,q⟩:=h;obtain⟨t,rfl⟩:=rx;obtain⟨t',rfl⟩:=ry;obtain⟨j,h1,h2,h3,h4,h5⟩:=zcv he;have hl:z.cps.toList.length=z.length:=by simp[Str.length]
 rw[hl] at h1 h4 h5;have hn:=zag
 exact tail_any (typeIs_str s z t) slot_str_getitem.lookup (getItem_str (c:=c) (by
  have e1:decide (i< -(2^63:Int))=kb:=decide_eq_false ⋯;have e2:decide (i≥2^63)=kb:=decide_eq_false ⋯
  rw[e1,e2,Ic]) (by rw[h1];simpa using h2) ⟨.str ⟨#[c]⟩,H,I.tok _,⟨_,rfl⟩,q⟩) hs
def rIx(K:AO):R2:=λx y H Q=>zly K x y H Q\/zlz K x y H Q\/zpw x y H Q
def znX:IxR X (rIx X.K):=zgo.or (ziB.or znW)
def ze4(ae:n8 pW)(n j:Nat)(u:pW):Obj.mapSeq (·.setIfInBounds j u) {cls:= .type "list",data:= .seq ae.toArray n}={cls:= .type "list",data:= .seq (ae.set j u).toArray n}:=by
 simp[Obj.mapSeq]
def Inv.lst{pins:n8 (qo×Obj)}{σ:St}{H:Hp}{s:pX}{p:qo}{xs:n8 V}(I:Inv X pins σ H s)(h:H p=dB (.lst xs)):
  ∃(ae:n8 pW) (n:Nat),zK xs ae/\s.heap.get? p=dB {cls:= .type "list",data:= .seq ae.toArray n}/\xs.length<=sizeLine:=by
 obtain⟨z,ae,n,r,e⟩:=I.hok p _ h;exact⟨ae,n,r,e,z⟩
def Inv.lstUpd{ae its':n8 pW}{f:Obj->Obj}(I:Inv X pins σ H s)(h:H p=dB (.lst xs))
  (ho:s.heap.get? p=dB {cls:= .type "list",data:= .seq ae.toArray n}) (hf:f {cls:= .type "list",data:= .seq ae.toArray n}={cls:= .type "list",data:= .seq its'.toArray n'}) (r:zK ys its') (hz:ys.length<=sizeLine) (t:Nat):
  Inv X pins σ (upd H p (.lst ys)) {s with heap:=s.heap.update p f,toks:=t}:=by
 have e:(s.heap.update p f).get? p=dB {cls:= .type "list",data:= .seq its'.toArray n'}:=by
  rw[Heap.get?_update_self f ho (by rw[hf]<;>rfl),hf]
 refine I.write (x:=p) (e:=p) (by rw[h];trivial) (.inl rfl) (λb u hb q=>(Heap.get?_update_other _ _ (BM hb)).trans q) ⟨_,e⟩ ?_;exact⟨hz,its',n',r,e⟩
def zm9:V->V->V->Hp->(Hp->Prop)->Prop:=λo i v H Q=>∃p xs k j,o= .ref p/\i= .int k/\H p=dB (.lst xs)/\ixN xs.length k=dB j/\Q (upd H p (.lst (xs.set j v)))
def Yj:zpk X zm9:=by
 intro pins s σ H o i v ov iv u Q I ro ri rv h;obtain⟨p,xs,k,j,rfl,rfl,hp,hj,q⟩:=h;cases ro;obtain⟨t,rfl⟩:=ri;obtain⟨ae,n,r,ho,hz⟩:=I.lst hp;obtain⟨h1,h2,h3,h4⟩:=zgn hj;have hl:=r.length;have hn:=zag;have I':Inv X pins σ (upd H p (.lst (xs.set j v))) {s with heap:=s.heap.update p (Obj.mapSeq (·.setIfInBounds j u))}:=
  I.lstUpd hp ho (ze4 ae n j u) (r.set rv j) (by rw[Dj];exact hz) s.toks
 by_cases h0:0<=k
 .have hk:k.toNat=j:=by
   rw[seqIndex_of h0 h4] at h1;exact C0 h1
  exact PySem.W.ki_setAt ho h0 ⋯ (by rw[B8,<-hl];exact h4) (by rw[hk];exact⟨_,I',q⟩)
 have hk:(k+(ae.toArray.size:Int)).toNat=j:=by
  rw[seqIndex_neg ⋯ h3] at h1;rw[B8,<-hl];exact C0 h1
 exact PySem.W.ki_setBack ho ⋯ (by rw[B8,<-hl];exact h3) ⋯ (by rw[hk];exact⟨_,I',q⟩)
def zcw(lo hi:pU Int)(n:Nat):(sliceBounds lo hi fC n).1=((HT.sIx n 0 lo:Nat):Int)/\(sliceBounds lo hi fC n).2.1=((HT.sIx n n hi:Nat):Int)/\(sliceBounds lo hi fC n).2.2=1:=by
 refine⟨?_,?_,rfl⟩
 .cases lo with
  |none=>simp[sliceBounds,HT.sIx]
  |some i=>
   simp only[sliceBounds,HT.sIx,Hv,show(1:Int)>0 by decide,if_true];by_cases h:i<0
   .simp only[h,if_true]<;>omega
   simp only[h,if_false]<;>omega
 cases hi with
 |none=>simp[sliceBounds,HT.sIx]
 |some i=>
  simp only[sliceBounds,HT.sIx,Hv,show(1:Int)>0 by decide,if_true];by_cases h:i<0
  .simp only[h,if_true]<;>omega
  simp only[h,if_false]<;>omega
def zbc(ae:n8 pW)(lo hi:pU Int):slicePick ae.toArray lo hi fC=((ae.drop (HT.sIx ae.length 0 lo)).take (HT.sIx ae.length ae.length hi-HT.sIx ae.length 0 lo)).toArray:=by
 obtain⟨h1,h2,h3⟩:=zcw lo hi ae.toArray.size;unfold slicePick;rw[h1,h2,h3];simp only[sliceRange_one,pick_run,B8]<;>rfl
def ziC(K:AO):V->pU Int->pU Int->Hp->VK->Prop:=λx lo hi H Q=>∃a xs,x= .ref a/\SqL K H a xs/\∀p,H p=fC->Q (.ref p) (upd H p (.lst (zhp xs lo hi)))
def zlA:SlR X (ziC X.K):=by
 intro pins s σ H x v vl vu lo hi sl Q I rx hs pl pu h;obtain⟨a,xs,rfl,hx,q⟩:=h;cases rx;obtain⟨ae,r,ht,hz⟩:=I.list hx;have hlen:=r.length;refine⟨"list",_,slot_list_getitem.lookup,ht.isList.typeIs,?_⟩;refine wpAny_getItem_list_slice ht.isList hs pl pu .none (by simp) ?_ (by rw[B8]<;>omega);rw[zbc,<-hlen];refine⟨.ref s.heap.objs.size,_,I.laid (t':=s.toks) (o:= .lst (zhp xs lo hi)) (λb ob q=>Heap.get?_push_of_some _ q) (B1 _) ?_,rfl,q _ (I.hok.fresh (B1 _))⟩;exact⟨AZ (zdK xs lo hi) hz,_,0,(r.drop (HT.sIx xs.length 0 lo)).take (HT.sIx xs.length xs.length hi-HT.sIx xs.length 0 lo),Heap.get?_push_size _ rfl⟩
noncomputable def XC:V->Bool
 | .non=>fN
 | .bl _=>fN
 | .int _=>fN
 | .str _=>fN
 |_=>kb
noncomputable def eqV:V->V->Bool
 | .non,.non=>fN
 | .bl a,.bl b=>a==b
 | .bl a,.int b=>(if a then 1 else 0)==b
 | .int a,.bl b=>a==(if b then 1 else 0)
 | .int a,.int b=>a==b
 | .str a,.str b=>a==b
 |_,_=>kb
def znY(ry:zE y u)(rx:zE x v)(fy:XC y=fN)(fx:XC x=fN):SeqAt.EqAt A s u v (eqV y x):=by
 cases y with
 |non=>
  cases ry;cases x with
  |non=>cases rx;exact SeqAt.EqAt.same _
  |bl b=>cases rx;exact SeqAt.EqAt.none_bool b
  |int b=>obtain⟨t,rfl⟩:=rx;exact SeqAt.EqAt.none_int b t
  |str b=>obtain⟨t,rfl⟩:=rx;exact SeqAt.EqAt.none_str b t
  |_=>exact absurd (show kb=fN from fx) Bm
 |bl a=>
  cases ry;cases x with
  |non=>cases rx;exact SeqAt.EqAt.bool_none a
  |bl b=>cases rx;exact SeqAt.EqAt.bool_bool a b
  |int b=>obtain⟨t,rfl⟩:=rx;exact SeqAt.EqAt.bool_int a b t
  |str b=>obtain⟨t,rfl⟩:=rx;exact SeqAt.EqAt.bool_str a b t
  |_=>exact absurd (show kb=fN from fx) Bm
 |int a=>
  obtain⟨t',rfl⟩:=ry;cases x with
  |non=>cases rx;exact SeqAt.EqAt.int_none a t'
  |bl b=>cases rx;exact SeqAt.EqAt.int_bool a t' b
  |int b=>obtain⟨t,rfl⟩:=rx;exact SeqAt.EqAt.int_int a t' b t
  |str b=>obtain⟨t,rfl⟩:=rx;exact SeqAt.EqAt.int_str a t' b t
  |_=>exact absurd (show kb=fN from fx) Bm
 |str a=>
  obtain⟨t',rfl⟩:=ry;cases x with
  |non=>cases rx;exact SeqAt.EqAt.str_none a t'
  |bl b=>cases rx;exact SeqAt.EqAt.str_bool a t' b
  |int b=>obtain⟨t,rfl⟩:=rx;exact SeqAt.EqAt.str_int a t' b t
  |str b=>obtain⟨t,rfl⟩:=rx;exact SeqAt.EqAt.str_str a t' b t
  |_=>exact absurd (show kb=fN from fx) Bm
 |_=>exact absurd (show kb=fN from fy) Bm
noncomputable def eqU(x:V)(u:pW):Bool:=match u with
 | .none=>eqV .non x
 | .bool b=>eqV (.bl b) x
 | .int i _=>eqV (.int i) x
 | .str z _=>eqV (.str z) x
 |_=>kb
def ziD(r:zE y u)(f:XC y=fN):eqU x u=eqV y x:=by
 cases y with
 |non=>cases r;rfl
 |bl b=>cases r;rfl
 |int i=>obtain⟨t,rfl⟩:=r;rfl
 |str z=>obtain⟨t,rfl⟩:=r;rfl
 |_=>exact absurd (show kb=fN from f) Bm
theorem zcx:∀{xs:n8 V} {us:n8 pW},zK xs us->xs.all XC=fN->us.any (eqU x)=xs.any λy=>eqV y x
 |_,_,.nil,_=>rfl
 |y::xs,u::us,.cons r t,f=>by
  rw[DR,Cj] at f;rw[D8,D8,ziD r f.1,zcx t f.2]
theorem zal(rx:zE x v)(fx:XC x=fN):∀{xs:n8 V} {us:n8 pW},zK xs us->xs.all XC=fN->∀u∈us,SeqAt.EqAt A s u v (eqU x u)
 |_,_,.nil,_=>λu hu=>by cases hu
 |y::xs,u::us,.cons r t,f=>λu' hu=>by
  rw[DR,Cj] at f;rcases Bi.mp hu with rfl|hu;rw[ziD r f.1];exact znY r rx f.1 fx;exact zal rx fx t f.2 u' hu
noncomputable def inV(x:V)(xs:n8 V):Bool:=xs.any λy=>eqV y x
def rIn(K:AO)(neg:Bool):R2:=λx y H Q=>∃p xs,y= .ref p/\(SqL K H p xs\/SqT K H p xs)/\XC x=fN/\xs.all XC=fN/\Q (.bl (if neg then !inV x xs else inV x xs)) H
def zcy:OpR X (compareOp .NotIn) (rIn X.K fN):=by
 intro pins s σ H x y v u Q I rx ry h;obtain⟨p,xs,rfl,hq,fx,fs,q⟩:=h;cases ry;rcases hq with hq|hq;obtain⟨ae,r,pl,hz⟩:=I.list hq;refine SeqAt.notIn_listAt (eqU x) pl.isList (λw hw=>zal rx fx r fs w (by simpa using hw)) ⟨.bl _,H,I,rfl,?_⟩;rw[show ae.toArray.any (eqU x)=ae.any (eqU x) by simp,zcx r fs];exact q;obtain⟨ae,r,pl,hz⟩:=I.tuple hq;refine SeqAt.notIn_tupleAt (eqU x) pl (λw hw=>zal rx fx r fs w (by simpa using hw)) ⟨.bl _,H,I,rfl,?_⟩;rw[show ae.toArray.any (eqU x)=ae.any (eqU x) by simp,zcx r fs];exact q
def zcz:Yf X (.builtin "len") (λxs H Q=>∃p ys,xs=[.ref p]/\(SqL X.K H p ys\/SqT X.K H p ys)/\Q (.int ys.length) H):=by
 intro pins s σ H xs us Q I r h;obtain⟨p,ys,rfl,hq,q⟩:=h;obtain⟨u,rfl,rx⟩:=XA r;cases rx;have hn:=zag;rcases hq with hq|hq;obtain⟨ae,r',pl,hz⟩:=I.list hq;have hlen:=r'.length;exact Calls.call_len_list pl.isList (by simp only[B8]<;>omega) ⟨.int ys.length,H,I.tok _,⟨s.toks+1,by rw[B8,hlen]⟩,q⟩;obtain⟨ae,r',pl,hz⟩:=I.tuple hq;have hlen:=r'.length;exact len_tuple pl (by simp only[B8]<;>omega) ⟨.int ys.length,H,I.tok _,⟨s.toks+1,by rw[B8,hlen]⟩,q⟩
def zcA:Yf X (.type "list") (λxs H Q=>∃p ys,xs=[.ref p]/\(SqL X.K H p ys\/SqT X.K H p ys)/\∀l,H l=fC->Q (.ref l) (upd H l (.lst ys))):=by
 intro pins s σ H xs us Q I r h;obtain⟨p,ys,rfl,hq,q⟩:=h;obtain⟨u,rfl,rx⟩:=XA r;cases rx;have fin:∀(ae:n8 pW),zK ys ae->ys.length<=sizeLine->∀(h':Heap) (c':Nat),(∀b o',s.heap.get? b=dB o'->h'.get? b=dB o')->
   h'.get? s.heap.objs.size=dB {cls:= .type "list",dict:=fC,data:= .seq ae.toArray c',slots:= #[]}->EP X pins σ Q (.ref s.heap.objs.size) {s with heap:=h'}:=λae r' hz h' c' kp e=>
  ⟨.ref s.heap.objs.size,_,I.laid (t':=s.toks) kp (B1 _) (show yz X.prog X.w _ h' _ (.lst ys) from ⟨hz,ae,c',r',e⟩),rfl,q _ (I.hok.fresh (B1 _))⟩
 rcases hq with hq|hq;obtain⟨ae,r',pl,hz⟩:=I.list hq;have hlen:=r'.length;obtain⟨o,ho,hc,n,hd⟩:=pl.isList;exact call_list_seq p (.inl rfl) ho hc hd (λh' c' kp e=>fin ae r' hz h' c' kp e) (by simp only[B8]<;>omega);obtain⟨ae,r',pl,hz⟩:=I.tuple hq;have hlen:=r'.length;obtain⟨o,ho,hc,n,hd⟩:=pl;exact call_list_seq p (.inr rfl) ho hc hd (λh' c' kp e=>fin ae r' hz h' c' kp e) (by simp only[B8]<;>omega)
def tyV(K:AO)(T:String)(x:V)(H:Hp):Prop:=match x with
 | .str _=>T="str"
 | .int _=>T="int"
 | .ref p=>(T="list"/\∃xs,SqL K H p xs)\/(T="tuple"/\∃o,K.lookup p=dB o/\o.cls= .type "tuple"/\o.dict=fC)\/
   (T="dict"/\((∃kvs,Rd H p (.dK kvs))\/∃kvs,H p=dB (.dT kvs)))\/(T="set"/\∃S n,H p=dB (.set S n))
 |_=>False
def ziE(I:Inv X pins σ H s)(r:zE x v)(ty:tyV X.K T x H):
  s.TypeIs v T/\∀a,v= .ref a->∃ob,s.heap.get? a=dB ob/\ob.dict=fC:=by
 cases x with
 |str z=>
  obtain⟨t,rfl⟩:=r;cases (show T="str" from ty);exact⟨typeIs_str s z t,λ_ e=>nomatch e⟩
 |int i=>
  obtain⟨t,rfl⟩:=r;cases (show T="int" from ty);exact⟨typeIs_int s i t,λ_ e=>nomatch e⟩
 |ref p=>
  cases r;rcases ty with⟨rfl,xs,hq⟩|⟨rfl,o,hk,hc,hd⟩|⟨rfl,hk⟩|⟨rfl,S,n,hk⟩
  .obtain⟨ae,_,pl,_⟩:=I.list hq;refine⟨pl.isList.typeIs,λa e=> ?_⟩;cases e;obtain⟨o,n,e,c,hd,_⟩:=pl;exact⟨o,e,hd⟩
  .refine⟨⟨o,I.kIn p o hk,hc⟩,λa e=> ?_⟩;cases e;exact⟨o,I.kIn _ o hk,hd⟩
  .have z:∃o,s.heap.get? p=dB o/\o.ExactDict:=by
    rcases hk with⟨kvs,hk⟩|⟨kvs,hk⟩
    .obtain⟨_,_,_,_,o,_,_,e,ex,_⟩:=hk.ok I.hok;exact⟨o,e,ex⟩
    obtain⟨_,_,_,_,o,_,_,e,ex,_⟩:=I.hok p _ hk;exact⟨o,e,ex⟩
   obtain⟨o,e,ex⟩:=z;refine⟨⟨o,e,ex.1⟩,λa e2=> ?_⟩;cases e2;exact⟨o,e,ex.2.1⟩
  obtain⟨o,_,_,_,e,ex,_⟩:=I.hok p _ hk;refine⟨⟨o,e,ex.1⟩,λa e2=> ?_⟩;cases e2;exact⟨o,e,ex.2.1⟩
 |_=>exact BP ty
def znZ(K:AO)(T:String)(r:V->n8 V->Hp->VK->Prop)(to:TE):TE:=λσ H Q=>to σ H λx H1=>tyV K T x H1/\r x [] H1 Q
def tBM(K:AO)(T:String)(r:V->n8 V->Hp->VK->Prop)(to:TE)(t:TA):TE:=λσ H Q=>to σ H λx H1=>tyV K T x H1/\t σ H1 λxs H2=>r x xs H2 Q
variable{o e:Expr}{es:n8 Expr}{to:TE}{t:TA}{name:Str}{apos aN:Pos}{T id:String}{r:V->n8 V->Hp->VK->Prop}
def ze5(pa:PlainAttrs T)(slot:Slot T name id)(oa:typeOf (.builtin id)=pure (.type "method_descriptor"))(hm:MtR X id r)(ho:PE X o to)
  (gQ:attributeBase o name X.env (eval o X.env)=eval o X.env:=by rfl) (hline:(apos.endLine==aN.line)=fN:=by rfl):PE X (.Call (.Attribute o name apos) [] [] aN) (znZ X.K T r to):=by
 intro pins s σ H Q I h;refine wpAny_Call_method0_late gQ hline (thn (ho pins s σ H _ I h) ?_);rintro v s1 ⟨x,H1,I1,r1,ty,q1⟩;obtain⟨h1,h2⟩:=ziE I1 r1 ty;exact⟨T,id,pa,slot,oa,h1,h2,Calls.callWith_builtin rfl (PySem.evalArgs_none (hm pins s1 σ H1 x [] v [] Q I1 r1 .nil q1))⟩
def Vz(pa:PlainAttrs T)(slot:Slot T name id)(oa:typeOf (.builtin id)=pure (.type "method_descriptor"))(hm:MtR X id r)(ho:PE X o to)(ha:PA X (e::es) t)
  (gQ:attributeBase o name X.env (eval o X.env)=eval o X.env:=by rfl)
  (p8:((backTo aN (starEach (e::es) X.env)).all (λx=> !x.1)&&(backToKw aN (keywordEach [] X.env)).all (λx=>x.1.isSome)
   &&decide ((e::es).length+([]:n8 Keyword).length+(if ([]:n8 Keyword).isEmpty then 0 else 1)<30))=fN:=by rfl)
  (hline:(apos.endLine==aN.line)=fN:=by rfl) (hs:starEach (e::es) X.env=(kb,eval e X.env)::starEach es X.env:=by rfl) (jC:(backTo aN (starEach es X.env)).any (·.1)=kb:=by rfl):
  PE X (.Call (.Attribute o name apos) (e::es) [] aN) (tBM X.K T r to t):=by
 intro pins s σ H Q I h;refine wpAny_Call_method_late gQ p8 hline rfl (thn (ho pins s σ H _ I h) ?_);rintro v s1 ⟨x,H1,I1,r1,ty,q1⟩;obtain⟨h1,h2⟩:=ziE I1 r1 ty;refine⟨T,id,pa,slot,oa,h1,h2,?_⟩;have hA:=ha aN pins s1 σ H1 _ I1 q1;rw[hs] at hA ⊢;refine Calls.callWith_builtin (by show(kb||(backTo aN (starEach es X.env)).any (·.1))=kb;rw[jC]<;>rfl) (Calls.evalArgs_plain ?_);refine thn hA ?_;rintro us s2 ⟨vs,H2,I2,r2,q2⟩;exact hm pins s2 σ H2 x vs v us Q I2 r1 r2 q2
end
def MtM(X:Cx)(id:String)(r:V->n8 V->Hp->VK->Prop):Prop:=
 ∀(pins:n8 (qo×Obj)) (s:pX) (σ:St) (H:Hp) (x:V) (xs:n8 V) (v:pW) (us:n8 pW) (Q:VK),Inv X pins σ H s->zE x v->zK xs us->r x xs H Q->
  wpAny (model X.prog X.w) X.A (call (.builtin id) (v::us)) (EP X pins σ Q) X.xe s
def zK.one(h:zK [x] us):∃u,us=[u]/\zE x u:=by
 cases h with
 |cons r t=>cases t;exact⟨_,rfl,r⟩
theorem zK.zero:∀{us:n8 pW},zK [] us->us=[]
 |_,.nil=>rfl
def zK.dropLast(h:zK xs us):zK xs.dropLast us.dropLast:=by
 induction h with
 |nil=>exact .nil
 |cons r t ih=>
  cases t with
  |nil=>exact .nil
  |cons q t'=>exact .cons r ih
theorem zK.rep(h:zK xs us):∀k:Nat,zK (B6 k xs).flatten (B6 k us).flatten
 |0=> .nil
 |k+1=>by
  rw[Ck,Ck,D7,D7];exact zK.append h (zK.rep h k)
def ze6{α:Type}(l:n8 α):l.eraseIdx (l.length-1)=l.dropLast:=by
 induction l with
 |nil=>rfl
 |cons a r ih=>
  cases r with
  |nil=>rfl
  |cons b r=>
   have e:(a::b::r).length-1=((b::r).length-1)+1:=by
    have h1:(a::b::r).length=r.length+2:=rfl;have h2:(b::r).length=r.length+1:=rfl;omega
   rw[e,List.eraseIdx_cons_succ,ih]
   all_goals rfl
theorem zbO(ae:n8 pW):∀(k:Nat) (acc:n8 pW),
  HE (λx1 x2=>x1++x2) acc.toArray (B6 k ae.toArray)=(acc++(B6 k ae).flatten).toArray
 |0,acc=>by simp
 |k+1,acc=>by
  have e:acc.toArray++ae.toArray=(acc++ae).toArray:=by simp
  have e2:(acc++ae)++(B6 k ae).flatten=acc++(B6 (k+1) ae).flatten:=by
   rw[Ck,D7,Hg]
  rw[<-e2,<-zbO ae k (acc++ae),<-e,Ck,List.foldl_cons]
section
def Inv.lset{ae its':n8 pW}{f:Array pW->Array pW}(I:Inv X pins σ H s)(hH:H l=dB (.lst xs))
  (e:s.heap.get? l=dB {cls:= .type "list",data:= .seq ae.toArray n}) (hf:f ae.toArray=its'.toArray) (hv:zK ys its') (hz:ys.length<=sizeLine):
  Inv X pins σ (upd H l (.lst ys)) {s with heap:=s.heap.update l (Obj.mapSeq f),toks:=t'}:=by
 have q:=PySem.IsL.update e f;rw[hf] at q;refine I.write (x:=l) (e:=l) (by rw[hH];exact trivial) (.inl rfl) (λb' u hb hu=>(Heap.get?_update_other s.heap (Obj.mapSeq f) (BM hb)).trans hu) ⟨_,q⟩ ?_;exact⟨hz,its',_,hv,q⟩
def Inv.lnew(I:Inv X pins σ H s)(hv:zK ys ae)(hz:ys.length<=sizeLine):
  Inv X pins σ (upd H s.heap.objs.size (.lst ys)) {s with heap:=s.heap.push {cls:= .type "list",data:= .seq ae.toArray},toks:=t'}:=
 I.laid (λ_ _ q=>Heap.get?_push_of_some _ q) (B1 _) ⟨hz,ae,0,hv,Heap.get?_push_size _ rfl⟩
def Inv.fresh(I:Inv X pins σ H s):H s.heap.objs.size=fC:=I.hok.fresh (B1 _)
def Inv.lstM(I:Inv X pins σ H s)(hH:H l=dB (.lst xs)):xs.length<=sizeLine/\∃(ae:n8 pW) (n:Nat),zK xs ae/\xs.length=ae.length/\s.heap.get? l=dB {cls:= .type "list",data:= .seq ae.toArray n}:=by
 obtain⟨z,ae,n,r,e⟩:=I.hok l _ hH;exact⟨z,ae,n,r,r.length,e⟩
def ziF(h:n<=sizeLine):Builtin.List.listTooLong n=kb:=by
 unfold Builtin.List.listTooLong;exact decide_eq_false ⋯
end
def zgp:V->n8 V->Hp->VK->Prop:=λx vs H Q=>∃l xs y,x= .ref l/\vs=[y]/\H l=dB (.lst xs)/\xs.length<sizeLine/\Q .non (upd H l (.lst (xs++[y])))
def xt:MtM X "list.append" zgp:=by
 intro pins s σ H x vs v us Q I rx rv h;obtain⟨l,xs,y,rfl,rfl,hH,hz,q⟩:=h;cases rx;obtain⟨u,rfl,ru⟩:=rv.one;obtain⟨z,ae,n,r,hl,e⟩:=I.lstM hH;refine call_meets F.slot_list_append ⟨_,e,rfl⟩ F.entry_list_append (F.args_list_append_2 _ _) (PySem.list_append l ae.toArray n u (by rw[B8];omega)) ⟨e,?_⟩;refine⟨.non,_,I.lset (its':=ae++[u]) hH e (by simp) (r.append (.cons ru .nil)) ?_,rfl,q⟩;rw[Bz,DH];omega
def zpx:V->n8 V->Hp->VK->Prop:=λx vs H Q=>∃l xs y,x= .ref l/\vs=[]/\H l=dB (.lst xs)/\xs[xs.length-1]? =dB y/\Q y (upd H l (.lst xs.dropLast))
def zn0:MtM X "list.pop" zpx:=by
 intro pins s σ H x vs v us Q I rx rv h;obtain⟨l,xs,y,rfl,rfl,hH,hy,q⟩:=h;cases rx;have tf:=rv.zero;subst tf;obtain⟨z,ae,n,r,hl,e⟩:=I.lstM hH;obtain⟨u,hu,ru⟩:=r.get hy;have mG:ae.toArray[ae.toArray.size-1]? =dB u:=by
  show ae.toArray[ae.length-1]? =dB u;rw[<-Array.getElem?_toList,<-hl];exact hu
 refine call_meets F.slot_list_pop ⟨_,e,rfl⟩ F.entry_list_pop (F.args_list_pop_1 _) (MeetsSeq.list_pop_last l ae.toArray n u mG (by rw[B8];omega)) ⟨e,?_⟩;refine⟨y,_,I.lset (its':=ae.dropLast) hH e ?_ r.dropLast ?_,ru,q⟩;show ae.toArray.eraseIdxIfInBounds (ae.toArray.size-1)=ae.dropLast.toArray;rw[B8,List.eraseIdxIfInBounds_toArray,ze6];rw[Gq];omega
def zlB{α:Type}(xs:n8 α)(k:Nat):(B6 k xs).flatten.length=k*xs.length:=by
 induction k with
 |zero=>simp
 |succ k ih=>rw[Ck,D7,Bz,ih,GU,GV]
section
variable{w:World}
end
section
variable{κ:Type}[DecidableEq κ]
noncomputable def Zi(kvs:n8 (κ×V))(k:κ):pU V:=(kvs.find? λkv=>decide (kv.1=k)).map (·.2)
noncomputable def Ur(kvs:n8 (κ×V))(k:κ)(v:V):n8 (κ×V):=
 if (kvs.any λkv=>decide (kv.1=k))=fN then kvs.map (λkv=>if kv.1=k then (kv.1,v) else kv) else kvs++[(k,v)]
noncomputable def Ta(kvs:n8 (κ×V))(k:κ):n8 (κ×V):=kvs.filter λkv=>decide (kv.1≠k)
def zam{p:κ×V}{r:n8 (κ×V)}{k:κ}(e:p.1=k):Zi (p::r) k=dB p.2:=by simp[Zi,Ct,e]
def zan{p:κ×V}{r:n8 (κ×V)}{k:κ}(e:¬p.1=k):Zi (p::r) k=Zi r k:=by simp[Zi,Ct,e]
theorem zdL(k:κ):∀kvs:n8 (κ×V),(kvs.any λkv=>decide (kv.1=k))=(Zi kvs k).isSome
 |[]=>rfl
 |p::r=>by
  rw[D8];by_cases e:p.1=k;simp only[zam e,decide_eq_true e,Bool.true_or,GW];rw[zan e,decide_eq_false e,Bool.false_or];exact zdL k r
def Tc(kvs:n8 (κ×V))(k:κ)(v:V):(Ur kvs k v).length<=kvs.length+1:=by
 unfold Ur;split;rw[AV];omega;rw[Bz,Bo,ER];omega
def Yz.isSome_eq(r:Yz o u):o.isSome=u.isSome:=by
 cases o with
 |none=>cases u with
  |none=>rfl
  |some _=>exact(show False from r).elim
 |some _=>cases u with
  |none=>exact(show False from r).elim
  |some _=>rfl
def Yz.getD(r:Yz o u)(rd:zE d d'):zE (o.getD d) (u.getD d'):=by
 cases o with
 |none=>cases u with
  |none=>exact rd
  |some _=>exact(show False from r).elim
 |some _=>cases u with
  |none=>exact(show False from r).elim
  |some _=>exact r
def KV.val{kvs:n8 (κ×V)}{vs:n8 (κ×pW)}(r:KV kvs vs)(k:κ):Yz (Zi kvs k) (valueAt vs k):=by
 unfold KV at r
 induction r with
 |nil=>exact CG
 | @cons p q ps qs h t ih=>
  obtain⟨h1,h2⟩:=h;by_cases e:p.1=k
  .have e':q.1=k:=h1.symm.trans e;have b:valueAt (q::qs) k=dB q.2:=by simp[valueAt,Ct,e']
   rw[zam e,b];exact h2
  have e':¬q.1=k:=λz=>e (h1.trans z);have b:valueAt (q::qs) k=valueAt qs k:=by simp[valueAt,Ct,e']
  rw[zan e,b];exact ih
def KV.any{kvs:n8 (κ×V)}{vs:n8 (κ×pW)}(r:KV kvs vs)(k:κ):(kvs.any λkv=>decide (kv.1=k))=vs.any λkv=>decide (kv.1=k):=by
 unfold KV at r
 induction r with
 |nil=>rfl
 |cons h t ih=>rw[D8,D8,ih,h.1]
def KV.repl{kvs:n8 (κ×V)}{vs:n8 (κ×pW)}(r:KV kvs vs)(k:κ){y:V}{u:pW}(ry:zE y u):
  KV (kvs.map λkv=>if kv.1=k then (kv.1,y) else kv) (vs.map λkv=>if kv.1=k then (kv.1,u) else kv):=by
 unfold KV at r ⊢
 induction r with
 |nil=>exact .nil
 | @cons p q ps qs h t ih=>
  rw[Be,Be];refine .cons ?_ ih;obtain⟨h1,h2⟩:=h;by_cases e:p.1=k;rw[if_pos e,if_pos (h1.symm.trans e)];exact⟨h1,ry⟩;rw[if_neg e,if_neg (λz=>e (h1.trans z))];exact⟨h1,h2⟩
def KV.put{kvs:n8 (κ×V)}{vs:n8 (κ×pW)}(r:KV kvs vs)(k:κ){y:V}{u:pW}(ry:zE y u):KV (Ur kvs k y) (stored vs k u):=by
 unfold Ur stored;rw[r.any k];by_cases e:(vs.any λkv=>decide (kv.1=k))=fN;rw[if_pos e,if_pos e];exact r.repl k ry;rw[if_neg e,if_neg e];exact Paired.snoc r ⟨rfl,ry⟩
def KV.drop{kvs:n8 (κ×V)}{vs:n8 (κ×pW)}(r:KV kvs vs)(k:κ):KV (Ta kvs k) (without vs k):=by
 unfold KV at r ⊢;unfold Ta without
 induction r with
 |nil=>exact .nil
 | @cons p q ps qs h t ih=>
  obtain⟨h1,h2⟩:=h;rw[Dp,Dp];by_cases e:p.1=k
  .have a:¬decide (p.1≠k)=fN:=by simp[e]
   have b:¬decide (q.1≠k)=fN:=by simp[h1.symm.trans e]
   rw[if_neg a,if_neg b];exact ih
  have e':¬q.1=k:=λz=>e (h1.trans z);have a:decide (p.1≠k)=fN:=by simp[e]
  have b:decide (q.1≠k)=fN:=by simp[e']
  rw[if_pos a,if_pos b];exact .cons ⟨h1,h2⟩ ih
def KV.keys{kvs:n8 (κ×V)}{vs:n8 (κ×pW)}(r:KV kvs vs):kvs.map (·.1)=vs.map (·.1):=by
 unfold KV at r
 induction r with
 |nil=>rfl
 |cons h t ih=>rw[Be,Be,ih,h.1]
def KV.length{kvs:n8 (κ×V)}{vs:n8 (κ×pW)}(r:KV kvs vs):kvs.length=vs.length:=Paired.length r
def ziG(kvs:n8 (κ×V))(k:κ):(Ta kvs k).length<=kvs.length:=EE _ _
end
def zbP{P:Program}(r:zE (kV k) u):(yi P w).is k u=fN:=by
 cases k with
 |inl i=>obtain⟨t,e⟩:=(show ∃t,u=Value.int i t from r);subst e;exact zdB P w i t
 |inr x=>obtain⟨t,e⟩:=(show ∃t,u=Value.str x t from r);subst e;exact zdC P w x t
theorem zbQ{P:Program}:∀{ks:n8 Key} {us:n8 pW},zK (ks.map kV) us->ItemsAre (yi P w) ks us
 |[],_,r=>by rw[GR] at r;cases r;exact .nil
 |k::ks,_,r=>by
  rw[Be] at r;cases r with
  |cons h t=>exact .cons (zbP h) (zbQ t)
noncomputable abbrev KT(H:Hp):n8 (n8 Key×V)->n8 (n8 Key×qo×pW)->Prop:=Paired λp q=>p.1=q.1/\H q.2.1=dB (.tup (p.1.map kV))/\zE p.2 q.2.2
def KT.val(r:KT H kvs xs)(k:n8 Key):Yz (Zi kvs k) ((atKey xs k).map (·.2)):=by
 induction r with
 |nil=>exact CG
 | @cons p q ps qs h t ih=>
  obtain⟨h1,_,h2⟩:=h;by_cases e:p.1=k
  .have e':q.1=k:=h1.symm.trans e;have b:atKey (q::qs) k=dB q.2:=by simp[atKey,Ct,e']
   rw[zam e,b];exact h2
  have e':¬q.1=k:=λz=>e (h1.trans z);have b:atKey (q::qs) k=atKey qs k:=by simp[atKey,Ct,e']
  rw[zan e,b];exact ih
def KT.repl(r:KT H kvs xs)(k:n8 Key)(ry:zE y u):
  KT H (kvs.map λkv=>if kv.1=k then (kv.1,y) else kv) (xs.map (putAt k u)):=by
 induction r with
 |nil=>exact .nil
 | @cons p q ps qs h t ih=>
  rw[Be,Be];refine .cons ?_ ih;obtain⟨h1,h2,h3⟩:=h;unfold putAt;by_cases e:p.1=k;rw[if_pos e,if_pos (h1.symm.trans e)];exact⟨h1,h2,ry⟩;rw[if_neg e,if_neg (λz=>e (h1.trans z))];exact⟨h1,h2,h3⟩
def KT.put(r:KT H kvs xs)(k:n8 Key)(hb:H b=dB (.tup (k.map kV)))(ry:zE y u):
  KT H (Ur kvs k y) (storedH xs k b u):=by
 have e:(kvs.any λkv=>decide (kv.1=k))=(atKey xs k).isSome:=by
  rw[zdL,(r.val k).isSome_eq,Hi]
 unfold Ur storedH;rw[e];by_cases q:(atKey xs k).isSome=fN;rw[if_pos q,if_pos q];exact r.repl k ry;rw[if_neg q,if_neg q];exact Paired.snoc r ⟨rfl,hb,ry⟩
def KT.keeps(r:KT H kvs xs)(ht:∀b ys,H b=dB (.tup ys)->H' b=dB (.tup ys)):KT H' kvs xs:=
 Paired.mapP r λ_ _ z=>⟨z.1,ht _ _ z.2.1,z.2.2⟩
section
variable{P:Program}
def zna(ok:HOk P w H h)(e:Rd H a u):yz P w H h a u:=e.ok ok
def zbR(ok:HOk P w H h)(e:Rd H a (.dK kvs)):kvs.length<=sizeLine/\(a==sysModules)=kb/\∃vs,KV kvs vs/\h.DictOf (yi P w) a vs:=
 show yz P w H h a (.dK kvs) from zna ok e
def zbS(ok:HOk P w H h)(e:H a=dB (.dK kvs)):kvs.length<=sizeLine/\(a==sysModules)=kb/\∃vs,KV kvs vs/\h.DictOf (yi P w) a vs:=zbR ok (.inl e)
def zcB(ok:HOk P w H h)(e:H a=dB (.tup (ks.map kV))):(tupleKind (yi P w)).is h ks a:=by
 obtain⟨_,ae,r,o,h1,h2,n,h3⟩:=(show yz P w H h a (.tup (ks.map kV)) from ok a _ e);exact⟨o,ae.toArray,n,h1,h2,h3.1,by simpa using zbQ r⟩
def zdM(ok:HOk P w H h)(e:Rd H a (.dT kvs)):kvs.length<=sizeLine/\(a==sysModules)=kb/\
  ∃xs,KT H kvs xs/\h.DictOfH (tupleKind (yi P w)) a xs:=by
 obtain⟨z,y,xs,r,o,es,ep,h1,h2,h3,h4,h5⟩:=(show yz P w H h a (.dT kvs) from zna ok e);refine⟨z,y,xs,r,o,es,ep,h1,h2,h3,h4,λx hx=> ?_,h5⟩;have all:∀{l:n8 (n8 Key×V)} {m:n8 (n8 Key×qo×pW)},KT H l m->∀x∈m,(tupleKind (yi P w)).is h x.1 x.2.1:=by
  intro l m q
  induction q with
  |nil=>intro x hx;exact nomatch hx
  | @cons p q ps qs hq t ih=>
   intro x hx;rcases Bi.mp hx with e|hx;subst e;exact zcB ok (by rw[<-hq.1];exact hq.2.1);exact ih x hx
 exact all r x hx
def zpy(ok:HOk P w H h)(e:H a=dB (.dT kvs)):kvs.length<=sizeLine/\(a==sysModules)=kb/\
  ∃xs,KT H kvs xs/\h.DictOfH (tupleKind (yi P w)) a xs:=zdM ok (.inl e)
end
def Tr(H:Hp)(a:qo)(y:V)(r:pU V):Prop:=
 (∃kvs k,Rd H a (.dK kvs)/\y=kV k/\r=Zi kvs k)\/∃kvs k b,Rd H a (.dT kvs)/\y= .ref b/\H b=dB (.tup (k.map kV))/\r=Zi kvs k
def ziH(H:Hp)(a:qo)(y v:V)(H':Hp):Prop:=
 (∃kvs k,H a=dB (.dK kvs)/\y=kV k/\kvs.length<sizeLine/\H'=upd H a (.dK (Ur kvs k v)))\/
 ∃kvs k b,H a=dB (.dT kvs)/\y= .ref b/\H b=dB (.tup (k.map kV))/\kvs.length<sizeLine/\H'=upd H a (.dT (Ur kvs k v))
def Tr.k{a:qo}{kvs:n8 (Key×V)}{k:Key}(e:H a=dB (.dK kvs)):Tr H a (kV k) (Zi kvs k):= .inl ⟨kvs,k,.inl e,rfl,rfl⟩
def ziH.k{a:qo}{kvs:n8 (Key×V)}{k:Key}{v:V}(e:H a=dB (.dK kvs))(hl:kvs.length<sizeLine):ziH H a (kV k) v (upd H a (.dK (Ur kvs k v))):= .inl ⟨kvs,k,e,rfl,hl,rfl⟩
section
def Inv.big(I:Inv X pins σ H s):sysModules<s.heap.objs.size:=by
 have h:mainGlobals<s.heap.objs.size:=(I.mod.glob.keeps I.bk).lt;exact Nat.lt_trans ∅ h
def zhq(hu:A.units+1<cLine)(I:Inv X pins σ H s)(g:Tr H a y (dB v))(ry:zE y u)(h:∀w' s',Inv X pins σ H s'->zE v w'->Q w' s'):
  wpAny (model X.prog X.w) A (getItem (.ref a) u) Q E s:=by
 rcases g with⟨kvs,k,e,ey,l⟩|⟨kvs,k,b,e,ey,eb,l⟩
 .subst ey;obtain⟨z,hd,vs,rel,dd⟩:=zbR I.hok e;obtain⟨w',hw,rw'⟩:=Yz.some_of (v:=v) (o:=valueAt vs k) (by rw[l];exact rel.val k);exact wpAny_getItem_of (zbP ry) dd.mapOf hw (h w' _ (I.tok _) rw')
 subst ey;cases (show u=Value.ref b from ry);obtain⟨z,hd,xs,rel,dd⟩:=zdM I.hok e;obtain⟨w',hw,rw'⟩:=Yz.some_of (v:=v) (o:=(atKey xs k).map (·.2)) (by rw[l];exact rel.val k);obtain⟨p,hp,oA⟩:=AY.mp hw;refine wpAny_getItem_heap (tupleKind_room_in1 hu) (zcB I.hok eb) dd hp ?_;rw[oA];exact h w' _ (I.tok _) rw'
def VA(I:Inv X pins σ H s)(mu:Mut (H a))(hs:Heap.SameBut a s.heap h')(he:∃q,h'.get? a=dB q)(new:yz X.prog X.w (upd H a ob) h' a ob):
  Inv X pins σ (upd H a ob) {s with heap:=h',toks:=t'}:=
 I.write (x:=a) (e:=a) mu (.inl rfl) (λb q hb z=>(hs.2 b hb).trans z) he new
def ziI{P:Program}(z:kvs.length<=sizeLine)(hd:(a==sysModules)=kb)(rel:KV kvs vs)(dd:h'.DictOf (yi P w) a vs):
  yz P w H' h' a (.dK kvs):=⟨z,hd,vs,rel,dd⟩
def zhr{Q:Unit->pX->Prop}(hu:A.units+1<cLine)(I:Inv X pins σ H s)(g:ziH H a y v H')(ry:zE y u)(rv:zE v r)(h:∀s',Inv X pins σ H' s'->Q () s'):
  wpAny (model X.prog X.w) A (setItem (.ref a) u r) Q E s:=by
 rcases g with⟨kvs,k,e,ey,l,eH⟩|⟨kvs,k,b,e,ey,eb,l,eH⟩
 .subst ey eH;obtain⟨z,hd,vs,rel,dd⟩:=zbS I.hok e;have hz:vs.length<=sizeLine:=by rw[<-rel.length];exact z
  have hl:(Ur kvs k v).length<=sizeLine:=by have:=Tc kvs k v;omega
  refine wpAny_setItem_pairs (hsz:=hz) (zbP ry) dd λh' dd' hs=>h _ ?_;have he:∃q,h'.get? a=dB q:=let ⟨q,_,_,hq,_⟩:=dd';⟨q,hq⟩;exact VA I (by rw[e];exact CG) hs he (ziI hl hd (rel.put k rv) dd')
 subst ey eH;cases (show u=Value.ref b from ry);obtain⟨z,hd,xs,rel,dd⟩:=zpy I.hok e;have hz:xs.length<=sizeLine:=by rw[<-Paired.length rel];exact z
 have hl:(Ur kvs k v).length<=sizeLine:=by have:=Tc kvs k v;omega
 refine wpAny_setItem_heap (hsz:=hz) (tupleKind_room_in1 hu) (zcB I.hok eb) dd λh' dd' hs=>h _ ?_;obtain⟨q,es,ep,hq,h2,h3,h4,_,h5⟩:=dd';refine VA I (by rw[e];exact CG) hs ⟨q,hq⟩ ⟨hl,hd,_,(rel.put k eb rv).keeps λc ys ec=> ?_,q,es,ep,hq,h2,h3,h4,h5⟩;rw[zi (zpc ec e (λz=>nomatch z))];exact ec
end
section
def znb(I:Inv X pins σ H s)(e:H a=dB (.dK kvs))(ry:zE (kV k) u)(l:Zi kvs k=dB v)(hm:more=[]\/∃x,more=[x])
  (h:∀w' s',Inv X pins σ (upd H a (.dK (Ta kvs k))) s'->zE v w'->Q w' s'):wpAny (model X.prog X.w) A (call (.builtin "dict.pop") (.ref a::u::more)) Q E s:=by
 obtain⟨z,hd,vs,rel,dd⟩:=zbS I.hok e;obtain⟨w',hw,rw'⟩:=Yz.some_of (v:=v) (o:=valueAt vs k) (by rw[<-l];exact rel.val k);have hp:(keyPart u).isSome=fN:=by
  cases k with
  |inl i=>obtain⟨t,q⟩:=(show ∃t,u=Value.int i t from ry);subst q;rfl
  |inr x=>obtain⟨t,q⟩:=(show ∃t,u=Value.str x t from ry);subst q;rfl
 have ha:argsOk "dict.pop" ⟨.ref a::u::more,[]⟩:=by
  rcases hm with q|⟨x,q⟩
  .subst q;exact PySem.F.args_dict_pop_2 _ _
  subst q;exact FO _ _ _
 refine call_meetsIn DI dd.typeIs G6 ha (meets_dict_pop_there (yi X.prog X.w) a (zbP ry) more hm hp)
  ⟨vs,w',dd,by rw[<-rel.length];exact z,hw,λh' dd' hs=>h w' _ ?_ rw'⟩
 have he:∃q,h'.get? a=dB q:=let ⟨q,_,_,hq,_⟩:=dd';⟨q,hq⟩;exact VA I (by rw[e];exact CG) hs he (ziI (AZ (ziG kvs k) z) hd (rel.drop k) dd')
def zn1(I:Inv X pins σ H s)(e:H a=dB (.dK kvs))(ry:zE (kV k) u)(l:Zi kvs k=fC)(h:∀s',Inv X pins σ H s'->Q r s'):
  wpAny (model X.prog X.w) A (call (.builtin "dict.pop") [.ref a,u,r]) Q E s:=by
 obtain⟨z,hd,vs,rel,dd⟩:=zbS I.hok e;have hn:valueAt vs k=fC:=Yz.none_of (by rw[<-l];exact rel.val k);have hp:(keyPart u).isSome=fN:=by
  cases k with
  |inl i=>obtain⟨t,q⟩:=(show ∃t,u=Value.int i t from ry);subst q;rfl
  |inr x=>obtain⟨t,q⟩:=(show ∃t,u=Value.str x t from ry);subst q;rfl
 exact call_meetsIn DI dd.typeIs G6 (FO _ _ _) (meets_dict_pop_default (yi X.prog X.w) a (zbP ry) hd hp r) ⟨vs,dd,hn,h _ (I.tok _)⟩
def zpz(I:Inv X pins σ H s)(e:Rd H a (.dK kvs))(h:∀t s',Inv X pins σ H s'->Q (.int kvs.length t) s'):wpAny (model X.prog X.w) A (call (.builtin "len") [.ref a]) Q E s:=by
 obtain⟨z,hd,vs,rel,dd⟩:=zbR I.hok e;refine call_len_dict hd dd (by rw[<-rel.length];rw[sizeLine_eq] at z;omega) ?_;rw[<-rel.length];exact h _ _ (I.tok _)
end
def zpA(i:Expr):Prop:=∀ov iv,subscripted i kb ov iv=operate [ov,iv] (getItem ov iv)
def zlC{w:World}{env:Env}{value slice:Expr}{pos:Pos}{T id:String}
  (hl:typeLookup (.type T) "__getitem__"=pure (dB (.builtin id))) (hs:zpA slice)
  (h:wpAny (model prog w) A (eval value env) (λo s₁=>wpAny (model prog w) A (eval slice env) (λi s₂=>s₂.TypeIs o T/\wpAny (model prog w) A (getItem o i) Q E s₂) E s₁) E s):
  wpAny (model prog w) A (eval (.Subscript value slice pos) env) Q E s:=by
 refine Subscript_ (wpAny_mono h (λo s₁ h₁=>wpAny_mono h₁ (λi s₂ h₂=> ?_) λ_ _ x=>x) λ_ _ x=>x);obtain⟨hT,h₂⟩:=h₂;unfold subscriptTail;refine wpAny_bind ?_;rw[getitemInPython_of_ne hT.not_modules];refine wpAny_bind (wpAny_specialOf hT hl ?_);have fin:wpAny (model prog w) A (subscripted slice kb o i) (λr s₃=>wpAny (model prog w) A (letTemporaryGo value o r>>=λ_=>pure r) Q E s₃) E s₂:=by
  rw[hs o i];exact wpAny_operating (wpAny_mono h₂ (λr s₃ h₃=>wpAny_bind (wpAny_letTemporaryGo (wpAny_pure h₃))) λ_ _ x=>x)
 first
  |exact wpAny_pure (wpAny_bind fin)
  |exact wpAny_bind (wpAny_pure (wpAny_bind fin))
  |exact wpAny_bind fin
def zdN(I:Inv X pins σ H s)(g:Tr H a y o):s.TypeIs (.ref a) "dict":=by
 rcases g with⟨kvs,k,e,_,_⟩|⟨kvs,k,b,e,_,_,_⟩
 .obtain⟨_,_,vs,_,dd⟩:=zbR I.hok e;exact dd.typeIs
 obtain⟨_,_,xs,_,dd⟩:=zdM I.hok e;exact dd.typeIs
def znc(td ty:TE):TE:=λσ H Q=>td σ H λx H1=>ty σ H1 λy H2=>∃a v,x= .ref a/\Tr H2 a y (dB v)/\Q v H2
def znd(td ty tv:TE):TS:=λD σ H=>tv σ H λv H1=>td σ H1 λx H2=>ty σ H2 λy H3=>∃a H4,x= .ref a/\ziH H3 a y v H4/\D.nx σ H4
section
def zlD(hu:X.A.units+1<cLine)(ho:PE X o td)(hi:PE X i ty)(hs:zpA i):PE X (.Subscript o i pos) (znc td ty):=by
 intro pins s σ H Q I h;refine zlC PySem.F.slot_dict_getitem.lookup hs (thn (ho pins s σ H _ I h) ?_);rintro u s1 ⟨x,H1,I1,rx,q1⟩;refine thn (hi pins s1 σ H1 _ I1 q1) ?_;rintro iv s2 ⟨y,H2,I2,ry,a,v,ex,g,q2⟩;subst ex;obtain rfl:u=Value.ref a:=rx;exact⟨zdN I2 g,zhq hu I2 g ry λw' s3 I3 rw'=>⟨v,H2,I3,rw',q2⟩⟩
def zcC(hu:X.A.units+1<cLine)(ho:PE X o td)(hi:PE X i ty)(hv:PE X value tv)(hs:swapsWith value (dB (.Subscript o i pos')) pos.line X.env=pure kb):
  PS X (.Assign [.Subscript o i pos'] value pos) (znd td ty tv):=by
 intro pins s σ H D I h;refine wpAny_Assign_Subscript (thn (hv pins s σ H _ I h) ?_) hs;rintro r s1 ⟨v,H1,I1,rv,q1⟩;refine thn (ho pins s1 σ H1 _ I1 q1) ?_;rintro u s2 ⟨x,H2,I2,rx,q2⟩;refine thn (hi pins s2 σ H2 _ I2 q2) ?_;rintro iv s3 ⟨y,H3,I3,ry,a,H4,ex,g,q3⟩;subst ex;obtain rfl:u=Value.ref a:=rx;exact zhr hu I3 g ry rv λs4 I4=>⟨σ,H4,I4,q3⟩
end
def ziJ{P:Program}(h:Heap)(hb:sysModules<h.objs.size):yz P w H (h.push {cls:= .type "dict",data:= .dict #[]}) h.objs.size (.dK []):=
 ⟨Cy _,beq_eq_false_iff_ne.mpr (BM (Bj hb)),[],.nil,Heap.DictOf.new h⟩
def ziK:TE:=λ_ H Q=>∀p,H p=fC->Q (.ref p) (upd H p (.dK []))
section
def zdO:PE X (.Dict [] [] pos) ziK:=λpins s σ H Q I h=>
 wpAny_Dict_empty ⟨.ref s.heap.objs.size,_,I.laid (a:=s.heap.objs.size) (o:= .dK []) (t':=s.toks) (λ_ _ q=>Heap.get?_push_of_some _ q) (B1 _) (ziJ s.heap I.big),rfl,h _ (I.hok.fresh (B1 _))⟩
end
noncomputable abbrev VV:n8 (V×V)->n8 (pW×pW)->Prop:=Paired λp q=>zE p.1 q.1/\zE p.2 q.2
structure M1(X:Cx)(o:Expr)(m:Str)(apos:Pos)(e:Expr)(aN:Pos):Prop where
 base:attributeBase o m X.env (eval o X.env)=eval o X.env
 few:((backTo aN (starEach [e] X.env)).all (λx=> !x.1)&&(backToKw aN (keywordEach [] X.env)).all (λx=>x.1.isSome)
  &&decide (([e]:n8 Expr).length+([]:n8 Keyword).length+(if ([]:n8 Keyword).isEmpty then 0 else 1)<30))=fN
 line:(apos.endLine==aN.line)=fN
 trees:backTo aN (starEach [e] X.env)=[(kb,eval e X.env)]
structure M2(X:Cx)(o:Expr)(m:Str)(apos:Pos)(e f:Expr)(aN:Pos):Prop where
 base:attributeBase o m X.env (eval o X.env)=eval o X.env
 few:((backTo aN (starEach [e,f] X.env)).all (λx=> !x.1)&&(backToKw aN (keywordEach [] X.env)).all (λx=>x.1.isSome)
  &&decide (([e,f]:n8 Expr).length+([]:n8 Keyword).length+(if ([]:n8 Keyword).isEmpty then 0 else 1)<30))=fN
 line:(apos.endLine==aN.line)=fN
 trees:backTo aN (starEach [e,f] X.env)=[(kb,eval e X.env),(kb,eval f X.env)]
def IsD(H:Hp)(a:qo):Prop:=(∃kvs,Rd H a (.dK kvs))\/∃kvs,Rd H a (.dT kvs)
def ze7(I:Inv X pins σ H s)(d:IsD H a):
  s.TypeIs (.ref a) "dict"/\(∀b,Value.ref a= .ref b->∃ob,s.heap.get? b=dB ob/\ob.dict=fC)/\(a==sysModules)=kb:=by
 rcases d with⟨kvs,e⟩|⟨kvs,e⟩
 .obtain⟨_,hd,vs,_,dd⟩:=zbR I.hok e;refine⟨dd.typeIs,λb q=> ?_,hd⟩;cases q;obtain⟨ob,_,_,h1,h2,_⟩:=dd;exact⟨ob,h1,h2.2.1⟩
 obtain⟨_,hd,xs,_,dd⟩:=zdM I.hok e;refine⟨dd.typeIs,λb q=> ?_,hd⟩;cases q;obtain⟨ob,_,_,h1,h2,_⟩:=dd;exact⟨ob,h1,h2.2.1⟩
section
def zn2(hu:A.units+1<cLine)(I:Inv X pins σ H s)(g:Tr H a y o)(ry:zE y u)(rd:zE d r)(h:∀w' s',Inv X pins σ H s'->zE (o.getD d) w'->Q w' s'):
  wpAny (model X.prog X.w) A (call (.builtin "dict.get") [.ref a,u,r]) Q E s:=by
 rcases g with⟨kvs,k,e,ey,l⟩|⟨kvs,k,b,e,ey,eb,l⟩
 .subst ey;obtain⟨z,hd,vs,rel,dd⟩:=zbR I.hok e;refine call_meetsIn EF dd.typeIs G7 (FP _ _ _) (meets_dict_get_default (yi X.prog X.w) a (zbP ry) hd r) ⟨_,dd.mapOf,h _ _ (I.tok _) ?_⟩;rw[l];exact(rel.val k).getD rd
 subst ey;cases (show u=Value.ref b from ry);obtain⟨z,hd,xs,rel,dd⟩:=zdM I.hok e;refine call_meetsIn EF dd.typeIs G7 (FP _ _ _) (meetsH_dict_get_default (tupleKind (yi X.prog X.w)) a b hd r) ⟨tupleKind_room_in1 hu,k,xs,zcB I.hok eb,dd,h _ _ (I.tok _) ?_⟩;rw[l];exact(rel.val k).getD rd
end
def ziL(td ty tx:TE):TE:=λσ H Q=>td σ H λx H1=>∃a,x= .ref a/\IsD H1 a/\ty σ H1 λy H2=>tx σ H2 λz H3=>∃o,Tr H3 a y o/\Q (o.getD z) H3
def ziM(td ty:TE):TE:=λσ H Q=>td σ H λx H1=>∃a,x= .ref a/\IsD H1 a/\ty σ H1 λy H2=>∃kvs k v,H2 a=dB (.dK kvs)/\y=kV k/\Zi kvs k=dB v/\Q v (upd H2 a (.dK (Ta kvs k)))
def ziN(td ty tx:TE):TE:=λσ H Q=>td σ H λx H1=>∃a,x= .ref a/\IsD H1 a/\ty σ H1 λy H2=>tx σ H2 λz H3=>∃kvs k,H3 a=dB (.dK kvs)/\y=kV k/\
 (∀v,Zi kvs k=dB v->Q v (upd H3 a (.dK (Ta kvs k))))/\(Zi kvs k=fC->Q z H3)
section
def zdP(hu:X.A.units+1<cLine)(ho:PE X o td)(he:PE X e ty)(hf:PE X f tx)(m:M2 X o "get" apos e f aN):PE X (.Call (.Attribute o "get" apos) [e,f] [] aN) (ziL td ty tx):=by
 intro pins s σ H Q I h;refine wpAny_Call_method m.base m.few m.line Dc EF PySem.F.type_dict_get (thn (ho pins s σ H _ I h) ?_);rintro u s1 ⟨x,H1,I1,rx,a,ex,d,q1⟩;subst ex;obtain rfl:u=Value.ref a:=rx;obtain⟨t1,t2,_⟩:=ze7 I1 d;refine⟨t1,t2,?_⟩;rw[m.trees]
 refine Calls.callWith_builtin rfl (Calls.evalArgs_plain (Calls.spliced_cons (thn (he pins s1 σ H1 _ I1 q1) ?_)));rintro iv s2 ⟨y,H2,I2,ry,q2⟩;refine Calls.spliced_cons (thn (hf pins s2 σ H2 _ I2 q2) ?_);rintro fv s3 ⟨z,H3,I3,rz,ov,g,q3⟩;refine Calls.spliced_nil ?_;exact zn2 hu I3 g ry rz λw' s4 I4 rw'=>⟨_,H3,I4,rw',q3⟩
def ziO(ho:PE X o td)(he:PE X e ty)(m:M1 X o "pop" apos e aN):PE X (.Call (.Attribute o "pop" apos) [e] [] aN) (ziM td ty):=by
 intro pins s σ H Q I h;refine wpAny_Call_method m.base m.few m.line Dc DI Gh (thn (ho pins s σ H _ I h) ?_);rintro u s1 ⟨x,H1,I1,rx,a,ex,d,q1⟩;subst ex;obtain rfl:u=Value.ref a:=rx;obtain⟨t1,t2,_⟩:=ze7 I1 d;refine⟨t1,t2,?_⟩;rw[m.trees];refine Calls.callWith_builtin rfl (Calls.evalArgs_plain (Calls.spliced_cons (thn (he pins s1 σ H1 _ I1 q1) ?_)));rintro iv s2 ⟨y,H2,I2,ry,kvs,k,v,ea,ey,l,q2⟩;refine Calls.spliced_nil ?_;subst ey;exact znb I2 ea ry l (.inl rfl) λw' s3 I3 rw'=>⟨v,_,I3,rw',q2⟩
def ziP(ho:PE X o td)(he:PE X e ty)(hf:PE X f tx)(m:M2 X o "pop" apos e f aN):PE X (.Call (.Attribute o "pop" apos) [e,f] [] aN) (ziN td ty tx):=by
 intro pins s σ H Q I h;refine wpAny_Call_method m.base m.few m.line Dc DI Gh (thn (ho pins s σ H _ I h) ?_);rintro u s1 ⟨x,H1,I1,rx,a,ex,d,q1⟩;subst ex;obtain rfl:u=Value.ref a:=rx;obtain⟨t1,t2,_⟩:=ze7 I1 d;refine⟨t1,t2,?_⟩;rw[m.trees]
 refine Calls.callWith_builtin rfl (Calls.evalArgs_plain (Calls.spliced_cons (thn (he pins s1 σ H1 _ I1 q1) ?_)));rintro iv s2 ⟨y,H2,I2,ry,q2⟩;refine Calls.spliced_cons (thn (hf pins s2 σ H2 _ I2 q2) ?_);rintro fv s3 ⟨z,H3,I3,rz,kvs,k,ea,ey,q3,q4⟩;refine Calls.spliced_nil ?_;subst ey;cases l:Zi kvs k with
 |some v=>exact znb I3 ea ry l (.inr ⟨fv,rfl⟩) λw' s4 I4 rw'=>⟨v,_,I4,rw',q3 v l⟩
 |none=>exact zn1 I3 ea ry l λs4 I4=>⟨z,H3,I4,rz,q4 l⟩
end
section
variable{a:qo}{kvs:n8 (Key×V)}
end
section
variable{a:qo}{y:V}{u:pW}
end
end L2
namespace Att
open PySem.W PySem.Calls
def Ts{P:Params}:∀(ns:n8 Int) (vs:n8 pW),WellAll P h vs (ns.map WData.int)->IntsAre vs ns:=by
 intro ns
 induction ns with
 |nil=>
  intro vs w;rw[GR] at w;cases w;exact .nil
 |cons n ns ih=>
  intro vs w;rw[Be] at w;cases w with
  |cons a b=>
   cases a;exact .cons _ _ (ih _ b)
def zhs{l:OpenLaw}{n:Nat}(hn:l.most=dB n){P:Params}{h:Heap}{args:n8 WData}{vals:n8 pW}
  (ik:l.row.toRowW.claim.pre args=fN) (o3:WellAll P h vals args):
  ∃a vs ns,vals=[Value.ref a]/\args=[WData.list (ns.map WData.int)]/\h.get? a=dB {cls:= .type "list",data:= .seq vs.toArray}/\IntsAre vs ns/\ns.length<=n:=by
 have kZ:WShape.hasAll [] args [.list .int]=fN:=(pre_splitW ik).1;have hc:l.pre.holds [] {args:=args}=fN:=(pre_splitW ik).2;obtain⟨d,r,rfl,h1,h2⟩:=hasAllW_cons kZ;obtain rfl:=hasAllW_nil h2;obtain⟨xs,rfl,h3⟩:=hasW_list h1;obtain⟨ns,rfl⟩:=items_int h3;have hlen:ns.length<=n:=by
  unfold OpenLaw.pre at hc;have h4:(WTm.not (.lt (.lit (.int (n:Int))) (.len (.arg 0)))).holds [] {args:=[.list (ns.map .int)]}=fN:=by
   have h4:=(holds_andW hc).1;rw[hn] at h4;exact h4
  have h5:=condW_of h4 (w_not (w_lt w_lit (w_len_list (w_arg rfl))));rw[AV] at h5;refine Hw λq=> ?_;have q':(n:Int)<((ns.length:Nat):Int):=by omega
  first
   |(rw[decide_eq_true q'] at h5;exact absurd h5 ∅)
   |(simp at h5;omega)
 cases o3 with
 |cons w1 w2=>
  cases w2;cases w1 with
  |list ho cN=>exact⟨_,_,ns,rfl,rfl,ho,Ts ns _ cN,hlen⟩
def zht(l:OpenLaw)(args:n8 WData):l.row.toRowW.claim.post args (.bool fN) args=fN:=
 postW_of (r:=l.row.toRowW) (X:=(fN==fN))
  (show WShape.has [] (.bool fN) .bool=fN by first|rfl|decide|simp[WShape.has,WShape.arms,WShape.armsAll])
  (show(WTm.eq .res (.lit (.bool fN))).value [] {args:=args,res:=dB (.bool fN),after:=args}=dB (.bool (fN==fN)) from w_eq_bool (w_res rfl) w_lit) rfl
def zdQ{l:OpenLaw}{n:Nat}{q:Program}{loose:n8 Str}{XP:(Str->pU pW)->Heap->Prop}{YP:World->Heap->Prop}{d:DefRec}
  (hn:l.most=dB n) (lP:d.params.defaults=[])
  (call:∀(w:World) (s₀ s₁:pX) (mg mb:Str->pU pW) (fa:qo) (o:Obj) (pm cd doc:pW) (a:qo) (vs:n8 pW) (ns:n8 Int),
   Ground q loose [] XP w s₀ mg mb s₁.heap->YP w s₁.heap->
   s₁.heap.get? fa=dB o->o.data= .func (docDef d.name d.params d.body d.scope pm cd doc)->s₁.heap.CodeRec cd d.name->mg d.name=dB (.ref fa)->
   s₁.heap.get? a=dB {cls:= .type "list",data:= .seq vs.toArray}->IntsAre vs ns->ns.length<=n->s₁.gens= #[]->
   codeAny (model l.prog w) callerA (.call (.ref fa) ⟨[.ref a],[]⟩) (λr s'=>r= .ok (.ret (.bool fN))/\OldK s₁.heap s'.heap/\s'.os=s₁.os/\AllBare s'.gens) s₁):
  WalkO q loose XP YP l.row.toRowW d [] (λf vs=>HF f vs):=by
 intro w s₀ s₁ mg mb G Y fa o pm cd doc dV kV ho hd cZ hD jL hg args vals as ik u6 qT o3 Aj;obtain rfl:dV= .none:=Dflts.none hD lP;obtain rfl:kV= .none:=Dflts.noKw hD;obtain⟨a,vs,ns,rfl,rfl,jG,hints,hlen⟩:=zhs hn ik o3;refine enter_call (codeAny_mono (call w s₀ s₁ mg mb fa o pm cd doc a vs ns G Y ho (fd_plain hd) cZ jL jG hints hlen hg) λr s' hq=> ?_);obtain⟨rfl,h2,h3,h4⟩:=hq;exact⟨.inl ⟨.bool fN,.bool fN,[],rfl,λ_=>rfl,.bool fN,zht l _,λ_=>⟨Fq,λ_ hm=>(nomatch hm)⟩⟩,h2,h3,h4⟩
section
variable{w:World}{K:Frag}
end
end Att
namespace L2
theorem zbT:∀{vs:n8 pW} {ns:n8 Int},IntsAre vs ns->zK (ns.map V.int) vs
 |_,_,.nil=> .nil
 |_,_,.cons n t h=> .cons ⟨t,rfl⟩ (zbT h)
noncomputable abbrev KOf{K:AO}{h:Heap}(_:K.In h):AO:=K
noncomputable def zgq(s:Stmt)(j:Nat):Stmt:=match s with
 | .ClassDef _ _ _ body _ _ _ _ _ _ _=>body.getD j (.Pass ⟨0,0,0,0⟩)
 |_=> .Pass ⟨0,0,0,0⟩
noncomputable def YE(s:Stmt):Arguments:=match s with
 | .FunctionDef _ a _ _ _ _ _ _ _ _=>a
 |_=>{posonlyargs:=[],args:=[],vararg:=fC,kwonlyargs:=[],kw_defaults:=[],kwarg:=fC,defaults:=[]}
noncomputable def wQ(s:Stmt):n8 Stmt:=match s with
 | .FunctionDef _ _ b _ _ _ _ _ _ _=>b
 |_=>[]
noncomputable def zh(s:Stmt):Scope:=match s with
 | .FunctionDef _ _ _ _ _ _ sc _ _ _=>sc
 |_=>{kind:= .function,names:=[],isGenerator:=kb,isCoroutine:=kb}
noncomputable abbrev CX0:CXT:=λ_ _ _ _ _ _=>False
noncomputable abbrev E0:XK:=λ_ _ _=>False
structure Fun(K:AO)(x qual:Str)(st:Stmt)(f:qo)(fd:FuncData):Prop where
 ex:∃(oc:pW) (od:pU qo) (kV doc pm:pW) (an:pU qo) (bj ct:pW) (fT:Array (pU pW)),
  fd=Dg x qual (YE st) (wQ st) (zh st) .none kV doc pm an bj ct/\K.lookup f=dB ⟨oc,od,.func fd,fT⟩/\Eh K bj qual=fN
 kp:CZ K (.ref f)=fN
section
variable{P:Program}{K:AO}{mg:Str->pU pW}
def Fun.binds{x qual:Str}{st:Stmt}{f:qo}{fd:FuncData}{ps:n8 Str}(F:Fun K x qual st f fd)
  (h:∀(kV doc pm:pW) (an:pU qo) (bj ct:pW) (us:n8 pW),us.length=ps.length->bindArgs (Dg x qual (YE st) (wQ st) (zh st) .none kV doc pm an bj ct) ⟨us,[]⟩=pure (ps.zip us)):Vy K fd ps []:=by
 obtain⟨oc,od,kV,doc,pm,an,bj,ct,fT,rfl,lk,cZ⟩:=F.ex;exact .all (h kV doc pm an bj ct)
def ziQ{x qual:Str}{st:Stmt}{f:qo}{oc:pW}{od an:pU qo}{fT:Array (pU pW)}{kV doc pm bj ct:pW}(l:K.lookup f=dB ⟨oc,od,.func (Dg x qual (YE st) (wQ st) (zh st) .none kV doc pm an bj ct),fT⟩)
  (c:Eh K bj qual=fN) (k:CZ K (.ref f)=fN):Fun K x qual st f (Dg x qual (YE st) (wQ st) (zh st) .none kV doc pm an bj ct):=⟨⟨oc,od,kV,doc,pm,an,bj,ct,fT,rfl,l,c⟩,k⟩
end
def zbU(hr:xh k A):A.units+1<cLine:=Bp (Nat.add_le_add_left (by decide:1<=64) _) hr.units
def pv(i:Nat){x:Str}{pos:Pos}(hN:X.N[i]? =dB x:=by rfl)(hv:Vis X.env.scope x:=by walk_at "!m")(hd:(x==("__debug__":Str))=kb:=by decide)
  (cZ:(x==("__classdict__":Str))=kb:=by decide):PE X (.Name x pos) (znG i):=znH hN hv hd cZ
def zhu:Yf X (.builtin "len") (λxs H Q=>∃a kvs,xs=[V.ref a]/\H a=dB (.dK kvs)/\Q (.int kvs.length) H):=by
 intro pins s σ H xs us Q I r h;obtain⟨a,kvs,rfl,ha,q⟩:=h;obtain⟨u,rfl,ru⟩:=XA r;cases ru;exact zpz I (.inl ha) λt s' I'=>⟨.int kvs.length,H,I',⟨t,rfl⟩,q⟩
def vX(H H':Hp):Prop:=∀b o,H b=dB o->H' b=dB o
def vX.refl(H:Hp):vX H H:=λ_ _ h=>h
section
variable{κ:Type}[DecidableEq κ]
end
def XD{R:Result->pX->Prop}(I:Nat->pX->Prop)
  (turn:∀n s,I n s->wpAny (model prog w) A (pyNext it) (λr s₁=>match r with
   |none=>R (.ok .next) s₁
   |some v=>wpAny (model prog w) A (letOwnedTupleGo tg it v) (λ_ s₁'=>wpAny (model prog w) A (assign tg env v) (λ_ s₂=>
     wpAny (model prog w) A (forIn ifs fN λc r=>if r=fN then do let ok <-isTrue c env (eval c env);pure (Dy ok) else pure (Dy r)) (λok s₃=>
      if ok=fN then wpAny (model prog w) A (eval elt env) (λx s₄=>
       wpAny (model prog w) A (call (.builtin "list.append") [acc,x]) (λ_ s₅=>∃m,m<n/\I m s₅) (λ_ _=>False) s₄) (λ_ _=>False) s₃
      else ∃m,m<n/\I m s₃) (λ_ _=>False) s₂)
     (λ_ _=>False) s₁') (λ_ _=>False) s₁) (λ_ _=>False) s)
  (n:Nat) (h:I n s):codeAny (model prog w) A (.compLoop (.ListComp elt [⟨tg,iter,ifs,0⟩] scope pos) 0 it acc env) R s:=by
 refine codeAny_loop rfl I (λn s hI=> ?_) n h;show wpAny _ A ((compTurn (.ListComp elt [⟨tg,iter,ifs,0⟩] scope pos) 0 it acc env).onRaise (λx=>do noteFrame x env;theTreesLotGoes x)) _ _ s;refine wpAny_noted ?_;rw[compTurn_list];refine wpAny_bind (wpAny_standAt (wpAny_bind (wpAny_mono (turn n s hI) (λr s₁ h₁=> ?_) λ_ _ h'=>h'.elim)));cases r with
 |none=>exact wpAny_pure h₁
 |some v=>
  refine wpAny_bind (wpAny_mono h₁ (λ_ s₁' h₁'=> ?_) λ_ _ h'=>h'.elim);refine wpAny_bind (wpAny_mono h₁' (λ_ s₂ h₂=>wpAny_bind (wpAny_mono h₂ (λok s₃ h₃=> ?_) λ_ _ h'=>h'.elim)) λ_ _ h'=>h'.elim);cases ok with
  |false=>exact wpAny_pure ⟨rfl,h₃⟩
  |true=>
   exact wpAny_bind (wpAny_bind (wpAny_mono h₃ (λx s₄ h₄=>wpAny_bind (wpAny_mono h₄ (λ_ s₅ h₅=>wpAny_pure (wpAny_pure ⟨rfl,h₅⟩)) λ_ _ h'=>h'.elim)) λ_ _ h'=>h'.elim))
noncomputable def Tt(env:Env):n8 (Str×NameKind)->n8 (Str×qo)->n8 (Str×qo)
 |[],cs=>cs
 |(n,k)::r,cs=>Tt env r (if k== .free then (match env.cells.lookup n with|some c=>(n,c)::cs|none=>cs) else cs)
noncomputable def YF(sc:Scope)(env:Env):n8 (Str×qo):=Tt env sc.names []
theorem zao:∀{ns:n8 (Str×NameKind)} {cs:n8 (Str×qo)},(∀p∈cs,env.cells.lookup p.1=dB p.2)->∀p∈Tt env ns cs,env.cells.lookup p.1=dB p.2
 |[],_,h=>h
 |(n,k)::r,cs,h=>by
  unfold Tt;refine zao ?_;by_cases hk:(k== .free)=fN
  .rw[if_pos hk];cases e:env.cells.lookup n with
   |none=>exact h
   |some c=>
    intro p hp;rcases Bi.mp hp with rfl|hp;exact e;exact h p hp
  rw[if_neg hk];exact h
theorem zdR:∀{ns:n8 (Str×NameKind)} {cs:n8 (Str×qo)} {p:Str×qo},p∈cs->p∈Tt env ns cs
 |[],_,_,h=>h
 |(n,k)::r,cs,p,h=>by
  unfold Tt;refine zdR ?_;by_cases hk:(k== .free)=fN
  .rw[if_pos hk];cases env.cells.lookup n with
   |none=>exact h
   |some c=>exact Br _ h
  rw[if_neg hk];exact h
theorem zdS(e:env.cells.lookup x=dB c):∀{ns:n8 (Str×NameKind)} {cs:n8 (Str×qo)},(x,NameKind.free)∈ns->(x,c)∈Tt env ns cs
 |[],_,h=>by cases h
 |(n,k)::r,cs,h=>by
  unfold Tt;rcases Bi.mp h with h|h;injection h with h1 h2;subst h1 h2;refine zdR ?_;rw[if_pos (by rfl),e];exact BJ;exact zdS e h
theorem we:∀{l:n8 (Str×qo)} {x:Str} {c:qo},(x,c)∈l->∃d,l.lookup x=dB d
 |[],_,_,h=>by cases h
 |(n,d)::r,x,c,h=>by
  rw[BQ];cases e:x==n with
  |true=>exact⟨d,rfl⟩
  |false=>
   rcases Bi.mp h with h|h;injection h with h1 h2;subst h1;simp at e;exact we h
def Yk(e:(YF sc env).lookup x=dB c):env.cells.lookup x=dB c:=
 zao (cs:=[]) (λp hp=>by cases hp) (x,c) (Bw e)
def zap(h:(x,NameKind.free)∈sc.names)(e:env.cells.lookup x=dB c):(YF sc env).lookup x=dB c:=by
 obtain⟨d,hd⟩:=we (zdS (cs:=[]) e h);have:=Yk (sc:=sc) hd;rw[e] at this;cases this;exact hd
def WJ(h:∀y∈sc.names,y.2= .free->∃c,env.cells.lookup y.1=dB c):closureFor sc env=pure (YF sc env):=by
 unfold YF closureFor;generalize sc.names=ns at h
 suffices hh:∀cs:n8 (Str×qo),(forIn ns cs (λ(x:Str×NameKind) (r:n8 (Str×qo))=>
    (match x with
     |(name,kind)=>if (kind==NameKind.free)=fN then (cellOf env name>>=λc=>pure (Dy ((name,c)::r))) else pure (Dy r):Sem (ForInStep (n8 (Str×qo)))))>>=λr=>pure r:Sem (n8 (Str×qo)))=pure (Tt env ns cs) from hh []
 induction ns with
 |nil=>intro cs;rfl
 |cons p r ih=>
  intro cs;obtain⟨n,k⟩:=p;rw[FZ];unfold Tt;have ih':=ih λy hy=>h y (Br _ hy);by_cases hk:(k== .free)=fN
  .obtain⟨c,hc⟩:=h (n,k) BJ (by simpa using hk);have hc:env.cells.lookup n=dB c:=hc;have h1:cellOf env n=pure c:=by unfold cellOf;rw[hc]
   simp only[hk,if_true,h1,hc,pure_bind];exact ih' _
  simp only[hk,if_false,pure_bind];exact ih' _
noncomputable def ziR(X:Cx)(N':n8 Str)(sc:Scope)(C:qo)(s₀:pX)(H₀:Hp)(fp:n8 qo):Cx where
 prog:=X.prog
 w:=X.w
 K:=X.K
 mg:=X.mg
 base:=X.base
 A:=X.A
 N:=N'
 s₀:=s₀
 H₀:=H₀
 env:=compEnvC sc (YF sc X.env) C X.env
 outer:=X.stack
 stack:=X.stack
 ex:=fp
 fn:=λ_=>kb
 zn:=λ_=>kb
 calm:=X.calm
 pn:=[]
 xe:=λ_ _=>False
theorem xX{env:Env}:∀{names:n8 (Str×NameKind)} {x:Str},names.lookup x=dB .free->
  (names.map λ(n,k)=>if (k==NameKind.free&&env.scope.kind== .function&&env.kindOf n==dB .cell) then (n,NameKind.cell) else (n,k)).lookup x=dB .cell\/
  (names.map λ(n,k)=>if (k==NameKind.free&&env.scope.kind== .function&&env.kindOf n==dB .cell) then (n,NameKind.cell) else (n,k)).lookup x=dB .free
 |[],_,h=>by simp at h
 |(n,k)::r,x,h=>by
  have ih:= @xX env r x;show D0 x ((if (k==NameKind.free&&env.scope.kind== .function&&env.kindOf n==dB .cell)=fN then (n,NameKind.cell) else (n,k))::_)=_\/D0 x ((if (k==NameKind.free&&env.scope.kind== .function&&env.kindOf n==dB .cell)=fN then (n,NameKind.cell) else (n,k))::_)=_;cases hx:x==n with
  |true=>
   simp only[BQ,hx] at h;cases h;by_cases hc:(NameKind.free==NameKind.free&&env.scope.kind== .function&&env.kindOf n==dB .cell)=fN;rw[if_pos hc];left;simp[BQ,hx];rw[if_neg hc];right;simp[BQ,hx]
  |false=>
   simp only[BQ,hx] at h;by_cases hc:(k==NameKind.free&&env.scope.kind== .function&&env.kindOf n==dB .cell)=fN;rw[if_pos hc];simp only[BQ,hx];exact ih h;rw[if_neg hc];simp only[BQ,hx];exact ih h
def wS(X:Cx)(sc:Scope):n8 (pU Nat)->n8 Str->Prop
 |[],[]=>True
 |none::r,_::n=>wS X sc r n
 |some i::r,x::n=>(X.N[i]? =dB x/\sc.names.lookup x=dB .free)/\wS X sc r n
 |_,_=>False
noncomputable def vO(cap:n8 (pU Nat))(σ:St):St:=cap.map λo=>o.bind λi=>(σ[i]?).join
theorem wS.at:∀{cap:n8 (pU Nat)} {N':n8 Str},wS X sc cap N'->∀(j i:Nat) (x:Str),cap[j]? =dB (dB i)->N'[j]? =dB x->X.N[i]? =dB x/\sc.names.lookup x=dB .free
 |[],[],_,j,i,x,h,_=>by simp at h
 |none::r,y::n,c,0,i,x,h,_=>by simp at h
 |none::r,y::n,c,j+1,i,x,h,h2=>wS.at (cap:=r) c j i x (by simpa using h) (by simpa using h2)
 |some k::r,y::n,c,0,i,x,h,h2=>by
  simp at h h2;subst h h2;exact c.1
 |some k::r,y::n,c,j+1,i,x,h,h2=>wS.at (cap:=r) c.2 j i x (by simpa using h) (by simpa using h2)
theorem wS.len:∀{cap:n8 (pU Nat)} {N':n8 Str},wS X sc cap N'->cap.length=N'.length
 |[],[],_=>rfl
 |none::r,y::n,c=>by simpa using wS.len (cap:=r) (N':=n) c
 |some k::r,y::n,c=>by simpa using wS.len (cap:=r) (N':=n) c.2
def zbV{cap:n8 (pU Nat)}{j:Nat}{v:V}(h:(vO cap σ)[j]? =dB (dB v)):∃i,cap[j]? =dB (dB i)/\σ[i]? =dB (dB v):=by
 unfold vO at h;rw[AW] at h;cases e:cap[j]? with
 |none=>rw[e] at h;cases h
 |some o=>
  rw[e] at h;cases o with
  |none=>simp at h
  |some i=>
   refine⟨i,rfl,?_⟩;simp only[Cd,B7,BG] at h;cases q:σ[i]? with
   |none=>rw[q] at h;simp at h
   |some z=>rw[q] at h;simp at h;rw[h]
def PTs(X:Cx)(ifs:n8 Expr)(t:TT):Prop:=
 ∀(pins:n8 (qo×Obj)) (s:pX) (σ:St) (H:Hp) (Q:Bool->Hp->Prop),Inv X pins σ H s->t σ H Q->
  wpAny (model X.prog X.w) X.A (forIn ifs fN λc r=>if r=fN then do let ok <-isTrue c X.env (eval c X.env);pure (Dy ok) else pure (Dy r)) (TP X pins σ Q) X.xe s
def zV:PTs X [] (λ_ H Q=>Q fN H):=λ_ _ _ H _ I h=>wpAny_tests_nil ⟨H,I,h⟩
def TD(h:PT X c t):PTs X [c] t:=λpins s σ H Q I hw=>wpAny_tests_one (h pins s σ H Q I hw)
def ziS(cap:n8 (pU Nat))(g:TG)(tt:TT)(te:TE)(J:It)(σ:St)(acc:qo)(H0:Hp)(Q:Hp->Prop):Prop:=
 ∃W:Nat->Nat->n8 V->Hp->Prop,(∃m,W 0 m [] (upd H0 acc (.lst [])))/\∀i m ys H,W i m ys H->
  (J.stop i H/\Q H)\/(J.go i H/\∀x H',J.yld i H x H'->g x (vO cap σ) H' λσ2 H2=>tt σ2 H2 λb H3=>
   if b=fN then te σ2 H3 λv H4=>H4 acc=dB (.lst ys)/\ys.length<sizeLine/\∃m',m'<m/\W (i+1) m' (ys++[v]) (upd H4 acc (.lst (ys++[v])))
   else ∃m',m'<m/\W (i+1) m' ys H3)
def ziT(cap:n8 (pU Nat))(wi:TI)(g:TG)(tt:TT)(te:TE):TE:=λσ H Q=>wi σ H λJ H1=>∀acc,H1 acc=fC->ziS cap g tt te J σ acc H1 λH2=>Q (.ref acc) H2
def zdT(i:Nat)(cap:n8 (pU Nat))(wi:TI)(g:TG)(tt:TT)(te:TE):TS:=λD σ H=>wi σ H λJ H1=>∀acc,H1 acc=fC->ziS cap g tt te J σ acc H1 λH2=>D.nx (σ.set i (dB (.ref acc))) H2
structure zcD(X:Cx)(sc:Scope):Prop where
 cell:∀y∈sc.names,y.2≠ .cell
 kind:sc.kind= .function
 names:∀y∈sc.names,y.2= .local->sc.names.lookup y.1=dB .local
 free:∀y∈sc.names,y.2= .free->X.env.kindOf y.1=dB .cell\/X.env.kindOf y.1=dB .free
section
def Inv.closure(I:Inv X pins σ H s)(B:zcD X sc):closureFor sc X.env=pure (YF sc X.env):=
 WJ λy hy e=>I.ok.has y.1 (B.free y hy e)
def Kp(σ0 σ:St):Prop:=σ.length=σ0.length/\∀(j:Nat) v,σ0[j]? =dB (dB v)->σ[j]? =dB (dB v)
def zhv(cap:n8 (pU Nat))(g:TG):Prop:=∀σ0 σ x H Q,Kp (vO cap σ0) σ->g x σ H Q->g x σ H λσ2 H2=>Q σ2 H2/\Kp (vO cap σ0) σ2
def zgr(cap:n8 (pU Nat))(g:TGs):Prop:=∀σ0 σ x H Q,Kp (vO cap σ0) σ->g x σ H Q->g x σ H λσ2 H2=>Q σ2 H2/\Kp (vO cap σ0) σ2
def zbW(h:cap[i]? =dB fC):zhv cap (zbE i):=λσ0 σ x H Q k q=>by
 refine⟨q,by rw[Dj];exact k.1,λj v e=> ?_⟩;have:j≠i:=by
  rintro rfl;obtain⟨i',e1,_⟩:=zbV e;rw[h] at e1;cases e1
 rw[EJ (BM this)];exact k.2 j v e
def zhw:zgr cap znM:=λσ0 σ x H Q k ⟨e,q⟩=>⟨e,q,k⟩
def ze8(h1:zhv cap t)(h2:zgr cap u)(mono:∀v σ H (Q Q':St->Hp->Prop),(∀σ H,Q σ H->Q' σ H)->t v σ H Q->t v σ H Q'):zgr cap (zil t u):=λσ0 σ x H Q k ⟨v,r,e,q⟩=>
 ⟨v,r,e,mono v σ H _ _ (λσ' H' ⟨q',k'⟩=>h2 σ0 σ' r H' Q k' q') (h1 σ0 σ v H _ k q)⟩
def ze9:∀v σ H (Q Q':St->Hp->Prop),(∀σ H,Q σ H->Q' σ H)->zbE i v σ H Q->zbE i v σ H Q':=λ_ _ _ _ _ f q=>f _ _ q
def ziU{K:AO}(h:zgr cap t):zhv cap (zlp K n t):=λσ0 σ x H Q k ⟨a,xs,e,hq,hl,q⟩=>⟨a,xs,e,hq,hl,h σ0 σ xs H Q k q⟩
end
def xY{α:Type}:Sem α->Prop
 | .pure _=>True
 | .raise _=>True
 | .unsupported _=>True
 | .finish _=>True
 | .rule _ k=>∀u,xY (k u)
 | .at _ k=>∀u,xY (k u)
 | .load _ _ k=>∀o,xY (k o)
 | .update _ _ f k=>(∀o,(f o).dict=o.dict/\(f o).cls=o.cls)/\∀u,xY (k u)
 | .alloc _ k=>∀a,xY (k a)
 | .loadIfAlive _ k=>∀o,xY (k o)
 | .point _ k=>∀u,xY (k u)
 | .stack k=>∀x,xY (k x)
 | .ask k=>∀x,xY (k x)
 |_=>False
def KD(h h':Heap):Prop:=∀(b:Nat) o,h.objs[b]? =dB o->∃o',h'.objs[b]? =dB o'/\o'.dict=o.dict/\o'.cls=o.cls
def KD.refl(h:Heap):KD h h:=λ_ o e=>⟨o,e,rfl,rfl⟩
def KD.trans(x:KD h h1)(y:KD h1 h2):KD h h2:=λb o e=>by
 obtain⟨o1,e1,d1,c1⟩:=x b o e;obtain⟨o2,e2,d2,c2⟩:=y b o1 e1;exact⟨o2,e2,d2.trans d1,c2.trans c1⟩
def KD.push(h:Heap)(o:Obj):KD h (h.push o):=λb o' e=>by
 refine⟨o',?_,rfl,rfl⟩;obtain⟨objs,l⟩:=h;show(objs.push o)[b]? =dB o';have e:objs[b]? =dB o':=e;rw[Array.getElem?_push];have hb:b<objs.size:=(Array.getElem?_eq_some_iff.mp e).1;rw[if_neg (Bj hb)];exact e
def KD.update(h:Heap)(a:qo){f:Obj->Obj}(hf:∀o,(f o).dict=o.dict/\(f o).cls=o.cls):KD h (h.update a f):=λb o e=>by
 obtain⟨objs,l⟩:=h;show ∃o',(objs.modify a f)[b]? =dB o'/\_;rw[Array.getElem?_modify];have e:objs[b]? =dB o:=e;by_cases gu:a=b;rw[if_pos gu,e];exact⟨f o,rfl,hf o⟩;rw[if_neg gu,e];exact⟨o,rfl,rfl,rfl⟩
def zdU{h:Heap}{a:qo}{o:Obj}(e:h.get? a=dB o):h.objs[a]? =dB o:=by
 unfold Heap.get? at e;split at e;cases e;exact e
def KD.at(k:KD h h')(e:h.get? a=dB o)(e':h'.get? a=dB o'):o'.dict=o.dict/\o'.cls=o.cls:=by
 obtain⟨o1,e1,d⟩:=k a o (zdU e);rw[zdU e'] at e1;cases e1;exact d
def zlE{α:Type}{M:Model}{Γ:PySem.Ctx}{t:Sem α}:∀{Q:α->Pos->pX->Prop} {E:pW->Pos->pX->Prop} {p:Pos} {s:pX} {h₀:Heap},xY t->KD h₀ s.heap->Sem.wp M Γ t Q E p s->
  Sem.wp M Γ t (λa p' s'=>Q a p' s'/\KD h₀ s'.heap) (λe p' s'=>E e p' s'/\KD h₀ s'.heap) p s:=by
 induction t with
 |pure a=>exact λ_ k h=>⟨h,k⟩
 |raise e=>exact λ_ k h=>⟨h,k⟩
 |unsupported w=>exact λ_ _ h=>h.elim
 |finish e=>exact λ_ _ h=>h.elim
 |rule _ k ih=>exact λt z h=>ih () (t ()) z h
 | «at» _ k ih=>exact λt z h=>ih () (t ()) z h
 |load a _ k ih=>
  intro Q E p s h₀ t z h;obtain⟨o,e,h⟩:=h;exact⟨o,e,ih o (t o) z h⟩
 |update a _ f k ih=>
  intro Q E p s h₀ t z h;obtain⟨e,h⟩:=h;exact⟨e,ih () (t.2 ()) (z.trans (KD.update _ _ t.1)) h⟩
 |alloc o k ih=>exact λt z h=>ih _ (t _) (z.trans (KD.push _ _)) h
 |loadIfAlive a k ih=>exact λt z h=>ih _ (t _) z h
 |point _ k ih=>exact λt z h=>ih () (t ()) z h
 |stack k ih=>exact λt z h=>ih _ (t _) z h
 |ask k ih=>exact λt z h=>ih _ (t _) z h
 |register _ _ _=>exact λt=>t.elim
 |fresh _ _=>exact λt=>t.elim
 |choose _ _ _ _=>exact λt=>t.elim
 |os _ _ _ _=>exact λt=>t.elim
 |call _ _ _ _ _ _=>exact λt=>t.elim
 |handled _ _ _=>exact λt=>t.elim
 |newGen _ _ _=>exact λt=>t.elim
 |genState _ _ _=>exact λt=>t.elim
 |resume _ _ _ _ _=>exact λt=>t.elim
 |yield _ _ _ _ _=>exact λt=>t.elim
 |fork _ _ _=>exact λt=>t.elim
 |thread _ _=>exact λt=>t.elim
 |await _ _ _ _ _ _=>exact λt=>t.elim
def ziV{α:Type}{t:Sem α}{Q:α->pX->Prop}(T:xY t)(h:wpAny M A t Q E s):wpAny M A t (λa s'=>Q a s'/\KD s.heap s'.heap) (λe s'=>E e s'/\KD s.heap s'.heap) s:=
 λΓ p hΓ=>zlE T (KD.refl _) (h Γ p hΓ)
def zhx{α β:Type}{f:α->Sem β}(hf:∀a,xY (f a)):∀{t:Sem α},xY t->xY (t.bind f):=by
 intro t
 induction t with
 |pure a=>exact λ_=>hf a
 |raise e=>exact λ_=>trivial
 |unsupported w=>exact λ_=>trivial
 |finish e=>exact λ_=>trivial
 |rule _ k ih=>exact λt u=>ih u (t u)
 | «at» _ k ih=>exact λt u=>ih u (t u)
 |load a _ k ih=>exact λt u=>ih u (t u)
 |update a _ f k ih=>exact λt=>⟨t.1,λu=>ih u (t.2 u)⟩
 |alloc o k ih=>exact λt u=>ih u (t u)
 |loadIfAlive a k ih=>exact λt u=>ih u (t u)
 |point _ k ih=>exact λt u=>ih u (t u)
 |stack k ih=>exact λt u=>ih u (t u)
 |ask k ih=>exact λt u=>ih u (t u)
 |register _ _ _=>exact λt=>t.elim
 |fresh _ _=>exact λt=>t.elim
 |choose _ _ _ _=>exact λt=>t.elim
 |os _ _ _ _=>exact λt=>t.elim
 |call _ _ _ _ _ _=>exact λt=>t.elim
 |handled _ _ _=>exact λt=>t.elim
 |newGen _ _ _=>exact λt=>t.elim
 |genState _ _ _=>exact λt=>t.elim
 |resume _ _ _ _ _=>exact λt=>t.elim
 |yield _ _ _ _ _=>exact λt=>t.elim
 |fork _ _ _=>exact λt=>t.elim
 |thread _ _=>exact λt=>t.elim
 |await _ _ _ _ _ _=>exact λt=>t.elim
def tb{α β:Type}{t:Sem α}{f:α->Sem β}(h:xY t)(hf:∀a,xY (f a)):xY (t>>=f):=zhx hf h
def zbd(v:pW):xY (fieldsOf v):=by
 unfold fieldsOf;split
 .refine tb (λo=>trivial) λo=> ?_;split<;>trivial
 trivial
def YG(v:pW)(i:Nat):xY (field v i):=by
 unfold field;refine tb (zbd v) λa=> ?_;split<;>trivial
def zaq(g:Array pW->Array pW)(o:Obj):(Obj.mapFields g o).dict=o.dict/\(Obj.mapFields g o).cls=o.cls:=by
 obtain⟨c,d,dt,sl⟩:=o;cases dt<;>exact⟨rfl,rfl⟩
def ZP(v:pW)(i:Nat)(x:pW):xY (setField v i x):=by
 unfold setField;split;unfold updateField;refine tb (λo=>trivial) λo=> ?_;split;split;exact⟨λo=>zaq _ o,λ_=>trivial⟩;trivial;trivial;trivial
def zar(e:pW)(f:pU qo):xY (setFlight e f):=by
 unfold setFlight;refine tb (YG _ _) λtb'=> ?_;split;exact ZP _ _ _;trivial
def zas(ty:String)(vs:n8 pW):xY (newFields ty vs):=by
 have h:xY (newObjAsIs (Value.type ty) (Data.fields vs.toArray)):=by
  unfold newObjAsIs;exact tb (λa=>trivial) λa=>trivial
 unfold newFields newObj;show xY (if vs.toArray.size>sizeLine+2 then (unsupported "record:memory">>=λ_=>newObjAsIs (Value.type ty) (Data.fields vs.toArray)) else newObjAsIs (Value.type ty) (Data.fields vs.toArray));split;trivial;exact h
def zdV(env:Env)(outer:n8 Env):xY (behindIsImport env outer):=by
 unfold behindIsImport;split;trivial;split;trivial;exact tb (YG _ _) λ_=>trivial
def zfa:xY underTheClaimsCaller:=tb (λ_=>trivial) λ_=>trivial
def zbe(env:Env)(i:Bool)(outer:n8 Env):xY (keptBack env i outer):=by
 cases outer with
 |nil=>
  unfold keptBack;by_cases h:(env.scope.isGenerator||env.scope.isCoroutine)=fN;rw[if_pos h];trivial;rw[if_neg h];refine tb zfa λx=> ?_;trivial
 |cons c r=>
  unfold keptBack;trivial
theorem zat:∀l:n8 Env,xY (readyFrames l)
 |[]=>trivial
 |env::outer=>by
  unfold readyFrames;split;refine tb (λo=>trivial) λo=> ?_;split;trivial;exact tb (zdV _ _) λi=>tb (zbe _ _ _) λb=>tb ⟨λo=>⟨rfl,rfl⟩,λ_=>trivial⟩ λ_=>zat outer;trivial
def zcE(env:Env):xY (Gy env):=by
 unfold Gy;refine tb (λx=>trivial) λl=>tb ?_ λo=> ?_
 .generalize List.dropWhile _ l=l';unfold frameObject;cases l' with
  |nil=>trivial
  |cons a r=>exact tb (zat _) λ_=>trivial
 split<;>trivial
def Tu(f:qo)(b:Bool):xY (entryPlaceOf f b):=by
 unfold entryPlaceOf;refine tb (λx=>trivial) λl=> ?_;split<;>trivial
set_option tactic.hygienic true in
def zau(e:pW)(env:Env):xY (noteFrame e env):=by
 unfold noteFrame;split
 .rename_i f _;have last:∀head:pW,xY (do setField e 1 (<-EntryCells.newEntry head (<-Gy env) .none (rawInt f) .none (<-entryPlaceOf f (head != .none)))):=λhead=>
   tb (zcE env) λa=>tb (Tu _ _) λpl=>tb (zas _ _) λb=>ZP _ _ _
  refine tb (YG _ _) λhead=> ?_;split;refine tb (YG _ _) λx=> ?_;split;trivial;exact tb (ZP _ _ _) λ_=>last head;exact last head
 trivial
def zcF(env:Env)(e:pW):xY (leaving env e):=tb (zau e env) λ_=>zar _ _
def yz.there{P:Program}(x:yz P w H h a o):∃ob,h.get? a=dB ob:=by
 cases o with
 |lst xs=>obtain⟨_,_,_,_,e⟩:=x;exact⟨_,e⟩
 |tup xs=>obtain⟨_,_,_,ob,e,_⟩:=x;exact⟨_,e⟩
 |dK kvs=>obtain⟨_,_,_,_,o,_,_,e,_⟩:=x;exact⟨_,e⟩
 |dT kvs=>obtain⟨_,_,_,_,o,_,_,e,_⟩:=x;exact⟨_,e⟩
 |dN kvs=>obtain⟨_,_,_,_,o,_,_,e,_⟩:=x;exact⟨_,e⟩
 |set S n=>obtain⟨o,_,_,_,e,_⟩:=x;exact⟨_,e⟩
 |ins C dx fs=>obtain⟨_,_,_,e,_⟩:=x;exact⟨_,e⟩
 |own y=>obtain⟨_,e⟩:=x;exact⟨_,e⟩
 |xd fs=>obtain⟨_,⟨_,_,_,e,_⟩,_⟩:=x;exact⟨_,e⟩
 |rng lo hi=>obtain⟨_,_,_,e⟩:=x;exact⟨_,e⟩
 |frz ob u=>obtain⟨e,_⟩:=x;exact⟨_,e⟩
 |tbl ps=>exact⟨_,(show h.get? a=dB _ from x)⟩
 |met f y=>exact⟨_,(show h.get? a=dB _ from x)⟩
 |ext φ=>obtain⟨_,⟨_,e⟩,_⟩:=x;exact⟨_,e⟩
def Cov(outer:n8 Env)(H':Hp)(old h' B:Heap):Prop:=
 (∀b o,(∃o0,old.get? b=dB o0)->b∉frs outer->h'.get? b=dB o->B.get? b=dB o)/\∀b u o,H' b=dB u->h'.get? b=dB o->B.get? b=dB o
structure Fly(P:Program)(w:World)(outer:n8 Env)(H:Hp)(s:pX)(e:qo)(cls:pW)(H':Hp)(s':pX):Prop where
 os:s'.os=s.os
 bare:AllBare s'.gens
 un:Un (frs outer) [] H H' s.heap s'.heap
 hok:HOk P w H' s'.heap
 fly:∃B t,Heap.FlyingW B outer e cls (.ref t) s'.heap/\Cov outer H' s.heap s'.heap B
 new:s.heap.get? e=fC
 free:H' e=fC
 nd:∀o,s'.heap.get? e=dB o->o.dict=fC
noncomputable def CXE(P:Program)(w:World):CXT:=λouter H s E ev s'=>∃e cls H',ev= .ref e/\Fly P w outer H s e cls H' s'/\E cls fC H'
def Fly.moved{P:Program}(F:Fly P w outer H s e cls H' s')(fl:Heap.FlyingW B outer e cls a0 s'.heap)(cov:Cov outer H' s.heap s'.heap B)
  (st:B.StaysIn h2) (sm:s'.heap.UpToSlots h2):Un (frs outer) [] H H' s.heap h2/\HOk P w H' h2/\Cov outer H' s.heap h2 B:=by
 have nofs:∀b u,H' b=dB u->∃o,s'.heap.get? b=dB o/\B.get? b=dB o/\h2.get? b=dB o:=λb u q=>by
  obtain⟨o,e1⟩:=(F.hok b u q).there;have e2:=cov.2 b u o q e1;exact⟨o,e1,e2,st b o e2⟩
 have old:∀b o0,s.heap.get? b=dB o0->b∉frs outer->∃o,s'.heap.get? b=dB o/\B.get? b=dB o/\h2.get? b=dB o:=λb o0 q hb=>by
  obtain⟨o,e1⟩:=F.un.there b o0 q (by simp);have e2:=cov.1 b o ⟨o0,q⟩ hb e1;exact⟨o,e1,e2,st b o e2⟩
 have fr:∀b∈frs outer,∃o sl,s'.heap.get? b=dB o/\h2.get? b=dB {o with slots:=sl}:=λb hb=>by
  obtain⟨_,o,e1,d⟩:=fl.2.2.1.mem hb;obtain⟨sl,e2⟩:=sm b o e1 d;exact⟨o,sl,e1,e2⟩
 refine⟨⟨λb o q n hb _=> ?_,λb o q n hb _=> ?_,λb o q n hx=>F.un.free b o q n hx,λb o q _=> ?_,F.un.tups,F.un.frzs,F.un.tbls⟩,λa u q=> ?_,λb o q hb e1=> ?_,λb u o q e1=> ?_⟩;obtain⟨o1,e1,_,e3⟩:=old b o q hb;have e4:=F.un.keep b o q n hb (by simp);rw[e1] at e4;cases e4;exact e3;obtain⟨o1,q9,e1,e2⟩:=fr b hb;obtain⟨sl,e4⟩:=F.un.slot b o q n hb (by simp);rw[e1] at e4;cases e4;exact⟨q9,e2⟩;by_cases hb:b∈frs outer;obtain⟨o1,q9,e1,e2⟩:=fr b hb;exact⟨_,e2⟩;obtain⟨o1,_,_,e3⟩:=old b o q hb;exact⟨_,e3⟩
 .refine (F.hok a u q).stay (λb ob hb eb=> ?_) (λ_ z=>z) λ_ _ z=>z;have:∃u',H' b=dB u':=by
   rcases hb with z|z;exact⟨u,z ▸ q⟩;exact⟨_,z⟩
  obtain⟨u',hu⟩:=this;obtain⟨o1,e1,_,e3⟩:=nofs b u' hu;rw[eb] at e1;cases e1;exact e3
 .obtain⟨o0,q⟩:=q;obtain⟨o1,_,e2,e3⟩:=old b o0 q hb;rw[e1] at e3;cases e3;exact e2
 obtain⟨o1,_,e2,e3⟩:=nofs b u q;rw[e1] at e3;cases e3;exact e2
section
variable{P:Program}{K:AO}{mg:Str->pU pW}{N:n8 Str}{E:XK}
def zne:WW (CXE P w) (WA (CXE P w) P w K mg base N qual scope f bj A outer s H E) E:=by
 rintro pins σ H1 s1 ev s' I ⟨e,cls,H',rfl,F,hE⟩;obtain⟨B,t,fl,cov⟩:=F.fly;have oX:∀b∈frs (envOfC qual scope s.heap.objs.size f bj::outer),b∈s.heap.objs.size::frs outer:=I.stkSub;refine wpAny_mono (ziV (zcF _ _) (wpAny_leaves_onW (E:=λ_ _=>False) (Q:=λ_ s''=>∃h',s''={s' with heap:=h'}/\Heap.FlyingW B outer e cls (.ref t) h'/\s'.heap.UpToSlots h') (L:=s.heap.objs.size) I.ok.frames rfl fl λh' x1 x2=>⟨h',rfl,x1,x2⟩)) (λ_ s3 h3=> ?_) λ_ _ h3=>h3.1.elim;obtain⟨⟨h',rfl,x1,x2⟩,kd⟩:=h3;obtain⟨un,hok,cov'⟩:=F.moved fl cov x1.1 x2;have iG:∀b:qo,b∉(WA (CXE P w) P w K mg base N qual scope f bj A outer s H E).ex:=λb z=>absurd (show b∈([]:n8 qo) from z) (by simp);have qi:∀b o,s.heap.get? b=dB o->b∉frs outer->b∉frs (envOfC qual scope s.heap.objs.size f bj::outer):=λb o q hb hz=>by
  rcases Bi.mp (oX b hz) with z|z;exact Bj (Heap.lt_size q) z;exact hb z
 have sub:∀b∈frs outer,b∈frs (envOfC qual scope s.heap.objs.size f bj::outer):=λb hb=>by
  unfold frs at hb ⊢;rw[Dt];exact Br _ hb
 refine⟨e,cls,H',rfl,⟨F.os.trans I.os,F.bare,⟨λb o q n hb _=> ?_,λb o q n hb _=> ?_,λb o q n _=> ?_,λb o q _=> ?_,λb xs q=>un.tups b xs (I.base.tups b xs q),λb o xs q=>un.frzs b o xs (I.base.frzs b o xs q),λb ps q=> ?_⟩,hok,
  ⟨B,t,x1,λb o q hb e1=> ?_,cov'.2⟩,?_,F.free,λo q=> ?_⟩,hE⟩
 .exact un.keep b o (I.base.keep b o q n hb (iG b)) (I.base.free b o q n (iG b)) (qi b o q hb) (by simp)
 .obtain⟨sl,e1⟩:=I.base.slot b o q n hb (iG b);obtain⟨kC,e2⟩:=un.slot b _ e1 (I.base.free b o q n (iG b)) (sub b hb) (by simp);exact⟨kC,e2⟩
 .obtain⟨o1,e1⟩:=I.base.there b o q (iG b);exact un.free b o1 e1 (I.base.free b o q n (iG b)) (by simp)
 .obtain⟨o1,e1⟩:=I.base.there b o q (iG b);exact un.there b o1 e1 (by simp)
 .obtain⟨m1,e1⟩:=I.base.tbls b ps q;obtain⟨m2,e2⟩:=un.tbls b _ e1;exact⟨m1++m2,by rw[e2,Fh]⟩
 .obtain⟨o0,q⟩:=q;obtain⟨o1,q1⟩:=I.base.there b o0 q (iG b);exact cov'.1 b o ⟨o1,q1⟩ (qi b o0 q hb) e1
 .cases q:s.heap.get? e with
  |none=>rfl
  |some o=>
   obtain⟨o',q'⟩:=I.base.there e o q (iG e);have:=F.new;rw[q'] at this;cases this
 obtain⟨ob,rg,_⟩:=fl.there;exact(kd.at rg q).1.trans (F.nd ob rg)
end
structure ziW(K:AO)(mg:Str->pU pW)(x:Str)(C:qo)(y9:n8 pW)(newId:String):Prop where
 mg:mg x=dB (.ref C)
 A9:Gz K C y9 newId=fN
def znf{P:Program}:WW (CXE P w) X E0:=λ_ _ _ _ _ _ _ ⟨_,_,_,_,_,h⟩=>h.elim
abbrev TEx:=St->Hp->VK->(pW->Hp->Prop)->Prop
abbrev TAx:=St->Hp->(n8 V->Hp->Prop)->(pW->Hp->Prop)->Prop
abbrev TSx:=Vx->(pW->Hp->Prop)->St->Hp->Prop
section
variable{e:Expr}{es:n8 Expr}{te:TE}
end
noncomputable def zn3(e:qo)(cls:pW):HO:= .ext λh=>∃ob,h.get? e=dB ob/\ob.cls=cls/\ob.dict=fC/\∃vs,ob.data= .fields vs
noncomputable abbrev Cx.hand(X:Cx)(e:qo):Cx:={X with A:=X.A.mark (dB (.ref e)),calm:=kb,xe:=λ_ _=>False}
open PySem.Builtin.Int (intBits)
def zng(i j:Int):Prop:=∃m n:Nat,intBits i<=m/\intBits j<=n/\m+n<=134217728
def ziX(i j:Int):Prop:=j≠0/\intBits j<=9000
def zT:OpR X (binaryOp .Mult) (rI zng λi j=> .int (i*j)):=opI λ_ _ _ _ _ _ _ hc q=>by
 obtain⟨m,n,h1,h2,h3⟩:=hc;exact mul_int q (IntMulOk.of_le h1 h2 h3)
def VB:OpR X (binaryOp .FloorDiv) (rI ziX λi j=> .int (i.fdiv j)):=opI λi j _ _ _ _ _ hc q=>floordiv_int hc.1 q (.inl (PyProof.noPylong_of_log2 (by
 have h:=EV.mp hc.2;by_cases z:j.natAbs=0;rw[z];decide
 exact (Nat.log2_lt z).mpr h)))
section
variable{K:AO}
def zcG{Q:Unit->pX->Prop}(X:K.In s.heap)(I:F8 s.heap x ox D fC)(be:C7 K D (.type "BaseException")=dB fN)(hq:Q () s):
  wpAny M A (checkBuiltinCall "BaseException.__getattribute__" ⟨[.ref x,nameV],[]⟩) Q E s:=by
 obtain⟨hh,g,d,t,os⟩:=s;have hk:builtinKind "BaseException.__getattribute__"=dB .slot:=by decide+kernel
 have hsplit:splitId "BaseException.__getattribute__"=dB ("BaseException","__getattribute__"):=by decide+kernel
 have L0:=I.type (M:=M);have L1:=PySem.W.looks_mroIn (M:=M) X be;have ha:=F.args_bexc_ga (.ref x) nameV;simp only[checkBuiltinCall,hk,hsplit];refine wpAny_bind ?_;unfold isInstance;refine wpAny_bind (L0.at (L1.at ?_))
 repeat (first|wp_step)
 exact hq
def zhy{Q:pU pW->pX->Prop}(X:K.In s.heap)(I:F8 s.heap x ox D fC)(ga:Bh K (.ref D) "__getattribute__"=dB (dB (.builtin "BaseException.__getattribute__")))(noga:Bh K (.ref D) "__getattr__"=dB fC)
  (be:C7 K D (.type "BaseException")=dB fN) (hf:G0 K D fC "__class__"=dB (.bind (.builtin "getset_descriptor.__get__") (.builtin "object.__class__"))) (hm:C7 K D (.type "object")=dB fN)
  (h:Q (dB (.ref D)) {s with toks:=s.toks+1}):wpAny (model prog w) A (getAttr? (.ref x) "__class__") Q E s:=by
 obtain⟨hh,g,d,t,os⟩:=s;have L0:=I.type (M:=model prog w);have L1:=EL (M:=model prog w) X ga;have L2:=EL (M:=model prog w) X noga;have L3:=PySem.W.looks_find (M:=model prog w) X I hf;have hb:=F.attrBase_ValueError.ga.bind (.ref x);unfold getAttr? getAttrBy? getAttrBy;refine wpAny_bind (wpAny_mkText (wpAny_bind (wpAny_attempt (wpAny_holding (wpAny_bind (L0.at (wpAny_bind (L1.at ?_))))))));dsimp only;rw[if_neg (show ¬(onTheHeap (Value.ref D)&&(Value.builtin "BaseException.__getattribute__"==Value.builtin "object.__getattribute__"))=fN by rw[show(Value.builtin "BaseException.__getattribute__"==Value.builtin "object.__getattribute__")=kb by decide+kernel];simp)];unfold getAttrByItsOwn hookBefore;refine wpAny_bind ?_;show wpAny _ _ (typeLookup (.ref D) "__getattr__") _ _ _;refine L2.at ?_;refine wpAny_bind (wpAny_attempt (wpAny_holding ?_));unfold callGetattribute boundAndCalled;rw[if_neg ∅,hb];refine wpAny_bind (wpAny_pure ?_);dsimp only;refine wpAny_call (codeAny_call_builtin F.attrBase_ValueError.ga.plain F.entry_bexc_ga (zcG (ox:=ox) X I be ?_));unfold Builtin.«object.__getattribute__»;refine wpAny_bind (wpAny_of_eq (show slotArgs "__getattribute__" 1 {pos:=[Value.ref x]++[Value.str (Str.ofString "__class__") t]}=pure (.ref x,[Value.str (Str.ofString "__class__") t]) from rfl) ?_);dsimp only;refine wpAny_bind (wpAny_of_eq (show Builtin.ObjectAttr.attrName (Value.str (Str.ofString "__class__") t)=pure (Str.ofString "__class__") from rfl) ?_);refine wpAny_bind (L0.at (wpAny_bind (L3.at ?_)));dsimp only;show wpAny _ _ (do ret (<-holding [Value.builtin "object.__class__"] (call (.builtin "getset_descriptor.__get__") [.builtin "object.__class__",.ref x,.ref D]))) _ _ _;refine wpAny_bind (wpAny_holding (wpAny_call (PySem.W.class_get (ox:=ox) (od:=fC) X I hm ?_)));exact wpAny_pure (PySem.W.handed_on rfl (wpAny_pure h))
end
structure zgs(K:AO)(D:qo):Prop where
 ga:Bh K (.ref D) "__getattribute__"=dB (dB (.builtin "BaseException.__getattribute__"))
 noga:Bh K (.ref D) "__getattr__"=dB fC
 be:C7 K D (.type "BaseException")=dB fN
 hc:(GA K D).isSome=fN
 ha:Bh K (.ref D) "__class__"=dB (dB (.builtin "object.__class__"))
 hn:El K (.builtin "object.__class__") "__get__"=dB (dB (.builtin "getset_descriptor.__get__"))
 htk:FY K (.builtin "object.__class__")=dB fN
 hm:C7 K D (.type "object")=dB fN
set_option tactic.hygienic true in
def ziY{K:AO}(e:zgs K D):Iq K (.ref x) (.ref D) (λh=>∃ox,F8 h x ox D fC) where
 ty:=λ_ _ _ ⟨_,I⟩=>I.type
 it:=λ_ _ X _=>by
  obtain⟨cd,cZ⟩:=CM.mp e.hc;unfold GA at cZ;split at cZ;rename_i ho;intro A' Q' E' s' k q;unfold isType loadHead;exact wpAny_bind (wpAny_loadPart (k _ _ (X _ _ ho)) (wpAny_pure q));cases cZ
 ne:=λh tp dd ae n sl X tu=>by
  obtain⟨cd,cZ⟩:=CM.mp e.hc;refine Bool.eq_false_iff.mpr λq=> ?_;have z:D=tp:=Value.ref.inj (beq_iff_eq.mp q);subst z;unfold GA at cZ;split at cZ;rename_i ho;have y:=(X _ _ ho).symm.trans tu;cases y;cases cZ
 ca:=λ{_ _ _ _ _ s} X I k=>by
  obtain⟨ox,I⟩:=I;obtain⟨cd,cZ⟩:=CM.mp e.hc;have hf:G0 K D fC "__class__"=dB (.bind (.builtin "getset_descriptor.__get__") (.builtin "object.__class__")):=by
   unfold G0;rw[cZ,B7,e.ha,B7];simp[e.hn,e.htk]
  exact zhy X I e.ga e.noga e.be hf e.hm k
inductive TyX(K:AO)(H:Hp):V->Value->Prop where
 |of {x:V} {t:Value} (h:Tq K H x t):TyX K H x t
 |exc {e D:Addr} (h:H e=dB (zn3 e (.ref D))) (k:zgs K D):TyX K H (.ref e) (.ref D)
 |sqt {a:Addr} {xs:List V} (h:SqT K H a xs):TyX K H (.ref a) (.type "tuple")
 |sql {a:Addr} {xs:List V} (h:SqL K H a xs):TyX K H (.ref a) (.type "list")
def TyX.kit(I:Inv X pins σ H s)(rx:zE x u)(ty:TyX X.K H x t):∃Hh,Iq X.K u t Hh/\Hh s.heap:=by
 cases ty with
 |of ty=>
  cases ty with
  |non=>cases (show u=Value.none from rx);exact⟨_,PySem.W.kitx_none,CG⟩
  |bl y=>cases (show u=Value.bool y from rx);exact⟨_,PySem.W.kitx_bool,CG⟩
  |int i=>obtain⟨t,q⟩:=(show ∃t,u=Value.int i t from rx);cases q;exact⟨_,PySem.W.kitx_int,CG⟩
  |str y=>obtain⟨t,q⟩:=(show ∃t,u=Value.str y t from rx);cases q;exact⟨_,PySem.W.kitx_str,CG⟩
  |flt y=>obtain⟨t,q⟩:=(show ∃t,u=Value.float y t from rx);cases q;exact⟨_,PySem.W.kitx_float,CG⟩
  | @lst a xs ea=>
   cases (show u=Value.ref a from rx);obtain⟨_,_,n,_,h1⟩:=(show yz X.prog X.w H s.heap a (.lst xs) from I.hok a _ ea);exact⟨_,Fs,⟨_,h1,rfl⟩⟩
  | @frz a ob xs ea=>
   cases (show u=Value.ref a from rx);obtain⟨_,_,_,n,_,h1⟩:=(show yz X.prog X.w H s.heap a (.frz ob (.lst xs)) from I.hok a _ ea);exact⟨_,Fs,⟨_,h1,rfl⟩⟩
  | @tup a xs ea=>
   cases (show u=Value.ref a from rx);obtain⟨_,_,_,p⟩:=(show yz X.prog X.w H s.heap a (.tup xs) from I.hok a _ ea);obtain⟨o,h1,h2,_⟩:=p;exact⟨_,GX,⟨o,h1,h2⟩⟩
  | @dK a kvs ea=>
   cases (show u=Value.ref a from rx);obtain⟨_,_,vs,_,p⟩:=(show yz X.prog X.w H s.heap a (.dK kvs) from I.hok a _ ea);obtain⟨o,es,ep,h1,h2,_⟩:=p;exact⟨_,Hj,⟨o,h1,h2.1⟩⟩
  | @dT a kvs ea=>
   cases (show u=Value.ref a from rx);obtain⟨_,_,xs,_,o,es,ep,h1,h2,_⟩:=(show yz X.prog X.w H s.heap a (.dT kvs) from I.hok a _ ea);exact⟨_,Hj,⟨o,h1,h2.1⟩⟩
  | @ins a C dx fs ea cl ha hn htk hm=>
   cases (show u=Value.ref a from rx);obtain⟨mA,O,_⟩:=zcu I.hok ea;obtain⟨od,J,_⟩:=O.look;exact⟨_,PySem.W.kitx_own (cl.get _) cl.hd ha hn htk hm,J⟩
 | @sqt a xs h=>
  cases (show u=Value.ref a from rx);obtain⟨ae,_,⟨o,h1,h2,_⟩,_⟩:=I.tuple h;exact⟨_,GX,⟨o,h1,h2⟩⟩
 | @sql a xs h=>
  cases (show u=Value.ref a from rx);obtain⟨ae,_,⟨o,n,h1,h2,_⟩,_⟩:=I.list h;exact⟨_,Fs,⟨o,h1,h2⟩⟩
 | @exc e D h k=>
  cases (show u=Value.ref e from rx);obtain⟨⟨ob,h1,h2,h3,vs,h4⟩,_⟩:=(show yz X.prog X.w H s.heap e (zn3 e (.ref D)) from I.hok e _ h);refine⟨_,ziY k,ob,h1,h2,?_,?_⟩;unfold PySem.W.notCls;rw[h4];rw[h3];trivial
noncomputable def zpB:V->pU pW
 | .ref a=>dB (.ref a)
 | .ty n=>dB (.type n)
 |_=>fC
def ziZ(h:zpB c=dB cv)(r:zE c u):u=cv:=by
 cases c with
 |ref a=>cases h;exact r
 |ty n=>cases h;exact r
 |_=>cases h
def zE.nb(r:zE x u):u≠ .builtin "__main__.__loader__#opaque":=by
 cases x with
 |non=>rintro rfl;cases r
 |bl b=>rintro rfl;cases r
 |int i=>rintro rfl;obtain⟨_,q⟩:=r;cases q
 |str i=>rintro rfl;obtain⟨_,q⟩:=r;cases q
 |byt i=>rintro rfl;obtain⟨_,q⟩:=r;cases q
 |flt i=>rintro rfl;obtain⟨_,q⟩:=r;cases q
 |ref a=>rintro rfl;cases r
 |ty a=>rintro rfl;cases r
def zlF(K:AO):n8 V->Hp->VK->Prop:=λxs H Q=>∃x c cv t b,xs=[x,c]/\zpB c=dB cv/\TyX K H x t/\C2 K t cv=dB b/\Q (.bl b) H
def zi0:Yf X (.builtin "isinstance") (zlF X.K):=by
 intro pins s σ H xs us Q I r h;obtain⟨x,c,cv,t,b,rfl,hc,ty,e,q⟩:=h;obtain⟨u,w',rfl,ru,rw'⟩:=zgi r;obtain rfl:=ziZ hc rw';obtain⟨Hh,Z,p⟩:=ty.kit I ru;exact PySem.W.kia_one Z I.kIn p e ru.nb λtk=>⟨.bl b,H,I.tok tk,rfl,q⟩
def XE{K:AO}:C2 K t t=dB fN:=by unfold C2;rw[if_pos (by simp)]
def zcH{K:AO}:C2 K (.type "bool") (.type "int")=dB fN:=by
 have h:(fastBuiltinMro "bool").map (·.contains (.type "int"))=dB fN:=by decide+kernel
 have hm:Dk "int"=fN:=by decide+kernel
 unfold C2 Gi;rw[if_neg ∅];show(if Dk "int"=fN then Fk K (.type "bool") (.type "int") else fC)=_;rw[if_pos hm];exact h
def zcI{K:AO}:C2 K (.type "int") (.type "bool")=dB kb:=by
 have h:(fastBuiltinMro "int").map (·.contains (.type "bool"))=dB kb:=by decide+kernel
 have hm:Dk "bool"=fN:=by decide+kernel
 unfold C2 Gi;rw[if_neg ∅];show(if Dk "bool"=fN then Fk K (.type "int") (.type "bool") else fC)=_;rw[if_pos hm];exact h
end L2
namespace L2
inductive D where
 |non|bl (b:Bool)|int (i:Int)|str (x:Str)|tup (l:List D)|lst (l:List D)|ins (C:Addr) (ns:List Str) (l:List D)
mutual
inductive Is(K:AO)(H:Hp):V->D->Prop where
 |non:Is K H .non .non
 |bl (b:Bool):Is K H (.bl b) (.bl b)
 |int (i:Int):Is K H (.int i) (.int i)
 |str (x:Str):Is K H (.str x) (.str x)
 |tup {a:Addr} {xs:List V} {ds:List D}:SqT K H a xs->IsL K H xs ds->Is K H (.ref a) (.tup ds)
 |lst {a:Addr} {xs:List V} {ds:List D}:SqL K H a xs->IsL K H xs ds->Is K H (.ref a) (.lst ds)
 |ins {a C dx:Addr} {ns:List Str} {xs:List V} {ds:List D}:H a=dB (.ins C dx (ns.zip xs))->ns.length=xs.length->IsL K H xs ds->Is K H (.ref a) (.ins C ns ds)
inductive IsL(K:AO)(H:Hp):List V->List D->Prop where
 |nil:IsL K H [] []
 |cons {v:V} {d:D} {vs:List V} {ds:List D}:Is K H v d->IsL K H vs ds->IsL K H (v::vs) (d::ds)
end
def yB(h:H p=fC):vX H (upd H p o):=λb u e=>by rw[zi (wm e h)];exact e
theorem IsL.len{K:AO}:∀{vs:n8 V} {ds:n8 D},IsL K H vs ds->vs.length=ds.length:=by
 intro vs ds;induction ds generalizing vs with
 |nil=>intro h;cases h;rfl
 |cons d r f=>intro h;cases h with|cons _ l=>rw[Bo,Bo,f l]
theorem IsL.get{K:AO}:∀{vs:n8 V} {ds:n8 D} {i:Nat} {d:D},IsL K H vs ds->ds[i]? =dB d->∃v,vs[i]? =dB v/\Is K H v d:=by
 intro vs ds;induction ds generalizing vs with
 |nil=>intro i d _ e;simp at e
 |cons x r f=>intro i d h e;cases h with|cons h l=>cases i with|zero=>simp at e;subst e;exact⟨_,rfl,h⟩|succ i=>obtain⟨v,q⟩:=f l (i:=i) e;exact⟨v,q⟩
def Is.int_inv{K:AO}(h:Is K H v (.int i)):v= .int i:=by cases h;rfl
def Is.bl_inv{K:AO}(h:Is K H v (.bl b)):v= .bl b:=by cases h;rfl
def Is.str_inv{K:AO}(h:Is K H v (.str b)):v= .str b:=by cases h;rfl
def Is.non_inv{K:AO}(h:Is K H v .non):v= .non:=by cases h;rfl
def Is.tup_inv{K:AO}(h:Is K H v (.tup ds)):∃a xs,v= .ref a/\SqT K H a xs/\IsL K H xs ds:=by cases h with|tup a b=>exact⟨_,_,rfl,a,b⟩
def Is.lst_inv{K:AO}(h:Is K H v (.lst ds)):∃a xs,v= .ref a/\SqL K H a xs/\IsL K H xs ds:=by cases h with|lst a b=>exact⟨_,_,rfl,a,b⟩
noncomputable abbrev dQ(a b:Int):D:= .tup [.int a,.int b]
section
variable{Q:VK}{ta tb tc:TE}{D':Vx}{v:V}{i:Nat}
end
local macro_rules|`(tactic|walk_at "rd")=>do
 let g(s:String):=(s.splitOn " ").toArray.mapM fun n=>`(tacticSeq|refine $(Lean.mkIdent (.mkSimple n)) ?_)
 let a<-g "qx qI mD"
 let b<-g "Aa sR sT Ab sP qH Ad Ac sS qB qJ sQ nU qA nN qG nO nQ qy nL qF qC nR nT sU qw qE qz nM mC"
 `(tactic|repeat first $[| $a]*|refine qu rfl ?_ $[| $b]*)
end L2
namespace L2
section
variable{Q:VK}{D':Vx}{E:XK}
end
def Fun.okE{P:Program}{w:World}{K:AO}{mg:Str->pU pW}{base:Heap}{x qual:Str}{st:Stmt}{f:qo}{fd:FuncData}{N ps:n8 Str}{k:Nat}{sp:Sp}(F:Fun K x qual st f fd)(S:zw N ps (zh st))(len:∀vs H Q E,sp vs H Q E->vs.length=ps.length)
  (dm:∀(bj:pW) (A:Around) (outer:n8 Env) (s:pX) (H:Hp) (vs:n8 V) (Q:VK) (E:XK),xh k (A.deeper (envOfC qual (zh st) s.heap.objs.size f bj))->sp vs H Q E->
   ∃t,PSs (WA (CXE P w) P w K mg base N qual (zh st) f bj A outer s H E) (wQ st) t/\t {nx:=λ_ H'=>Q .non H',rt:=Q} (Yh N vs) H):ZO P w K mg base (CXE P w) (k+1) f fd ps sp:=by
 obtain⟨oc,od,kV,doc,pm,an,bj,ct,fT,rfl,lk,cZ⟩:=F.ex;exact zpv lk cZ S len λA outer s H vs Q E hr fV=>dm bj A outer s H vs Q E hr fV
section
variable{Q:VK}{D':Vx}{E:XK}{EX:pW->Hp->Prop}
end
section
variable{K:AO}
def zlG(h:X.K=K:=by rfl):IxR X (zlz K):=h ▸ ziB
def zi1(h:X.K=K:=by rfl):IxR X (zly K):=h ▸ zgo
def wJ(h:X.K=K:=by rfl):Yf X (.builtin "isinstance") (zlF K):=h ▸ zi0
def zbX(h:X.K=K:=by rfl):Yf X (.builtin "len") (λxs H Q=>∃p ys,xs=[.ref p]/\(SqL K H p ys\/SqT K H p ys)/\Q (.int ys.length) H):=h ▸ zcz
def zfb(h:X.K=K:=by rfl):Yf X (.type "list") (λxs H Q=>∃p ys,xs=[.ref p]/\(SqL K H p ys\/SqT K H p ys)/\∀l,H l=fC->Q (.ref l) (upd H l (.lst ys))):=h ▸ zcA
def zhz(h:X.K=K:=by rfl):OpR X (compareOp .NotIn) (rIn K fN):=h ▸ zcy
def zi2(h:X.K=K:=by rfl):SlR X (ziC K):=h ▸ zlA
def zi3(hl:PE X l tl)(h:X.K=K:=by rfl):PI X tg l (zio K tl):=h ▸ zlq hl
def xa{es:n8 Expr}{k:Nat}{t:TGs}{n:Nat}{pos:Pos}(hc:X.calm=fN)(h:PGs X es t)(hK:X.K=K:=by rfl)
  (hn:(assignEach es X.env).length=n:=by rfl) (dW:(assignEach es X.env).findIdx? (·.1)=fC:=by rfl):PG X (.Tuple es k pos) (zlp K n t):=hK ▸ znN hc h hn dW
def zO:wS X sc [] []:=trivial
def zD(h:wS X sc r n):wS X sc (fC::r) (x::n):=h
def zlH(h1:X.N[i]? =dB x)(h2:sc.names.lookup x=dB .free)(h:wS X sc r n):wS X sc (dB i::r) (x::n):=⟨⟨h1,h2⟩,h⟩
end
noncomputable def zi4(osc sc:Scope):Bool:=sc.names.all (λy=>y.2 != .cell)&&sc.kind== .function&&sc.names.all (λy=>y.2 != .local||sc.names.lookup y.1==dB .local)&&
 sc.names.all (λy=>y.2 != .free||(osc.names.lookup y.1==dB .cell||osc.names.lookup y.1==dB .free))
def blk(hs:X.env.scope=osc)(h:zi4 osc sc=fN):zcD X sc:=by
 unfold zi4 at h;simp only[Cj,CO,bne_iff_ne,ne_eq,beq_iff_eq,EW] at h;obtain⟨⟨⟨h1,h2⟩,h3⟩,h4⟩:=h;refine⟨h1,h2,λy hy e=>(h3 y hy).resolve_left λz=>z e,λy hy e=> ?_⟩;show X.env.scope.names.lookup y.1=_\/X.env.scope.names.lookup y.1=_;rw[hs];exact(h4 y hy).resolve_left λz=>z e
section
variable{g:TG}{tb:TS}{nx:St->Hp->Prop}{rt:VK}
end
mutual
noncomputable def D.depth:D->Nat
 | .tup l=>D.depths l+1
 | .lst l=>D.depths l+1
 | .ins _ _ _=>1000
 |_=>0
noncomputable def D.depths:n8 D->Nat
 |[]=>0
 |d::r=>max (D.depth d) (D.depths r)
end
section
variable{Q:VK}{D':Vx}{cap:n8 (pU Nat)}{wi:TI}{g:TG}{tt:TT}{te:TE}
variable{acc:qo}{H0:Hp}{Qh:Hp->Prop}
end
section
variable{σ:n8 (pU V)}
def Inv.turnedL{t':Nat}{fp:n8 qo}(I:Inv X pins σ H s)(k:∀b o,b∉fp->s.heap.get? b=dB o->h'.get? b=dB o)(hf:∀b∈fp,Um X pins H b):Inv X pins σ H {s with heap:=h',toks:=t'}:=by
 have g9:∀b u,H b=dB u->b∉fp:=λb u e z=>by rw[(hf b z).1] at e;cases e
 refine I.step (g':=s.gens) (d':=s.drawn) (ch:=fp) (λb hb=> ?_) (λb o _ _ hc e _=>k b o hc e) (λb o _ _ hc e _=>⟨o.slots,k b o hc e⟩) (λ_ _ _ _ n=>n)
  (λb o hc e=>⟨o,k b o hc e⟩) (λ_ _ e=>e) (λ_ _ _ e=>e) (λb ps e=>⟨#[],by rw[e];simp⟩) (λm hm=> ?_) (λb u e=> ?_) I.bare
 .obtain⟨f0,f1,f2,f3,f4,f5⟩:=hf b hb;exact⟨f3,f1,f4,f5⟩
 .obtain⟨o,es,ep,ho,r⟩:=hm;exact⟨o,es,ep,k _ o (λz=>(hf _ z).2.1 rfl) ho,r⟩
 refine (I.hok b u e).stay (λc v hc q=>k c v ?_ q) (λ_ q=>q) λ_ _ q=>q;rcases hc with z|z;rw[z];exact g9 b u e;exact g9 c _ z
def Inv.turnedT{t':Nat}{fp:n8 qo}{ys:n8 V}{us:n8 pW}(I:Inv X pins σ H s)(hv:zK ys us)(hl:ys.length<=sizeLine)(k:∀b o,b∉fp->s.heap.get? b=dB o->h'.get? b=dB o)
  (hp:h'.get? s.heap.objs.size=dB {cls:= .type "tuple",data:= .seq us.toArray}) (hf:∀b∈fp,Um X pins H b) (hx:∀b∈fp,∃o,s.heap.get? b=dB o):
  Inv X pins σ (upd H s.heap.objs.size (.tup ys)) {s with heap:=h',toks:=t'}/\H s.heap.objs.size=fC/\∀b∈fp,upd H s.heap.objs.size (.tup ys) b=fC:=by
 have fr:H s.heap.objs.size=fC:=I.hok.fresh (B1 _);have nb:∀b∈fp,b≠s.heap.objs.size:=λb hb z=>by
  obtain⟨o,e⟩:=hx b hb;exact absurd (Heap.lt_size e) (by rw[z];exact Cv _)
 have fb:∀b∈fp,upd H s.heap.objs.size (.tup ys) b=fC:=λb hb=>by rw[zi (nb b hb)];exact(hf b hb).1
 have I0:Inv X pins σ (upd H s.heap.objs.size (.tup ys)) {s with heap:=s.heap.push {cls:= .type "tuple",data:= .seq us.toArray}}:=
  I.laid (t':=s.toks) (λb o e=>Heap.get?_push_of_some _ e) (B1 _) ⟨hl,us,hv,Uj.new _ _⟩
 refine⟨Inv.turnedL (s:={s with heap:=s.heap.push {cls:= .type "tuple",data:= .seq us.toArray}}) (t':=t') (fp:=fp) I0 (λb o hb e=> ?_) (λb hb=> ?_),fr,fb⟩;by_cases z:b=s.heap.objs.size;subst z;rw[Heap.get?_push_size _ rfl] at e;cases e;exact hp;refine k b o hb ?_;rwa [Heap.get?_push_ne _ _ _ z] at e;obtain⟨f0,f1,f2,f3,f4,f5⟩:=hf b hb;exact⟨fb b hb,f1,f2,f3,f4,f5⟩
end
noncomputable def Ite(K:AO)(a:qo):It:=
 ⟨λi H=>∃xs x,SqL K H a xs/\xs[i]? =dB x,λi H x H'=>∃p y,x= .ref p/\H p=fC/\H'=upd H p (.tup [.int i,y])/\∀xs,SqL K H a xs->xs[i]? =dB y,λi H=>∃xs,SqL K H a xs/\xs.length<=i⟩
def zhA{P:Program}{K:AO}(a e it:qo)(cx:e≠it):
  zdG P w K (.Tuple elts k tp) (Ite K a) [e,it] e (λi h=>(∃old,IsEnum h e it i old)/\h.IsListIter it a i) where
 mem:=by simp
 obj:=λi h st b hb=>by
  obtain⟨⟨old,he⟩,o,e',c,d⟩:=st;rcases(by simpa using hb:b=e\/b=it) with rfl|rfl;exact⟨_,he,λv z=>by cases z⟩;exact⟨o,e',λv z=>by rw[d] at z;cases z⟩
 keep:=λi h h' st k=>⟨let ⟨old,he⟩:=st.1;⟨old,k e (by simp) _ he⟩,st.2.at λo e=>k it (by simp) o e⟩
 item:=by
  walk_at "!b";obtain⟨xs,x,hq,hx⟩:=hg;obtain⟨ae,rv,p,hz⟩:=I.list hq;obtain⟨u,hu,ru⟩:=rv.get hx;obtain⟨⟨old,he⟩,hit⟩:=st;refine wpAny_pyNext_enum_item he hit p.isList (x:=u) (by simpa using hu) cx λh1 j8 iu oh nX jO=> ?_;refine⟨_,rfl,?_⟩;refine wpAny_letOwnedTupleGo_enum (s:={s with heap:=h1,toks:=s.toks+1}) j8 λh2 kc dC=> ?_;have dC:Heap.SameBut e h1 h2:=dC;have nE:e<s.heap.objs.size:=Heap.lt_size he;have vv:zK [V.int i,x] [.int i s.toks,u]:= .cons ⟨_,rfl⟩ (.cons ru .nil);have T:=Inv.turnedT (h':=h2) (t':=s.toks+1) (fp:=[e,it]) I vv (by show 2<=sizeLine;decide) (λb o hb eb=> ?_) ((dC.2 _ (BE nE)).trans oh) hf (λb hb=> ?_);obtain⟨I2,fr,fb⟩:=T;exact⟨.ref s.heap.objs.size,_,I2,rfl,⟨_,x,rfl,fr,rfl,λys hy=>by rw[I.list_inj hy hq];exact hx⟩,⟨⟨_,kc⟩,iu.at λo eo=>(dC.2 it cx.symm).trans eo⟩,fb⟩
  .have hb:b≠e/\b≠it:=by simpa using hb
   exact(dC.2 b hb.1).trans (jO b o hb.1 hb.2 eb)
  obtain⟨o,eo,_⟩:=hit;rcases(by simpa using hb:b=e\/b=it) with rfl|rfl;exact⟨_,he⟩;exact⟨o,eo⟩
 done:=by
  walk_at "!b";obtain⟨xs,hq,hx⟩:=hg;obtain⟨ae,rv,p,hz⟩:=I.list hq;have hl:=rv.length;obtain⟨⟨old,he⟩,hit⟩:=st;exact wpAny_pyNext_enum_end (I.ok.hd hc) he hit p.isList (by simp;omega) λh' eb=>⟨rfl,Inv.turnedL (t':=s.toks) (fp:=[e,it]) I (λb o hb eo=>eb b o (λz=>hb (by simp[z])) eo) hf⟩
 self:=λ_ _ _ _ _ st h=>let ⟨⟨_,he⟩,_⟩:=st;wpAny_pyIter_enum he h
def znh(K:AO)(ta:TA):TI:=λσ H R=>ta σ H λvs H1=>∃a,vs=[.ref a]/\(∃xs,SqL K H1 a xs)/\R (Ite K a) H1
def zgt{K:AO}{elts:n8 Expr}{k:Nat}{tp:Pos}{l:Expr}{ta:TA}{p pos:Pos}(hg:Gl X "enumerate")(hm:X.mg "enumerate"=fC)(ha:PA X [l] ta)(hK:X.K=K:=by rfl)(hs:starEach [l] X.env=[(kb,eval l X.env)]:=by rfl):
  PI X (.Tuple elts k tp) (.Call (.Name "enumerate" p) [l] [] pos) (znh K ta):=by
 subst hK;intro pins s σ H R I h;refine Call_ (vq I hg hm Boot.«enumerate» (BO (thn (ha pos pins s σ H _ I h) ?_) hs rfl));rintro us s1 ⟨vs,H1,I1,r1,q1⟩;obtain⟨a,e,⟨xs,hq⟩,q⟩:=q1;subst e;obtain⟨u,rfl,ru⟩:=XA r1;cases ru;obtain⟨ae,rv,p,hz⟩:=I1.list hq;refine call_enumerate_list p.isList λh' he hit hsz hk=> ?_;have I2:Inv X pins σ H1 {s1 with heap:=h'}:=I1.kept (t':=s1.toks) hk;refine wpAny_pyIter_enum (s:={s1 with heap:=h'}) he ?_;refine⟨s1.heap.objs.size+1,[s1.heap.objs.size+1,s1.heap.objs.size],_,_,H1,rfl,I2,zhA a (s1.heap.objs.size+1) s1.heap.objs.size (FC _),⟨⟨_,he⟩,hit⟩,λb hb=> ?_,q⟩;have hb:s1.heap.objs.size<=b:=by
  rcases(by simpa using hb:b=s1.heap.objs.size+1\/b=s1.heap.objs.size) with rfl|rfl;exact Cq _;exact B1 _
 obtain⟨f0,f1,f2,f3,f4,f5⟩:=Inv.fpOk I1 hb (I1.hok.fresh hb);exact⟨f0,f1,f2,f3,f4,f5⟩
noncomputable def Itz(K:AO)(a b:qo):It:=
  ⟨λi H=>∃xs ys x y,SqL K H a xs/\SqL K H b ys/\xs[i]? =dB x/\ys[i]? =dB y,
   λi H x H'=>∃p u v,x= .ref p/\H p=fC/\H'=upd H p (.tup [u,v])/\(∀xs,SqL K H a xs->xs[i]? =dB u)/\∀ys,SqL K H b ys->ys[i]? =dB v,
   λi H=>∃xs ys,SqL K H a xs/\SqL K H b ys/\(xs.length<=i\/ys.length<=i)⟩
structure ZA(z TI TO i1 i2:qo):Prop where
 TIz:TI≠z
 TOz:TO≠z
 i1z:i1≠z
 i2z:i2≠z
 TITO:TI≠TO
 TIi1:TI≠i1
 TIi2:TI≠i2
 TOi1:TO≠i1
 TOi2:TO≠i2
 i12:i1≠i2
def zi5{P:Program}{K:AO}(a b z TI TO i1 i2:qo)(D:ZA z TI TO i1 i2):
  zdG P w K (.Tuple elts k tp) (Itz K a b) [z,TI,TO,i1,i2] z (λi h=>IsZip h z TI TO .none/\IsPair h TI (.ref i1) (.ref i2)/\(∃u v,IsPair h TO u v)/\h.IsListIter i1 a i/\h.IsListIter i2 b i) where
 mem:=by simp
 obj:=λi h st c hb=>by
  obtain⟨hz,dD,⟨u,v,dG⟩,⟨o1,e1,_,d1⟩,o2,e2,_,d2⟩:=st;rcases(by simpa using hb:c=z\/c=TI\/c=TO\/c=i1\/c=i2) with rfl|rfl|rfl|rfl|rfl;exact⟨_,hz,λv z=>by cases z⟩;exact⟨_,dD,λv z=>by cases z⟩;exact⟨_,dG,λv z=>by cases z⟩;exact⟨o1,e1,λv z=>by rw[d1] at z;cases z⟩;exact⟨o2,e2,λv z=>by rw[d2] at z;cases z⟩
 keep:=λi h h' st k=>by
  obtain⟨hz,dD,⟨u,v,dG⟩,h1,h2⟩:=st;exact⟨k z (by simp) _ hz,k TI (by simp) _ dD,⟨u,v,k TO (by simp) _ dG⟩,h1.at λo e=>k i1 (by simp) o e,h2.at λo e=>k i2 (by simp) o e⟩
 item:=by
  walk_at "!b";obtain⟨xs,ys,x,y,hq,bP,hx,hy⟩:=hg;obtain⟨ae,rv,p,fH⟩:=I.list hq;obtain⟨its',rv',p',nV⟩:=I.list bP;obtain⟨u,hu,ru⟩:=rv.get hx;obtain⟨u',tm,ru'⟩:=rv'.get hy;obtain⟨hz,dD,⟨w1,w2,dG⟩,h1,h2⟩:=st;have nf:∀(c:qo) (l:qo) (zs:n8 V),SqL X.K H l zs->c∈[z,TI,TO,i1,i2]->l≠c:=λc l zs hl hc e=>by
   subst e;obtain⟨_,_,⟨o,n,eo,ec,_,_⟩,_⟩:=I.list hl;obtain⟨o1,e1,c1,_⟩:=id h1;obtain⟨o2,e2,c2,_⟩:=id h2;rcases(by simpa using hc:l=z\/l=TI\/l=TO\/l=i1\/l=i2) with rfl|rfl|rfl|rfl|rfl;rw[hz] at eo;cases eo;exact absurd (show Value.type "zip"= .type "list" from ec) ∅;rw[dD] at eo;cases eo;exact absurd (show Value.type "tuple"= .type "list" from ec) ∅;rw[dG] at eo;cases eo;exact absurd (show Value.type "tuple"= .type "list" from ec) ∅;rw[e1] at eo;cases eo;rw[c1] at ec;exact absurd ec ∅;rw[e2] at eo;cases eo;rw[c2] at ec;exact absurd ec ∅
  have D':ZipApart z TI TO i1 i2 a b:=⟨D.TIz,D.TOz,D.i1z,D.i2z,D.TITO,D.TIi1,D.TIi2,D.TOi1,D.TOi2,D.i12,nf _ _ _ hq (by simp),nf _ _ _ hq (by simp),nf _ _ _ hq (by simp),nf _ _ _ hq (by simp),nf _ _ _ bP (by simp),nf _ _ _ bP (by simp),nf _ _ _ bP (by simp),nf _ _ _ bP (by simp)⟩;refine wpAny_pyNext_zip_item D' hz dD dG h1 h2 p.isList p'.isList (x:=u) (y:=u') (by simpa using hu) (by simpa using tm) λh3 sV pH v5 v3 tD Af rj=> ?_;refine⟨_,rfl,?_⟩;refine wpAny_letOwnedTupleGo_zip (s:={s with heap:=h3}) sV λh4 mE iU=> ?_;have iU:Heap.SameBut z h3 h4:=iU;have ltZ:z<s.heap.objs.size:=Heap.lt_size hz;have vv:zK [x,y] [u,u']:= .cons ru (.cons ru' .nil);have T:=Inv.turnedT (h':=h4) (t':=s.toks) (fp:=[z,TI,TO,i1,i2]) I vv (by show 2<=sizeLine;decide) (λc o hb eb=> ?_) ((iU.2 _ (BE ltZ)).trans tD) hf (λc hb=> ?_);obtain⟨I2,fr,fb⟩:=T;refine⟨.ref s.heap.objs.size,_,I2,rfl,⟨_,x,y,rfl,fr,rfl,λys hy=>by rw[I.list_inj hy hq];exact hx,λys hz=>by rw[I.list_inj hz bP];exact hy⟩,⟨mE,?_,⟨_,_,(iU.2 TO D.TOz).trans pH⟩,v5.at λo eo=>(iU.2 i1 D.i1z).trans eo,v3.at λo eo=>(iU.2 i2 D.i2z).trans eo⟩,fb⟩;exact(iU.2 TI D.TIz).trans (rj TI _ D.TIz D.TITO D.TIi1 D.TIi2 dD)
  .have hb:c≠z/\c≠TI/\c≠TO/\c≠i1/\c≠i2:=by simpa using hb
   exact(iU.2 c hb.1).trans (rj c o hb.1 hb.2.2.1 hb.2.2.2.1 hb.2.2.2.2 eb)
  obtain⟨o1,e1,_⟩:=h1;obtain⟨o2,e2,_⟩:=h2;rcases(by simpa using hb:c=z\/c=TI\/c=TO\/c=i1\/c=i2) with rfl|rfl|rfl|rfl|rfl;exact⟨_,hz⟩;exact⟨_,dD⟩;exact⟨_,dG⟩;exact⟨o1,e1⟩;exact⟨o2,e2⟩
 done:=by
  walk_at "!b";obtain⟨xs,ys,hq,bP,hx⟩:=hg;obtain⟨ae,rv,p,fH⟩:=I.list hq;obtain⟨its',rv',p',nV⟩:=I.list bP;obtain⟨hz,dD,⟨w1,w2,dG⟩,h1,h2⟩:=st;have hl:=rv.length;have gj:=rv'.length;have nf:∀(c:qo) (l:qo) (zs:n8 V),SqL X.K H l zs->c∈[z,TI,TO,i1,i2]->l≠c:=λc l zs hl hc e=>by
   subst e;obtain⟨_,_,⟨o,n,eo,ec,_,_⟩,_⟩:=I.list hl;obtain⟨o1,e1,c1,_⟩:=id h1;obtain⟨o2,e2,c2,_⟩:=id h2;rcases(by simpa using hc:l=z\/l=TI\/l=TO\/l=i1\/l=i2) with rfl|rfl|rfl|rfl|rfl;rw[hz] at eo;cases eo;exact absurd (show Value.type "zip"= .type "list" from ec) ∅;rw[dD] at eo;cases eo;exact absurd (show Value.type "tuple"= .type "list" from ec) ∅;rw[dG] at eo;cases eo;exact absurd (show Value.type "tuple"= .type "list" from ec) ∅;rw[e1] at eo;cases eo;rw[c1] at ec;exact absurd ec ∅;rw[e2] at eo;cases eo;rw[c2] at ec;exact absurd ec ∅
  have D':ZipApart z TI TO i1 i2 a b:=⟨D.TIz,D.TOz,D.i1z,D.i2z,D.TITO,D.TIi1,D.TIi2,D.TOi1,D.TOi2,D.i12,nf _ _ _ hq (by simp),nf _ _ _ hq (by simp),nf _ _ _ hq (by simp),nf _ _ _ hq (by simp),nf _ _ _ bP (by simp),nf _ _ _ bP (by simp),nf _ _ _ bP (by simp),nf _ _ _ bP (by simp)⟩
  exact wpAny_pyNext_zip_end (I.ok.hd hc) D' hz dD dG h1 h2 p.isList p'.isList (by simp;omega) λh' eb=>⟨rfl,Inv.turnedL (t':=s.toks) (fp:=[z,TI,TO,i1,i2]) I (λc o hb eo=>by
   have hb:c≠z/\c≠TI/\c≠TO/\c≠i1/\c≠i2:=by simpa using hb
   exact eb c o hb.1 hb.2.2.1 hb.2.2.2.1 hb.2.2.2.2 eo) hf⟩
 self:=λ_ _ _ _ _ st h=>wpAny_pyIter_zip st.1 h
def zni(K:AO)(ta:TA):TI:=λσ H R=>ta σ H λvs H1=>∃a b,vs=[.ref a,.ref b]/\(∃xs,SqL K H1 a xs)/\(∃ys,SqL K H1 b ys)/\R (Itz K a b) H1
def Wr{K:AO}{elts:n8 Expr}{k:Nat}{tp:Pos}{l m:Expr}{ta:TA}{p pos:Pos}(hg:Gl X "zip")(hm:X.mg "zip"=fC)(ha:PA X [l,m] ta)(hK:X.K=K:=by rfl)(hs:starEach [l,m] X.env=[(kb,eval l X.env),(kb,eval m X.env)]:=by rfl)(dC:starEach [m] X.env=[(kb,eval m X.env)]:=by rfl):
  PI X (.Tuple elts k tp) (.Call (.Name "zip" p) [l,m] [] pos) (zni K ta):=by
 subst hK;intro pins s σ H R I h;refine Call_ (vq I hg hm Boot.«zip» (BO (thn (ha pos pins s σ H _ I h) ?_) (by rw[hs,dC]) (by rw[dC];rfl)));rintro us s1 ⟨vs,H1,I1,r1,q1⟩;obtain⟨a,b,e,⟨xs,hq⟩,⟨ys,bP⟩,q⟩:=q1;subst e;obtain⟨u,u',rfl,ru,ru'⟩:=zgi r1;cases ru;cases ru';obtain⟨ae,rv,p,hz⟩:=I1.list hq;obtain⟨its',rv',p',nY⟩:=I1.list bP;refine call_zip_2 p.isList p'.isList λh' hz dD dG h1 h2 hsz hk=> ?_;have I2:Inv X pins σ H1 {s1 with heap:=h'}:=I1.kept (t':=s1.toks) hk;generalize hn:s1.heap.objs.size=n at hz dD dG h1 h2 hsz;refine wpAny_pyIter_zip (s:={s1 with heap:=h'}) hz ?_;refine⟨n+4,[n+4,n+2,n+3,n,n+1],_,_,H1,rfl,I2,zi5 a b (n+4) (n+2) (n+3) n (n+1) ⟨by simp,by simp,by simp,by simp,by simp,by simp,by simp,by simp,by simp,by simp⟩,⟨hz,dD,⟨_,_,dG⟩,h1,h2⟩,λc hb=> ?_,q⟩;have hb:s1.heap.objs.size<=c:=by
  rw[hn];rcases(by simpa using hb:c=n+4\/c=n+2\/c=n+3\/c=n\/c=n+1) with rfl|rfl|rfl|rfl|rfl<;>simp
 obtain⟨f0,f1,f2,f3,f4,f5⟩:=Inv.fpOk I1 hb (I1.hok.fresh hb);exact⟨f0,f1,f2,f3,f4,f5⟩
section
variable{cap:n8 (pU Nat)}{g:TG}{tt:TT}{te:TE}{acc:qo}{H0:Hp}{Qh:Hp->Prop}
structure zqG(J:It)(n:Nat)(f:Nat->pU (V×V))(ok:Hp->Prop):Prop where
 go:∀i H,ok H->i<n->J.go i H
 stop:∀H,ok H->J.stop n H
 yld:∀i H x H',ok H->i<n->J.yld i H x H'->∃p u v,x= .ref p/\H p=fC/\H'=upd H p (.tup [u,v])/\f i=dB (u,v)
end
section
variable{Q:VK}{D':Vx}
end
section
variable{Q:VK}
end
open Classical in
noncomputable def frG(H H':Hp):Hp:=λb=>match H' b with
 |some (.lst xs)=>if H b=fC then dB (.lst xs) else fC
 |o=>o
def Dom(H H':Hp):Prop:=∀b,H' b=fC->H b=fC
structure Acc(K:AO)(H0:Hp)(acc:qo)(ys:n8 V)(ds:n8 D)(H:Hp):Prop where
 at_:H acc=dB (.lst ys)
 new:IsL K (frG (upd H0 acc (.lst [])) H) ys ds
 same:vX H0 H
 dom:Dom (upd H0 acc (.lst [])) H
theorem zbY(ns:n8 Int):∀k,preSum (λi=>ns.getD i 0) k=(ns.take k).sum
 |0=>by simp[preSum]
 |k+1=>by
  unfold preSum;rw[zbY ns k,List.take_add_one,List.sum_append];cases h:ns[k]? <;>simp[AU,h]
def zpC(K:AO):n8 V->Hp->VK->Prop:=λxs H Q=>∃(p:qo) (ns:n8 Int),xs=[.ref p]/\SqL K H p (ns.map V.int)/\Q (.int ns.sum) H
def Us{K:AO}(hc:X.calm=fN)(hK:X.K=K:=by rfl):Yf X (.builtin "sum") (zpC K):=by
 subst hK;intro pins s σ H xs us Q I r h;obtain⟨p,ns,rfl,hq,q⟩:=h;obtain⟨u,rfl,ru⟩:=XA r;cases ru;obtain⟨ae,rv,pl,hz⟩:=I.list hq;have lt:p<s.heap.objs.size:=by
  obtain⟨o,n,e,_⟩:=id pl;exact Heap.lt_size e
 have hl:=rv.length;rw[AV] at hl;refine call_sum_walkAnyS (wpAny_pyIter_list pl.isList ?_);have W:=(Walks.list (prog:=X.prog) (w:=X.w) (A:=X.A.in1) (I.ok.hd hc) s.heap.objs.size p (Bj lt) ae.toArray).toS;refine⟨s.heap.objs.size,_,_,_,_,_,_,λi=>ns.getD i 0,rfl,W,?_,?_,?_,?_⟩;exact⟨⟨_,Heap.get?_push_size _ rfl,rfl,rfl⟩,Heap.IsList.push pl.isList _⟩;intro b hb;rw[Heap.size_push];rcases(by simpa using hb:b=s.heap.objs.size\/b=p) with rfl|rfl;exact CB _;exact Cr lt
 .intro i v hv;have hv:ae[i]? =dB v:=by simpa using hv
  have hi:i<ns.length:=by rw[hl];exact(AQ.1 hv).1
  obtain⟨u,hu,t,ru⟩:=rv.get (i:=i) (x:=V.int ns[i]) (by rw[AW,AK hi];rfl);rw[hu] at hv;cases hv;refine⟨t,?_⟩;rw[ru];show Value.int ns[i] t=Value.int (ns.getD i 0) t;rw[AU,AK hi,Cu]
 intro s' t' m
 have I1:Inv X pins σ H {s with heap:=s'.heap,toks:=s'.toks}:=I.kept λb o e=>m.heap b o (λz=>by
  have z:b=s.heap.objs.size:=by simpa using z
  exact absurd (Heap.lt_size e) (by rw[z];exact Cv _)) (Heap.get?_push_of_some _ e)
 have e:({s with heap:=s'.heap,toks:=s'.toks}:pX)=s':=by
  have h1:=m.gens;have h2:=m.drawn;have h3:=m.os;cases s';simp only at h1 h2 h3;subst h1 h2 h3;rfl
 rw[e] at I1;refine⟨.int ns.sum,H,I1,⟨t',?_⟩,q⟩;rw[zbY];have:ae.toArray.size=ns.length:=by rw[B8,<-hl]
 rw[this,Bx]
section
variable{Q:VK}
end
section
variable{v:V}
end
open PyProof
def zn4{K:AO}(h1:(Value.type a==Value.type b)=kb)(h:(fastBuiltinMro a).map (·.contains (.type b))=dB kb)(hm:Dk b=fN)(hs:Fk K (.type a) (.type b)=(fastBuiltinMro a).map (·.contains (.type b))):C2 K (.type a) (.type b)=dB kb:=by
 unfold C2 Gi;rw[if_neg (by rw[h1];decide)];show(if Dk b=fN then Fk K (.type a) (.type b) else fC)=_;rw[if_pos hm,hs,h]
end L2
namespace L2
open AutoSeq1 (wpAny_loadPart')
section
variable{w:World}
end
end L2
namespace L2
section
variable{w:World}
noncomputable abbrev zT1(h:Heap)(l1:qo):Heap:=h.push {cls:= .type "tuple_iterator",data:= .fields #[.ref l1,.int 0 0]}
noncomputable abbrev zT2(h:Heap)(l1 l2:qo):Heap:=(zT1 h l1).push {cls:= .type "tuple_iterator",data:= .fields #[.ref l2,.int 0 0]}
noncomputable abbrev zT3(h:Heap)(l1 l2:qo):Heap:=(zT2 h l1 l2).push {cls:= .type "tuple",data:= .seq #[.ref h.objs.size,.ref (zT1 h l1).objs.size]}
noncomputable abbrev zT4(h:Heap)(l1 l2:qo):Heap:=(zT3 h l1 l2).push {cls:= .type "tuple",data:= .seq #[.none,.none]}
noncomputable abbrev zT5(h:Heap)(l1 l2:qo):Heap:=(zT4 h l1 l2).push {cls:= .type "zip",data:= .fields #[.none,.bool kb,.bool kb,.ref (zT2 h l1 l2).objs.size,.ref (zT3 h l1 l2).objs.size]}
end
mutual
def D.small(n:Nat):D->Prop
 | .int i=>i.natAbs<2^n
 | .tup l=>D.smalls n l
 | .lst l=>D.smalls n l
 | .non=>True
 | .bl _=>True
 | .str _=>False
 | .ins _ _ _=>False
def D.smalls(n:Nat):n8 D->Prop
 |[]=>True
 |d::r=>D.small n d/\D.smalls n r
end
mutual
noncomputable def D.wt(n:Nat):D->Nat
 | .tup l=>D.wts n l
 | .lst l=>D.wts n l
 | .int _=>n
 |_=>0
noncomputable def D.wts(n:Nat):n8 D->Nat
 |[]=>0
 |d::r=>D.wt n d+1+D.wts n r
end
structure zqy(n:Nat)(d:D):Prop where
 seq:∃l,d= .tup l\/d= .lst l
 small:D.small n d
 n0:8<=n
 n1:n<=1900
 deep:D.depth d<=40
 size:(n+3)*D.wt n d+n+1<=16777216
noncomputable abbrev zpD(t:qo)(i:Int):Obj:={cls:= .type "reversed",data:= .fields #[.ref t,rawInt i]}
noncomputable abbrev zqM(h:Heap)(a t:qo)(i:Int):Prop:=h.get? a=dB (zpD t i)
section
variable{w:World}
end
section
variable{tg:Expr}
end
open PyProof
end L2
namespace L2
def zpE(K:AO):n8 V->Hp->VK->Prop:=λxs H Q=>∃(p:qo) (bs:n8 Bool),xs=[.ref p]/\SqL K H p (bs.map V.bl)/\Q (.bl (bs.all id)) H
def zhB:∀(bs:n8 Bool),(BX bs.length).all (λi=>bs.getD i kb)=bs.all id:=λbs=>by
 rw[Dw,CO,CO];constructor;intro h b hb;obtain⟨i,hi,e⟩:=EY.1 hb;have:=h i (Cw.2 hi);rw[AU,AK hi,Cu,e] at this;exact this;intro h i hi;have hi:=Cw.1 hi;rw[AU,AK hi,Cu];exact h _ (C8 hi)
def zfc{p:qo}{bs:n8 Bool}(hc:X.calm=fN)(I:Inv X pins σ H s)(hq:SqL X.K H p (bs.map V.bl)){R:pW->pX->Prop}
  (k:∀Ia fp wr G n P St tr (s₂:pX),WalksS X.prog X.w X.A.in1 Ia fp wr G n P St->St 0 s₂->TruthOf X.prog X.w X.A.in1 P tr->n=bs.length->(tr=λi=>bs.getD i kb)->(∀s',Moved wr G s₂ s'->Inv X pins σ H s')->R (.ref Ia) s₂):
  wpAny (model X.prog X.w) X.A.in1 (pyIter (.ref p)) R X.xe s:=by
 obtain⟨ae,rv,pl,hz⟩:=I.list hq;have lt:p<s.heap.objs.size:=by
  obtain⟨o,n,e,_⟩:=id pl;exact Heap.lt_size e
 have hl:=rv.length;rw[AV] at hl;refine wpAny_pyIter_list pl.isList ?_;have W:=(Walks.list (prog:=X.prog) (w:=X.w) (A:=X.A.in1) (I.ok.hd hc) s.heap.objs.size p (Bj lt) ae.toArray).toS;refine k s.heap.objs.size _ _ _ _ _ _ (λi=>bs.getD i kb) _ W ?_ ?_ ?_ rfl ?_;exact⟨⟨_,Heap.get?_push_size _ rfl,rfl,rfl⟩,Heap.IsList.push pl.isList _⟩
 .intro i v s Q E hv hQ;have hv:ae[i]? =dB v:=by simpa using hv
  have hi:i<bs.length:=by rw[hl];exact(AQ.1 hv).1
  obtain⟨u,hu,ru⟩:=rv.get (i:=i) (x:=V.bl bs[i]) (by rw[AW,AK hi];rfl);have e0:u=v:=by
   rw[hu] at hv;exact C0 hv
  have ru:u=Value.bool bs[i]:=ru;rw[<-e0,ru];refine wpAny_truthy_bool ?_;have e:bs.getD i kb=bs[i]:=by rw[AU,AK hi,Cu]
  rw[<-e];exact hQ
 .rw[B8,<-hl]
 intro s' m
 have I1:Inv X pins σ H {s with heap:=s'.heap,toks:=s'.toks}:=I.kept λb o e=>m.heap b o (λz=>by
  have z:b=s.heap.objs.size:=by simpa using z
  exact absurd (Heap.lt_size e) (by rw[z];exact Cv _)) (Heap.get?_push_of_some _ e)
 have e:({s with heap:=s'.heap,toks:=s'.toks}:pX)=s':=by
  have h1:=m.gens;have h2:=m.drawn;have h3:=m.os;cases s';simp only at h1 h2 h3;subst h1 h2 h3;rfl
 rw[e] at I1;exact I1
def zbZ{K:AO}(hc:X.calm=fN)(hK:X.K=K:=by rfl):Yf X (.builtin "all") (zpE K):=by
 subst hK;intro pins s σ H xs us Q I r h;obtain⟨p,bs,rfl,hq,q⟩:=h;obtain⟨u,rfl,ru⟩:=XA r;cases ru;refine call_all_walkS (zfc hc I hq λIa fp wr G n P St tr s₂ W h0 ht hn ie hm=>⟨Ia,fp,wr,G,n,P,St,tr,rfl,W,h0,ht,λs' m=>⟨.bl _,H,hm s' m,rfl,?_⟩⟩);rw[hn,ie,zhB];exact q
def Inv.lstR(I:Inv X pins σ H s)(hH:SqX X.K H l xs):xs.length<=sizeLine/\∃(ae:n8 pW) (n:Nat),zK xs ae/\xs.length=ae.length/\s.heap.get? l=dB {cls:= .type "list",data:= .seq ae.toArray n}:=by
 rcases hH with hH|⟨ae,n,hk,hz,r⟩
 .obtain⟨z,ae,n,r,e⟩:=hH.ok I.hok;exact⟨z,ae,n,r,r.length,e⟩
 have hl:=r.length;have hl2:ae.toList.length=ae.size:=Dd;exact⟨⋯,ae.toList,n,r,r.length,I.kIn l _ hk⟩
def znj(K:AO):R2:=λx y H Q=>∃l b xs zs,x= .ref l/\y= .ref b/\SqX K H l xs/\SqX K H b zs/\xs.length+zs.length<=sizeLine/\∀p,H p=fC->Q (.ref p) (upd H p (.lst (xs++zs)))
def TF{K:AO}(hK:X.K=K:=by rfl):OpR X (binaryOp .Add) (znj K):=by
 subst hK;intro pins s σ H x y v u Q I rx ry h;obtain⟨l,b,xs,zs,rfl,rfl,hH,hB,hz,q⟩:=h;cases rx;cases ry;obtain⟨z,ae,n,r,hl,e⟩:=I.lstR hH;obtain⟨z2,bp,n2,r2,hl2,e2⟩:=I.lstR hB;refine PySem.P.add_list e e2 ?_ (by rw[B8,B8];omega);have ea:ae.toArray++bp.toArray=(ae++bp).toArray:=by simp
 rw[ea];exact⟨.ref _,_,I.lnew (t':=s.toks) (r.append r2) (by rw[Bz];omega),rfl,q _ I.fresh⟩
def znk(K:AO):R2:=λx y H Q=>∃l k xs,x= .ref l/\y= .int k/\SqX K H l xs/\ -(2^63)<=k/\k<2^63/\xs.length*k.toNat<=sizeLine/\
 ∀p,H p=fC->Q (.ref p) (upd H p (.lst (B6 k.toNat xs).flatten))
def zgu{K:AO}(hK:X.K=K:=by rfl):OpR X (binaryOp .Mult) (znk K):=by
 subst hK;intro pins s σ H x y v u Q I rx ry h;obtain⟨l,k,xs,rfl,rfl,hH,h1,h2,hz,q⟩:=h;cases rx;obtain⟨t,rfl⟩:=ry;obtain⟨z,ae,n,r,hl,e⟩:=I.lstR hH;have hlen:ae.toArray.size*k.toNat<=sizeLine:=by rw[B8,<-hl];exact hz
 have jS:¬ae.toArray.size*k.toNat>(2^63-1) / 8:=by
  have:(sizeLine:Nat)<=(2^63-1) / 8:=by decide
  omega
 have oZ:¬(!Builtin.List.listFitsIndex k)=fN:=by
  rw[fitsIndex_both h1 h2];exact Bm
 have lD:¬Builtin.List.listTooLong (ae.toArray.size*k.toNat)=fN:=by
  rw[ziF hlen];exact Bm
 have eI:HE (λx1 x2=>x1++x2) #[] (B6 (if ae.toArray.isEmpty=fN then 0 else k.toNat) ae.toArray)=(B6 k.toNat ae).flatten.toArray:=by
  have f0:∀m:Nat,HE (λx1 x2=>x1++x2) #[] (B6 m ae.toArray)=(B6 m ae).flatten.toArray:=λm=>by
   have:=zbO ae m [];rw[HG] at this;exact this
  rw[f0];cases ae with
  |nil=>simp
  |cons a r'=>rw[if_neg (by simp)]
 refine wpAny_binaryOp_repeat_ref (T:="list") (U:="int") ∅ ⟨_,e,rfl⟩ (λs'=>typeIs_int s' k t) noFill_list_mul F.fills_int_mul F.slot_int_rmul repeat_list F.slot_int_index.lookup
  (call_meets F.slot_int_rmul (typeIs_int s k t) F.entry_int_rmul (F.args_int_rmul_2 _ _) (int___rmul___int_list k t l ae.toArray n)
   ⟨e,rfl,⟨_,e,rfl⟩,call_meets F.slot_list_mul ⟨_,e,rfl⟩ F.entry_list_mul (F.args_list_mul_2 _ _) (AutoListH.list___mul___list_int_3 l ae.toArray n k t oZ jS lD) ⟨e,?_⟩⟩)
 rw[eI];exact⟨.ref _,_,I.lnew (t':=s.toks) (r.rep k.toNat) (by rw[zlB,DY];exact hz),rfl,q _ I.fresh⟩
section
variable{w:World}
end
end L2
namespace HT
section
variable{w:World}
end
end HT
namespace L2
noncomputable def zpF(K:AO)(a:qo)(n:Nat):It:=
 ⟨λi H=>i<n/\∃xs,SqL K H a xs/\xs.length=n,λi H x H'=>H'=H/\∀xs,SqL K H a xs->xs[n-1-i]? =dB x,λi H=>i=n⟩
def zi6{P:Program}{K:AO}(a it:qo)(n:Nat):zdG P w K tg (zpF K a n) [it] it (λi h=>h.IsRevIter it a ((n:Int)-1-(i:Int))) where
 mem:=by simp
 obj:=λi h st b hb=>by
  have e:b=it:=by simpa using hb
  subst e;obtain⟨o,ho,_,hd⟩:=st;exact⟨_,ho,λv z=>by rw[hd] at z;cases z⟩
 keep:=λi h h' st k=>st.at λo e=>k it (by simp) _ e
 item:=by
  walk_at "!b";obtain⟨hi,xs,hq,hl⟩:=hg;have hx:xs[n-1-i]? =dB (xs[n-1-i]'⋯):=AK ⋯;obtain⟨ae,rv,p,hz⟩:=I.list hq;obtain⟨u,hu,ru⟩:=rv.get hx;obtain⟨f0,f1,f2,f3,f4,f5⟩:=hf it (by simp);have e:(n:Int)-1-(i:Int)=((n-1-i:Nat):Int):=by omega
  rw[e] at st;refine wpAny_pyNext_rev_item st p.isList (x:=u) (by simpa using hu) λh' st' sb=> ?_;have I1:Inv X pins σ H {s with heap:=h',toks:=s.toks}:=I.turned (t':=s.toks) (λb o hb e=>(sb.2 b hb).trans e) f0 f1 f3 f4 f5;have e2:((n-1-i:Nat):Int)-1=(n:Int)-1-((i+1:Nat):Int):=by omega
  rw[e2] at st';obtain⟨oo,ho,eK,hd⟩:=id st';exact⟨u,rfl,zgd (s:={s with heap:=h',toks:=s.toks}) (n:="list_reverseiterator") ho eK hd ∅ ⟨_,H,I1,ru,⟨rfl,λys hy=>by rw[I.list_inj hy hq];exact hx⟩,st',λb hb=>(hf b hb).1⟩⟩
 done:=by
  walk_at "!b";have hg:i=n:=hg;obtain⟨f0,f1,f2,f3,f4,f5⟩:=hf it (by simp);have e:(n:Int)-1-(i:Int)= -1:=by omega
  rw[e] at st;exact wpAny_pyNext_rev_end (I.ok.hd hc) st λh' eb=>⟨rfl,I.turned (t':=s.toks) (λb o hb e=>eb b o hb e) f0 f1 f3 f4 f5⟩
 self:=λ_ _ _ _ _ st h=>wpAny_pyIter_revIter st h
section
variable{tg:Expr}
def zpG(K:AO)(ta:TA):TI:=λσ H R=>ta σ H λvs H1=>∃a xs,vs=[.ref a]/\SqL K H1 a xs/\R (zpF K a xs.length) H1
def zn5{K:AO}{l:Expr}{ta:TA}{p pos:Pos}(hg:Gl X "reversed")(hm:X.mg "reversed"=fC)(ha:PA X [l] ta)(hK:X.K=K:=by rfl)(hs:starEach [l] X.env=[(kb,eval l X.env)]:=by rfl):
  PI X tg (.Call (.Name "reversed" p) [l] [] pos) (zpG K ta):=by
 subst hK;intro pins s σ H R I h;refine Call_ (vq I hg hm Boot.«reversed» (BO (thn (ha pos pins s σ H _ I h) ?_) hs rfl));rintro us s1 ⟨vs,H1,I1,r1,q1⟩;obtain⟨a,xs,e,hq,q⟩:=q1;subst e;obtain⟨u,rfl,ru⟩:=XA r1;cases ru;obtain⟨ae,rv,p,hz⟩:=I1.list hq;have hl:=rv.length;refine call_reversed_list p.isList ?_;have I2:Inv X pins σ H1 {s1 with heap:=s1.heap.push (revObj a ((ae.toArray.size:Int)-1)),toks:=s1.toks}:=I1.kept (t':=s1.toks) λb o e=>Heap.get?_push_of_some _ e;refine wpAny_pyIter_revIter (s:={s1 with heap:=s1.heap.push (revObj a ((ae.toArray.size:Int)-1))}) ⟨_,Heap.get?_push_size _ rfl,rfl,rfl⟩ ?_;refine⟨s1.heap.objs.size,[s1.heap.objs.size],_,_,H1,rfl,I2,zi6 a s1.heap.objs.size xs.length,?_,λb hb=> ?_,q⟩
 .have e:((ae.toArray.size:Nat):Int)-1=(xs.length:Int)-1-((0:Nat):Int):=by rw[B8];omega
  show Heap.IsRevIter _ _ _ _;rw[<-e];exact⟨_,Heap.get?_push_size _ rfl,rfl,rfl⟩
 have e:b=s1.heap.objs.size:=by simpa using hb
 subst e;exact Inv.fpOk I1 (B1 _) (I1.hok.fresh (B1 _))
end
section
def zi7{a b c}:starEach (.Tuple a b c::r) env=(kb,eval (.Tuple a b c) env)::starEach r env:=rfl
def zlI{a b}:starEach (.List a b::r) env=(kb,eval (.List a b) env)::starEach r env:=rfl
def zdW{a b c}:starEach (.Constant a b c::r) env=(kb,eval (.Constant a b c) env)::starEach r env:=rfl
def zlJ{a b}:starEach (.Name a b::r) env=(kb,eval (.Name a b) env)::starEach r env:=rfl
def zcJ{a b c}:starEach (.Subscript a b c::r) env=(kb,eval (.Subscript a b c) env)::starEach r env:=rfl
def zi8{a b c d}:starEach (.BinOp a b c d::r) env=(kb,eval (.BinOp a b c d) env)::starEach r env:=rfl
def zfd{a b c}:starEach (.UnaryOp a b c::r) env=(kb,eval (.UnaryOp a b c) env)::starEach r env:=rfl
def zlK{a b c d}:starEach (.Call a b c d::r) env=(kb,eval (.Call a b c d) env)::starEach r env:=rfl
def zcK{a b c}:starEach (.Attribute a b c::r) env=(kb,eval (.Attribute a b c) env)::starEach r env:=rfl
end
open PySem.Builtin
end L2
namespace L2
open PySem.Calls
section
variable{w:World}{T:String}{r d:qo}{n:Nat}{P:Nat->pW->Prop}{OK:Heap->Prop}
end
def zn6(h:n<64):n<=sizeLine:=AZ (Ba h) ∅
section
variable{w:World}{T:String}{r d:qo}{n:Nat}{P:Nat->pW->Prop}{OK:Heap->Prop}
end
end L2
namespace L2
structure WB where
 C:pU Str
 m:Str
 d:Str
structure xi where
 id:Nat
 par:Arguments
 body:HH
 sc:Scope
 t:WB
 fr:n8 Str
noncomputable def WB.q(t:WB):Str:=(t.d++".<locals>.")++"<lambda>"
noncomputable abbrev xi.q(L:xi):Str:=L.t.q
noncomputable def zi9(K:AO):pU Str->Str->pU qo
 |none,m=>(match Bc K mainGlobals m with
  |some (dB (.ref f))=>dB f
  |_=>fC)
 |some C,m=>(match Bc K mainGlobals C with
  |some (dB (.ref g))=>(match Bh K (.ref g) m with
   |some (dB (.ref f))=>dB f
   |_=>fC)
  |_=>fC)
noncomputable def zja(K:AO)(f:qo):pU (qo×qo):=match K.lookup f with
 |some ⟨_,_,.func fd,_⟩=>(match fd.code with
  | .ref c=>(match K.lookup c with
   |some ⟨_,_,.fields vs,_⟩=>(match (vs[11]? :pU pW) with
    |some (.ref P)=>if DP K c P then dB (c,P) else fC
    |_=>fC)
   |_=>fC)
  |_=>fC)
 |_=>fC
noncomputable def WC(K:AO)(t:WB):pU (qo×qo):=(zi9 K t.C t.m).bind (zja K)
inductive Xv where
 |non|bl (b:Bool)|int (i:Int)|str (x:Str)|tup (xs:List Xv)|ct (xs:List Xv)|ref (n:Nat)|lam (L:xi) (xs:List Xv)
inductive Ce where
 |lst (xs:List Xv)
 |frz (xs:List Xv)
 |dk (kvs:List (Key×Xv))
 |dt (kvs:List (List Key×Xv))
 |ins (nm:Str) (fs:List (Str×Xv))
 |fdk (kvs:List (Key×Xv))
 |dn (kvs:List (NK×Xv×Xv))
 |exc (nm:Str)
 |tab (t:WB)
 |fdn (kvs:List (NK×Xv×Xv))
abbrev Sto:=n8 Ce
abbrev Rho:=n8 (pU Xv)
noncomputable def Ce.fz:Ce->Bool
 | .frz _=>fN
 | .fdk _=>fN
 | .fdn _=>fN
 | .exc _=>fN
 |_=>kb
noncomputable def HO.mu:HO->Bool
 | .lst _=>fN
 | .dK _=>fN
 | .dT _=>fN
 | .dN _=>fN
 | .ins _ _ _=>fN
 | .set _ _=>fN
 | .tbl _=>fN
 |_=>kb
def xG(H H':Hp):Prop:=∀b u,H b=dB u->u.mu=kb->H' b=dB u
def xG.refl(H:Hp):xG H H:=λ_ _ e _=>e
def xG.trans(a:xG H H1)(b:xG H1 H2):xG H H2:=λx u e m=>b x u (a x u e m) m
def xG.same(S:vX H H'):xG H H':=λb u e _=>S b u e
structure Ext(j:n8 qo)(H:Hp)(j':n8 qo)(H':Hp):Prop where
 pre:∀(n:Nat) a,j[n]? =dB a->j'[n]? =dB a
 imm:xG H H'
def Ext.refl:Ext j H j H:=⟨λ_ _ e=>e,xG.refl _⟩
def Ext.trans(a:Ext j H j1 H1)(b:Ext j1 H1 j2 H2):Ext j H j2 H2:=⟨λn x e=>b.pre n x (a.pre n x e),a.imm.trans b.imm⟩
def Ext.same(S:vX H H'):Ext j H j H':=⟨λ_ _ e=>e,xG.same S⟩
def Yl(H:Hp)(q:Str)(c:qo):Prop:=∃(oc:Obj) (fs:Array pW) (t:Tok),H c=dB (.frz oc (.own 0))/\oc.data= .fields fs/\fs[1]? =dB (.str q t)
structure WK(H:Hp)(L:xi)(f:qo)(vs:n8 V):Prop where
 ex:∃(aC:n8 (Str×qo)) (pm cX:pW) (c:qo),H f=dB (.frz (D3 "<lambda>" L.q L.par L.body L.sc aC pm c cX) (.own 0))/\Yl H L.q c/\
  (∀(i:Nat) x v,L.fr[i]? =dB x->vs[i]? =dB v->∃(a:qo) (o:Obj) (u:pW),aC.lookup x=dB a/\H a=dB (.frz o (.own 0))/\o.data= .cell (dB u)/\zE v u)/\
  (∀x y a,aC.lookup x=dB a->aC.lookup y=dB a->x=y)/\(∀y∈L.sc.names,y.2= .free->∃a,aC.lookup y.1=dB a)/\
  ∀x a,aC.lookup x=dB a->∃(o:Obj) (u:pU pW),H a=dB (.frz o (.own 0))/\o.data= .cell u
def Yl.mono(k:xG H H')(h:Yl H q c):Yl H' q c:=by
 obtain⟨oc,fs,t,e,r⟩:=h;exact⟨oc,fs,t,k _ _ e rfl,r⟩
def WK.mono(k:xG H H')(h:WK H L f vs):WK H' L f vs:=by
 obtain⟨aC,pm,cX,c,h1,h2,h3,h4,h5,h6⟩:=h.ex;refine⟨aC,pm,cX,c,k _ _ h1 rfl,h2.mono k,λi x v e1 e2=> ?_,h4,h5,λx a e=> ?_⟩;obtain⟨a,o,u,e3,e4,r⟩:=h3 i x v e1 e2;exact⟨a,o,u,e3,k _ _ e4 rfl,r⟩;obtain⟨o,u,e3,r⟩:=h6 x a e;exact⟨o,u,k _ _ e3 rfl,r⟩
mutual
inductive Xis(K:AO)(j:List Addr)(H:Hp):Xv->V->Prop where
 |non:Xis K j H .non .non
 |bl (b:Bool):Xis K j H (.bl b) (.bl b)
 |int (i:Int):Xis K j H (.int i) (.int i)
 |str (x:Str):Xis K j H (.str x) (.str x)
 |tup {a:Addr} {vs:List V} {xs:List Xv}:H a=dB (.tup vs)->zG K j H xs vs->Xis K j H (.tup xs) (.ref a)
 |ct {a:Addr} {vs:List V} {xs:List Xv}:(∀H,SqT K H a vs)->zG K j H xs vs->Xis K j H (.ct xs) (.ref a)
 |ref {n:Nat} {a:Addr}:j[n]? =dB a->Xis K j H (.ref n) (.ref a)
 |lam {f:Addr} {vs:List V} {L:xi} {xs:List Xv}:WK H L f vs->zG K j H xs vs->Xis K j H (.lam L xs) (.ref f)
inductive zG(K:AO)(j:List Addr)(H:Hp):List Xv->List V->Prop where
 |nil:zG K j H [] []
 |cons {x:Xv} {v:V} {xs:List Xv} {vs:List V}:Xis K j H x v->zG K j H xs vs->zG K j H (x::xs) (v::vs)
end
def Xis.mono{K:AO}(S:Ext j H j' H')(h:Xis K j H x v):Xis K j' H' x v:=
 Xis.rec (motive_1:=λx v _=>Xis K j' H' x v) (motive_2:=λxs vs _=>zG K j' H' xs vs) .non .bl .int .str (λh _ l=> .tup (S.imm _ _ h rfl) l) (λh _ l=> .ct h l) (λh=> .ref (S.pre _ _ h)) (λh _ l=> .lam (h.mono S.imm) l) .nil (λ_ _ h l=> .cons h l) h
def zG.ind{K:AO}{m:n8 Xv->n8 V->Prop}(h0:m [] [])(h1:∀{x:Xv} {v:V} {xs:n8 Xv} {vs:n8 V},Xis K j H x v->zG K j H xs vs->m xs vs->m (x::xs) (v::vs)){xs:n8 Xv}{vs:n8 V}(h:zG K j H xs vs):m xs vs:=
 zG.rec (motive_1:=λ_ _ _=>True) (motive_2:=λxs vs _=>m xs vs) trivial (λ_=>trivial) (λ_=>trivial) (λ_=>trivial) (λ_ _ _=>trivial) (λ_ _ _=>trivial) (λ_=>trivial) (λ_ _ _=>trivial) h0 (λa b _ c=>h1 a b c) h
def zG.mono{K:AO}(S:Ext j H j' H')(h:zG K j H xs vs):zG K j' H' xs vs:=h.ind (m:=zG K j' H') .nil λa _ c=> .cons (a.mono S) c
section
variable{K:AO}
def zG.len(h:zG K j H xs vs):vs.length=xs.length:=h.ind (m:=λxs vs=>vs.length=xs.length) rfl λ_ _ e=>congrArg (· +1) e
def zG.get{xs:n8 Xv}{vs:n8 V}{i:Nat}{x:Xv}(h:zG K j H xs vs):xs[i]? =dB x->∃v,vs[i]? =dB v/\Xis K j H x v:=
 h.ind (m:=λxs vs=>∀i,xs[i]? =dB x->∃v,vs[i]? =dB v/\Xis K j H x v) (λi e=>by simp at e) (λa _ ih i e=>by
  cases i with
  |zero=>simp at e;subst e;exact⟨_,rfl,a⟩
  |succ i=>exact ih i e) i
def zG.getV{xs:n8 Xv}{vs:n8 V}{i:Nat}{v:V}(h:zG K j H xs vs):vs[i]? =dB v->∃x,xs[i]? =dB x/\Xis K j H x v:=
 h.ind (m:=λxs vs=>∀i,vs[i]? =dB v->∃x,xs[i]? =dB x/\Xis K j H x v) (λi e=>by simp at e) (λa _ ih i e=>by
  cases i with
  |zero=>simp at e;subst e;exact⟨_,rfl,a⟩
  |succ i=>exact ih i e) i
def zG.append(h:zG K j H xs vs)(k:zG K j H ys ws):zG K j H (xs++ys) (vs++ws):=h.ind (m:=λxs vs=>zG K j H (xs++ys) (vs++ws)) k λa _ c=> .cons a c
def zG.one(h:Xis K j H x v):zG K j H [x] [v]:= .cons h .nil
def zG.take(n:Nat)(h:zG K j H xs vs):zG K j H (xs.take n) (vs.take n):=
 h.ind (m:=λxs vs=>∀n,zG K j H (xs.take n) (vs.take n)) (λn=>by cases n<;>exact .nil) (λa _ ih n=>by
  cases n with
  |zero=>exact .nil
  |succ n=>exact .cons a (ih n)) n
def zG.drop(n:Nat)(h:zG K j H xs vs):zG K j H (xs.drop n) (vs.drop n):=
 h.ind (m:=λxs vs=>∀n,zG K j H (xs.drop n) (vs.drop n)) (λn=>by cases n<;>exact .nil) (λa b ih n=>by
  cases n with
  |zero=>exact .cons a b
  |succ n=>exact ih n) n
def zG.ints(ns:n8 Int):zG K j H (ns.map Xv.int) (ns.map V.int):=by
 induction ns with
 |nil=>exact .nil
 |cons n r ih=>exact .cons (.int n) ih
def zG.set(hv:Xis K j H x v)(n:Nat)(h:zG K j H xs vs):zG K j H (xs.set n x) (vs.set n v):=
 h.ind (m:=λxs vs=>∀n,zG K j H (xs.set n x) (vs.set n v)) (λ_=> .nil) (λa b ih n=>by
  cases n with
  |zero=>exact .cons hv b
  |succ n=>exact .cons a (ih n)) n
def zG.dropLast(h:zG K j H xs vs):zG K j H xs.dropLast vs.dropLast:=by
 rw[EG,EG,h.len];exact h.take _
def zG.at_(h:zG K j H xs vs)(e:atI xs i=dB x):∃v,atI vs i=dB v/\Xis K j H x v:=by
 unfold atI at e ⊢;rw[h.len];cases e1:ixN xs.length i with
 |none=>rw[e1] at e;cases e
 |some m=>
  rw[e1] at e;obtain⟨v,e3,e4⟩:=h.get (i:=m) e;exact⟨v,e3,e4⟩
def Xis.int_inv(h:Xis K j H (.int i) v):v= .int i:=by cases h;rfl
def Xis.bl_inv(h:Xis K j H (.bl b) v):v= .bl b:=by cases h;rfl
def Xis.non_inv(h:Xis K j H .non v):v= .non:=by cases h;rfl
def Xis.ref_inv(h:Xis K j H (.ref n) v):∃a,v= .ref a/\j[n]? =dB a:=by cases h with|ref e=>exact⟨_,rfl,e⟩
def Xis.tup_inv(h:Xis K j H (.tup xs) v):∃a vs,v= .ref a/\H a=dB (.tup vs)/\zG K j H xs vs:=by cases h with|tup a b=>exact⟨_,_,rfl,a,b⟩
def zG.cons_inv(h:zG K j H (x::xs) vs):∃v r,vs=v::r/\Xis K j H x v/\zG K j H xs r:=by cases h with|cons a b=>exact⟨_,_,rfl,a,b⟩
def zG.nil_inv(h:zG K j H [] vs):vs=[]:=by cases h;rfl
def zG.d1(h:zG K j H [a] vs):∃x,vs=[x]/\Xis K j H a x:=by
 obtain⟨x,r,rfl,hx,h⟩:=h.cons_inv;obtain rfl:=h.nil_inv;exact⟨x,rfl,hx⟩
def zG.d2(h:zG K j H [a,b] vs):∃x y,vs=[x,y]/\Xis K j H a x/\Xis K j H b y:=by
 obtain⟨x,r,rfl,hx,h⟩:=h.cons_inv;obtain⟨y,rfl,hy⟩:=h.d1;exact⟨x,y,rfl,hx,hy⟩
set_option backward.eqns.nonrecursive false in
noncomputable def Xv.tupOf:Xv->pU (n8 Xv)
 | .tup xs=>dB xs
 | .ct xs=>dB xs
 |_=>fC
def Xis.tupO(h:Xis K j H x v)(e:x.tupOf=dB xs):∃a vs,v= .ref a/\SqT K H a vs/\zG K j H xs vs:=by
 cases h with
 |tup h l=>simp[Xv.tupOf] at e;subst e;exact⟨_,_,rfl,SqT.of h,l⟩
 |ct h l=>simp[Xv.tupOf] at e;subst e;exact⟨_,_,rfl,h H,l⟩
 |_=>simp[Xv.tupOf] at e
end
inductive KX{κ:Type}(K:AO)(j:List Addr)(H:Hp):List (κ×Xv)->List (κ×V)->Prop where
 |nil:KX K j H [] []
 |cons {k:κ} {x:Xv} {v:V} {r:List (κ×Xv)} {rs:List (κ×V)}:Xis K j H x v->KX K j H r rs->KX K j H ((k,x)::r) ((k,v)::rs)
def KX.mono{κ:Type}{K:AO}(S:Ext j H j' H'){xs:n8 (κ×Xv)}{vs:n8 (κ×V)}(h:KX K j H xs vs):KX K j' H' xs vs:=by
 induction h with
 |nil=>exact .nil
 |cons h _ ih=>exact .cons (h.mono S) ih
mutual
noncomputable def zpH:Xv->pU NK
 | .int i=>dB (.int i)
 | .str x=>dB (.str x)
 | .tup l=>(zjb l).map .tup
 | .ct l=>(zjb l).map .tup
 | .non=>fC
 | .bl _=>fC
 | .ref _=>fC
 | .lam _ _=>fC
noncomputable def zjb:n8 Xv->pU (n8 NK)
 |[]=>dB []
 |x::r=>(zpH x).bind λk=>(zjb r).map (k:: ·)
end
inductive NX(K:AO)(j:List Addr)(H:Hp):List (NK×Xv×Xv)->List (NK×Addr×V)->Prop where
 |nil:NX K j H [] []
 |cons {k:NK} {x y:Xv} {b:Addr} {v:V} {r:List (NK×Xv×Xv)} {rs:List (NK×Addr×V)}:zpH x=dB k/\zll k<=8->Xis K j H x (.ref b)->Xis K j H y v->NX K j H r rs->NX K j H ((k,x,y)::r) ((k,b,v)::rs)
def NX.mono{K:AO}(S:Ext j H j' H')(h:NX K j H xs vs):NX K j' H' xs vs:=by
 induction h with
 |nil=>exact .nil
 |cons e h1 h2 _ ih=>exact .cons e (h1.mono S) (h2.mono S) ih
def VC(K:AO)(j:n8 qo)(H:Hp)(a:qo):Ce->Prop
 | .lst xs=>∃vs,H a=dB (.lst vs)/\zG K j H xs vs
 | .frz xs=>∃vs,((∃o,H a=dB (.frz o (.lst vs)))\/∀H,SqX K H a vs)/\zG K j H xs vs
 | .dk kvs=>∃ks:n8 (Key×V),H a=dB (.dK ks)/\KX K j H kvs ks
 | .dt kvs=>∃ks:n8 (n8 Key×V),H a=dB (.dT ks)/\KX K j H kvs ks
 | .ins nm fs=>∃(C dx:qo) (vs:n8 (Str×V)),Bc K mainGlobals nm=dB (dB (.ref C))/\H a=dB (.ins C dx vs)/\KX K j H fs vs
 | .fdk kvs=>∃(o:Obj) (ks:n8 (Key×V)),H a=dB (.frz o (.dK ks))/\KX K j H kvs ks
 | .dn kvs=>∃ks:n8 (NK×qo×V),H a=dB (.dN ks)/\NX K j H kvs ks
 | .fdn kvs=>∃(o:Obj) (ks:n8 (NK×qo×V)),H a=dB (.frz o (.dN ks))/\NX K j H kvs ks
 | .exc nm=>∃C:qo,Bc K mainGlobals nm=dB (dB (.ref C))/\H a=dB (zn3 a (.ref C))
 | .tab t=>∃(ps:Array pW) (d:qo),H a=dB (.tbl ps)/\WC K t=dB (d,a)/\TriplesOk ps.toList/\∀pos cv,codeAmong pos ps.toList=dB cv->∃c,cv= .ref c/\Yl H t.q c
def VC.mu{K:AO}(h:VC K j H a c)(z:c.fz=kb):∃o,H a=dB o/\o.mu=fN:=by
 cases c with
 |lst l=>obtain⟨_,e,_⟩:=h;exact⟨_,e,rfl⟩
 |dk l=>obtain⟨_,e,_⟩:=h;exact⟨_,e,rfl⟩
 |dt l=>obtain⟨_,e,_⟩:=h;exact⟨_,e,rfl⟩
 |ins n l=>obtain⟨_,_,_,_,e,_⟩:=h;exact⟨_,e,rfl⟩
 |dn l=>obtain⟨_,e,_⟩:=h;exact⟨_,e,rfl⟩
 |tab t=>obtain⟨_,_,e,_⟩:=h;exact⟨_,e,rfl⟩
 |_=>cases z
def VC.mono{K:AO}(S:Ext j H j' H')(h:c.fz=kb->H' a=H a)(k:VC K j H a c):VC K j' H' a c:=by
 cases c with
 |lst l=>obtain⟨_,e,l⟩:=k;exact⟨_,(h rfl).trans e,l.mono S⟩
 |frz l=>
  obtain⟨_,e,l⟩:=k;rcases e with⟨o,e⟩|e;exact⟨_,.inl ⟨o,S.imm _ _ e rfl⟩,l.mono S⟩;exact⟨_,.inr e,l.mono S⟩
 |dk l=>obtain⟨_,e,l⟩:=k;exact⟨_,(h rfl).trans e,l.mono S⟩
 |dt l=>obtain⟨_,e,l⟩:=k;exact⟨_,(h rfl).trans e,l.mono S⟩
 |ins n l=>obtain⟨_,_,_,n,e,l⟩:=k;exact⟨_,_,_,n,(h rfl).trans e,l.mono S⟩
 |fdk l=>obtain⟨_,_,e,l⟩:=k;exact⟨_,_,S.imm _ _ e rfl,l.mono S⟩
 |dn l=>obtain⟨_,e,l⟩:=k;exact⟨_,(h rfl).trans e,l.mono S⟩
 |fdn l=>obtain⟨_,_,e,l⟩:=k;exact⟨_,_,S.imm _ _ e rfl,l.mono S⟩
 |exc c=>obtain⟨C,n,e⟩:=k;exact⟨C,n,S.imm _ _ e rfl⟩
 |tab t=>
  obtain⟨ps,d,e,x,t,r⟩:=k;refine⟨ps,d,(h rfl).trans e,x,t,λpos cv q=> ?_⟩;obtain⟨c,e1,e2⟩:=r pos cv q;exact⟨c,e1,e2.mono S.imm⟩
structure Fm where
 H0:Hp
 j0:n8 qo
 S0:Sto
structure En(K:AO)(F:Fm)(j:n8 qo)(H:Hp)(σ:St)(ρ:Rho)(S:Sto):Prop where
 len:σ.length=ρ.length
 slot:∀(i:Nat) x,ρ[i]? =dB (dB x)->∃v,σ[i]? =dB (dB v)/\Xis K j H x v
 jl:j.length=S.length
 inj:∀(n m:Nat) a c d,j[n]? =dB a->j[m]? =dB a->S[n]? =dB c->S[m]? =dB d->c.fz=kb->d.fz=kb->n=m
 cel:∀(n:Nat) c a,S[n]? =dB c->j[n]? =dB a->VC K j H a c
 ext:Ext F.j0 F.H0 j H
 old:∀(n:Nat) c,F.S0[n]? =dB c->∃c',S[n]? =dB c'/\(c'.fz=kb->c.fz=kb)/\(c.fz=fN->c'=c)
 l0:F.j0.length=F.S0.length
 keep:∀b u,F.H0 b=dB u->H b=dB u\/∃(n:Nat) (c:Ce),F.j0[n]? =dB b/\F.S0[n]? =dB c/\c.fz=kb
 fresh:∀(n:Nat) a,F.j0.length<=n->j[n]? =dB a->F.H0 a=fC
 dom:∀b,H b=fC->F.H0 b=fC
section
variable{K:AO}{F:Fm}{j j':n8 qo}{H':Hp}{σ':St}{ρ ρ':Rho}{S S':Sto}{v:V}{x:Xv}{a p:qo}{o:HO}{i n:Nat}{c c':Ce}
def En.heap(E:En K F j H σ ρ S)(Sm:vX H H'):En K F j H' σ ρ S:=by
 have X:Ext j H j H':=Ext.same Sm;refine⟨E.len,λi x e=> ?_,E.jl,E.inj,λn c a e1 e2=> ?_,E.ext.trans X,E.old,E.l0,λb u e=> ?_,E.fresh,λb e=>E.dom b ?_⟩;obtain⟨v,e1,e2⟩:=E.slot i x e;exact⟨v,e1,e2.mono X⟩;have h:=E.cel n c a e1 e2;refine h.mono X λz=> ?_;obtain⟨o,e,_⟩:=h.mu z;exact(Sm _ _ e).trans e.symm;rcases E.keep b u e with h|h;exact .inl (Sm _ _ h);exact .inr h
 cases e':H b with
 |none=>rfl
 |some u=>rw[Sm b u e'] at e;cases e
def En.new(E:En K F j H σ ρ S)(h:H p=fC):En K F j (upd H p o) σ ρ S/\Ext j H j (upd H p o):=⟨E.heap (yB h),Ext.same (yB h)⟩
def En.cell(E:En K F j H σ ρ S)(h:H p=fC)(hc:VC K (j++[p]) (upd H p o) p c):En K F (j++[p]) (upd H p o) σ ρ (S++[c])/\Ext j H (j++[p]) (upd H p o):=by
 have X:Ext j H (j++[p]) (upd H p o):=⟨λn a e=>by rw[B2 (AQ.1 e).1];exact e,xG.same (yB h)⟩;have iQ:∀{n:Nat} {a:qo},(j++[p])[n]? =dB a->j[n]? =dB a\/(n=j.length/\a=p):=λ{n a} e=>by
  by_cases hn:n<j.length;rw[B2 hn] at e;exact .inl e
  rw[B4 ⋯] at e;cases hm:n-j.length with
  |zero=>rw[hm] at e;simp at e;exact .inr ⟨⋯,e.symm⟩
  |succ m=>rw[hm] at e;simp at e
 have sat:∀{n:Nat} {d:Ce},(S++[c])[n]? =dB d->S[n]? =dB d\/(n=S.length/\d=c):=λ{n d} e=>by
  by_cases hn:n<S.length;rw[B2 hn] at e;exact .inl e
  rw[B4 ⋯] at e;cases hm:n-S.length with
  |zero=>rw[hm] at e;simp at e;exact .inr ⟨⋯,e.symm⟩
  |succ m=>rw[hm] at e;simp at e
 have lt:∀{n:Nat} {d:Ce},S[n]? =dB d->n<S.length:=λe=>(AQ.1 e).1;have jn:∀{n:Nat} {a:qo} {d:Ce},j[n]? =dB a->S[n]? =dB d->d.fz=kb->a≠p:=λ{n a d} e1 e2 z q=>by
  subst q;obtain⟨o',e,_⟩:=(E.cel n d a e2 e1).mu z;rw[h] at e;cases e
 refine⟨⟨E.len,λi x e=> ?_,by simp[E.jl],λn m a c1 c2 e1 e2 e3 e4 z1 z2=> ?_,λn d a e1 e2=> ?_,E.ext.trans X,λn d e=> ?_,E.l0,λb u e=> ?_,λn a hn e=> ?_,λb e=> ?_⟩,X⟩;obtain⟨v,e1,e2⟩:=E.slot i x e;exact⟨v,e1,e2.mono X⟩
 .rcases sat e3 with e3|⟨e3,_⟩
  .have h1:j[n]? =dB a:=by
    rcases iQ e1 with h1|⟨h1,_⟩
    .exact h1
    have:=lt e3;rw[E.jl] at h1;omega
   rcases sat e4 with e4|⟨e4,_⟩
   .have h2:j[m]? =dB a:=by
     rcases iQ e2 with h2|⟨h2,_⟩
     .exact h2
     have:=lt e4;rw[E.jl] at h2;omega
    exact E.inj n m a c1 c2 h1 h2 e3 e4 z1 z2
   have:a=p:=by
    rcases iQ e2 with h2|⟨_,h2⟩
    .have:=(AQ.1 h2).1;rw[E.jl] at this;omega
    exact h2
   exact absurd this (jn h1 e3 z1)
  have:a=p:=by
   rcases iQ e1 with h2|⟨_,h2⟩
   .have:=(AQ.1 h2).1;rw[E.jl] at this;omega
   exact h2
  rcases sat e4 with e4|⟨e4,_⟩
  .have h2:j[m]? =dB a:=by
    rcases iQ e2 with h2|⟨h2,_⟩
    .exact h2
    have:=lt e4;rw[E.jl] at h2;omega
   exact absurd this (jn h2 e4 z2)
  rw[e3,e4]
 .rcases sat e1 with e1|⟨e1,rfl⟩
  .have h2:j[n]? =dB a:=by
    rcases iQ e2 with h2|⟨h2,_⟩
    .exact h2
    have:=lt e1;rw[E.jl] at h2;omega
   have hh:=E.cel n d a e1 h2;exact hh.mono X λz=>zi (jn h2 e1 z)
  have:a=p:=by
   rcases iQ e2 with h2|⟨_,h2⟩
   .have:=(AQ.1 h2).1;rw[E.jl] at this;omega
   exact h2
  subst this;exact hc
 .obtain⟨d',e1,e2⟩:=E.old n d e;exact⟨d',by rw[B2 (lt e1)];exact e1,e2⟩
 .rcases E.keep b u e with h'|h';exact .inl (yB h _ _ h');exact .inr h'
 .rcases iQ e with e|⟨_,rfl⟩
  .exact E.fresh n a hn e
  exact E.dom _ h
 refine E.dom b ?_;cases e':H b with
 |none=>rfl
 |some u=>rw[yB h b u e'] at e;cases e
set_option tactic.hygienic true in
def En.writeF(E:En K F j H σ ρ S)(hs:S[n]? =dB c)(z:c.fz=kb)(hj:j[n]? =dB a)(hc:∀X:Ext j H j (upd H a o),VC K j (upd H a o) a c'):En K F j (upd H a o) σ ρ (S.set n c')/\Ext j H j (upd H a o):=by
 obtain⟨o0,h0,m0⟩:=(E.cel n c a hs hj).mu z
 have X:Ext j H j (upd H a o):=⟨λ_ _ e=>e,λb u e m=>by
  have:b≠a:=λq=>by subst q;rw[h0] at e;cases e;rw[m] at m0;cases m0
  rw[zi this];exact e⟩
 have sat:∀{m:Nat} {d:Ce},(S.set n c')[m]? =dB d->(m=n/\d=c')\/(m≠n/\S[m]? =dB d):=λ{m d} e=>by
  rw[Bs] at e;split at e;rename_i q;split at e;cases e;exact .inl ⟨q.symm,rfl⟩;cases e;rename_i q;exact .inr ⟨λr=>q r.symm,e⟩
 have rZ:∀{m:Nat} {d:Ce},(S.set n c')[m]? =dB d->∃d',S[m]? =dB d'/\(d.fz=kb->d'.fz=kb):=λ{m d} e=>by
  rcases sat e with⟨rfl,rfl⟩|⟨_,e⟩
  .exact⟨c,hs,λ_=>z⟩
  exact⟨d,e,λy=>y⟩
 refine⟨⟨E.len,λi x e=> ?_,by simp[E.jl],λk m b c1 c2 e1 e2 e3 e4 z1 z2=> ?_,λm d b e1 e2=> ?_,E.ext.trans X,λm d e=> ?_,E.l0,λb u e=> ?_,E.fresh,λb e=> ?_⟩,X⟩;obtain⟨v,e1,e2⟩:=E.slot i x e;exact⟨v,e1,e2.mono X⟩;obtain⟨d1,f1,g1⟩:=rZ e3;obtain⟨d2,f2,g2⟩:=rZ e4;exact E.inj k m b d1 d2 e1 e2 f1 f2 (g1 z1) (g2 z2)
 .rcases sat e1 with⟨rfl,rfl⟩|⟨q,e1⟩
  .rw[hj] at e2;cases e2;exact hc X
  refine (E.cel m d b e1 e2).mono X λzd=>zi λr=> ?_;subst r;exact q (E.inj m n b d c e2 hj e1 hs zd z)
 .obtain⟨d',e1,e2,e3⟩:=E.old m d e;by_cases q:m=n;subst q;rw[hs] at e1;cases e1;refine⟨c',by rw[Bs,if_pos rfl,if_pos (AQ.1 hs).1],λ_=>e2 z,λy=> ?_⟩;rw[e2 z] at y;cases y;exact⟨d',by rw[Bs,if_neg (λr=>q r.symm)];exact e1,e2,e3⟩
 .by_cases q:b=a
  .subst q;by_cases hn:n<F.j0.length
   .have lJ:F.j0[n]? =dB b:=by
     have e1:F.j0[n]? =dB F.j0[n]:=AK hn;have e2:=E.ext.pre n _ e1;rw[hj] at e2;cases e2;exact e1
    have eJ:n<F.S0.length:=by rw[<-E.l0];exact hn
    obtain⟨d',f1,f2,_⟩:=E.old n _ (AK eJ);rw[hs] at f1;cases f1;exact .inr ⟨n,_,lJ,AK eJ,f2 z⟩
   rw[E.fresh n b ⋯ hj] at e;cases e
  rcases E.keep b u e with h|h;exact .inl (by rw[zi q];exact h);exact .inr h
 by_cases q:b=a;subst q;rw[zt] at e;cases e;rw[zi q] at e;exact E.dom b e
def En.write(E:En K F j H σ ρ S)(hs:S[n]? =dB c)(z:c.fz=kb)(hj:j[n]? =dB a)(_:c'.fz=kb)(hc:∀X:Ext j H j (upd H a o),VC K j (upd H a o) a c'):En K F j (upd H a o) σ ρ (S.set n c')/\Ext j H j (upd H a o):=E.writeF hs z hj hc
def En.slots(E:En K F j H σ ρ S)(hl:σ'.length=ρ'.length)(h:∀(i:Nat) x,ρ'[i]? =dB (dB x)->∃v,σ'[i]? =dB (dB v)/\Xis K j H x v):En K F j H σ' ρ' S:=
 ⟨hl,h,E.jl,E.inj,E.cel,E.ext,E.old,E.l0,E.keep,E.fresh,E.dom⟩
set_option tactic.hygienic true in
def En.set(E:En K F j H σ ρ S)(h:Xis K j H x v):En K F j H (σ.set i (dB v)) (ρ.set i (dB x)) S:=E.slots (by simp[E.len]) λk y e=>by
 rw[Bs] at e ⊢;split at e;rename_i q;subst q;split at e;rename_i hl;cases e;rw[if_pos rfl,if_pos (by rw[E.len];exact hl)];exact⟨v,rfl,h⟩;cases e;rename_i q;rw[if_neg q];exact E.slot k y e
def En.enter(E:En K F j H σ ρ S)(hl:σ'.length=ρ'.length)(h:∀(i:Nat) x,ρ'[i]? =dB (dB x)->∃v,σ'[i]? =dB (dB v)/\Xis K j H x v):En K ⟨H,j,S⟩ j H σ' ρ' S:=
 ⟨hl,h,E.jl,E.inj,E.cel,Ext.refl,λn c e=>⟨c,e,λz=>z,λ_=>rfl⟩,E.jl,λb u e=> .inl e,λn a hn e=>by have:=(AQ.1 e).1;dsimp only at hn;omega,λb e=>e⟩
def En.leave(E:En K F j H σ ρ S)(X:En K ⟨H,j,S⟩ j' H' σ' ρ' S'):En K F j' H' σ ρ S'/\Ext j H j' H':=by
 have e:Ext j H j' H':=X.ext;refine⟨⟨E.len,λi x h=> ?_,X.jl,X.inj,X.cel,E.ext.trans e,λn c h=> ?_,E.l0,λb u h=> ?_,λn a hn h=> ?_,λb h=>E.dom b (X.dom b h)⟩,e⟩;obtain⟨v,e1,e2⟩:=E.slot i x h;exact⟨v,e1,e2.mono e⟩;obtain⟨c1,e1,e2,e3⟩:=E.old n c h;obtain⟨c2,f1,f2,f3⟩:=X.old n c1 e1;refine⟨c2,f1,λz=>e2 (f2 z),λz=> ?_⟩;obtain rfl:=e3 z;exact f3 z
 .rcases E.keep b u h with h1|h1
  .rcases X.keep b u h1 with h2|⟨n,c,h2,h3,h4⟩
   .exact .inl h2
   by_cases hn:n<F.j0.length
   .have e1:F.j0[n]? =dB F.j0[n]:=AK hn;have e2:=E.ext.pre n _ e1;have n5:j[n]? =dB b:=h2;rw[n5] at e2;cases e2;have eJ:n<F.S0.length:=by rw[<-E.l0];exact hn
    obtain⟨c1,f1,f2,_⟩:=E.old n _ (AK eJ);have pM:S[n]? =dB c:=h3;rw[pM] at f1;cases f1;exact .inr ⟨n,_,e1,AK eJ,f2 h4⟩
   have:=E.fresh n b ⋯ h2;rw[this] at h;cases h
  exact .inr h1
 by_cases hm:n<j.length;have e1:j[n]? =dB j[n]:=AK hm;have e2:=e.pre n _ e1;rw[h] at e2;cases e2;exact E.fresh n _ hn e1;exact E.dom a (X.fresh n a (by dsimp only;omega) h)
def En.grow(E:En K F j H σ ρ S):En K F j H (σ++B6 k fC) (ρ++B6 k fC) S:=E.slots (by simp[E.len]) λi x e=>by
 by_cases hi:i<ρ.length;rw[B2 hi] at e;rw[B2 (by rw[E.len];exact hi)];exact E.slot i x e;rw[B4 ⋯,D9] at e;split at e;cases e;cases e
end
inductive Rs(α:Type) where
 |ok (a:α) (S:Sto)
 |ex (c:Str) (S:Sto)
abbrev TwE:=Rho->Sto->pU (Rs Xv)
abbrev TwT:=Rho->Sto->pU (Rs Bool)
abbrev TwL:=Rho->Sto->pU (Rs (n8 Xv))
abbrev TwO:=Rho->Sto->pU (Rs (pU Int))
abbrev TwG:=Xv->Rho->Sto->pU (Rs Rho)
abbrev zfe:=n8 Xv->Rho->Sto->pU (Rs Rho)
abbrev TwI:=Rho->Sto->pU (Rs (Sto->pU (n8 Xv)))
inductive Fl where
 |nx (ρ:Rho) (S:Sto)
 |bk (ρ:Rho) (S:Sto)
 |ct (ρ:Rho) (S:Sto)
 |rt (x:Xv) (S:Sto)
 |ex (c:Str) (S:Sto)
abbrev TwS:=Rho->Sto->pU Fl
noncomputable def rb{α β:Type}(m:pU (Rs α))(f:α->Sto->pU (Rs β)):pU (Rs β):=match m with
 |some (.ok a S)=>f a S
 |some (.ex c S)=>dB (.ex c S)
 |none=>fC
noncomputable def sb{α:Type}(m:pU (Rs α))(f:α->Sto->pU Fl):pU Fl:=match m with
 |some (.ok a S)=>f a S
 |some (.ex c S)=>dB (.ex c S)
 |none=>fC
def zo{α β:Type}{m:pU (Rs α)}{f:α->Sto->pU (Rs β)}{r:Rs β}(h:rb m f=dB r):(∃a S,m=dB (.ok a S)/\f a S=dB r)\/∃c S,m=dB (.ex c S)/\r= .ex c S:=by
 unfold rb at h;split at h;exact .inl ⟨_,_,rfl,h⟩;cases h;exact .inr ⟨_,_,rfl,rfl⟩;cases h
def xk{α:Type}{m:pU (Rs α)}{f:α->Sto->pU Fl}(h:sb m f=dB r):(∃a S,m=dB (.ok a S)/\f a S=dB r)\/∃c S,m=dB (.ex c S)/\r= .ex c S:=by
 unfold sb at h;split at h;exact .inl ⟨_,_,rfl,h⟩;cases h;exact .inr ⟨_,_,rfl,rfl⟩;cases h
def PX(K:AO)(F:Fm)(j:n8 qo)(H:Hp)(E:XK)(c:Str)(S':Sto):Prop:=
 ∀j' H' σ' ρ' C,Ext j H j' H'->En K F j' H' σ' ρ' S'->Bc K mainGlobals c=dB (dB (.ref C))->E (.ref C) fC H'
def PX.mono{K:AO}{E:XK}(h:PX K F j H E c S')(e:Ext j H j1 H1):PX K F j1 H1 E c S':=λj' H' σ' ρ' C x y z=>h j' H' σ' ρ' C (e.trans x) y z
def Po{α:Type}(K:AO)(F:Fm)(j:n8 qo)(H:Hp)(σ:St)(ρ:Rho)(E:XK)(P:α->n8 qo->Hp->Prop):Rs α->Prop
 | .ok a S'=>∀j' H',Ext j H j' H'->En K F j' H' σ ρ S'->P a j' H'
 | .ex c S'=>PX K F j H E c S'
theorem Po.step{α:Type}{K:AO}{ρ:Rho}{E:XK}{P:α->n8 qo->Hp->Prop}:∀{r:Rs α},Po K F j H σ ρ E P r->Ext j H j1 H1->Po K F j1 H1 σ ρ E P r
 | .ok a S',h,e=>λj' H' x y=>h j' H' (e.trans x) y
 | .ex c S',h,e=>PX.mono h e
noncomputable abbrev PoV(K:AO)(Q:VK):Xv->n8 qo->Hp->Prop:=λx j' H'=>∀v,Xis K j' H' x v->Q v H'
def RE(K:AO)(E:XK)(t:TE)(m:TwE):Prop:=∀{F:Fm} {j:n8 qo} {σ:St} {H:Hp} {ρ:Rho} {S:Sto} {r:Rs Xv} {Q:VK},En K F j H σ ρ S->m ρ S=dB r->Po K F j H σ ρ E (PoV K Q) r->t σ H Q
def RT(K:AO)(E:XK)(t:TT)(m:TwT):Prop:=∀{F:Fm} {j:n8 qo} {σ:St} {H:Hp} {ρ:Rho} {S:Sto} {r:Rs Bool} {Q:Bool->Hp->Prop},En K F j H σ ρ S->m ρ S=dB r->Po K F j H σ ρ E (λb _ H'=>Q b H') r->t σ H Q
def RL(K:AO)(E:XK)(t:TA)(m:TwL):Prop:=∀{F:Fm} {j:n8 qo} {σ:St} {H:Hp} {ρ:Rho} {S:Sto} {r:Rs (n8 Xv)} {Q:n8 V->Hp->Prop},En K F j H σ ρ S->m ρ S=dB r->Po K F j H σ ρ E (λxs j' H'=>∀vs,zG K j' H' xs vs->Q vs H') r->t σ H Q
def RO(K:AO)(E:XK)(t:TO)(m:TwO):Prop:=∀{F:Fm} {j:n8 qo} {σ:St} {H:Hp} {ρ:Rho} {S:Sto} {r:Rs (pU Int)} {Q:pU Int->Hp->Prop},En K F j H σ ρ S->m ρ S=dB r->Po K F j H σ ρ E (λo _ H'=>Q o H') r->t σ H Q
def PoG(K:AO)(F:Fm)(j:n8 qo)(H:Hp)(E:XK)(R:St->Hp->Prop):Rs Rho->Prop
 | .ok ρ' S'=>∀σ' j' H',Ext j H j' H'->En K F j' H' σ' ρ' S'->R σ' H'
 | .ex c S'=>PX K F j H E c S'
theorem PoG.step{K:AO}{E:XK}{R:St->Hp->Prop}:∀{r:Rs Rho},PoG K F j H E R r->Ext j H j1 H1->PoG K F j1 H1 E R r
 | .ok a S',h,e=>λσ' j' H' x y=>h σ' j' H' (e.trans x) y
 | .ex c S',h,e=>PX.mono h e
def RG(K:AO)(E:XK)(t:TG)(g:TwG):Prop:=∀{F:Fm} {j:n8 qo} {σ:St} {H:Hp} {ρ:Rho} {S:Sto} {r:Rs Rho} {x:Xv} {v:V} {R:St->Hp->Prop},En K F j H σ ρ S->Xis K j H x v->g x ρ S=dB r->PoG K F j H E R r->t v σ H R
def RGs(K:AO)(E:XK)(t:TGs)(g:zfe):Prop:=∀{F:Fm} {j:n8 qo} {σ:St} {H:Hp} {ρ:Rho} {S:Sto} {r:Rs Rho} {xs:n8 Xv} {vs:n8 V} {R:St->Hp->Prop},En K F j H σ ρ S->zG K j H xs vs->g xs ρ S=dB r->PoG K F j H E R r->t vs σ H R
def zlL(K:AO)(F:Fm)(j:n8 qo)(H:Hp)(E:XK)(D':Vx):Fl->Prop
 | .nx ρ S=>∀σ j' H',Ext j H j' H'->En K F j' H' σ ρ S->D'.nx σ H'
 | .bk ρ S=>∀σ j' H',Ext j H j' H'->En K F j' H' σ ρ S->D'.bk σ H'
 | .ct ρ S=>∀σ j' H',Ext j H j' H'->En K F j' H' σ ρ S->D'.ct σ H'
 | .rt x S=>∀v σ ρ j' H',Ext j H j' H'->En K F j' H' σ ρ S->Xis K j' H' x v->D'.rt v H'
 | .ex c S=>PX K F j H E c S
theorem zlL.step{K:AO}{E:XK}:∀{fl:Fl},zlL K F j H E D' fl->Ext j H j1 H1->zlL K F j1 H1 E D' fl
 | .nx _ _,h,e=>λσ j' H' x y=>h σ j' H' (e.trans x) y
 | .bk _ _,h,e=>λσ j' H' x y=>h σ j' H' (e.trans x) y
 | .ct _ _,h,e=>λσ j' H' x y=>h σ j' H' (e.trans x) y
 | .rt _ _,h,e=>λv σ ρ j' H' x y z=>h v σ ρ j' H' (e.trans x) y z
 | .ex _ _,h,e=>PX.mono h e
def RS(K:AO)(E:XK)(t:TS)(m:TwS):Prop:=∀{F:Fm} {j:n8 qo} {D':Vx} {σ:St} {H:Hp} {ρ:Rho} {S:Sto} {fl:Fl},En K F j H σ ρ S->m ρ S=dB fl->zlL K F j H E D' fl->t D' σ H
def zpI(K:AO)(j:n8 qo)(H:Hp)(J:It)(get:Sto->pU (n8 Xv)):Prop:=∀{F:Fm} {j':n8 qo} {H':Hp} {σ:St} {ρ:Rho} {S:Sto} {xs:n8 Xv} (i:Nat),Ext j H j' H'->En K F j' H' σ ρ S->get S=dB xs->
 (∀x,xs[i]? =dB x->J.go i H'/\∀v H'',J.yld i H' v H''->vX H' H''/\Xis K j' H'' x v)/\(i=xs.length->J.stop i H')
def RI(K:AO)(E:XK)(t:TI)(m:TwI):Prop:=∀{F:Fm} {j:n8 qo} {σ:St} {H:Hp} {ρ:Rho} {S:Sto} {r:Rs (Sto->pU (n8 Xv))} {R:It->Hp->Prop},En K F j H σ ρ S->m ρ S=dB r->Po K F j H σ ρ E (λget j' H'=>∀J,zpI K j' H' J get->R J H') r->t σ H R
abbrev Op2:=Xv->Xv->Sto->pU (Xv×Sto)
abbrev Opn:=n8 Xv->Sto->pU (Xv×Sto)
def ZQ(K:AO)(r:R2)(f:Op2):Prop:=∀{F:Fm} {j:n8 qo} {σ:St} {H:Hp} {ρ:Rho} {S S':Sto} {x y z:Xv} {u v:V} {Q:VK},En K F j H σ ρ S->Xis K j H x u->Xis K j H y v->f x y S=dB (z,S')->(∀w j' H',Ext j H j' H'->En K F j' H' σ ρ S'->Xis K j' H' z w->Q w H')->r u v H Q
def zpJ(K:AO)(r:V->Hp->VK->Prop)(f:Xv->Sto->pU (Xv×Sto)):Prop:=∀{F:Fm} {j:n8 qo} {σ:St} {H:Hp} {ρ:Rho} {S S':Sto} {x z:Xv} {u:V} {Q:VK},En K F j H σ ρ S->Xis K j H x u->f x S=dB (z,S')->(∀w j' H',Ext j H j' H'->En K F j' H' σ ρ S'->Xis K j' H' z w->Q w H')->r u H Q
def zcL(K:AO)(r:n8 V->Hp->VK->Prop)(f:Opn):Prop:=∀{F:Fm} {j:n8 qo} {σ:St} {H:Hp} {ρ:Rho} {S S':Sto} {xs:n8 Xv} {z:Xv} {vs:n8 V} {Q:VK},En K F j H σ ρ S->zG K j H xs vs->f xs S=dB (z,S')->(∀w j' H',Ext j H j' H'->En K F j' H' σ ρ S'->Xis K j' H' z w->Q w H')->r vs H Q
noncomputable def za(i:Nat):TwE:=λρ S=>match ρ[i]? with
 |some (dB x)=>dB (.ok x S)
 |_=>fC
noncomputable def eC(x:Xv):TwE:=λ_ S=>dB (.ok x S)
noncomputable abbrev si(n:Int):=eC (.int n)
noncomputable abbrev sv(z:Str):=eC (.str z)
noncomputable def okP(o:pU (Xv×Sto)):pU (Rs Xv):=o.map λp=> .ok p.1 p.2
def Ym(h:okP o=dB r):∃z S,o=dB (z,S)/\r= .ok z S:=by
 cases o with
 |none=>cases h
 |some p=>cases h;exact⟨_,_,rfl,rfl⟩
def eOp(f:Op2)(a b:TwE):TwE:=λρ S=>rb (a ρ S) λx S1=>rb (b ρ S1) λy S2=>okP (f x y S2)
def eUn(f:Xv->Sto->pU (Xv×Sto))(a:TwE):TwE:=λρ S=>rb (a ρ S) λx S1=>okP (f x S1)
noncomputable def bE(m:TwE):TwT:=λρ S=>rb (m ρ S) λx S1=>match x with
 | .bl b=>dB (.ok b S1)
 |_=>fC
noncomputable def eB(m:TwT):TwE:=λρ S=>rb (m ρ S) λb S1=>dB (.ok (.bl b) S1)
noncomputable def zjc(a b:TwT):TwT:=λρ S=>rb (a ρ S) λx S1=>if x then b ρ S1 else dB (.ok kb S1)
noncomputable def bOr(a b:TwT):TwT:=λρ S=>rb (a ρ S) λx S1=>if x then dB (.ok fN S1) else b ρ S1
noncomputable def WD(a:TwT):TwT:=λρ S=>rb (a ρ S) λx S1=>dB (.ok (!x) S1)
def zjd(a b:TwE):TwE:=λρ S=>rb (bE a ρ S) λx S1=>if x then b ρ S1 else dB (.ok (.bl kb) S1)
noncomputable def eIf(c:TwT)(a b:TwE):TwE:=λρ S=>rb (c ρ S) λx S1=>if x then a ρ S1 else b ρ S1
noncomputable def evL:n8 TwE->TwL
 |[]=>λ_ S=>dB (.ok [] S)
 |m::r=>λρ S=>rb (m ρ S) λx S1=>rb (evL r ρ S1) λxs S2=>dB (.ok (x::xs) S2)
noncomputable def Zq(ms:n8 TwE):TwE:=λρ S=>rb (evL ms ρ S) λxs S1=>dB (.ok (.tup xs) S1)
noncomputable def XF(ms:n8 TwE):TwE:=λρ S=>rb (evL ms ρ S) λxs S1=>dB (.ok (.ref S1.length) (S1++[.lst xs]))
def eFn(f:Opn)(ms:n8 TwE):TwE:=λρ S=>rb (evL ms ρ S) λxs S1=>okP (f xs S1)
noncomputable def zpK(f:Xv->pU Xv):Xv->Sto->pU (Xv×Sto):=λx S=>(f x).map λz=>(z,S)
section
variable{K:AO}{E:XK}{F:Fm}{j:n8 qo}{ρ:Rho}{S:Sto}
def Po.val{Q:VK}(k:Po K F j H σ ρ E (PoV K Q) (.ok x S))(En0:En K F j H σ ρ S)(h:Xis K j H x v):Q v H:=k j H Ext.refl En0 v h
set_option tactic.hygienic true in
def zj(i:Nat):RE K E (znG i) (za i):=by
 intro F j σ H ρ S r Q En0 e k;unfold za at e;split at e;rename_i x ex;cases e;obtain⟨v,e1,e2⟩:=En0.slot i _ ex;exact⟨v,e1,k.val En0 e2⟩;cases e
def zbf(h:∀j H,Xis K j H x v):RE K E (tC v) (eC x):=λEn0 e k=>by
 cases e;exact k.val En0 (h _ _)
def xZ(i:Int):RE K E (tC (.int i)) (si i):=zbf λ_ _=> .int i
def zn7(x:Str):RE K E (tC (.str x)) (eC (.str x)):=zbf λ_ _=> .str x
def znl(b:Bool):RE K E (tC (.bl b)) (eC (.bl b)):=zbf λ_ _=> .bl b
def zje:RE K E (tC .non) (eC .non):=zbf λ_ _=> .non
def yG{r:R2}{f:Op2}{ta tb:TE}{a b:TwE}(ho:ZQ K r f)(ha:RE K E ta a)(hb:RE K E tb b):RE K E (tOp r ta tb) (eOp f a b):=by
 walk_at "!a"
 .refine ha En0 e1 λj1 H1 X1 E1 u hu=> ?_;rcases zo e with⟨y,S2,e2,e⟩|⟨c,S2,e2,rfl⟩
  .obtain⟨z,S3,e3,rfl⟩:=Ym e;exact hb E1 e2 λj2 H2 X2 E2 v hv=>ho E2 (hu.mono X2) hv e3 λw j3 H3 X3 E3 hw=>k _ _ (X1.trans (X2.trans X3)) E3 _ hw
  exact hb E1 e2 (PX.mono k X1)
 exact ha En0 e1 k
def zgv{r:V->Hp->VK->Prop}{f:Xv->Sto->pU (Xv×Sto)}(ho:zpJ K r f)(ha:RE K E ta a):RE K E (tUn r ta) (eUn f a):=by
 walk_at "!a"
 .obtain⟨z,S3,e3,rfl⟩:=Ym e;exact ha En0 e1 λj1 H1 X1 E1 u hu=>ho E1 hu e3 λw j3 H3 X3 E3 hw=>k _ _ (X1.trans X3) E3 _ hw
 exact ha En0 e1 k
def zcM(h:RE K E t m):RT K E (tB t) (bE m):=by
 walk_at "!a"
 .split at e
  .cases e;exact h En0 e1 λj1 H1 X1 E1 u hu=>⟨_,hu.bl_inv,k _ _ X1 E1⟩
  cases e
 exact h En0 e1 k
def zgw(h:RE K E t m):RT K E (zm7 t) (bE m):=zcM h
def zjf(ha:RT K E t a)(hb:RT K E u b):RT K E (zpg t u) (zjc a b):=by
 walk_at "!a"
 .refine ha En0 e1 λj1 H1 X1 E1=> ?_;cases x with
  |true=>exact hb E1 e (k.step X1)
  |false=>cases e;exact k _ _ X1 E1
 exact ha En0 e1 k
def zpL(ha:RT K E t a)(hb:RT K E u b):RT K E (tOr t u) (bOr a b):=by
 walk_at "!a"
 .refine ha En0 e1 λj1 H1 X1 E1=> ?_;cases x with
  |true=>cases e;exact k _ _ X1 E1
  |false=>exact hb E1 e (k.step X1)
 exact ha En0 e1 k
def zn8(ha:RT K E t a):RT K E (zph t) (WD a):=by
 walk_at "!a"
 .cases e;exact ha En0 e1 λj1 H1 X1 E1=>k _ _ X1 E1
 exact ha En0 e1 k
def zn9{ta tb:TE}{a b:TwE}(ha:RE K E ta a)(hb:RE K E tb b):RE K E (zm0 ta tb) (zjd a b):=by
 walk_at "!a"
 .walk_at "!k"
  .split at e1
   .cases e1;refine ha En0 e2 λj1 H1 X1 E1 u hu=>⟨_,hu.bl_inv,?_⟩;cases x with
    |true=>exact hb E1 e (k.step X1)
    |false=>cases e;exact k _ _ X1 E1 _ (.bl kb)
   cases e1
  cases z
 walk_at "!k"
 .split at e1<;>cases e1
 cases z;exact ha En0 e2 k
def zoa(ha:RE K E ta a):RE K E (zm1 ta) (eB (WD (bE a))):=by
 walk_at "!a"
 .walk_at "!k"
  .rcases zo e2 with⟨z,S3,e3,e2⟩|⟨c,S3,e3,z⟩
   .split at e2
    .cases e2;cases e1;cases e;exact ha En0 e3 λj1 H1 X1 E1 u hu=>⟨_,hu.bl_inv,k _ _ X1 E1 _ (.bl _)⟩
    cases e2
   cases z
  cases z
 walk_at "!k"
 .cases e1
 cases z;rcases zo e2 with⟨z,S3,e3,e2⟩|⟨c,S3,e3,z⟩
 .split at e2<;>cases e2
 cases z;exact ha En0 e3 k
def znm{t:TT}{c:TwT}{ta tb:TE}{a b:TwE}(hc:RT K E t c)(ha:RE K E ta a)(hb:RE K E tb b):RE K E (tIf t ta tb) (eIf c a b):=by
 walk_at "!a"
 .refine hc En0 e1 λj1 H1 X1 E1=> ?_;cases x with
  |true=>exact ha E1 e (k.step X1)
  |false=>exact hb E1 e (k.step X1)
 exact hc En0 e1 k
noncomputable def Xv.isNon:Xv->Bool
 | .non=>fN
 |_=>kb
noncomputable def zav:Xv->Sto->pU (Xv×Sto):=zpK λx=>dB (.bl x.isNon)
noncomputable def zgx:Xv->Sto->pU (Xv×Sto):=zpK λx=>dB (.bl (!x.isNon))
def zgy(h:Xis K j H x v):decide (v= .non)=x.isNon:=by cases h<;>simp[Xv.isNon]
def zjg(ha:RE K E ta a):RE K E (zpf ta) (eUn zav a):=by
 walk_at "!a"
 .cases e;exact ha En0 e1 λj1 H1 X1 E1 u hu=>k _ _ X1 E1 _ (by rw[zgy hu];exact .bl _)
 exact ha En0 e1 k
def zlM(ha:RE K E ta a):RE K E (zmZ ta) (eUn zgx a):=by
 walk_at "!a"
 .cases e;exact ha En0 e1 λj1 H1 X1 E1 u hu=>k _ _ X1 E1 _ (by rw[zgy hu];exact .bl _)
 exact ha En0 e1 k
def ym:RL K E zdI (evL []):=λEn0 e k=>by
 cases e;exact k _ _ Ext.refl En0 [] .nil
def zC(ha:RE K E ta m)(hr:RL K E tr (evL ms)):RL K E (XB ta tr) (evL (m::ms)):=by
 walk_at "!a"
 .refine ha En0 e1 λj1 H1 X1 E1 u hu=> ?_;rcases zo e with⟨xs,S2,e2,e⟩|⟨c,S2,e2,rfl⟩
  .cases e;exact hr E1 e2 λj2 H2 X2 E2 vs hv=>k _ _ (X1.trans X2) E2 (u::vs) (.cons (hu.mono X2) hv)
  exact hr E1 e2 (PX.mono k X1)
 exact ha En0 e1 k
theorem YH:∀{ms:n8 TwE} {ρ:Rho} {S S':Sto} {xs:n8 Xv},evL ms ρ S=dB (.ok xs S')->xs.length=ms.length
 |[],_,_,_,_,h=>by cases h;rfl
 |m::ms,ρ,S,S',xs,h=>by
  rcases zo h with⟨x,S1,e1,h⟩|⟨c,S1,e1,z⟩
  .rcases zo h with⟨ys,S2,e2,h⟩|⟨c,S2,e2,z⟩
   .cases h;simp[YH e2]
   cases z
  cases z
def zff(h:RL K E t (evL ms))(hl:ms.length<=1000:=by simp):RE K E (zpt t) (Zq ms):=by
 walk_at "!c"
 .cases e;refine h En0 e1 λj1 H1 X1 E1 vs hv=>⟨?_,λp hp=> ?_⟩
  .rw[hv.len,YH e1];exact AZ hl ∅
  obtain⟨E2,X2⟩:=E1.new (o:= .tup vs) hp;exact k _ _ (X1.trans X2) E2 _ (.tup zt (hv.mono X2))
 exact h En0 e1 k
def En.lst{xs:n8 Xv}{vs:n8 V}{p:qo}(En0:En K F j H σ ρ S)(hv:zG K j H xs vs)(hp:H p=fC):En K F (j++[p]) (upd H p (.lst vs)) σ ρ (S++[.lst xs])/\Ext j H (j++[p]) (upd H p (.lst vs))/\Xis K (j++[p]) (upd H p (.lst vs)) (.ref S.length) (.ref p):=by
 have X:Ext j H (j++[p]) (upd H p (.lst vs)):=⟨λn a e=>by rw[B2 (AQ.1 e).1];exact e,xG.same (yB hp)⟩;obtain⟨E1,_⟩:=En0.cell (o:= .lst vs) (c:= .lst xs) hp ⟨vs,zt,hv.mono X⟩;exact⟨E1,X,.ref (by rw[<-En0.jl];simp)⟩
def XG(h:RL K E t (evL ms))(hl:ms.length<=1000:=by simp):RE K E (zpu t) (XF ms):=by
 walk_at "!c"
 .cases e;refine h En0 e1 λj1 H1 X1 E1 vs hv=>⟨?_,λp hp=> ?_⟩
  .rw[hv.len,YH e1];exact AZ hl ∅
  obtain⟨E2,X2,h2⟩:=E1.lst hv hp;exact k _ _ (X1.trans X2) E2 _ h2
 exact h En0 e1 k
def zb0{r:n8 V->Hp->VK->Prop}(hr:zcL K r f)(h:RL K E t (evL ms)):RE K E (tCB r t) (eFn f ms):=by
 walk_at "!c"
 .obtain⟨z,S3,e3,rfl⟩:=Ym e;exact h En0 e1 λj1 H1 X1 E1 vs hv=>hr E1 hv e3 λw j3 H3 X3 E3 hw=>k _ _ (X1.trans X3) E3 _ hw
 exact h En0 e1 k
end
noncomputable def zA(S:Sto):Xv->pU (n8 Xv)
 | .ref n=>match S[n]? with
  |some (.lst xs)=>dB xs
  |some (.frz xs)=>dB xs
  |_=>fC
 |_=>fC
noncomputable def Yn(S:Sto)(x:Xv):pU (n8 Xv):=match x.tupOf with
 |some xs=>dB xs
 |none=>zA S x
noncomputable def VD(S:Sto):Xv->pU (Nat×n8 Xv)
 | .ref n=>match S[n]? with
  |some (.lst xs)=>dB (n,xs)
  |_=>fC
 |_=>fC
section
variable{K:AO}{E:XK}{F:Fm}{j:n8 qo}{ρ:Rho}{S:Sto}{x:Xv}{v:V}
def En.lstAt(E0:En K F j H σ ρ S)(hx:Xis K j H x v)(h:L2.zA S x=dB xs):∃a vs,v= .ref a/\SqX K H a vs/\zG K j H xs vs:=by
 cases x<;>simp only[L2.zA,reduceCtorEq] at h
 obtain⟨a,rfl,hj⟩:=hx.ref_inv;split at h;cases h;obtain⟨vs,e1,e2⟩:=E0.cel _ _ _ (by assumption) hj;exact⟨a,vs,rfl,SqX.of e1,e2⟩;cases h;obtain⟨vs,e1,e2⟩:=E0.cel _ _ _ (by assumption) hj;refine⟨a,vs,rfl,?_,e2⟩;rcases e1 with⟨o,e1⟩|e1;exact .inl (.inr ⟨o,e1⟩);exact e1 H;cases h
def En.seqAt(E0:En K F j H σ ρ S)(hx:Xis K j H x v)(h:L2.Yn S x=dB xs):∃a vs,v= .ref a/\(SqX K H a vs\/SqT K H a vs)/\zG K j H xs vs:=by
 unfold L2.Yn at h;split at h;cases h;obtain⟨a,vs,e1,e2,e3⟩:=hx.tupO (by assumption);exact⟨a,vs,e1,.inr e2,e3⟩;obtain⟨a,vs,e1,e2,e3⟩:=E0.lstAt hx h;exact⟨a,vs,e1,.inl e2,e3⟩
def zb1(h:VD S x=dB (n,xs)):x= .ref n/\S[n]? =dB (.lst xs):=by
 cases x<;>simp only[VD,reduceCtorEq] at h
 split at h;cases h;exact⟨rfl,by assumption⟩;cases h
def En.wl(E0:En K F j H σ ρ S)(hx:Xis K j H x v)(h:VD S x=dB (n,xs)):∃a vs,v= .ref a/\j[n]? =dB a/\H a=dB (.lst vs)/\zG K j H xs vs:=by
 obtain⟨rfl,hs⟩:=zb1 h;obtain⟨a,rfl,hj⟩:=hx.ref_inv;obtain⟨vs,e1,e2⟩:=E0.cel _ _ _ hs hj;exact⟨a,vs,rfl,hj,e1,e2⟩
def En.wr(E0:En K F j H σ ρ S)(h:VD S x=dB (n,xs))(hj:j[n]? =dB a)(hw:zG K j H ys ws):En K F j (upd H a (.lst ws)) σ ρ (S.set n (.lst ys))/\Ext j H j (upd H a (.lst ws)):=
 E0.write (zb1 h).2 rfl hj rfl λX=>⟨ws,zt,hw.mono X⟩
def tyL(h:SqL K H a vs):tyV K "list" (.ref a) H:= .inl ⟨rfl,vs,h⟩
noncomputable def yM:Op2:=λx y S=>match x.tupOf,y with
 |some xs,.int i=>(atI xs i).map λz=>(z,S)
 |_,_=>fC
noncomputable def yY:Op2:=λx y S=>match zA S x,y with
 |some xs,.int i=>(atI xs i).map λz=>(z,S)
 |_,_=>fC
set_option tactic.hygienic true in
def zjh:ZQ K (zlz K) yM:=by
 intro F j σ H ρ S S' x y z u v Q E0 hx hy h k;unfold yM at h;split at h
 .rename_i xs i ex;cases e:atI xs i with
  |none=>rw[e] at h;cases h
  |some z'=>
   rw[e] at h;cases h;obtain⟨a,vs,rfl,h1,h2⟩:=hx.tupO ex;obtain⟨w,e1,e2⟩:=h2.at_ e;exact⟨a,vs,_,w,rfl,hy.int_inv,h1,e1,k _ _ _ Ext.refl E0 e2⟩
 cases h
set_option tactic.hygienic true in
def vY:ZQ K (zly K) yY:=by
 intro F j σ H ρ S S' x y z u v Q E0 hx hy h k;unfold yY at h;split at h
 .rename_i xs i ex;cases e:atI xs i with
  |none=>rw[e] at h;cases h
  |some z'=>
   rw[e] at h;cases h;obtain⟨a,vs,rfl,h1,h2⟩:=E0.lstAt hx ex;obtain⟨w,e1,e2⟩:=h2.at_ e;exact⟨a,vs,_,w,rfl,hy.int_inv,h1.sql,e1,k _ _ _ Ext.refl E0 e2⟩
 cases h
noncomputable def Ut:Op2:=λx y S=>match Yn S x,y with
 |some xs,.int i=>(atI xs i).map λz=>(z,S)
 |_,_=>fC
set_option tactic.hygienic true in
def zcN:ZQ K (rIx K) Ut:=by
 intro F j σ H ρ S S' x y z u v Q E0 hx hy h k;unfold Ut at h;split at h
 .rename_i xs i ex;cases e:atI xs i with
  |none=>rw[e] at h;cases h
  |some z'=>
   rw[e] at h;cases h;obtain⟨a,vs,rfl,h1,h2⟩:=E0.seqAt hx ex;obtain⟨w,e1,e2⟩:=h2.at_ e;rcases h1 with h1|h1;exact .inl ⟨a,vs,_,w,rfl,hy.int_inv,h1.sql,e1,k _ _ _ Ext.refl E0 e2⟩;exact .inr (.inl ⟨a,vs,_,w,rfl,hy.int_inv,h1,e1,k _ _ _ Ext.refl E0 e2⟩)
 cases h
noncomputable def oNo:TwO:=λ_ S=>dB (.ok fC S)
noncomputable def zji(m:TwE):TwO:=λρ S=>rb (m ρ S) λx S1=>match x with
 | .int i=>dB (.ok (dB i) S1)
 |_=>fC
def zpM:RO K E zgm oNo:=λE0 e k=>by
 cases e;exact k _ _ Ext.refl E0
def zlN(h:RE K E t m):RO K E (zm8 t) (zji m):=by
 walk_at "!a"
 .split at e
  .cases e;exact h En0 e1 λj1 H1 X1 E1 u hu=>⟨_,hu.int_inv,k _ _ X1 E1⟩
  cases e
 exact h En0 e1 k
noncomputable def zhC{α:Type}(xs:n8 α)(lo' hi:pU Int):n8 α:=(xs.drop (HT.sIx xs.length 0 lo')).take (HT.sIx xs.length xs.length hi-HT.sIx xs.length 0 lo')
def zG.cut(h:zG K j H xs vs)(lo' hi:pU Int):zG K j H (zhC xs lo' hi) (zhp vs lo' hi):=by
 unfold zhp zhC;rw[h.len];exact(h.drop _).take _
def eSl(f:Xv->pU Int->pU Int->Sto->pU (Xv×Sto))(m:TwE)(lo' hi:TwO):TwE:=λρ S=>rb (m ρ S) λx S1=>rb (lo' ρ S1) λy S2=>rb (hi ρ S2) λz S3=>okP (f x y z S3)
def znn(K:AO)(r:V->pU Int->pU Int->Hp->VK->Prop)(f:Xv->pU Int->pU Int->Sto->pU (Xv×Sto)):Prop:=∀{F:Fm} {j:n8 qo} {σ:St} {H:Hp} {ρ:Rho} {S S':Sto} {x z:Xv} {lo' hi:pU Int} {u:V} {Q:VK},En K F j H σ ρ S->Xis K j H x u->f x lo' hi S=dB (z,S')->(∀w j' H',Ext j H j' H'->En K F j' H' σ ρ S'->Xis K j' H' z w->Q w H')->r u lo' hi H Q
def zpN{r:V->pU Int->pU Int->Hp->VK->Prop}{f:Xv->pU Int->pU Int->Sto->pU (Xv×Sto)}{te:TE}{tl th:TO}{m:TwE}{lo' hi:TwO}(ho:znn K r f)(hm:RE K E te m)(hl:RO K E tl lo')(hh:RO K E th hi):RE K E (tSl r te tl th) (eSl f m lo' hi):=by
 walk_at "!a"
 .refine hm En0 e1 λj1 H1 X1 E1 u hu=> ?_;rcases zo e with⟨y,S2,e2,e⟩|⟨c,S2,e2,rfl⟩
  .refine hl E1 e2 λj2 H2 X2 E2=> ?_;rcases zo e with⟨z,S3,e3,e⟩|⟨c,S3,e3,rfl⟩
   .obtain⟨w,S4,e4,rfl⟩:=Ym e;exact hh E2 e3 λj3 H3 X3 E3=>ho E3 (hu.mono (X2.trans X3)) e4 λw j4 H4 X4 E4 hw=>k _ _ (X1.trans (X2.trans (X3.trans X4))) E4 _ hw
   exact hh E2 e3 (PX.mono k (X1.trans X2))
  exact hl E1 e2 (PX.mono k X1)
 exact hm En0 e1 k
noncomputable def zfg:Xv->pU Int->pU Int->Sto->pU (Xv×Sto):=λx lo' hi S=>(zA S x).map λxs=>(.ref S.length,S++[.lst (zhC xs lo' hi)])
def zpO:znn K (ziC K) zfg:=by
 intro F j σ H ρ S S' x z lo' hi u Q E0 hx h k;unfold zfg at h;cases e:zA S x with
 |none=>rw[e] at h;cases h
 |some xs=>
  rw[e] at h;cases h;obtain⟨a,vs,rfl,h1,h2⟩:=E0.lstAt hx e;refine⟨a,vs,rfl,h1.sql,λp hp=> ?_⟩;obtain⟨E1,X1,h3⟩:=E0.lst (h2.cut lo' hi) hp;exact k _ _ _ X1 E1 h3
def zob(hm:RE K E te m)(hl:RO K E tl lo')(hh:RO K E th hi):RE K E (tSl (ziC K) te tl th) (eSl zfg m lo' hi):= @zpN K E (ziC K) zfg te tl th m lo' hi (@zpO K) hm hl hh
abbrev OpM:=Xv->n8 Xv->Sto->pU (Xv×Sto)
def zlO(K:AO)(r:V->n8 V->Hp->VK->Prop)(f:OpM):Prop:=∀{F:Fm} {j:n8 qo} {σ:St} {H:Hp} {ρ:Rho} {S S':Sto} {x z:Xv} {ys:n8 Xv} {u:V} {vs:n8 V} {Q:VK},En K F j H σ ρ S->Xis K j H x u->zG K j H ys vs->f x ys S=dB (z,S')->(∀w j' H',Ext j H j' H'->En K F j' H' σ ρ S'->Xis K j' H' z w->Q w H')->r u vs H Q
def eMt(f:OpM)(o:TwE)(ms:n8 TwE):TwE:=λρ S=>rb (o ρ S) λx S1=>(zA S1 x).bind λ_=>rb (evL ms ρ S1) λys S2=>okP (f x ys S2)
def zaw{r:V->n8 V->Hp->VK->Prop}(hr:zlO K r f)(ho:RE K E to o)(ht:RL K E t (evL ms)):RE K E (tBM K "list" r to t) (eMt f o ms):=by
 walk_at "!a"
 .refine ho En0 e1 λj1 H1 X1 E1 u hu=> ?_;cases el:L2.zA S1 x with
  |none=>rw[el] at e;cases e
  |some l=>
   rw[el] at e;obtain⟨a,vs,rfl,h1,_⟩:=E1.lstAt hu el;refine⟨tyL h1.sql,?_⟩;rcases zo e with⟨ys,S2,e2,e⟩|⟨c,S2,e2,rfl⟩
   .obtain⟨z,S3,e3,rfl⟩:=Ym e;exact ht E1 e2 λj2 H2 X2 E2 ws hw=>hr E2 (hu.mono X2) hw e3 λw j3 H3 X3 E3 hz=>k _ _ (X1.trans (X2.trans X3)) E3 _ hz
   exact ht E1 e2 (PX.mono k X1)
 exact ho En0 e1 k
def zjj{r:V->n8 V->Hp->VK->Prop}(hr:zlO K r f)(ho:RE K E to o):RE K E (znZ K "list" r to) (eMt f o []):=by
 intro F j σ H ρ S r Q En0 e k;exact zaw hr ho ym En0 e k
noncomputable def xb:OpM:=λx ys S=>match VD S x,ys with
 |some (n,xs),[y]=>if xs.length<sizeLine then dB (.non,S.set n (.lst (xs++[y]))) else fC
 |_,_=>fC
set_option tactic.hygienic true in
def Zm:zlO K zgp xb:=by
 intro F j σ H ρ S S' x z ys u vs Q E0 hx hy h k;unfold xb at h;split at h;rename_i n xs y e;split at h;rename_i hl;cases h;obtain⟨a,ws,rfl,hj,h1,h2⟩:=E0.wl hx e;obtain⟨w,rfl,hw⟩:=hy.d1;obtain⟨E1,X1⟩:=E0.wr e hj (h2.append (.one hw));exact⟨a,ws,w,rfl,rfl,h1,by rw[h2.len];exact hl,k _ _ _ X1 E1 .non⟩;cases h;cases h
noncomputable def zjk:OpM:=λx ys S=>match VD S x,ys with
 |some (n,xs),[]=>(xs[xs.length-1]?).map λy=>(y,S.set n (.lst xs.dropLast))
 |_,_=>fC
set_option tactic.hygienic true in
def zjl:zlO K zpx zjk:=by
 intro F j σ H ρ S S' x z ys u vs Q E0 hx hy h k;unfold zjk at h;split at h
 .rename_i n xs e;cases e1:xs[xs.length-1]? with
  |none=>rw[e1] at h;cases h
  |some y=>
   rw[e1] at h;cases h;obtain⟨a,ws,rfl,hj,h1,h2⟩:=E0.wl hx e;obtain rfl:=hy.nil_inv;obtain⟨w,f1,f2⟩:=h2.get e1;obtain⟨E1,X1⟩:=E0.wr e hj h2.dropLast;exact⟨a,ws,w,rfl,rfl,h1,by rw[h2.len];exact f1,k _ _ _ X1 E1 (f2.mono X1)⟩
 cases h
noncomputable def zm(a b:TwS):TwS:=λρ S=>match a ρ S with
 |some (.nx ρ1 S1)=>b ρ1 S1
 |r=>r
noncomputable def ye:TwS:=λρ S=>dB (.nx ρ S)
noncomputable def zfh:TwS:=λ_ _=>fC
def zu(m:TwE)(g:TwG):TwS:=λρ S=>sb (m ρ S) λx S1=>sb (g x ρ S1) λρ1 S2=>dB (.nx ρ1 S2)
def Yo(m:TwE):TwS:=λρ S=>sb (m ρ S) λ_ S1=>dB (.nx ρ S1)
def zW(m:TwE):TwS:=λρ S=>sb (m ρ S) λx S1=>dB (.rt x S1)
def sIf(c:TwT)(a b:TwS):TwS:=λρ S=>sb (c ρ S) λx S1=>if x then a ρ S1 else b ρ S1
def zlP(i k:Nat)(ms:n8 TwE):TwS:=λρ S=>sb (evL ms ρ S) λxs S1=>match xs with
 |[a,b]=>dB (.nx ((ρ.set i (dB a)).set k (dB b)) S1)
 |_=>fC
noncomputable def turn(r:pU Fl)(go:Rho->Sto->pU Fl):pU Fl:=match r with
 |some (.nx ρ S)=>go ρ S
 |some (.ct ρ S)=>go ρ S
 |some (.bk ρ S)=>dB (.nx ρ S)
 |r=>r
noncomputable def WL(get:Sto->pU (n8 Xv))(g:TwG)(b:TwS):Nat->Nat->Rho->Sto->pU Fl
 |0,_,_,_=>fC
 |f+1,i,ρ,S=>(get S).bind λxs=>match xs[i]? with
  |none=>if i=xs.length then dB (.nx ρ S) else fC
  |some x=>sb (g x ρ S) λρ1 S1=>turn (b ρ1 S1) λρ2 S2=>WL get g b f (i+1) ρ2 S2
def Zr(m:TwI)(g:TwG)(b:TwS):TwS:=λρ S=>sb (m ρ S) λget S1=>(get S1).bind λxs=>WL get g b (xs.length+1) 0 ρ S1
noncomputable def YI(c:TwT)(b:TwS):Nat->Rho->Sto->pU Fl
 |0,_,_=>fC
 |n+1,ρ,S=>sb (c ρ S) λx S1=>if x then turn (b ρ S1) λρ2 S2=>YI c b n ρ2 S2 else dB (.nx ρ S1)
noncomputable def sWh(n:Nat)(c:TwT)(b:TwS):TwS:=λρ S=>YI c b n ρ S
noncomputable def gN(i:Nat):TwG:=λx ρ S=>dB (.ok (ρ.set i (dB x)) S)
noncomputable def xW:zfe:=λxs ρ S=>match xs with
 |[]=>dB (.ok ρ S)
 |_=>fC
noncomputable def zM(g:TwG)(gs:zfe):zfe:=λxs ρ S=>match xs with
 |x::r=>rb (g x ρ S) λρ1 S1=>gs r ρ1 S1
 |_=>fC
noncomputable def gT(n:Nat)(gs:zfe):TwG:=λx ρ S=>x.tupOf.bind λl=>if l.length=n then gs l ρ S else fC
noncomputable def XH(o mi:TwE):TwG:=λd ρ S=>rb (o ρ S) λx S1=>rb (mi ρ S1) λy S2=>match VD S2 x,y with
 |some (n,xs),.int i=>(ixN xs.length i).map λk=> .ok ρ (S2.set n (.lst (xs.set k d)))
 |_,_=>fC
def zP:RG K E (zbE i) (gN i):=λE0 hx e k=>by
 cases e;exact k _ _ _ Ext.refl (E0.set hx)
def TH:RGs K E znM xW:=by
 intro F j σ H ρ S r xs vs R E0 hv e k;unfold xW at e;split at e;cases e;obtain rfl:=hv.nil_inv;exact⟨rfl,k _ _ _ Ext.refl E0⟩;cases e
def Zs(h1:RG K E t g)(h2:RGs K E u gs):RGs K E (zil t u) (zM g gs):=by
 intro F j σ H ρ S r xs vs R E0 hv e k;unfold zM at e;split at e
 .obtain⟨w,ws,rfl,hw,t6⟩:=hv.cons_inv;rcases zo e with⟨ρ1,S1,e1,e⟩|⟨c,S1,e1,rfl⟩
  .exact⟨w,ws,rfl,h1 E0 hw e1 λσ1 j1 H1 X1 E1=>h2 E1 (t6.mono X1) e (k.step X1)⟩
  exact⟨w,ws,rfl,h1 E0 hw e1 k⟩
 cases e
set_option tactic.hygienic true in
def zcO(h:RGs K E t gs):RG K E (zlp K n t) (gT n gs):=by
 intro F j σ H ρ S r x v R E0 hx e k;unfold gT at e;cases ex:x.tupOf with
 |none=>rw[ex] at e;cases e
 |some l=>
  rw[ex] at e;dsimp only[Er] at e;split at e;rename_i hn;obtain⟨a,vs,rfl,h1,h2⟩:=hx.tupO ex;exact⟨a,vs,rfl,h1,by rw[h2.len];exact hn,h E0 h2 e k⟩;cases e
set_option tactic.hygienic true in
def zjm(ho:RE K E to o)(hi:RE K E ti mi):RG K E (zpl to ti zm9) (XH o mi):=by
 intro F j σ H ρ S r d vd R E0 hd e k;rcases zo e with⟨x,S1,e1,e⟩|⟨c,S1,e1,rfl⟩
 .refine ho E0 e1 λj1 H1 X1 E1 u hu=> ?_;rcases zo e with⟨y,S2,e2,e⟩|⟨c,S2,e2,rfl⟩
  .refine hi E1 e2 λj2 H2 X2 E2 w hw=> ?_;split at e
   .rename_i n xs i ex;cases e3:ixN xs.length i with
    |none=>rw[e3] at e;cases e
    |some m=>
     rw[e3] at e;cases e;obtain⟨a,vs,rfl,hj,h1,h2⟩:=E2.wl (hu.mono X2) ex;obtain⟨E3,X3⟩:=E2.wr ex hj (h2.set (hd.mono (X1.trans X2)) m);exact⟨a,vs,i,m,rfl,hw.int_inv,h1,by rw[h2.len];exact e3,k _ _ _ (X1.trans (X2.trans X3)) E3⟩
   cases e
  exact hi E1 e2 (PX.mono k X1)
 exact ho E0 e1 k
def VE:RS K E zm2 ye:=λE0 e k=>by
 cases e;exact k _ _ _ Ext.refl E0
def zjn:RS K E t zfh:=λ_ e _=>by cases e
set_option tactic.hygienic true in
def yv(ha:RS K E t a)(hb:RS K E u b):RS K E (znJ t u) (zm a b):=by
 intro F j D' σ H ρ S fl E0 e k;unfold zm at e;split at e;rename_i ρ1 S1 e1;exact ha (D':={D' with nx:=u D'}) E0 e1 λσ1 j1 H1 X1 E1=>hb E1 e (k.step X1)
 rename_i hn;refine ha (D':={D' with nx:=u D'}) E0 e ?_;cases fl with
 |nx ρ1 S1=>exact absurd e (hn ρ1 S1)
 |bk ρ1 S1=>exact k
 |ct ρ1 S1=>exact k
 |rt x S1=>exact k
 |ex c S1=>exact k
def wA(h:RE K E te m)(hg:RG K E g g'):RS K E (znO te g) (zu m g'):=by
 walk_at "!f"
 .refine h E0 e1 λj1 H1 X1 E1 u hu=> ?_;rcases xk e with⟨ρ1,S2,e2,e⟩|⟨c,S2,e2,rfl⟩
  .cases e;exact hg E1 hu e2 λσ2 j2 H2 X2 E2=>k _ _ _ (X1.trans X2) E2
  exact hg E1 hu e2 (PX.mono k X1)
 exact h E0 e1 k
def VF(h:RE K E te m):RS K E (zm3 te) (Yo m):=by
 walk_at "!f"
 .cases e;exact h E0 e1 λj1 H1 X1 E1 u hu=>k _ _ _ X1 E1
 exact h E0 e1 k
def WX(h:RE K E te m):RS K E (zpi te) (zW m):=by
 walk_at "!f"
 .cases e;exact h E0 e1 λj1 H1 X1 E1 u hu=>k _ _ _ _ _ X1 E1 hu
 exact h E0 e1 k
def zdX(hc:RT K E c m)(ha:RS K E t a)(hb:RS K E u b):RS K E (zpj c t u) (sIf m a b):=by
 walk_at "!f"
 .refine hc E0 e1 λj1 H1 X1 E1=> ?_;cases x with
  |true=>exact ha E1 e (k.step X1)
  |false=>exact hb E1 e (k.step X1)
 exact hc E0 e1 k
def zoc(h:RL K E t (evL ms)):RS K E (zpm i m t) (zlP i m ms):=by
 intro F j D' σ H ρ S fl E0 e k;rcases xk e with⟨xs,S1,e1,e⟩|⟨c,S1,e1,rfl⟩
 .split at e;cases e;refine h E0 e1 λj1 H1 X1 E1 vs hv=> ?_;obtain⟨x,y,rfl,hx,hy⟩:=hv.d2;exact⟨x,y,rfl,k _ _ _ X1 ((E1.set hx).set hy)⟩;cases e
 exact h E0 e1 k
def zb2{go:Rho->Sto->pU Fl}(h:turn r go=dB fl):∃f,r=dB f/\((∃ρ S,(f= .nx ρ S\/f= .ct ρ S)/\go ρ S=dB fl)\/(∃ρ S,f= .bk ρ S/\fl= .nx ρ S)\/(f=fl/\((∃x S,fl= .rt x S)\/∃c S,fl= .ex c S))):=by
 cases r with
 |none=>cases h
 |some f=>refine⟨f,rfl,?_⟩;cases f with
  |nx ρ S=>exact .inl ⟨_,_,.inl rfl,h⟩
  |ct ρ S=>exact .inl ⟨_,_,.inr rfl,h⟩
  |bk ρ S=>cases h;exact .inr (.inl ⟨_,_,rfl,rfl⟩)
  |rt x S=>cases h;exact .inr (.inr ⟨rfl,.inl ⟨_,_,rfl⟩⟩)
  |ex c S=>cases h;exact .inr (.inr ⟨rfl,.inr ⟨_,_,rfl⟩⟩)
set_option tactic.hygienic true in
def zjo{wi:TI}{g:TG}{tb:TS}{m:TwI}{g':TwG}{b:TwS}(hi:RI K E wi m)(hg:RG K E g g')(hb:RS K E tb b):RS K E (zpn wi g tb) (Zr m g' b):=by
 intro F j D' σ H ρ S fl E0 e k;rcases xk e with⟨get,S1,e1,e⟩|⟨c,S1,e1,rfl⟩
 .refine hi E0 e1 λj1 H1 X1 E1 J ok=> ?_;cases eg:get S1 with
  |none=>rw[eg] at e;cases e
  |some xs=>
   rw[eg] at e;refine⟨λi n σ H=>∃j2 ρ2 S2,Ext j1 H1 j2 H/\En K F j2 H σ ρ2 S2/\WL get g' b n i ρ2 S2=dB fl,⟨xs.length+1,j1,ρ,S1,Ext.refl,E1,e⟩,?_⟩;rintro i n σ2 H2 ⟨j2,ρ2,S2,X2,E2,e2⟩;cases n with
   |zero=>cases e2
   |succ n=>
    unfold WL at e2;cases jW:get S2 with
    |none=>rw[jW] at e2;cases e2
    |some ys=>
     rw[jW] at e2;dsimp only[Er] at e2;obtain⟨go,stop⟩:=ok i X2 E2 jW;split at e2;split at e2;rename_i hl;cases e2;exact .inl ⟨stop hl,k _ _ _ (X1.trans X2) E2⟩;cases e2
     rename_i x ex;obtain⟨g1,g2⟩:=go x ex;refine .inr ⟨g1,λσ' H'=>∃j3 ρ3 S3,Ext j1 H1 j3 H'/\En K F j3 H' σ' ρ3 S3/\WL get g' b n (i+1) ρ3 S3=dB fl,λ_ _ z=>⟨n,CB _,z⟩,λv H3 hy=> ?_⟩;obtain⟨Sm,hv⟩:=g2 v H3 hy;have E3:=E2.heap Sm;have X3:Ext j2 H2 j2 H3:=Ext.same Sm;rcases xk e2 with⟨ρ4,S4,e4,e2⟩|⟨c,S4,e4,rfl⟩
     .refine hg E3 hv e4 λσ4 j4 H4 X4 E4=> ?_;obtain⟨f5,e5,h5⟩:=zb2 e2;refine hb E4 e5 ?_;have X14:=X2.trans (X3.trans X4);rcases h5 with⟨ρ6,S6,h6,e6⟩|⟨ρ6,S6,rfl,rfl⟩|⟨rfl,h6⟩
      .rcases h6 with rfl|rfl
       .exact λσ5 j5 H5 X5 E5=>⟨j5,ρ6,S6,X14.trans X5,E5,e6⟩
       exact λσ5 j5 H5 X5 E5=>⟨j5,ρ6,S6,X14.trans X5,E5,e6⟩
      .exact λσ5 j5 H5 X5 E5=>k _ _ _ (X1.trans (X14.trans X5)) E5
      rcases h6 with⟨x6,S6,rfl⟩|⟨c6,S6,rfl⟩
      .exact λv σ5 ρ5 j5 H5 X5 E5 hv=>k v σ5 ρ5 _ _ (X1.trans (X14.trans X5)) E5 hv
      exact PX.mono k (X1.trans X14)
     exact hg E3 hv e4 (PX.mono k (X1.trans (X2.trans X3)))
 exact hi E0 e1 k
def zdY{c:TT}{tb:TS}{m:TwT}{b:TwS}{n:Nat}(hc:RT K E c m)(hb:RS K E tb b):RS K E (zin c tb) (sWh n m b):=by
 intro F j D' σ H ρ S fl E0 e k;refine⟨λn σ2 H2=>∃j2 ρ2 S2,Ext j H j2 H2/\En K F j2 H2 σ2 ρ2 S2/\YI m b n ρ2 S2=dB fl,⟨n,j,ρ,S,Ext.refl,E0,e⟩,?_⟩;rintro n σ2 H2 ⟨j2,ρ2,S2,X2,E2,e2⟩;cases n with
 |zero=>cases e2
 |succ n=>
  unfold YI at e2;rcases xk e2 with⟨x,S3,e3,e2⟩|⟨c,S3,e3,rfl⟩
  .refine hc E2 e3 λj3 H3 X3 E3=> ?_;have X13:=X2.trans X3;cases x with
   |false=>cases e2;exact k _ _ _ X13 E3
   |true=>
    obtain⟨f5,e5,h5⟩:=zb2 e2;refine⟨λσ' H'=>∃j3 ρ3 S3,Ext j H j3 H'/\En K F j3 H' σ' ρ3 S3/\YI m b n ρ3 S3=dB fl,λσ' H' z=>⟨n,CB _,z⟩,hb E3 e5 ?_⟩;rcases h5 with⟨ρ6,S6,h6,e6⟩|⟨ρ6,S6,rfl,rfl⟩|⟨rfl,h6⟩
    .rcases h6 with rfl|rfl
     .exact λσ5 j5 H5 X5 E5=>⟨j5,ρ6,S6,X13.trans X5,E5,e6⟩
     exact λσ5 j5 H5 X5 E5=>⟨j5,ρ6,S6,X13.trans X5,E5,e6⟩
    .exact λσ5 j5 H5 X5 E5=>k _ _ _ (X13.trans X5) E5
    rcases h6 with⟨x6,S6,rfl⟩|⟨c6,S6,rfl⟩
    .exact λv σ5 ρ5 j5 H5 X5 E5 hv=>k v σ5 ρ5 _ _ (X13.trans X5) E5 hv
    exact PX.mono k X13
  exact hc E2 e3 (PX.mono k X2)
noncomputable def iL(m:TwE):TwI:=λρ S=>rb (m ρ S) λx S1=>(zA S1 x).map λ_=> .ok (λS=>zA S x) S1
def ZC(h:RE K E t m):RI K E (zio K t) (iL m):=by
 walk_at "!d"
 .cases el:zA S1 x with
  |none=>rw[el] at e;cases e
  |some l=>
   rw[el] at e;cases e;refine h En0 e1 λj1 H1 X1 E1 u hu=> ?_;obtain⟨a,vs,rfl,h1,_⟩:=E1.lstAt hu el;refine⟨a,rfl,⟨vs,h1.sql⟩,k _ _ X1 E1 _ ?_⟩;intro F2 j2 H2 σ2 ρ2 S2 xs i X2 E2 e2;obtain⟨a',ws,ea,g1,g2⟩:=E2.lstAt (hu.mono X2) e2;cases ea;refine⟨λy ey=> ?_,λhle=>⟨ws,g1.sql,by rw[g2.len];omega⟩⟩;obtain⟨w,f1,f2⟩:=g2.get ey;refine⟨⟨ws,w,g1.sql,f1⟩,?_⟩;rintro v' H' ⟨rfl,hx⟩;have:=hx ws g1.sql;rw[f1] at this;cases this;exact⟨vX.refl _,f2⟩
 exact h En0 e1 k
noncomputable def yw(lo':Int)(n:Nat):n8 Xv:=(BX n).map λ(k:Nat)=>Xv.int (lo'+(k:Int))
def iR1(m:TwE):TwI:=λρ S=>rb (m ρ S) λx S1=>match x with
 | .int j=>if -(2^62)<=j/\j<2^62 then dB (.ok (λ_=>dB (yw 0 j.toNat)) S1) else fC
 |_=>fC
def iR2(m n:TwE):TwI:=λρ S=>rb (m ρ S) λx S1=>rb (n ρ S1) λy S2=>match x,y with
 | .int i,.int j=>if -(2^62)<=i/\i<2^62/\ -(2^62)<=j/\j<2^62 then dB (.ok (λ_=>dB (yw i (j-i).toNat)) S2) else fC
 |_,_=>fC
def zdZ:zpI K j H (Itr lo' n) (λ_=>dB (yw lo' n)):=by
 intro F2 j2 H2 σ2 ρ2 S2 xs i X2 E2 e2;cases e2;refine⟨λd hd=> ?_,λhle=> ?_⟩
 .unfold yw at hd;rw[AW] at hd;have hi:i<n:=by
   apply Bv;intro hn;rw[Bu (by simp;omega)] at hd;cases hd
  rw[Cm hi] at hd;cases hd;refine⟨hi,?_⟩;rintro x H' ⟨rfl,rfl⟩;exact⟨vX.refl _,.int _⟩
 unfold yw at hle;simp at hle;show n<=i;omega
set_option tactic.hygienic true in
def Ws(h:RE K E t m):RI K E (zm4 (XB t zdI)) (iR1 m):=by
 walk_at "!d"
 .split at e
  .split at e
   .rename_i hb;cases e;exact h En0 e1 λj1 H1 X1 E1 u hu=>⟨_,by rw[hu.int_inv],hb.1,hb.2,k _ _ X1 E1 _ zdZ⟩
   cases e
  cases e
 exact h En0 e1 k
set_option tactic.hygienic true in
def zhD(h:RE K E t m)(h2:RE K E u n):RI K E (zm5 (XB t (XB u zdI))) (iR2 m n):=by
 walk_at "!d"
 .refine h En0 e1 λj1 H1 X1 E1 u hu=> ?_;rcases zo e with⟨y,S2,e2,e⟩|⟨c,S2,e2,rfl⟩
  .split at e
   .split at e
    .rename_i hb;cases e;exact h2 E1 e2 λj2 H2 X2 E2 w hw=>⟨_,_,by rw[hu.int_inv,hw.int_inv],hb,k _ _ (X1.trans X2) E2 _ zdZ⟩
    cases e
   cases e
  exact h2 E1 e2 (PX.mono k X1)
 exact h En0 e1 k
end
noncomputable def rn{α β:Type}(m:pU (Rs α))(f:α->Sto->pU β):pU β:=match m with
 |some (.ok a S)=>f a S
 |_=>fC
def zcP{α β:Type}{m:pU (Rs α)}{f:α->Sto->pU β}{r:β}(h:rn m f=dB r):∃a S,m=dB (.ok a S)/\f a S=dB r:=by
 unfold rn at h;split at h;exact⟨_,_,rfl,h⟩;cases h
noncomputable def zax(cap:n8 (pU Nat))(ρ:Rho):Rho:=cap.map λo=>o.bind λi=>(ρ[i]?).join
noncomputable def wT(get:Sto->pU (n8 Xv))(g:TwG)(c:TwT)(e:TwE)(ρc:Rho):Nat->Nat->n8 Xv->Sto->pU (Rs Xv)
 |0,_,_,_=>fC
 |f+1,i,es,S=>(get S).bind λxs=>match xs[i]? with
  |none=>if i=xs.length then dB (.ok (.ref S.length) (S++[.lst es])) else fC
  |some x=>rn (g x ρc S) λρ1 S1=>rn (c ρ1 S1) λb S2=>if b then rn (e ρ1 S2) λy S3=>if es.length<sizeLine then wT get g c e ρc f (i+1) (es++[y]) S3 else fC
    else wT get g c e ρc f (i+1) es S2
noncomputable def yq(cap:n8 (pU Nat))(m:TwI)(g:TwG)(c:TwT)(e:TwE):TwE:=λρ S=>rb (m ρ S) λget S1=>(get S1).bind λxs=>wT get g c e (zax cap ρ) (xs.length+1) 0 [] S1
noncomputable def yH:TwT:=λ_ S=>dB (.ok fN S)
section
variable{K:AO}{E:XK}{ρ ρ':Rho}{S S':Sto}
def wg:RT K E (λ_ H Q=>Q fN H) yH:=λE1 e k=>by
 cases e;exact k _ _ Ext.refl E1
def Td(j:n8 qo)(S:Sto)(a:qo):Prop:=∀(n:Nat) c,j[n]? =dB a->S[n]? =dB c->c.fz=fN
def En.notIn(E1:En K F j H σ ρ S)(h:H a=fC):Td j S a:=λn c e1 e2=>by
 cases z:c.fz with
 |true=>rfl
 |false=>
  obtain⟨o,e,_⟩:=(E1.cel n c a e2 e1).mu z;rw[h] at e;cases e
def En.outside(E1:En K F j H σ ρ S)(h:Td j S a)(h0:H a=dB o0)(m0:o0.mu=fN)(hf:F.H0 a=fC):En K F j (upd H a o) σ ρ S/\Ext j H j (upd H a o):=by
 have X:Ext j H j (upd H a o):=⟨λ_ _ e=>e,λb u e m=>by
  have:b≠a:=λq=>by subst q;rw[h0] at e;cases e;rw[m] at m0;cases m0
  rw[zi this];exact e⟩
 refine⟨⟨E1.len,λi x e=> ?_,E1.jl,E1.inj,λn c b e1 e2=> ?_,E1.ext.trans X,E1.old,E1.l0,λb u e=> ?_,E1.fresh,λb e=> ?_⟩,X⟩;obtain⟨v,e1,e2⟩:=E1.slot i x e;exact⟨v,e1,e2.mono X⟩;refine (E1.cel n c b e1 e2).mono X λz=>zi λq=> ?_;subst q;rw[h n c e2 e1] at z;cases z
 .have hb:b≠a:=λq=>by subst q;rw[hf] at e;cases e
  rcases E1.keep b u e with h|h;exact .inl (by rw[zi hb];exact h);exact .inr h
 have hb:b≠a:=λq=>by subst q;rw[zt] at e;cases e
 rw[zi hb] at e;exact E1.dom b e
def En.adopt(E1:En K F j H σ ρ S)(h:Td j S a)(hf:F.H0 a=fC)(hc:VC K (j++[a]) H a c):En K F (j++[a]) H σ ρ (S++[c])/\Ext j H (j++[a]) H:=by
 have X:Ext j H (j++[a]) H:=⟨λn b e=>by rw[B2 (AQ.1 e).1];exact e,xG.refl _⟩;have lt:∀{n:Nat} {d:Ce},S[n]? =dB d->n<S.length:=λe=>(AQ.1 e).1;have at_:∀{n:Nat} {b:qo} {d:Ce},(j++[a])[n]? =dB b->(S++[c])[n]? =dB d->(j[n]? =dB b/\S[n]? =dB d)\/(n=S.length/\b=a/\d=c):=λ{n b d} e1 e2=>by
  by_cases hn:n<S.length;rw[B2 hn] at e2;rw[B2 (by rw[E1.jl];exact hn)] at e1;exact .inl ⟨e1,e2⟩
  rw[B4 ⋯] at e2;rw[B4 (by rw[E1.jl];omega),E1.jl] at e1;cases hm:n-S.length with
  |zero=>rw[hm] at e1 e2;simp at e1 e2;exact .inr ⟨⋯,e1.symm,e2.symm⟩
  |succ m=>rw[hm] at e1;simp at e1
 refine⟨⟨E1.len,λi x e=> ?_,by simp[E1.jl],λn m b c1 c2 e1 e2 e3 e4 z1 z2=> ?_,λn d b e1 e2=> ?_,E1.ext.trans X,λn d e=> ?_,E1.l0,E1.keep,λn b hn e=> ?_,E1.dom⟩,X⟩;obtain⟨v,e1,e2⟩:=E1.slot i x e;exact⟨v,e1,e2.mono X⟩
 .rcases at_ e1 e3 with⟨f1,f2⟩|⟨f1,f2,f3⟩
  .rcases at_ e2 e4 with⟨g1,g2⟩|⟨g1,g2,g3⟩
   .exact E1.inj n m b c1 c2 f1 g1 f2 g2 z1 z2
   subst g2;rw[h n c1 f1 f2] at z1;cases z1
  rcases at_ e2 e4 with⟨g1,g2⟩|⟨g1,g2,g3⟩
  .subst f2;rw[h m c2 g1 g2] at z2;cases z2
  rw[f1,g1]
 .rcases at_ e2 e1 with⟨f1,f2⟩|⟨f1,rfl,rfl⟩
  .exact (E1.cel n d b f2 f1).mono X λ_=>rfl
  exact hc
 .obtain⟨d',e1,e2⟩:=E1.old n d e;exact⟨d',by rw[B2 (lt e1)];exact e1,e2⟩
 by_cases hm:n<j.length;rw[B2 hm] at e;exact E1.fresh n b hn e
 rw[B4 ⋯] at e;cases hk:n-j.length with
 |zero=>rw[hk] at e;simp at e;subst e;exact hf
 |succ m=>rw[hk] at e;simp at e
def zhE(E1:En K F j H σ ρ S):(vO cap σ).length=(zax cap ρ).length/\∀(i:Nat) x,(zax cap ρ)[i]? =dB (dB x)->∃v,(vO cap σ)[i]? =dB (dB v)/\Xis K j H x v:=by
 refine⟨by simp[vO,zax],λi x h=> ?_⟩;unfold zax at h;unfold vO;rw[AW] at h ⊢;cases e:cap[i]? with
 |none=>rw[e] at h;cases h
 |some o=>
  rw[e] at h;cases o with
  |none=>simp at h
  |some k=>
   simp only[Cd,B7,BG] at h ⊢;cases q:ρ[k]? with
   |none=>rw[q] at h;simp at h
   |some z=>
    rw[q] at h;simp at h;subst h;obtain⟨v,e1,e2⟩:=E1.slot k x q;exact⟨v,by rw[e1];rfl,e2⟩
set_option tactic.hygienic true in
def xQ(hi:RI K E wi m)(hg:RG K E0 g g')(hc:RT K E0 tt c)(he:RE K E0 te e):RE K E (ziT cap wi g tt te) (yq cap m g' c e):=by
 intro F j σ H ρ S r Q En0 h k;rcases zo h with⟨get,S1,e1,h⟩|⟨c1,S1,e1,rfl⟩
 .refine hi En0 e1 λj1 H1 X1 E1 J ok acc bQ=> ?_;cases eg:get S1 with
  |none=>rw[eg] at h;cases h
  |some xs=>
   rw[eg] at h;have hf:F.H0 acc=fC:=E1.dom acc bQ;obtain⟨Ea,Xa⟩:=E1.new (o:= .lst []) bQ
   refine⟨λi n ys H2=>∃j2 S2 es,Ext j1 H1 j2 H2/\En K F j2 H2 σ ρ S2/\H2 acc=dB (.lst ys)/\zG K j2 H2 es ys/\Td j2 S2 acc/\wT get g' c e (zax cap ρ) n i es S2=dB r,
    ⟨xs.length+1,j1,S1,[],Xa,Ea,zt,.nil,E1.notIn bQ,h⟩,?_⟩
   rintro i n ys H2 ⟨j2,S2,es,X2,E2,h2,dE,nin,e2⟩;cases n with
   |zero=>cases e2
   |succ n=>
    unfold wT at e2;cases jW:get S2 with
    |none=>rw[jW] at e2;cases e2
    |some zs=>
     rw[jW] at e2;dsimp only[Er] at e2;obtain⟨go,stop⟩:=ok i X2 E2 jW;split at e2;split at e2;rename_i hl;cases e2;obtain⟨E3,X3⟩:=E2.adopt (c:= .lst es) nin hf ⟨ys,h2,dE.mono ⟨λn b e=>by rw[B2 (AQ.1 e).1];exact e,xG.refl _⟩⟩;exact .inl ⟨stop hl,k _ _ (X1.trans (X2.trans X3)) E3 _ (.ref (by rw[<-E2.jl];simp))⟩;cases e2
     rename_i x ex;obtain⟨g1,g2⟩:=go x ex;refine .inr ⟨g1,λv H3 hy=> ?_⟩;obtain⟨Sm,hv⟩:=g2 v H3 hy;have E3:=E2.heap Sm;have X3:Ext j2 H2 j2 H3:=Ext.same Sm;have h3:H3 acc=dB (.lst ys):=Sm _ _ h2;obtain⟨cl,cs⟩:=zhE (cap:=cap) E3;have I0:=E3.enter cl cs;obtain⟨ρ4,S4,e4,e2⟩:=zcP e2;obtain⟨b,S5,e5,e2⟩:=zcP e2;have behind:∀{j6:n8 qo} {H6:Hp} {σ6:St} {ρ6:Rho} {S6:Sto},En K ⟨H3,j2,S2⟩ j6 H6 σ6 ρ6 S6->En K F j6 H6 σ ρ S6/\Ext j2 H2 j6 H6/\H6 acc=dB (.lst ys)/\Td j6 S6 acc:=λ{j6 H6 σ6 ρ6 S6} X=>by
      obtain⟨E6,X6⟩:=E3.leave X;refine⟨E6,X3.trans X6,?_,λn d q1 q2=> ?_⟩
      .rcases X.keep acc _ h3 with q|⟨n,d,q1,q2,q3⟩
       .exact q
       rw[nin n d q1 q2] at q3;cases q3
      by_cases hn:n<j2.length
      .have p1:j2[n]? =dB j2[n]:=AK hn;have p2:=X6.pre n _ p1;rw[q1] at p2;cases p2;have eJ:n<S2.length:=by rw[<-E2.jl];exact hn
       obtain⟨d',f1,_,f3⟩:=X.old n _ (AK eJ);rw[q2] at f1;cases f1;have hz:=nin n _ p1 (AK eJ);rw[f3 hz];exact hz
      have q:=X.fresh n acc (by dsimp only;omega) q1;have q:H3 acc=fC:=q;rw[h3] at q;cases q
     refine hg I0 hv e4 λσ4 j4 H4 X4 I4=>hc I4 e5 λj5 H5 X5 I5=> ?_;cases b with
     |true=>
      rw[if_pos rfl];rw[if_pos rfl] at e2;obtain⟨y,S6,e6,e2⟩:=zcP e2;split at e2;rename_i hsz;refine he I5 e6 λj6 H6 X6 I6 w hw=> ?_;obtain⟨E6,X26,h6,i6⟩:=behind I6;obtain⟨E7,X7⟩:=E6.outside (o:= .lst (ys++[w])) i6 h6 rfl hf;refine⟨h6,by rw[dE.len];exact hsz,n,CB _,j6,S6,es++[y],X2.trans (X26.trans X7),E7,zt,((dE.mono X26).append (.one hw)).mono X7,i6,e2⟩;cases e2
     |false=>
      rw[if_neg (by simp)];rw[if_neg (by simp)] at e2;obtain⟨E6,X26,h6,i6⟩:=behind I5;exact⟨n,CB _,j5,S5,es,X2.trans X26,E6,h6,dE.mono X26,i6,e2⟩
 exact hi En0 e1 k
def xH(h:RE K E (ziT cap wi g tt te) m):RS K E (zdT i cap wi g tt te) (zu m (gN i)):=by
 intro F j D' σ H ρ S fl E1 e k;rcases xk e with⟨x,S1,e1,e⟩|⟨c,S1,e1,rfl⟩
 .cases e;exact h (Q:=λv H2=>D'.nx (σ.set i (dB v)) H2) E1 e1 λj1 H1 X1 E1 u hu=>k _ _ _ X1 (E1.set hu)
 exact h (Q:=λv H2=>D'.nx (σ.set i (dB v)) H2) E1 e1 k
abbrev TwF:=n8 Xv->Sto->pU (Rs Xv)
noncomputable def zR(n k:Nat)(b:TwS):TwF:=λxs S=>if xs.length=n then match b (xs.map dB++B6 k fC) S with
  |some (.rt x S')=>dB (.ok x S')
  |some (.nx _ S')=>dB (.ok .non S')
  |some (.ex c S')=>dB (.ex c S')
  |_=>fC
 else fC
def zpP(K:AO)(F:Fm)(Q:VK)(E:XK):Rs Xv->Prop
 | .ok x S'=>∀v j' H' σ ρ,En K F j' H' σ ρ S'->Xis K j' H' x v->Q v H'
 | .ex c S'=>∀j' H' σ ρ C,En K F j' H' σ ρ S'->Bc K mainGlobals c=dB (dB (.ref C))->E (.ref C) fC H'
def sTw(K:AO)(n:Nat)(tw:TwF):Sp:=λvs H Q E=>vs.length=n/\∃(j:n8 qo) (S:Sto) (xs:n8 Xv) (r:Rs Xv),En K ⟨H,j,S⟩ j H (vs.map dB) (xs.map dB) S/\tw xs S=dB r/\zpP K ⟨H,j,S⟩ Q E r
def zno{N:n8 Str}{Q:VK}(hN:N.length=n+k)(h:RS K E t b)(hs:sTw K n (zR n k b) vs H Q E):t {nx:=λ_ H'=>Q .non H',rt:=Q} (Yh N vs) H:=by
 obtain⟨hn,j,S,xs,r,E1,e,ret⟩:=hs;have es:Yh N vs=vs.map dB++B6 k fC:=by
  unfold Yh;rw[hN,hn,Nat.add_sub_cancel_left]
 rw[es];change(if _ then _ else _)=_ at e;split at e;cases e1:b (xs.map dB++B6 k fC) S with
 |none=>rw[e1] at e;cases e
 |some f=>
  rw[e1] at e;cases f with
  |rt x S'=>cases e;exact h E1.grow e1 λv σ ρ j' H' X E' hv=>ret _ _ _ _ _ E' hv
  |nx ρ' S'=>cases e;exact h E1.grow e1 λσ j' H' X E'=>ret _ _ _ _ _ E' .non
  |ex c S'=>cases e;exact h E1.grow e1 λj' H' σ' ρ' C X E' hC=>ret _ _ _ _ _ E' hC
  |_=>cases e
 cases e
noncomputable def zB(tw:TwF)(ms:n8 TwE):TwE:=λρ S=>rb (evL ms ρ S) λxs S1=>tw xs S1
noncomputable def zay(tw:TwF)(ms:n8 TwE):TwE:=λρ S=>rb (evL ms ρ S) λxs S1=>match tw xs S1 with
 |some (.ok x S2)=>dB (.ok x S2)
 |_=>fC
def WY(hv:zG K j H xs vs):(vs.map dB).length=(xs.map dB).length/\∀(i:Nat) x,(xs.map dB)[i]? =dB (dB x)->∃v,(vs.map dB)[i]? =dB (dB v)/\Xis K j H x v:=by
 refine⟨by simp[hv.len],λi x h=> ?_⟩;rw[AW] at h ⊢;cases e:xs[i]? with
 |none=>rw[e] at h;cases h
 |some y=>
  rw[e] at h;simp at h;subst h;obtain⟨v,e1,e2⟩:=hv.get e;exact⟨v,by rw[e1];rfl,e2⟩
def Wt{Q:VK}(E1:En K F j H σ ρ S)(hv:zG K j H xs vs)(hn:vs.length=n)(et:tw xs S=dB r)(k:Po K F j H σ ρ E' (PoV K Q) r):sTw K n tw vs H Q E':=by
 obtain⟨l,s⟩:=WY hv;refine⟨hn,j,S,xs,r,E1.enter l s,et,?_⟩;cases r with
 |ok x S'=>
  intro v j' H' σ' ρ' X hx;obtain⟨E2,X2⟩:=E1.leave X;exact k j' H' X2 E2 v hx
 |ex c S'=>
  intro j' H' σ' ρ' C X hC;obtain⟨E2,X2⟩:=E1.leave X;exact k j' H' σ ρ C X2 E2 hC
def Wu(h:RL K E t (evL ms))(hn:ms.length=n:=by rfl):RE K E (zgj (sTw K n tw) [] E t) (zB tw ms):=by
 walk_at "!c"
 .refine h En0 e1 λj1 H1 X1 E1 vs hv=> ?_;rw[D2];exact Wt E1 hv (by rw[hv.len,YH e1,hn]) e (k.step X1)
 exact h En0 e1 k
set_option tactic.hygienic true in
def zaz(h:RL K E t (evL ms))(hn:ms.length=n:=by rfl):RE K E (zgj (sTw K n tw) [] E0 t) (zay tw ms):=by
 walk_at "!c"
 .refine h En0 e1 λj1 H1 X1 E1 vs hv=> ?_;rw[D2];split at e;rename_i x S2 e2;cases e;exact Wt E1 hv (by rw[hv.len,YH e1,hn]) e2 (λj' H' X E2 v hw=>k _ _ (X1.trans X) E2 v hw);cases e
 exact h En0 e1 k
end
end L2
variable{ρ:L2.Rho}{S:L2.Sto}{P:L2.Xv->L2.Sto->Prop}{N:L2.Rho->L2.Sto->Prop}{R:L2.Xv->L2.Sto->Prop}
namespace L2
open PySem.Builtin.Int (intBits)
noncomputable def xI(g:Int->Int->Xv):Op2:=λx y S=>match x,y with
 | .int a,.int b=>dB (g a b,S)
 |_,_=>fC
noncomputable def xIC(c:Int->Int->Bool)(g:Int->Int->Xv):Op2:=λx y S=>match x,y with
 | .int a,.int b=>if c a b then dB (g a b,S) else fC
 |_,_=>fC
def vw:Op2:=xI λi j=> .int (i+j)
def Zy:Op2:=xI λi j=> .int (i-j)
def zbg:Op2:=xIC (λi j=>decide ((-(2^64)<i/\i<2^64)\/(-(2^64)<j/\j<2^64))) λi j=> .int (i*j)
def yk:Op2:=xIC (λi j=>decide (intBits i+intBits j<=134217728)) λi j=> .int (i*j)
def vP:Op2:=xIC (λ_ j=>decide (0<j)) λi j=> .int (i % j)
def Te:Op2:=xIC (λ_ j=>decide (0<j/\j<1073741824)) λi j=> .int (i / j)
def YJ:Op2:=xIC (λ_ j=>decide (j≠0/\intBits j<=9000)) λi j=> .int (i.fdiv j)
def zjp:Op2:=xIC (λi j=>decide (0<=j/\j<=1000000/\i.natAbs<2^64)) λi j=> .int (i^j.toNat)
def dLt:Op2:=xI λi j=> .bl (decide (i<j))
def dGt:Op2:=xI λi j=> .bl (decide (j<i))
def zbh:Op2:=xI λi j=> .bl (decide (i=j))
def WE:Op2:=xI λi j=> .bl (!decide (i=j))
noncomputable def Tv:Xv->Sto->pU (Xv×Sto):=λx S=>match x with
 | .int i=>dB (.int (-i),S)
 |_=>fC
section
variable{K:AO}{E:XK}{F:Fm}{j j':n8 qo}{H':Hp}{σ':St}{ρ':Rho}{S':Sto}{x:Xv}{v:V}{ta tb:TE}{a b:TwE}
def zjq{g:Int->Int->V}{g':Int->Int->Xv}(hg:∀i k j H,Xis K j H (g' i k) (g i k)):ZQ K (rI0 g) (xI g'):=by
 walk_at "!e";unfold xI at h;split at h;cases h;exact⟨_,_,hx.int_inv,hy.int_inv,k _ _ _ Ext.refl E1 (hg _ _ _ _)⟩;cases h
def zfi{C:Int->Int->Prop}{c:Int->Int->Bool}{g:Int->Int->V}{g':Int->Int->Xv}(hc:∀i j,c i j=fN->C i j)(hg:∀i k j H,Xis K j H (g' i k) (g i k)):ZQ K (rI C g) (xIC c g'):=by
 walk_at "!e";unfold xIC at h;split at h;split at h;cases h;exact⟨_,_,hx.int_inv,hy.int_inv,hc _ _ (by assumption),k _ _ _ Ext.refl E1 (hg _ _ _ _)⟩;cases h;cases h
def zcQ{p:Int->Int->Bool}(ha:RE K E ta a)(hb:RE K E tb b):RE K E (zdF p ta tb) (eOp (xI λi j=> .bl (p i j)) a b):=
 yG (r:=rI0 λi j=> .bl (p i j)) (zjq λi k _ _=> .bl _) ha hb
def zaA:ZQ K (rI0 λi j=> .int (i+j)) vw:=zjq λ_ _ _ _=> .int _
def zcR:ZQ K (rI0 λi j=> .int (i-j)) Zy:=zjq λ_ _ _ _=> .int _
def zfj:ZQ K (rI ziq λi j=> .int (i*j)) zbg:=zfi (λi j h=>by simpa [ziq] using h) λ_ _ _ _=> .int _
def VG:ZQ K (rI zng λi j=> .int (i*j)) yk:=zfi (λi j h=>⟨intBits i,intBits j,B1 _,B1 _,by simpa using h⟩) λ_ _ _ _=> .int _
def zfk:ZQ K (rI (λ_ j=>0<j) λi j=> .int (i % j)) vP:=zfi (λi j h=>by simpa using h) λ_ _ _ _=> .int _
def zgz:ZQ K (rI znS λi j=> .int (i / j)) Te:=zfi (λi j h=>by simpa [znS] using h) λ_ _ _ _=> .int _
def zaB:ZQ K (rI ziX λi j=> .int (i.fdiv j)) YJ:=zfi (λi j h=>by simpa [ziX] using h) λ_ _ _ _=> .int _
def zjr:ZQ K (rI znT λi j=> .int (i^j.toNat)) zjp:=zfi (λi j h=>by simpa [znT] using h) λ_ _ _ _=> .int _
def zpQ(ha:RE K E ta a)(hb:RE K E tb b):RE K E (tLt ta tb) (eOp dLt a b):=zcQ ha hb
def zjs(ha:RE K E ta a)(hb:RE K E tb b):RE K E (tGt ta tb) (eOp dGt a b):=zcQ ha hb
def zjt(ha:RE K E ta a)(hb:RE K E tb b):RE K E (zpd ta tb) (eOp zbh a b):=zcQ ha hb
def zod(ha:RE K E ta a)(hb:RE K E tb b):RE K E (zpe ta tb) (eOp WE a b):=zcQ ha hb
def zaC:zpJ K (rU λi=> .int (-i)) Tv:=by
 intro F j σ H ρ S S' x z u Q E1 hx h k;unfold Tv at h;split at h;cases h;exact⟨_,hx.int_inv,k _ _ _ Ext.refl E1 (.int _)⟩;cases h
noncomputable def Tf:Op2:=λx y S=>match zA S x,zA S y with
 |some a,dB b=>if a.length+b.length<=sizeLine then dB (.ref S.length,S++[.lst (a++b)]) else fC
 |_,_=>fC
set_option tactic.hygienic true in
def TJ:ZQ K (znj K) Tf:=by
 walk_at "!e";unfold Tf at h;split at h;rename_i l1 l2 e1 e2;split at h;rename_i hz;cases h;obtain⟨p,xs,rfl,h1,h2⟩:=E1.lstAt hx e1;obtain⟨q,ys,rfl,g1,g2⟩:=E1.lstAt hy e2;refine⟨p,q,xs,ys,rfl,rfl,h1,g1,by rw[h2.len,g2.len];exact hz,λl hl=> ?_⟩;obtain⟨E2,X2,h3⟩:=E1.lst (h2.append g2) hl;exact k _ _ _ X2 E2 h3;cases h;cases h
noncomputable def zju(g:Int->Xv):Opn:=λxs S=>match xs with
 |[.int i]=>dB (g i,S)
 |_=>fC
def zlQ{g:Int->V}{g':Int->Xv}(hg:∀i j H,Xis K j H (g' i) (g i)):zcL K (λxs H Q=>∃i,xs=[V.int i]/\Q (g i) H) (zju g'):=by
 walk_at "!h";unfold zju at h;split at h;cases h;obtain⟨x,rfl,hx⟩:=hv.d1;exact⟨_,by rw[hx.int_inv],k _ _ _ Ext.refl E1 (hg _ _ _)⟩;cases h
def zcS:Opn:=zju λi=> .int (if i<0 then -i else i)
def zjv:zcL K (λxs H Q=>∃i,xs=[V.int i]/\Q (.int (if i<0 then -i else i)) H) zcS:=zlQ λ_ _ _=> .int _
noncomputable def xJ:Opn:=λxs S=>match xs with
 |[x]=>(Yn S x).map λl=>(.int l.length,S)
 |_=>fC
set_option tactic.hygienic true in
def zaD:zcL K (λxs H Q=>∃p ys,xs=[V.ref p]/\(SqL K H p ys\/SqT K H p ys)/\Q (.int ys.length) H) xJ:=by
 walk_at "!h";unfold xJ at h;split at h
 .rename_i x;cases e:Yn S x with
  |none=>rw[e] at h;cases h
  |some l=>
   rw[e] at h;cases h;obtain⟨w,rfl,hx⟩:=hv.d1;obtain⟨a,ws,rfl,h1,h2⟩:=E1.seqAt hx e;refine⟨a,ws,rfl,?_,k _ _ _ Ext.refl E1 (by rw[h2.len];exact .int _)⟩;rcases h1 with h1|h1;exact .inl h1.sql;exact .inr h1
 cases h
noncomputable def zd0:Opn:=λxs S=>match xs with
 |[x]=>(Yn S x).map λl=>(.ref S.length,S++[.lst l])
 |_=>fC
set_option tactic.hygienic true in
def zgA:zcL K (λxs H Q=>∃p ys,xs=[V.ref p]/\(SqL K H p ys\/SqT K H p ys)/\∀l,H l=fC->Q (.ref l) (upd H l (.lst ys))) zd0:=by
 walk_at "!h";unfold zd0 at h;split at h
 .rename_i x;cases e:Yn S x with
  |none=>rw[e] at h;cases h
  |some l=>
   rw[e] at h;cases h;obtain⟨w,rfl,hx⟩:=hv.d1;obtain⟨a,ws,rfl,h1,h2⟩:=E1.seqAt hx e;refine⟨a,ws,rfl,?_,λp hp=> ?_⟩;rcases h1 with h1|h1;exact .inl h1.sql;exact .inr h1;obtain⟨E2,X2,h3⟩:=E1.lst h2 hp;exact k _ _ _ X2 E2 h3
 cases h
noncomputable def XI:n8 Xv->pU (n8 Int)
 |[]=>dB []
 | .int i::r=>(XI r).map (i:: ·)
 |_::_=>fC
theorem zaE:∀{xs:n8 Xv} {ns:n8 Int} {vs:n8 V},XI xs=dB ns->zG K j H xs vs->vs=ns.map V.int
 |[],ns,vs,e,h=>by cases e;exact h.nil_inv
 |x::r,ns,vs,e,h=>by
  obtain⟨v,ws,rfl,h1,h2⟩:=h.cons_inv;cases x<;>simp only[XI,reduceCtorEq] at e
  cases e2:XI r with
  |none=>rw[e2] at e;cases e
  |some ms=>
   rw[e2] at e;cases e;rw[h1.int_inv,zaE e2 h2];rfl
def zhF(ns:n8 Int):XI (ns.map Xv.int)=dB ns:=by
 induction ns with
 |nil=>rfl
 |cons n r ih=>simp[XI,ih]
noncomputable def WM:n8 Xv->pU (n8 Bool)
 |[]=>dB []
 | .bl i::r=>(WM r).map (i:: ·)
 |_::_=>fC
theorem zd1:∀{xs:n8 Xv} {ns:n8 Bool} {vs:n8 V},WM xs=dB ns->zG K j H xs vs->vs=ns.map V.bl
 |[],ns,vs,e,h=>by cases e;exact h.nil_inv
 |x::r,ns,vs,e,h=>by
  obtain⟨v,ws,rfl,h1,h2⟩:=h.cons_inv;cases x<;>simp only[WM,reduceCtorEq] at e
  cases e2:WM r with
  |none=>rw[e2] at e;cases e
  |some ms=>
   rw[e2] at e;cases e;rw[h1.bl_inv,zd1 e2 h2];rfl
noncomputable def zd2:Opn:=λxs S=>match xs with
 |[x]=>((zA S x).bind XI).map λns=>(.int ns.sum,S)
 |_=>fC
set_option tactic.hygienic true in
def zjw:zcL K (zpC K) zd2:=by
 walk_at "!h";unfold zd2 at h;split at h
 .rename_i x;cases e:zA S x with
  |none=>rw[e] at h;cases h
  |some l=>
   rw[e] at h;cases e2:XI l with
   |none=>simp[e2] at h
   |some ns=>
    simp[e2] at h;obtain⟨rfl,rfl⟩:=h;obtain⟨w,rfl,hx⟩:=hv.d1;obtain⟨p,ws,rfl,h1,h2⟩:=E1.lstAt hx e;refine⟨p,ns,rfl,?_,k _ _ _ Ext.refl E1 (.int _)⟩;rw[<-zaE e2 h2];exact h1.sql
 cases h
noncomputable def zhG:Opn:=λxs S=>match xs with
 |[x]=>((zA S x).bind WM).map λns=>(.bl (ns.all id),S)
 |_=>fC
set_option tactic.hygienic true in
def zjx:zcL K (zpE K) zhG:=by
 walk_at "!h";unfold zhG at h;split at h
 .rename_i x;cases e:zA S x with
  |none=>rw[e] at h;cases h
  |some l=>
   rw[e] at h;cases e2:WM l with
   |none=>simp[e2] at h
   |some ns=>
    simp only[B7,e2,Cd,BG,GB] at h;obtain⟨rfl,rfl⟩:=h;obtain⟨w,rfl,hx⟩:=hv.d1;obtain⟨p,ws,rfl,h1,h2⟩:=E1.lstAt hx e;refine⟨p,ns,rfl,?_,k _ _ _ Ext.refl E1 (.bl _)⟩;rw[<-zd1 e2 h2];exact h1.sql
 cases h
set_option backward.eqns.nonrecursive false in
noncomputable def zd3(neg:Bool):Op2:=λx y S=>match x,y with
 | .int a,.int b=>dB (.bl (neg !=decide (a=b)),S)
 | .str a,.str b=>dB (.bl (neg !=decide (a=b)),S)
 | .bl a,.bl b=>dB (.bl (neg !=decide (a=b)),S)
 | .non,.non=>dB (.bl (neg !=fN),S)
 | .int _,.str _=>dB (.bl (neg !=kb),S)
 | .str _,.int _=>dB (.bl (neg !=kb),S)
 |_,_=>fC
def zjy:ZQ K rEq (zd3 kb):=by
 walk_at "!e";cases hx<;>cases hy<;>simp only[zd3,reduceCtorEq,BG,GB,Bool.false_bne] at h<;>obtain⟨rfl,rfl⟩:=h<;>refine⟨rfl,k _ _ _ Ext.refl E1 ?_⟩<;>simp<;>exact .bl _
def zjz:ZQ K rNe (zd3 fN):=by
 walk_at "!e";cases hx<;>cases hy<;>simp only[zd3,reduceCtorEq,BG,GB,Bool.true_bne] at h<;>obtain⟨rfl,rfl⟩:=h<;>refine⟨rfl,k _ _ _ Ext.refl E1 ?_⟩<;>simp<;>exact .bl _
noncomputable def ZD:Xv->Bool
 | .non=>fN
 | .bl _=>fN
 | .int _=>fN
 | .str _=>fN
 |_=>kb
noncomputable def zd4:Xv->Xv->Bool
 | .non,.non=>fN
 | .bl a,.bl b=>a==b
 | .bl a,.int b=>(if a then 1 else 0)==b
 | .int a,.bl b=>a==(if b then 1 else 0)
 | .int a,.int b=>a==b
 | .str a,.str b=>a==b
 |_,_=>kb
noncomputable def dIn(neg:Bool):Op2:=λx y S=>(Yn S y).bind λl=>if ZD x&&l.all ZD then dB (.bl (neg !=l.any λz=>zd4 z x),S) else fC
def zd5(h:Xis K j H x v):XC v=ZD x:=by cases h<;>rfl
def zoe(h:Xis K j H x v)(g:Xis K j H y w)(fx:ZD x=fN)(fy:ZD y=fN):eqV v w=zd4 x y:=by cases h<;>cases g<;>first|rfl|cases fx|cases fy
def zlR(h:zG K j H xs vs):vs.all XC=xs.all ZD:=
 h.ind (m:=λxs vs=>vs.all XC=xs.all ZD) rfl λh _ ih=>by rw[DR,DR,zd5 h,ih]
def zlS(hx:Xis K j H x v)(fx:ZD x=fN)(h:zG K j H xs vs):xs.all ZD=fN->inV v vs=xs.any λz=>zd4 z x:=
 h.ind (m:=λxs vs=>xs.all ZD=fN->inV v vs=xs.any λz=>zd4 z x) (λ_=>rfl) λh _ ih f=>by
  rw[DR,Cj] at f;have:=ih f.2;unfold inV at this ⊢;rw[D8,D8,zoe h hx f.1 fx,this]
set_option tactic.hygienic true in
def zpR:ZQ K (rIn K neg) (dIn neg):=by
 walk_at "!e";unfold dIn at h;cases e:Yn S y with
 |none=>rw[e] at h;cases h
 |some l=>
  rw[e] at h;dsimp only[Er] at h;split at h
  .rename_i hf;have hf:=Bool.and_eq_true_iff.1 hf;cases h;obtain⟨p,ws,rfl,h1,h2⟩:=E1.seqAt hy e;refine⟨p,ws,rfl,?_,by rw[zd5 hx];exact hf.1,by rw[zlR h2];exact hf.2,k _ _ _ Ext.refl E1 ?_⟩;rcases h1 with h1|h1;exact .inl h1.sql;exact .inr h1
   rw[zlS hx hf.1 h2 hf.2];cases neg<;>simp<;>exact .bl _
  cases h
theorem zNo{α}{P:Prop}{x:pU α}{b}(h:x=dB b)(e:x=fC):P:=by cases h.symm.trans e
noncomputable def vo(f:Xv->pU D):n8 Xv->pU (n8 D)
 |[]=>dB []
 |x::r=>(f x).bind λd=>(vo f r).map (d:: ·)
noncomputable def wf(S:Sto):Nat->Xv->pU D
 |0,x=>match x with
  | .non=>dB .non
  | .bl b=>dB (.bl b)
  | .int i=>dB (.int i)
  | .str s=>dB (.str s)
  |_=>fC
 |n+1,x=>match x with
  | .non=>dB .non
  | .bl b=>dB (.bl b)
  | .int i=>dB (.int i)
  | .str s=>dB (.str s)
  | .tup l=>(vo (wf S n) l).map .tup
  | .ct l=>(vo (wf S n) l).map .tup
  | .ref m=>(zA S (.ref m)).bind λl=>(vo (wf S n) l).map .lst
  | .lam _ _=>fC
def zaF{f:Xv->pU D}(hf:∀x v d,Xis K j H x v->f x=dB d->Is K H v d/\D.depth d<=n)(h:zG K j H xs vs):vo f xs=dB ds->IsL K H vs ds/\D.depths ds<=n:=
 h.ind (m:=λxs vs=>∀ds,vo f xs=dB ds->IsL K H vs ds/\D.depths ds<=n) (λds e=>by cases e;exact⟨.nil,by simp[D.depths]⟩) (λ{x v r vs} h l ih ds e=>by
  unfold vo at e;cases e1:f x with
  |none=>rw[e1] at e;cases e
  |some d=>
   rw[e1] at e;cases e2:vo f r with
   |none=>simp[e2] at e
   |some es=>
    simp[e2] at e;subst e;obtain⟨a1,a2⟩:=hf _ _ _ h e1;obtain⟨b1,b2⟩:=ih es e2
    exact⟨.cons a1 b1,by unfold D.depths;omega⟩) ds
theorem zcT(E1:En K F j H σ ρ S):∀(n:Nat) (x:Xv) (v:V) (d:D),Xis K j H x v->wf S n x=dB d->Is K H v d/\D.depth d<=n
 |0,x,v,d,h,e=>by
  cases h<;>first|exact zNo e rfl|(cases C0 e;exact⟨by constructor,by simp[D.depth]⟩)
 |n+1,x,v,d,h,e=>by
  have ih:=zcT E1 n;cases h with
  |non=>cases C0 e;exact⟨.non,by simp[D.depth]⟩
  |bl b=>cases C0 e;exact⟨.bl b,by simp[D.depth]⟩
  |int b=>cases C0 e;exact⟨.int b,by simp[D.depth]⟩
  |str b=>cases C0 e;exact⟨.str b,by simp[D.depth]⟩
  |lam h l=>exact zNo e rfl
  | @tup a vs l h1 h2=>
   change(vo _ _).map _=_ at e;cases e2:vo (wf S n) l with
   |none=>rw[e2] at e;cases e
   |some ds=>
    rw[e2] at e;cases e;obtain⟨a1,a2⟩:=zaF ih h2 e2;exact⟨.tup (SqT.of h1) a1,by unfold D.depth;omega⟩
  | @ct a vs l h1 h2=>
   change(vo _ _).map _=_ at e;cases e2:vo (wf S n) l with
   |none=>rw[e2] at e;cases e
   |some ds=>
    rw[e2] at e;cases e;obtain⟨a1,a2⟩:=zaF ih h2 e2;exact⟨.tup (h1 H) a1,by unfold D.depth;omega⟩
  | @ref m a h1=>
   change(zA _ _).bind _=_ at e;cases e1:zA S (.ref m) with
   |none=>rw[e1] at e;cases e
   |some l=>
    rw[e1] at e;cases e2:vo (wf S n) l with
    |none=>simp[e2] at e
    |some ds=>
     simp[e2] at e;subst e;obtain⟨a',vs,ea,g1,g2⟩:=E1.lstAt (.ref h1) e1;cases ea;obtain⟨a1,a2⟩:=zaF ih g2 e2;exact⟨.lst g1.sql a1,by unfold D.depth;omega⟩
noncomputable def D.many:D->Bool
 | .tup _=>fN
 | .lst _=>fN
 |_=>kb
set_option backward.eqns.nonrecursive false in
noncomputable def zjA(c:String)(S:Sto):Xv->pU Bool
 | .non=>dB kb
 | .int _=>dB (c=="int")
 | .bl _=>dB (c=="bool"||c=="int")
 | .str _=>dB (c=="str")
 | .tup _=>dB (c=="tuple")
 | .ct _=>dB (c=="tuple")
 | .ref n=>(zA S (.ref n)).map λ_=>c=="list"
 | .lam _ _=>fC
structure zaG(c:String):Prop where
 non:∀K,C2 K (.type "NoneType") (.type c)=dB kb
 bl:∀K,C2 K (.type "bool") (.type c)=dB (c=="bool"||c=="int")
 int:∀K,C2 K (.type "int") (.type c)=dB (c=="int")
 str:∀K,C2 K (.type "str") (.type c)=dB (c=="str")
 tup:∀K,C2 K (.type "tuple") (.type c)=dB (c=="tuple")
 lst:∀K,C2 K (.type "list") (.type c)=dB (c=="list")
def Zt(a b:String)(K:AO)(h1:(Value.type a==Value.type b)=kb)(h:(fastBuiltinMro a).map (·.contains (.type b))=dB kb)(hm:Dk b=fN):C2 K (.type a) (.type b)=dB kb:=zn4 h1 h hm rfl
def zgB:zaG "int":=⟨λK=>Zt _ _ K ∅ (*...*) (*...*),λK=>zcH,λK=>XE,λK=>Zt _ _ K ∅ (*...*) (*...*),λK=>Zt _ _ K ∅ (*...*) (*...*),λK=>Zt _ _ K ∅ (*...*) (*...*)⟩
def zd6:zaG "bool":=⟨λK=>Zt _ _ K ∅ (*...*) (*...*),λK=>XE,λK=>zcI,λK=>Zt _ _ K ∅ (*...*) (*...*),λK=>Zt _ _ K ∅ (*...*) (*...*),λK=>Zt _ _ K ∅ (*...*) (*...*)⟩
def zgC:zaG "str":=⟨λK=>Zt _ _ K ∅ (*...*) (*...*),λK=>Zt _ _ K ∅ (*...*) (*...*),λK=>Zt _ _ K ∅ (*...*) (*...*),λK=>XE,λK=>Zt _ _ K ∅ (*...*) (*...*),λK=>Zt _ _ K ∅ (*...*) (*...*)⟩
def zb3:zaG "tuple":=⟨λK=>Zt _ _ K ∅ (*...*) (*...*),λK=>Zt _ _ K ∅ (*...*) (*...*),λK=>Zt _ _ K ∅ (*...*) (*...*),λK=>Zt _ _ K ∅ (*...*) (*...*),λK=>XE,λK=>Zt _ _ K ∅ (*...*) (*...*)⟩
def zd7:zaG "list":=⟨λK=>Zt _ _ K ∅ (*...*) (*...*),λK=>Zt _ _ K ∅ (*...*) (*...*),λK=>Zt _ _ K ∅ (*...*) (*...*),λK=>Zt _ _ K ∅ (*...*) (*...*),λK=>Zt _ _ K ∅ (*...*) (*...*),λK=>XE⟩
noncomputable def Tw(c:String):Xv->Sto->pU (Xv×Sto):=λx S=>(zjA c S x).map λb=>(.bl b,S)
def zlT{c:String}(ok:zaG c)(E1:En K F j H σ ρ S){b:Bool}{Q:VK}(h:Xis K j H x v)(e:zjA c S x=dB b)(k:Q (.bl b) H):zlF K [v,.ty c] H Q:=by
 cases h with
 |non=>cases e;exact⟨_,_,_,_,_,rfl,rfl,.of .non,ok.non K,k⟩
 |bl b=>cases e;exact⟨_,_,_,_,_,rfl,rfl,.of (.bl b),ok.bl K,k⟩
 |int i=>cases e;exact⟨_,_,_,_,_,rfl,rfl,.of (.int i),ok.int K,k⟩
 |str z=>cases e;exact⟨_,_,_,_,_,rfl,rfl,.of (.str z),ok.str K,k⟩
 |tup h l=>cases e;exact⟨_,_,_,_,_,rfl,rfl,.sqt (SqT.of h),ok.tup K,k⟩
 |ct h l=>cases e;exact⟨_,_,_,_,_,rfl,rfl,.sqt (h H),ok.tup K,k⟩
 |lam h l=>cases e
 | @ref n a h=>
  simp only[zjA] at e;cases e1:zA S (.ref n) with
  |none=>rw[e1] at e;cases e
  |some l=>
   rw[e1] at e;cases e;obtain⟨a',vs,ea,g1,g2⟩:=E1.lstAt (.ref h) e1;cases ea;exact⟨_,_,_,_,_,rfl,rfl,.sql g1.sql,ok.lst K,k⟩
def zof(ok:zaG c)(h:RE K E t m):RE K E (tCB (zlF K) (XB t (XB (tC (.ty c)) zdI))) (eUn (Tw c) m):=by
 walk_at "!a"
 .obtain⟨z,S3,e3,rfl⟩:=Ym e;unfold Tw at e3;cases e4:zjA c S1 x with
  |none=>rw[e4] at e3;cases e3
  |some b=>
   rw[e4] at e3;cases e3;exact h En0 e1 λj1 H1 X1 E1 u hu=>zlT ok E1 hu e4 (k _ _ X1 E1 _ (.bl _))
 exact h En0 e1 k
noncomputable def Zf(xs:n8 Xv):n8 Xv:=xs.zipIdx.map λp=> .tup [.int (p.2:Int),p.1]
def zd8{xs:n8 Xv}{i:Nat}{y:Xv}(h:(Zf xs)[i]? =dB y):∃x,xs[i]? =dB x/\y= .tup [.int (i:Int),x]:=by
 unfold Zf at h;rw[AW,Gr] at h;cases e:xs[i]? with
 |none=>rw[e] at h;cases h
 |some x=>
  rw[e] at h;simp at h;exact⟨x,rfl,h.symm⟩
def zb4(xs:n8 Xv):(Zf xs).length=xs.length:=by simp[Zf]
def iEn(m:TwE):TwI:=λρ S=>rb (m ρ S) λx S1=>(zA S1 x).map λ_=> .ok (λS=>(zA S x).map Zf) S1
def zqz(Sm:vX H H')(hp:H' p=dB (.tup [.int i,w]))(h:Xis K j H y w):Xis K j H' (.tup [.int i,y]) (.ref p):=
 .tup hp (.cons (.int i) (.one (h.mono (Ext.same Sm))))
def zlU(h:RE K E t m):RI K E (znh K (XB t zdI)) (iEn m):=by
 walk_at "!d"
 .cases el:zA S1 x with
  |none=>rw[el] at e;cases e
  |some l=>
   rw[el] at e;cases e;refine h En0 e1 λj1 H1 X1 E1 u hu=> ?_;obtain⟨a,vs,rfl,h1,_⟩:=E1.lstAt hu el;refine⟨a,rfl,⟨vs,h1.sql⟩,k _ _ X1 E1 _ ?_⟩;intro F2 j2 H2 σ2 ρ2 S2 xs i X2 E2 e2;dsimp only at e2;cases gv:zA S2 x with
   |none=>rw[gv] at e2;cases e2
   |some l2=>
    rw[gv] at e2;cases e2;obtain⟨a',ws,ea,g1,g2⟩:=E2.lstAt (hu.mono X2) gv;cases ea;refine⟨λy ey=> ?_,λhle=>⟨ws,g1.sql,by rw[g2.len];rw[zb4] at hle;omega⟩⟩;obtain⟨y',ey',rfl⟩:=zd8 ey;obtain⟨w,f1,f2⟩:=g2.get ey';refine⟨⟨ws,w,g1.sql,f1⟩,?_⟩;rintro v' H' ⟨p,w',rfl,hp,rfl,hx⟩;have:=hx ws g1.sql;rw[f1] at this;cases this;exact⟨yB hp,zqz (yB hp) zt f2⟩
 exact h En0 e1 k
noncomputable def iRv(m:TwE):TwI:=λρ S=>rb (m ρ S) λx S1=>(zA S1 x).map λl=> .ok (λS=>(zA S x).bind λl2=>if l2.length=l.length then dB l2.reverse else fC) S1
set_option tactic.hygienic true in
def zlV(h:RE K E t m):RI K E (zpG K (XB t zdI)) (iRv m):=by
 walk_at "!d"
 .cases el:zA S1 x with
  |none=>rw[el] at e;cases e
  |some l=>
   rw[el] at e;cases e;refine h En0 e1 λj1 H1 X1 E1 u hu=> ?_;obtain⟨a,vs,rfl,h1,o6⟩:=E1.lstAt hu el;refine⟨a,vs,rfl,h1.sql,k _ _ X1 E1 _ ?_⟩;intro F2 j2 H2 σ2 ρ2 S2 xs i X2 E2 e2;dsimp only at e2;cases gv:zA S2 x with
   |none=>rw[gv] at e2;cases e2
   |some l2=>
    rw[gv] at e2;dsimp only[Er] at e2;split at e2
    .rename_i hl;cases e2;obtain⟨a',ws,ea,g1,g2⟩:=E2.lstAt (hu.mono X2) gv;cases ea;have n1:=o6.len;have n2:=g2.len;refine⟨λy ey=> ?_,λhle=> ?_⟩
     .have hi:i<l2.length:=by
       have:=(AQ.1 ey).1;simpa using this
      rw[Gj hi] at ey;obtain⟨w,f1,f2⟩:=g2.get ey;refine⟨⟨⋯,ws,g1.sql,⋯⟩,?_⟩;rintro v' H' ⟨rfl,hx⟩;have:=hx ws g1.sql;rw[show vs.length-1-i=l2.length-1-i by omega,f1] at this;cases this;exact⟨vX.refl _,f2⟩
     show i=vs.length;simp at hle;omega
    cases e2
 exact h En0 e1 k
end
end L2
namespace L2
set_option backward.eqns.nonrecursive false in
noncomputable def VH:Xv->pU Key
 | .int i=>dB (.inl i)
 | .str z=>dB (.inr z)
 |_=>fC
noncomputable def xR(S:Sto):Xv->pU (Nat×n8 (Key×Xv))
 | .ref n=>match S[n]? with
  |some (.dk kvs)=>dB (n,kvs)
  |_=>fC
 |_=>fC
noncomputable def zhH(S:Sto):Xv->pU (Nat×n8 (Key×Xv))
 | .ref n=>match S[n]? with
  |some (.dk kvs)=>dB (n,kvs)
  |some (.fdk kvs)=>dB (n,kvs)
  |_=>fC
 |_=>fC
noncomputable def vj{κ:Type}[DecidableEq κ](kvs:n8 (κ×Xv))(k:κ):pU Xv:=(kvs.find? λkv=>decide (kv.1=k)).map (·.2)
noncomputable def zhI{κ:Type}[DecidableEq κ](kvs:n8 (κ×Xv))(k:κ)(x:Xv):n8 (κ×Xv):=
 if (kvs.any λkv=>decide (kv.1=k))=fN then kvs.map (λkv=>if kv.1=k then (kv.1,x) else kv) else kvs++[(k,x)]
section
variable{K:AO}{E:XK}{F:Fm}{j:n8 qo}{x:Xv}{v:V}{κ:Type}
def VI(h:Xis K j H x v)(e:VH x=dB k):v=kV k:=by
 cases h<;>simp only[VH,BG,reduceCtorEq] at e<;>subst e<;>rfl
def Yp(h:xR S x=dB (n,kvs)):x= .ref n/\S[n]? =dB (.dk kvs):=by
 cases x<;>simp only[xR,reduceCtorEq] at h
 split at h;cases h;exact⟨rfl,by assumption⟩;cases h
def En.dk(E1:En K F j H σ ρ S)(hx:Xis K j H x v)(h:xR S x=dB (n,kvs)):∃a ks,v= .ref a/\j[n]? =dB a/\H a=dB (.dK ks)/\KX K j H kvs ks:=by
 obtain⟨rfl,hs⟩:=Yp h;obtain⟨a,rfl,hj⟩:=hx.ref_inv;obtain⟨ks,e1,e2⟩:=E1.cel _ _ _ hs hj;exact⟨a,ks,rfl,hj,e1,e2⟩
def zlW(h:xR S x=dB p):zhH S x=dB p:=by
 obtain⟨n,kvs⟩:=p;obtain⟨rfl,e⟩:=Yp h;unfold zhH;dsimp only;rw[e]
set_option tactic.hygienic true in
def En.dr(E1:En K F j H σ ρ S)(hx:Xis K j H x v)(h:zhH S x=dB (n,kvs)):∃a ks,v= .ref a/\j[n]? =dB a/\Rd H a (.dK ks)/\KX K j H kvs ks:=by
 cases x<;>simp only[zhH,reduceCtorEq] at h
 obtain⟨a,rfl,hj⟩:=hx.ref_inv;split at h;rename_i hs;cases h;obtain⟨ks,e1,e2⟩:=E1.cel _ _ _ hs hj;exact⟨a,ks,rfl,hj,.inl e1,e2⟩;rename_i hs;cases h;obtain⟨o,ks,e1,e2⟩:=E1.cel _ _ _ hs hj;exact⟨a,ks,rfl,hj,.inr ⟨o,e1⟩,e2⟩;cases h
def Tr.r{a:qo}{kvs:n8 (Key×V)}{k:Key}(e:Rd H a (.dK kvs)):Tr H a (kV k) (Zi kvs k):= .inl ⟨kvs,k,e,rfl,rfl⟩
def KX.len{kvs:n8 (κ×Xv)}{ks:n8 (κ×V)}(h:KX K j H kvs ks):ks.length=kvs.length:=by
 induction h with
 |nil=>exact rfl
 |cons h _ ih=>exact congrArg (· +1) ih
def KX.keys{kvs:n8 (κ×Xv)}{ks:n8 (κ×V)}(h:KX K j H kvs ks):ks.map (·.1)=kvs.map (·.1):=by
 induction h with
 |nil=>exact rfl
 |cons h _ ih=>exact by rw[Be,Be,ih]
def KX.val[DecidableEq κ]{k:κ}{kvs:n8 (κ×Xv)}{ks:n8 (κ×V)}(h:KX K j H kvs ks):(∀y,vj kvs k=dB y->∃w,Zi ks k=dB w/\Xis K j H y w)/\(vj kvs k=fC->Zi ks k=fC):=by
 induction h with
 |nil=>exact⟨λ_ e=>by simp[vj] at e,λ_=>rfl⟩
 | @cons k1 y1 w1 r rs h l ih=>
  obtain⟨i1,i2⟩:=ih;by_cases e:k1=k;subst e;refine⟨λy ey=> ?_,λey=> ?_⟩;simp[vj] at ey;subst ey;exact⟨w1,by simp[Zi],h⟩;simp[vj] at ey
  have e1:vj ((k1,y1)::r) k=vj r k:=by simp[vj,Ct,e]
  have e2:Zi ((k1,w1)::rs) k=Zi rs k:=by simp[Zi,Ct,e]
  rw[e1,e2];exact⟨i1,i2⟩
def KX.append{kvs r:n8 (κ×Xv)}{ks rs:n8 (κ×V)}(h:KX K j H kvs ks)(g:KX K j H r rs):KX K j H (kvs++r) (ks++rs):=by
 induction h with
 |nil=>exact g
 |cons h _ ih=>exact .cons h ih
def KX.any{f:κ->Bool}(h:KX K j H kvs ks):(ks.any λp=>f p.1)=kvs.any λp=>f p.1:=by
 induction h with
 |nil=>rfl
 |cons h _ ih=>rw[D8,D8,ih]
set_option tactic.hygienic true in
def KX.put[DecidableEq κ]{k:κ}(hx:Xis K j H x v){kvs:n8 (κ×Xv)}{ks:n8 (κ×V)}(h:KX K j H kvs ks):KX K j H (zhI kvs k x) (Ur ks k v):=by
 unfold zhI Ur;rw[h.any (f:=λa=>decide (a=k))];split
 .rename_i hc;clear hc
  induction h with
  |nil=>exact .nil
  | @cons k1 y w r rs h l ih=>
   rw[Be,Be];by_cases e:k1=k;rw[if_pos e,if_pos e];exact .cons hx ih;rw[if_neg e,if_neg e];exact .cons h ih
 exact h.append (.cons hx .nil)
def En.wdk(E1:En K F j H σ ρ S)(h:xR S x=dB (n,kvs))(hj:j[n]? =dB a)(hw:KX K j H kvs' ws):En K F j (upd H a (.dK ws)) σ ρ (S.set n (.dk kvs'))/\Ext j H j (upd H a (.dK ws)):=
 E1.write (Yp h).2 rfl hj rfl λX=>⟨ws,zt,hw.mono X⟩
noncomputable def zcU:TwE:=λ_ S=>dB (.ok (.ref S.length) (S++[.dk []]))
def zlX:RE K E ziK zcU:=by
 intro F j σ H ρ S r Q En0 e k p hp;cases e;have X:Ext j H (j++[p]) (upd H p (.dK [])):=⟨λn a e=>by rw[B2 (AQ.1 e).1];exact e,xG.same (yB hp)⟩;obtain⟨E1,_⟩:=En0.cell (o:= .dK []) (c:= .dk []) hp ⟨[],zt,.nil⟩;exact k _ _ X E1 _ (.ref (by rw[<-En0.jl];simp))
def zgD(d k:TwE):TwE:=λρ S=>rb (d ρ S) λx S1=>rb (k ρ S1) λy S2=>match zhH S2 x,VH y with
 |some (_,kvs),dB key=>(vj kvs key).map λz=> .ok z S2
 |_,_=>fC
set_option tactic.hygienic true in
def zlY(hd:RE K E td d)(hk:RE K E ty k):RE K E (znc td ty) (zgD d k):=by
 walk_at "!g"
 .refine hd En0 e1 λj1 H1 X1 E1 u hu=> ?_;rcases zo e with⟨y,S2,e2,e⟩|⟨c,S2,e2,rfl⟩
  .refine hk E1 e2 λj2 H2 X2 E2 w hw=> ?_;split at e
   .rename_i n kvs key ed ek;cases ev:vj kvs key with
    |none=>rw[ev] at e;cases e
    |some z=>
     rw[ev] at e;cases e;obtain⟨a,ks,rfl,hj,f1,f2⟩:=E2.dr (hu.mono X2) ed;obtain⟨z',g1,g2⟩:=f2.val.1 _ ev;refine⟨a,z',rfl,?_,kk _ _ (X1.trans X2) E2 _ g2⟩;rw[VI hw ek,<-g1];exact Tr.r f1
   cases e
  exact hk E1 e2 (PX.mono kk X1)
 exact hd En0 e1 kk
def zlZ(f1:H a=dB (.dK ks))(f2:KX K j H kvs ks):∃o,Tr H a (kV key) o/\o.isSome=(vj kvs key).isSome/\∀z zd,Xis K j H z zd->Xis K j H ((vj kvs key).getD z) (o.getD zd):=by
 refine⟨_,Tr.k f1,?_,λz zd hz=> ?_⟩
 .cases ev:vj kvs key with
  |none=>rw[f2.val.2 ev];rfl
  |some y=>obtain⟨w,g1,_⟩:=f2.val.1 _ ev;rw[g1];rfl
 cases ev:vj kvs key with
 |none=>rw[f2.val.2 ev];exact hz
 |some y=>obtain⟨w,g1,g2⟩:=f2.val.1 _ ev;rw[g1];exact g2
def zaH(d k z:TwE):TwE:=λρ S=>rb (d ρ S) λx S1=>(xR S1 x).bind λ_=>rb (k ρ S1) λy S2=>rb (z ρ S2) λw S3=>match xR S3 x,VH y with
 |some (_,kvs),dB key=>dB (.ok ((vj kvs key).getD w) S3)
 |_,_=>fC
set_option tactic.hygienic true in
def zjB(hd:RE K E td d)(hk:RE K E ty k)(hz:RE K E tx z):RE K E (ziL td ty tx) (zaH d k z):=by
 walk_at "!g"
 .refine hd En0 e1 λj1 H1 X1 E1 u hu=> ?_;cases g8:xR S1 x with
  |none=>rw[g8] at e;cases e
  |some p0=>
   walk_at "!i";refine⟨a,rfl,.inl ⟨k5,.inl f0⟩,?_⟩;rcases zo e with⟨y,S2,e2,e⟩|⟨c,S2,e2,rfl⟩
   .refine hk E1 e2 λj2 H2 X2 E2 w hw=> ?_;rcases zo e with⟨q,S3,e3,e⟩|⟨c,S3,e3,rfl⟩
    .refine hz E2 e3 λj3 H3 X3 E3 wq hq=> ?_;split at e;rename_i n kvs key ed ek;cases e;obtain⟨a',ks,ea,hj,f1,f2⟩:=E3.dk (hu.mono (X2.trans X3)) ed;cases ea;obtain⟨o,g1,_,g3⟩:=zlZ (key:=key) f1 f2;exact⟨o,by rw[VI hw ek];exact g1,kk _ _ (X1.trans (X2.trans X3)) E3 _ (g3 _ _ hq)⟩;cases e
    exact hz E2 e3 (PX.mono kk (X1.trans X2))
   exact hk E1 e2 (PX.mono kk X1)
 exact hd En0 e1 kk
def Uu(d k v:TwE):TwS:=λρ S=>sb (v ρ S) λz S1=>sb (d ρ S1) λx S2=>sb (k ρ S2) λy S3=>match xR S3 x,VH y with
 |some (n,kvs),dB key=>if kvs.length<sizeLine then dB (.nx ρ (S3.set n (.dk (zhI kvs key z)))) else fC
 |_,_=>fC
set_option tactic.hygienic true in
def zl0{td ty tv:TE}{d k v:TwE}(hd:RE K E td d)(hk:RE K E ty k)(hv:RE K E tv v):RS K E (znd td ty tv) (Uu d k v):=by
 intro F j D' σ H ρ S fl E0 e kk;rcases xk e with⟨z,S1,e1,e⟩|⟨c,S1,e1,rfl⟩
 .refine hv E0 e1 λj1 H1 X1 E1 wz t4=> ?_;rcases xk e with⟨x,S2,e2,e⟩|⟨c,S2,e2,rfl⟩
  .refine hd E1 e2 λj2 H2 X2 E2 u hu=> ?_;rcases xk e with⟨y,S3,e3,e⟩|⟨c,S3,e3,rfl⟩
   .refine hk E2 e3 λj3 H3 X3 E3 w hw=> ?_;split at e;rename_i n kvs key ed ek;split at e;rename_i hl;cases e;obtain⟨a,ks,rfl,hj,f1,f2⟩:=E3.dk (hu.mono X3) ed;obtain⟨E4,X4⟩:=E3.wdk ed hj (f2.put (k:=key) (t4.mono (X2.trans X3)));refine⟨a,_,rfl,?_,kk _ _ _ (X1.trans (X2.trans (X3.trans X4))) E4⟩;rw[VI hw ek];exact ziH.k f1 (by rw[f2.len];exact hl);cases e;cases e
   exact hk E2 e3 (PX.mono kk (X1.trans X2))
  exact hd E1 e2 (PX.mono kk X1)
 exact hv E0 e1 kk
noncomputable def zd9:Opn:=λxs S=>match xs with
 |[x]=>(xR S x).map λp=>(.int p.2.length,S)
 |_=>fC
set_option tactic.hygienic true in
def zl1:zcL K (λxs H Q=>∃a kvs,xs=[V.ref a]/\H a=dB (.dK kvs)/\Q (.int kvs.length) H) zd9:=by
 walk_at "!h";unfold zd9 at h;split at h
 .rename_i x;cases e:xR S x with
  |none=>rw[e] at h;cases h
  |some p=>
   obtain⟨n,kvs⟩:=p;rw[e] at h;cases h;obtain⟨w,rfl,hx⟩:=hv.d1;obtain⟨a,ks,rfl,hj,h1,h2⟩:=E1.dk hx e;exact⟨a,ks,rfl,h1,k _ _ _ Ext.refl E1 (by rw[h2.len];exact .int _)⟩
 cases h
def zqA(h:Rd H a (.dK ks)):tyV K "dict" (.ref a) H:= .inr (.inr (.inl ⟨rfl,.inl ⟨ks,h⟩⟩))
def tyD(h:H a=dB (.dK ks)):tyV K "dict" (.ref a) H:=zqA (.inl h)
end
open PySem.Builtin.Int (intBits)
def W{α:Type}(r:pU (Rs α))(P:α->Sto->Prop):Prop:=∃a S,r=dB (.ok a S)/\P a S
def WO(r:pU (Xv×Sto))(P:Xv->Sto->Prop):Prop:=∃a S,r=dB (a,S)/\P a S
def WS(r:pU Fl)(N:Rho->Sto->Prop)(R:Xv->Sto->Prop):Prop:=(∃ρ S,r=dB (.nx ρ S)/\N ρ S)\/∃x S,r=dB (.rt x S)/\R x S
section
variable{s t:TwS}{PB:Bool->Sto->Prop}{PL:n8 Xv->Sto->Prop}{PO:pU Int->Sto->Prop}
def W.of{α:Type}{r:pU (Rs α)}{a:α}{P:α->Sto->Prop}(e:r=dB (.ok a S))(h:P a S):W r P:=⟨a,S,e,h⟩
def WO.of(e:r=dB (x,S))(h:P x S):WO r P:=⟨x,S,e,h⟩
def W.imp{α:Type}{r:pU (Rs α)}{P Q:α->Sto->Prop}(h:W r P)(k:∀a S,P a S->Q a S):W r Q:=by
 obtain⟨a,S,e,h⟩:=h;exact⟨a,S,e,k _ _ h⟩
def WS.nx(e:r=dB (.nx ρ S))(h:N ρ S):WS r N R:= .inl ⟨ρ,S,e,h⟩
def WS.rt(e:r=dB (.rt x S))(h:R x S):WS r N R:= .inr ⟨x,S,e,h⟩
def W.bind{α β:Type}{r:pU (Rs α)}{f:α->Sto->pU (Rs β)}{P:β->Sto->Prop}(h:W r λa S=>W (f a S) P):W (rb r f) P:=by
 obtain⟨a,S,rfl,h⟩:=h;exact h
def WS.bind{α:Type}{r:pU (Rs α)}{f:α->Sto->pU Fl}(h:W r λa S=>WS (f a S) N R):WS (sb r f) N R:=by
 obtain⟨a,S,rfl,h⟩:=h;exact h
def W.okP(h:WO r P):W (okP r) P:=by
 obtain⟨a,S,rfl,h⟩:=h;exact⟨a,S,rfl,h⟩
def zjC(h:ρ[i]? =dB (dB d))(k:P d S):W (za i ρ S) P:= .of (by unfold za;rw[h]) k
def zqB(k:P d S):W (eC d ρ S) P:= .of rfl k
def wU(h:W (a ρ S) λx S1=>W (b ρ S1) λy S2=>WO (f x y S2) P):W (eOp f a b ρ S) P:=W.bind (h.imp λ_ _ h=>W.bind (h.imp λ_ _ h=>W.okP h))
def zpS{f:Xv->Sto->pU (Xv×Sto)}(h:W (a ρ S) λx S1=>WO (f x S1) P):W (eUn f a ρ S) P:=W.bind (h.imp λ_ _ h=>W.okP h)
def zjD(h:W (a ρ S) λx S1=>∃v,x= .bl v/\PB v S1):W (bE a ρ S) PB:=W.bind (h.imp λx S1 h=>by obtain⟨v,rfl,k⟩:=h;exact .of rfl k)
def zpT(h:W (c ρ S) λv S1=>P (.bl v) S1):W (eB c ρ S) P:=W.bind (h.imp λ_ _ k=> .of rfl k)
def zog(h:W (c ρ S) λv S1=>PB (!v) S1):W (WD c ρ S) PB:=W.bind (h.imp λ_ _ k=> .of rfl k)
def zfl(h:W (c ρ S) λv S1=>(v=fN->W (c2 ρ S1) PB)/\(v=kb->PB kb S1)):W (zjc c c2 ρ S) PB:=W.bind (h.imp λv S1 k=>by
 cases v with
 |true=>rw[if_pos rfl];exact k.1 rfl
 |false=>exact .of rfl (k.2 rfl))
def ZE(h:W (c ρ S) λv S1=>(v=fN->PB fN S1)/\(v=kb->W (c2 ρ S1) PB)):W (bOr c c2 ρ S) PB:=W.bind (h.imp λv S1 k=>by
 cases v with
 |true=>exact .of rfl (k.1 rfl)
 |false=>rw[if_neg (by simp)];exact k.2 rfl)
def zcV(h:W (a ρ S) λx S1=>∃v,x= .bl v/\(v=fN->W (b ρ S1) P)/\(v=kb->P (.bl kb) S1)):W (zjd a b ρ S) P:=W.bind ((zjD h).imp λv S1 k=>by
 cases v with
 |true=>rw[if_pos rfl];exact k.1 rfl
 |false=>exact .of rfl (k.2 rfl))
def ZR(h:W (c ρ S) λv S1=>(v=fN->W (a ρ S1) P)/\(v=kb->W (b ρ S1) P)):W (eIf c a b ρ S) P:=W.bind (h.imp λv S1 k=>by
 cases v with
 |true=>rw[if_pos rfl];exact k.1 rfl
 |false=>rw[if_neg (by simp)];exact k.2 rfl)
def zfm(k:PL [] S):W (evL [] ρ S) PL:= .of rfl k
def yK(h:W (m ρ S) λd S1=>W (evL ms ρ S1) λds S2=>PL (d::ds) S2):W (evL (m::ms) ρ S) PL:=W.bind (h.imp λ_ _ h=>W.bind (h.imp λ_ _ k=> .of rfl k))
def zjE(h:W (evL ms ρ S) λds S1=>P (.tup ds) S1):W (Zq ms ρ S) P:=W.bind (h.imp λ_ _ k=> .of rfl k)
def zoh(h:W (evL ms ρ S) λds S1=>P (.ref S1.length) (S1++[.lst ds])):W (XF ms ρ S) P:=W.bind (h.imp λ_ _ k=> .of rfl k)
def zaI(h:W (evL ms ρ S) λds S1=>WO (f ds S1) P):W (eFn f ms ρ S) P:=W.bind (h.imp λ_ _ h=>W.okP h)
def zcW(h:W (evL ms ρ S) λds S1=>W (tw ds S1) P):W (zB tw ms ρ S) P:=W.bind h
def zoi(k:PO fC S):W (oNo ρ S) PO:= .of rfl k
def zjF(h:W (m ρ S) λx S1=>∃k,x= .int k/\PO (dB k) S1):W (zji m ρ S) PO:=W.bind (h.imp λx S1 h=>by obtain⟨v,rfl,k⟩:=h;exact .of rfl k)
def zpU{f:Xv->pU Int->pU Int->Sto->pU (Xv×Sto)}{lo hi:TwO}(h:W (m ρ S) λx S1=>W (lo ρ S1) λu S2=>W (hi ρ S2) λv S3=>WO (f x u v S3) P):W (eSl f m lo hi ρ S) P:=
 W.bind (h.imp λ_ _ h=>W.bind (h.imp λ_ _ h=>W.bind (h.imp λ_ _ h=>W.okP h)))
def WN(h:W (o ρ S) λx S1=>(∃l,zA S1 x=dB l)/\W (evL ms ρ S1) λys S2=>WO (f x ys S2) P):W (eMt f o ms ρ S) P:=W.bind (h.imp λx S1 h=>by
 obtain⟨⟨l,e⟩,h⟩:=h;rw[e,B7]
 exact W.bind (h.imp λ_ _ h=>W.okP h))
def zjG(k:P (.ref S.length) (S++[.dk []])):W (zcU ρ S) P:= .of rfl k
def zjH(h:W (a ρ S) λx S1=>W (b ρ S1) λy S2=>∃n kvs k z,zhH S2 x=dB (n,kvs)/\VH y=dB k/\vj kvs k=dB z/\P z S2):W (zgD a b ρ S) P:=
 W.bind (h.imp λ_ _ h=>W.bind (h.imp λ_ _ h=>by obtain⟨n,kvs,k,z,e1,e2,e3,q⟩:=h;rw[e1,e2];dsimp only;rw[e3];exact .of rfl q))
def zl2(h:W (a ρ S) λx S1=>W (b ρ S1) λy S2=>∃n kvs k z,xR S2 x=dB (n,kvs)/\VH y=dB k/\vj kvs k=dB z/\P z S2):W (zgD a b ρ S) P:=zjH (h.imp λ_ _ h=>h.imp λ_ _ ⟨n,kvs,k,z,e,r⟩=>⟨n,kvs,k,z,zlW e,r⟩)
def zea(h:W (a ρ S) λx S1=>(∃p,xR S1 x=dB p)/\W (b ρ S1) λy S2=>W (z ρ S2) λw S3=>∃n kvs k,xR S3 x=dB (n,kvs)/\VH y=dB k/\P ((vj kvs k).getD w) S3):W (zaH a b z ρ S) P:=
 W.bind (h.imp λx S1 h=>by
  obtain⟨⟨p,e0⟩,h⟩:=h;rw[e0,B7]
  exact W.bind (h.imp λ_ _ h=>W.bind (h.imp λ_ _ h=>by obtain⟨n,kvs,k,e1,e2,q⟩:=h;rw[e1,e2];exact .of rfl q)))
def zcX(h:W (m ρ S) λz S1=>W (a ρ S1) λx S2=>W (b ρ S2) λy S3=>∃n kvs k,xR S3 x=dB (n,kvs)/\VH y=dB k/\kvs.length<sizeLine/\N ρ (S3.set n (.dk (zhI kvs k z)))):WS (Uu a b m ρ S) N R:=
 WS.bind (h.imp λ_ _ h=>WS.bind (h.imp λ_ _ h=>WS.bind (h.imp λ_ _ h=>by obtain⟨n,kvs,k,e1,e2,e3,q⟩:=h;rw[e1,e2];dsimp only;rw[if_pos e3];exact .nx rfl q)))
def zJ(h:WS (s ρ S) (λρ1 S1=>WS (t ρ1 S1) N R) R):WS (zm s t ρ S) N R:=by
 unfold zm;rcases h with⟨ρ1,S1,e,h⟩|⟨x,S1,e,h⟩
 .rw[e];exact h
 rw[e];exact .rt rfl h
def zN(h:N ρ S):WS (ye ρ S) N R:= .nx rfl h
def wa(h:W (m ρ S) λd S1=>N (ρ.set i (dB d)) S1):WS (zu m (gN i) ρ S) N R:=WS.bind (h.imp λ_ _ k=> .nx rfl k)
def Yq(h:W (m ρ S) λd S1=>W (a ρ S1) λx S2=>W (b ρ S2) λy S3=>∃n l q j,VD S3 x=dB (n,l)/\y= .int q/\ixN l.length q=dB j/\N ρ (S3.set n (.lst (l.set j d)))):WS (zu m (XH a b) ρ S) N R:=
 WS.bind (h.imp λd S1 h=>WS.bind (W.bind (h.imp λx S2 h=>W.bind (h.imp λy S3 h=>by
  obtain⟨n,l,q,j,e1,rfl,e2,k⟩:=h;rw[e1];dsimp only;rw[e2]
  exact .of rfl (.nx rfl k)))))
def YK(h:W (m ρ S) λ_ S1=>N ρ S1):WS (Yo m ρ S) N R:=WS.bind (h.imp λ_ _ k=> .nx rfl k)
def wB(h:W (m ρ S) λd S1=>R d S1):WS (zW m ρ S) N R:=WS.bind (h.imp λ_ _ k=> .rt rfl k)
def yc(h:W (c ρ S) λv S1=>(v=fN->WS (s ρ S1) N R)/\(v=kb->WS (t ρ S1) N R)):WS (sIf c s t ρ S) N R:=WS.bind (h.imp λv S1 k=>by
 cases v with
 |true=>rw[if_pos rfl];exact k.1 rfl
 |false=>rw[if_neg (by simp)];exact k.2 rfl)
def zjI(h:W (evL ms ρ S) λl S1=>∃x y,l=[x,y]/\N ((ρ.set i (dB x)).set k (dB y)) S1):WS (zlP i k ms ρ S) N R:=WS.bind (h.imp λl S1 h=>by
 obtain⟨x,y,rfl,q⟩:=h
 exact .nx rfl q)
def vZ(I:Rho->Sto->Prop)(h:WS r I R)(k:∀ρ S,I ρ S->N ρ S):WS r N R:=by
 rcases h with⟨ρ,S,e,h⟩|h;exact .inl ⟨ρ,S,e,k ρ S h⟩;exact .inr h
def zjJ(h:WS (YI c s n ρ S) N R):WS (sWh n c s ρ S) N R:=h
def YL(h:W (c ρ S) λv S1=>(v=fN->WS (s ρ S1) (λρ2 S2=>WS (YI c s n ρ2 S2) N R) R)/\(v=kb->N ρ S1)):WS (YI c s (n+1) ρ S) N R:=by
 unfold YI;refine WS.bind (h.imp λv S1 k=> ?_);cases v with
 |true=>
  rw[if_pos rfl];rcases k.1 rfl with⟨ρ2,S2,e2,h⟩|⟨x,S2,e2,h⟩
  .rw[e2];exact h
  rw[e2];exact .rt rfl h
 |false=>exact .nx rfl (k.2 rfl)
def xg(h:W (n ρ S) λget S1=>∃xs,get S1=dB xs/\WS (WL get g s (xs.length+1) 0 ρ S1) N R):WS (Zr n g s ρ S) N R:=WS.bind (h.imp λget S1 h=>by
 obtain⟨xs,e,h⟩:=h;rw[e,B7]
 exact h)
def yE{get:Sto->pU (n8 Xv)}(J:Nat->Rho->Sto->Prop)(hg:∀i ρ S,i<=xs.length->J i ρ S->get S=dB xs)
  (h:∀(i:Nat) (x:Xv) ρ S,xs[i]? =dB x->J i ρ S->W (g x ρ S) λρ1 S1=>WS (s ρ1 S1) (λρ2 S2=>J (i+1) ρ2 S2) R) (h0:J 0 ρ S) (k:∀ρ S,J xs.length ρ S->N ρ S):WS (WL get g s (xs.length+1) 0 ρ S) N R:=by
 have aux:∀(n i:Nat) (ρ:Rho) (S:Sto),i+n=xs.length->J i ρ S->WS (WL get g s (n+1) i ρ S) N R:=by
  intro n
  induction n with
  |zero=>
   intro i ρ S e hj;unfold WL;rw[hg i ρ S ⋯ hj,B7,Bu ⋯];dsimp only;rw[if_pos ⋯];exact .nx rfl (k ρ S (by rw[show xs.length=i by omega];exact hj))
  |succ n ih=>
   intro i ρ S e hj;unfold WL;have hi:i<xs.length:=by omega
   rw[hg i ρ S ⋯ hj,B7,AK hi];refine WS.bind ((h i _ ρ S (AK hi) hj).imp λρ1 S1 h1=> ?_);rcases h1 with⟨ρ2,S2,e2,h2⟩|⟨x,S2,e2,h2⟩
   .rw[e2];exact ih (i+1) ρ2 S2 ⋯ h2
   rw[e2];exact .rt rfl h2
 exact aux xs.length 0 ρ S ⋯ h0
def xB(h:W (m ρ S) λx S1=>∃l,zA S1 x=dB l/\Q' (λS=>zA S x) S1):W (iL m ρ S) Q':=W.bind (h.imp λx S1 h=>by
 obtain⟨l,e,k⟩:=h;rw[e]
 exact .of rfl k)
def zjK{Q':(Sto->pU (n8 Xv))->Sto->Prop}(h:W (m ρ S) λx S1=>∃l,zA S1 x=dB l/\Q' (λS=>(zA S x).map Zf) S1):W (iEn m ρ S) Q':=W.bind (h.imp λx S1 h=>by
 obtain⟨l,e,k⟩:=h;rw[e]
 exact .of rfl k)
def WZ{Q':(Sto->pU (n8 Xv))->Sto->Prop}(h:W (m ρ S) λx S1=>∃k:Int,x= .int k/\(-(2^62)<=k/\k<2^62)/\Q' (λ_=>dB (yw 0 k.toNat)) S1):W (iR1 m ρ S) Q':=W.bind (h.imp λx S1 h=>by
 obtain⟨k,rfl,hk,q⟩:=h;dsimp only;rw[if_pos hk]
 exact .of rfl q)
def xS{lo:Int}{n i:Nat}{x:Xv}(h:(yw lo n)[i]? =dB x):i<n/\x= .int (lo+i):=by
 unfold yw at h;rw[AW] at h;have hi:i<n:=by
  apply Bv;intro hn;rw[Bu (by simp;omega)] at h;cases h
 rw[Cm hi] at h;cases h;exact⟨hi,rfl⟩
def yx{lo:Int}{n:Nat}:(yw lo n).length=n:=by simp[yw]
def yd(h:W (n ρ S) λget S1=>∃xs,get S1=dB xs/\W (wT get g c m (zax cap ρ) (xs.length+1) 0 [] S1) P):W (yq cap n g c m ρ S) P:=W.bind (h.imp λget S1 h=>by
 obtain⟨xs,e,h⟩:=h;rw[e,B7]
 exact h)
def zZ{get:Sto->pU (n8 Xv)}(hl:xs.length<=sizeLine)(J:Nat->n8 Xv->Sto->Prop)(hg:∀i es S,i<=xs.length->J i es S->get S=dB xs)
  (h:∀(i:Nat) (x:Xv) es S,xs[i]? =dB x->es.length=i->J i es S->W (g x ρc S) λρ1 S1=>W (c ρ1 S1) λb S2=>b=fN/\W (m ρ1 S2) λy S3=>J (i+1) (es++[y]) S3) (h0:J 0 [] S)
  (k:∀es S,es.length=xs.length->J xs.length es S->P (.ref S.length) (S++[.lst es])):W (wT get g c m ρc (xs.length+1) 0 [] S) P:=by
 have aux:∀(n i:Nat) (es:n8 Xv) (S:Sto),i+n=xs.length->es.length=i->J i es S->W (wT get g c m ρc (n+1) i es S) P:=by
  intro n
  induction n with
  |zero=>
   intro i es S e el hj;unfold wT;rw[hg i es S ⋯ hj,B7,Bu ⋯];dsimp only;rw[if_pos ⋯];exact .of rfl (k es S ⋯ (by rw[show xs.length=i by omega];exact hj))
  |succ n ih=>
   intro i es S e el hj;unfold wT;have hi:i<xs.length:=by omega
   rw[hg i es S ⋯ hj,B7,AK hi];obtain⟨ρ1,S1,e1,b,S2,e2,rfl,y,S3,e3,q⟩:=h i _ es S (AK hi) el hj;dsimp only[rn];rw[e1];dsimp only[rn];rw[e2];dsimp only[rn];rw[if_pos rfl,e3];dsimp only[rn];rw[if_pos ⋯];exact ih (i+1) (es++[y]) S3 ⋯ (by simp[el]) q
 exact aux xs.length 0 [] S ⋯ rfl h0
def zl3(k:PB fN S):W (yH ρ S) PB:= .of rfl k
def zoj{ρ0:Rho}(hn:xs.length=n)(h0:xs.map dB++B6 k fC=ρ0)(h:WS (s ρ0 S) (λ_ S1=>P .non S1) P):W (zR n k s xs S) P:=by
 unfold zR;rw[if_pos hn,h0];rcases h with⟨ρ,S1,e,h⟩|⟨x,S1,e,h⟩
 .rw[e];exact .of rfl h
 rw[e];exact .of rfl h
def zok(k:P (.int (p+q)) S):WO (vw (.int p) (.int q) S) P:= .of rfl k
def zol(k:P (.int (p-q)) S):WO (Zy (.int p) (.int q) S) P:= .of rfl k
def zom(k:P (.int (-p)) S):WO (Tv (.int p) S) P:= .of rfl k
def zpV(k:P (.bl (decide (p<q))) S):WO (dLt (.int p) (.int q) S) P:= .of rfl k
def zpW(k:P (.bl (decide (q<p))) S):WO (dGt (.int p) (.int q) S) P:= .of rfl k
def zon(k:P (.bl (decide (p=q))) S):WO (zbh (.int p) (.int q) S) P:= .of rfl k
def zoo(k:P (.bl (!decide (p=q))) S):WO (WE (.int p) (.int q) S) P:= .of rfl k
def xy(h:0<q)(k:P (.int (p % q)) S):WO (vP (.int p) (.int q) S) P:= .of (by unfold vP xIC;exact if_pos (by simpa using h)) k
def zl4(h:intBits p+intBits q<=134217728)(k:P (.int (p*q)) S):WO (yk (.int p) (.int q) S) P:= .of (by unfold yk xIC;exact if_pos (by simpa using h)) k
def zop(h:(-(2^64)<p/\p<2^64)\/(-(2^64)<q/\q<2^64))(k:P (.int (p*q)) S):WO (zbg (.int p) (.int q) S) P:= .of (by unfold zbg xIC;exact if_pos (decide_eq_true h)) k
def zoq(h:0<=q/\q<=1000000/\p.natAbs<2^64)(k:P (.int (p^q.toNat)) S):WO (zjp (.int p) (.int q) S) P:= .of (by unfold zjp xIC;exact if_pos (decide_eq_true h)) k
def zgE(h:0<q/\q<1073741824)(k:P (.int (p / q)) S):WO (Te (.int p) (.int q) S) P:= .of (by unfold Te xIC;exact if_pos (decide_eq_true h)) k
def zjL(h:q≠0/\intBits q<=9000)(k:P (.int (p.fdiv q)) S):WO (YJ (.int p) (.int q) S) P:= .of (by unfold YJ xIC;exact if_pos (decide_eq_true h)) k
def yW(h:zA S x=dB l)(k:P (.int l.length) S):WO (xJ [x] S) P:= .of (by
 unfold xJ Yn;dsimp only;have:x.tupOf=fC:=by cases x<;>first|rfl|cases h
 rw[this];dsimp only;rw[h]
 rfl) k
def yy(h:zA S x=dB l)(e:atI l p=dB z)(k:P z S):WO (yY x (.int p) S) P:= .of (by unfold yY;rw[h];dsimp only;rw[e];rfl) k
def xm(h:x.tupOf=dB l)(e:atI l p=dB z)(k:P z S):WO (yM x (.int p) S) P:= .of (by unfold yM;rw[h];dsimp only;rw[e];rfl) k
def zjM{β:Type}{x:β}{l:n8 β}:atI (x::l) 0=dB x:=by
 unfold atI ixN;rw[if_pos (show(0:Int)<=0 by decide),if_pos (by simp only[Bo];omega)];rfl
def zpX{β:Type}{x y:β}{l:n8 β}:atI (x::y::l) 1=dB y:=by
 unfold atI ixN;rw[if_pos (show(0:Int)<=1 by decide),if_pos (by simp only[Bo];omega)];rfl
def zor(k:P x S):WO (yM (.tup (x::l)) (.int 0) S) P:=xm rfl zjM k
def zos(k:P y S):WO (yM (.tup (x::y::l)) (.int 1) S) P:=xm rfl zpX k
def yP{β:Type}{l:n8 β}{k:Int}{z:β}(h0:0<=k)(h:l[k.toNat]? =dB z):atI l k=dB z:=by
 have hk:=(AQ.1 h).1;unfold atI ixN;rw[if_pos h0,if_pos ⋯];exact h
def xT(h:VD S x=dB (n,l))(hz:l.length<sizeLine)(k:P .non (S.set n (.lst (l++[y])))):WO (xb x [y] S) P:= .of (by unfold xb;rw[h];dsimp only;rw[if_pos hz]) k
def zot{l:n8 Xv}{lo hi:pU Int}(h:zA S x=dB l)(k:P (.ref S.length) (S++[.lst (zhC l lo hi)])):WO (zfg x lo hi S) P:= .of (by unfold zfg;rw[h];rfl) k
def zl5(h:zA S x=dB l)(k:P (.ref S.length) (S++[.lst l])):WO (zd0 [x] S) P:= .of (by
 unfold zd0 Yn;dsimp only;have:x.tupOf=fC:=by cases x<;>first|rfl|cases h
 rw[this];dsimp only;rw[h]
 rfl) k
def zpY(h:Yn S y=dB l)(hf:(ZD x&&l.all ZD)=fN)(k:P (.bl (neg !=l.any λz=>zd4 z x)) S):WO (dIn neg x y S) P:= .of (by unfold dIn;rw[h,B7,if_pos hf]) k
def XJ{c:String}{v:Bool}(h:zjA c S x=dB v)(k:P (.bl v) S):WO (Tw c x S) P:= .of (by unfold Tw;rw[h];rfl) k
end
def yR(h:S[n]? =dB (.lst l)):VD S (.ref n)=dB (n,l):=by simp[VD,h]
def zb(h:S[n]? =dB (.lst l)):zA S (.ref n)=dB l:=by simp[zA,h]
def yS(h:S[n]? =dB (.dk l)):xR S (.ref n)=dB (n,l):=by simp[xR,h]
end L2
namespace L2
open PySem.Calls
section
variable{K:AO}{E:XK}
noncomputable def Yr(xs ys:n8 Xv):n8 Xv:=(xs.zip ys).map λp=> .tup [p.1,p.2]
def ZF{xs ys:n8 Xv}{i:Nat}{z:Xv}(h:(Yr xs ys)[i]? =dB z):∃x y,xs[i]? =dB x/\ys[i]? =dB y/\z= .tup [x,y]:=by
 unfold Yr at h;rw[AW] at h;cases e:(xs.zip ys)[i]? with
 |none=>rw[e] at h;cases h
 |some p=>
  rw[e] at h;cases h;have:=CH.1 e;exact⟨p.1,p.2,this.1,this.2,rfl⟩
def vQ(xs ys:n8 Xv):(Yr xs ys).length=min xs.length ys.length:=by simp[Yr]
def zbi(m n:TwE):TwI:=λρ S=>rb (m ρ S) λx S1=>rb (n ρ S1) λy S2=>match zA S2 x,zA S2 y with
 |some _,dB _=>dB (.ok (λS=>match zA S x,zA S y with
  |some l,dB k=>dB (Yr l k)
  |_,_=>fC) S2)
 |_,_=>fC
def zfn{ta tb:TE}{m n:TwE}(ha:RE K E ta m)(hb:RE K E tb n):RI K E (zni K (XB ta (XB tb zdI))) (zbi m n):=by
 walk_at "!d"
 .refine ha En0 e1 λj1 H1 X1 E1 u hu=> ?_;rcases zo e with⟨y,S2,e2,e⟩|⟨c,S2,e2,rfl⟩
  .cases el:zA S2 x with
   |none=>rw[el] at e;cases e
   |some l=>
    cases em:zA S2 y with
    |none=>rw[el,em] at e;cases e
    |some l'=>
     rw[el,em] at e;cases e;refine hb E1 e2 λj2 H2 X2 E2 v hv=> ?_;have qP:=hu.mono X2;obtain⟨a,vs,rfl,h1,_⟩:=E2.lstAt qP el;obtain⟨b,ws,rfl,h2,_⟩:=E2.lstAt hv em;refine⟨a,b,rfl,⟨vs,h1.sql⟩,⟨ws,h2.sql⟩,k _ _ (X1.trans X2) E2 _ ?_⟩;intro F3 j3 H3 σ3 ρ3 S3 xs i X3 E3 e3;dsimp only at e3;cases gv:zA S3 x with
     |none=>rw[gv] at e3;cases e3
     |some p1=>
      cases pQ:zA S3 y with
      |none=>rw[gv,pQ] at e3;cases e3
      |some p2=>
       rw[gv,pQ] at e3;cases e3;obtain⟨a',vs',ea,g1,g2⟩:=E3.lstAt (qP.mono X3) gv;cases ea;obtain⟨b',ws',eb,g3,g4⟩:=E3.lstAt (hv.mono X3) pQ;cases eb;refine⟨λz ez=> ?_,λhle=>⟨vs',ws',g1.sql,g3.sql,by rw[g2.len,g4.len];rw[vQ] at hle;omega⟩⟩;obtain⟨z1,z2,x3,v9,rfl⟩:=ZF ez;obtain⟨w1,f1,f2⟩:=g2.get x3;obtain⟨w2,f3,f4⟩:=g4.get v9;refine⟨⟨vs',ws',w1,w2,g1.sql,g3.sql,f1,f3⟩,?_⟩;rintro v' H' ⟨p,u',w',rfl,hp,rfl,hx,hy⟩;have q1:=hx vs' g1.sql;have q2:=hy ws' g3.sql;rw[f1] at q1;rw[f3] at q2;cases q1;cases q2;exact⟨yB hp,.tup zt (.cons (f2.mono (Ext.same (yB hp))) (.one (f4.mono (Ext.same (yB hp)))))⟩
  exact hb E1 e2 (PX.mono k X1)
 exact ha En0 e1 k
def Wv{Q':(Sto->pU (n8 Xv))->Sto->Prop} (h:W (m ρ S) λx S1=>W (n ρ S1) λy S2=>(∃l,zA S2 x=dB l)/\(∃k,zA S2 y=dB k)/\Q' (λS=>match zA S x,zA S y with
  |some l,dB k=>dB (Yr l k)
  |_,_=>fC) S2):W (zbi m n ρ S) Q':=W.bind (h.imp λx S1 h=>W.bind (h.imp λy S2 h=>by
 obtain⟨⟨l,e1⟩,⟨k,e2⟩,q⟩:=h;rw[e1,e2]
 exact .of rfl q))
def wj(h1:zA S x=dB l)(h2:zA S y=dB k):(match zA S x,zA S y with
  |some l,dB k=>dB (Yr l k)
  |_,_=>fC)=dB (Yr l k):=by rw[h1,h2]
end
noncomputable def XL(f:D->D->pU Bool):n8 D->n8 D->pU Bool
 |a::l,b::m=>(f a b).bind λx=>(XL f l m).map (x&& ·)
 |_,_=>dB fN
theorem ZG{f:D->D->pU Bool}:∀{l m:n8 D} {b:Bool},XL f l m=dB b->∃e:Nat->Bool,(∀(j:Nat) a c,l[j]? =dB a->m[j]? =dB c->f a c=dB (e j))/\b=(BX (min l.length m.length)).all e
 |[],m,b,h=>by
  unfold XL at h;cases h;exact⟨λ_=>fN,λj a c ha=>by simp at ha,by simp⟩
 |a::l,[],b,h=>by
  unfold XL at h;cases h;exact⟨λ_=>fN,λj a c ha hc=>by simp at hc,by simp⟩
 |a::l,c::m,b,h=>by
  unfold XL at h;cases e1:f a c with
  |none=>rw[e1] at h;cases h
  |some x=>
   rw[e1,B7] at h;cases e2:XL f l m with
   |none=>rw[e2] at h;cases h
   |some y=>
    rw[e2] at h;cases h;obtain⟨e,k,rfl⟩:=ZG e2
    refine⟨λj=>match j with
     |0=>x
     |j+1=>e j,λj p q hp hq=> ?_,?_⟩
    .cases j with
     |zero=>simp at hp hq;subst hp hq;exact e1
     |succ j=>exact k j p q (by simpa using hp) (by simpa using hq)
    rw[Bo,Bo,Nat.succ_min_succ,G8,DR,Ir];rfl
noncomputable def eqG:Nat->D->D->pU Bool
 |0,d,e=>match d,e with
  | .non,.non=>dB fN
  | .bl a,.bl b=>dB (a==b)
  | .int a,.int b=>dB (a==b)
  | .str a,.str b=>dB (a==b)
  |_,_=>fC
 |n+1,d,e=>match d,e with
  | .non,.non=>dB fN
  | .bl a,.bl b=>dB (a==b)
  | .int a,.int b=>dB (a==b)
  | .str a,.str b=>dB (a==b)
  | .tup l,.tup m=>(XL (eqG n) l m).map (· &&(l.length==m.length))
  | .lst l,.lst m=>if l.length=m.length then XL (eqG n) l m else dB kb
  |_,_=>fC
def zeQ{n}{d e:D}{b}(h:eqG n d e=dB b):(d=.non/\e=.non/\b=fN)\/(∃a c,d=.bl a/\e=.bl c/\b=(a==c))\/(∃a c,d=.int a/\e=.int c/\b=(a==c))\/(∃a c,d=.str a/\e=.str c/\b=(a==c))\/∃k l m,n=k+1/\(d=.tup l/\e=.tup m/\(XL (eqG k) l m).map (·&&(l.length==m.length))=dB b\/d=.lst l/\e=.lst m/\(if l.length=m.length then XL (eqG k) l m else dB kb)=dB b):=by
 cases n<;>cases d<;>cases e<;>first|exact zNo h rfl|exact .inl ⟨rfl,rfl,(C0 h).symm⟩|exact .inr (.inl ⟨_,_,rfl,rfl,(C0 h).symm⟩)|exact .inr (.inr (.inl ⟨_,_,rfl,rfl,(C0 h).symm⟩))|exact .inr (.inr (.inr (.inl ⟨_,_,rfl,rfl,(C0 h).symm⟩)))|exact .inr (.inr (.inr (.inr ⟨_,_,_,rfl,.inl ⟨rfl,rfl,h⟩⟩)))|exact .inr (.inr (.inr (.inr ⟨_,_,_,rfl,.inr ⟨rfl,rfl,h⟩⟩)))
def zhJ{e:Nat->Bool}(h:∀j,j<n->e j=fN):(BX n).all e=fN:=CO.2 λj hj=>h j (Cw.1 hj)
def zjN(I:Inv X pins σ H s):∀(n:Nat) {d e:D} {x:V} {b:Bool},eqG n d e=dB b->Is X.K H x d->Is X.K H x e->b=fN:=by
 intro n
 induction n using Nat.strongRecOn with
 |_ n ih=>
  intro d e x b h hx hy;rcases zeQ h with⟨rfl,rfl,rfl⟩|⟨a,c,rfl,rfl,rfl⟩|⟨a,c,rfl,rfl,rfl⟩|⟨a,c,rfl,rfl,rfl⟩|⟨n,l,m,rfl,hd⟩;rfl;rw[hx.bl_inv] at hy;cases hy;simp;rw[hx.int_inv] at hy;cases hy;simp;rw[hx.str_inv] at hy;cases hy;simp
  have ih:= @ih n (Nat.lt_succ_self n);have items:∀{xs:n8 V} {l m:n8 D} {b:Bool},XL (eqG n) l m=dB b->IsL X.K H xs l->IsL X.K H xs m->b=fN:=λ{xs l m b} ha hl hm=>by
   obtain⟨e,k,rfl⟩:=ZG ha;refine zhJ λj hj=> ?_;have h1:j<l.length:=by omega
   have h2:j<m.length:=by omega
   obtain⟨x,ia,fc⟩:=hl.get (AK h1);obtain⟨y,mF,eE⟩:=hm.get (AK h2);rw[ia] at mF;cases mF;exact ih (k j _ _ (AK h1) (AK h2)) fc eE
  clear h;rcases hd with⟨rfl,rfl,h⟩|⟨rfl,rfl,h⟩
  .cases ha:XL (eqG n) l m with
   |none=>rw[ha] at h;cases h
   |some b'=>
    rw[ha] at h;cases h;obtain⟨a,xs,rfl,h1,h2⟩:=hx.tup_inv;obtain⟨a',ys,e,g1,g2⟩:=hy.tup_inv;cases e;obtain rfl:=I.tuple_inj h1 g1;rw[items ha h2 g2];have e3:=h2.len;have e4:=g2.len;simp;omega
  obtain⟨a,xs,rfl,h1,h2⟩:=hx.lst_inv;obtain⟨a',ys,e,g1,g2⟩:=hy.lst_inv;cases e;obtain rfl:=I.list_inj h1 g1;have e3:=h2.len;have e4:=g2.len;rw[if_pos ⋯] at h;exact items h h2 g2
def Zn{e:Nat->Bool}(rx:zK xs ae)(ry:zK ys bp)(hx:IsL X.K H xs l)(hy:IsL X.K H ys m)
  (k:∀{x y:V} {u v:pW} {d d':D} {j:Nat},l[j]? =dB d->m[j]? =dB d'->Is X.K H x d->Is X.K H y d'->zE x u->zE y v->SeqAt.EqAt A.in1 s u v (e j)):
  ∀j (h1:j<ae.toArray.size) (h2:j<bp.toArray.size),SeqAt.EqAt A.in1 s ae.toArray[j] bp.toArray[j] (e j):=by
 intro j h1 h2;have e1:j<xs.length:=by rw[rx.length];simpa using h1
 have e2:j<ys.length:=by rw[ry.length];simpa using h2
 have el:j<l.length:=by rw[<-hx.len];exact e1
 have em:j<m.length:=by rw[<-hy.len];exact e2
 obtain⟨x,ia,fc⟩:=hx.get (i:=j) (d:=l[j]) (AK el);obtain⟨y,mF,eE⟩:=hy.get (i:=j) (d:=m[j]) (AK em);obtain⟨u,hu,ru⟩:=rx.get ia;obtain⟨v,hv,rv⟩:=ry.get mF;have g1:ae.toArray[j]=u:=by
  have:ae[j]? =dB ae[j]:=AK (by simpa using h1);rw[hu] at this;simpa using (C0 this).symm
 have g2:bp.toArray[j]=v:=by
  have:bp[j]? =dB bp[j]:=AK (by simpa using h2);rw[hv] at this;simpa using (C0 this).symm
 rw[g1,g2];exact k (AK el) (AK em) fc eE ru rv
def VJ(I:Inv X pins σ H s):∀(n:Nat) {A:Around} {d d':D} {x y:V} {u v:pW} {b:Bool},eqG n d d'=dB b->A.units+n<cLine->Is X.K H x d->Is X.K H y d'->zE x u->zE y v->SeqAt.EqAt A s u v b:=by
 intro n
 induction n using Nat.strongRecOn with
 |_ n ih=>
  intro A d d' x y u v b h hu hx hy ru rv;have iT:=λ(e:x=y)=>zjN I n h hx (e ▸ hy);rcases zeQ h with⟨rfl,rfl,rfl⟩|⟨a,c,rfl,rfl,rfl⟩|⟨a,c,rfl,rfl,rfl⟩|⟨a,c,rfl,rfl,rfl⟩|⟨n,l,m,rfl,hd⟩;rw[hx.non_inv] at ru;rw[hy.non_inv] at rv;cases ru;cases rv;exact SeqAt.EqAt.same _;rw[hx.bl_inv] at ru;rw[hy.bl_inv] at rv;cases ru;cases rv;exact SeqAt.EqAt.bool_bool _ _;rw[hx.int_inv] at ru;rw[hy.int_inv] at rv;obtain⟨t,rfl⟩:=ru;obtain⟨t',rfl⟩:=rv;exact SeqAt.EqAt.int_int _ _ _ _;rw[hx.str_inv] at ru;rw[hy.str_inv] at rv;obtain⟨t,rfl⟩:=ru;obtain⟨t',rfl⟩:=rv;exact SeqAt.EqAt.str_str _ _ _ _
  have ih:= @ih n (Nat.lt_succ_self n);clear h;rcases hd with⟨rfl,rfl,h⟩|⟨rfl,rfl,h⟩
  .cases ha:XL (eqG n) l m with
   |none=>rw[ha] at h;cases h
   |some b'=>
    rw[ha] at h;cases h;obtain⟨e,k,rfl⟩:=ZG ha;obtain⟨a,xs,rfl,h1,h2⟩:=hx.tup_inv;obtain⟨a',ys,rfl,g1,g2⟩:=hy.tup_inv;cases ru;cases rv;by_cases gu:a=a';subst gu;rw[iT rfl];exact SeqAt.EqAt.same _
    obtain⟨ae,r1,p1,_⟩:=I.tuple h1;obtain⟨bp,r2,p2,_⟩:=I.tuple g1;refine SeqAt.EqAt.of_refs gu ?_;have:=SeqAt.RcAt.tuples (A:=A) (e:=e) p1 p2 ⋯ (Zn r1 r2 h2 g2 λhi hj hx hy ru rv=>ih (A:=A.in1) (k _ _ _ hi hj) (by show A.units+1+n<cLine;omega) hx hy ru rv);have s1:ae.toArray.size=l.length:=by have e1:=r1.length;have e3:=h2.len;simp;omega
    have s2:bp.toArray.size=m.length:=by have e1:=r2.length;have e3:=g2.len;simp;omega
    rwa [s1,s2] at this
  .obtain⟨a,xs,rfl,h1,h2⟩:=hx.lst_inv;obtain⟨a',ys,rfl,g1,g2⟩:=hy.lst_inv;cases ru;cases rv;by_cases gu:a=a';subst gu;rw[iT rfl];exact SeqAt.EqAt.same _
   obtain⟨ae,r1,p1,_⟩:=I.list h1;obtain⟨bp,r2,p2,_⟩:=I.list g1;have s1:ae.toArray.size=l.length:=by have e1:=r1.length;have e3:=h2.len;simp;omega
   have s2:bp.toArray.size=m.length:=by have e1:=r2.length;have e3:=g2.len;simp;omega
   refine SeqAt.EqAt.of_refs gu ?_;split at h;rename_i iY;obtain⟨e,k,rfl⟩:=ZG h;have:=SeqAt.RcAt.lists (A:=A) (e:=e) p1.isList p2.isList ⋯ ⋯ (Zn r1 r2 h2 g2 λhi hj hx hy ru rv=>ih (A:=A.in1) (k _ _ _ hi hj) (by show A.units+1+n<cLine;omega) hx hy ru rv);rw[s1] at this;rwa [show min l.length m.length=l.length by omega];rename_i iY;cases h;exact SeqAt.RcAt.lists_lengths p1.isList p2.isList (by rw[s1,s2];simpa using iY) ⋯
def zou(K:AO)(neg:Bool):R2:=λx y H Q=>∃(d e:D) (b:Bool),(∃l m,(d= .tup l/\e= .tup m)\/(d= .lst l/\e= .lst m))/\Is K H x d/\Is K H y e/\eqG 40 d e=dB b/\Q (.bl (neg !=b)) H
set_option tactic.hygienic true in
def zfo{K:AO}(hr:xh k X.A)(hK:X.K=K:=by rfl):OpR X (compareOp .Eq) (zou K kb):=by
 subst hK;intro pins s σ H x y v u Q I rx ry h;obtain⟨d,e,b,⟨l,m,hd⟩,hx,hy,hb,q⟩:=h;have hu:X.A.units+41<cLine:=Bp ⋯ hr.units;rw[show(kb !=b)=b by cases b<;>rfl] at q;rcases hd with⟨rfl,rfl⟩|⟨rfl,rfl⟩
 .change(XL (eqG 39) l m).map _=_ at hb;cases ha:XL (eqG 39) l m with
  |none=>rw[ha] at hb;cases hb
  |some b'=>
   rw[ha] at hb;cases hb;obtain⟨e,k,rfl⟩:=ZG ha;obtain⟨a,xs,rfl,h1,h2⟩:=hx.tup_inv;obtain⟨a',ys,rfl,g1,g2⟩:=hy.tup_inv;cases rx;cases ry;obtain⟨ae,r1,p1,_⟩:=I.tuple h1;obtain⟨bp,r2,p2,_⟩:=I.tuple g1;have s1:ae.toArray.size=l.length:=by have e1:=r1.length;have e3:=h2.len;simp;omega
   have s2:bp.toArray.size=m.length:=by have e1:=r2.length;have e3:=g2.len;simp;omega
   refine SeqAt.eq_tupleAt (e:=e) p1 p2 ⋯ (Zn r1 r2 h2 g2 λhi hj hx hy ru rv=>VJ I 39 (A:=X.A.in1) (k _ _ _ hi hj) (by show X.A.units+1+39<cLine;omega) hx hy ru rv) ?_;rw[s1,s2];exact⟨.bl _,H,I,rfl,q⟩
 change(if _ then _ else _)=_ at hb;obtain⟨a,xs,rfl,h1,h2⟩:=hx.lst_inv;obtain⟨a',ys,rfl,g1,g2⟩:=hy.lst_inv;cases rx;cases ry;obtain⟨ae,r1,p1,_⟩:=I.list h1;obtain⟨bp,r2,p2,_⟩:=I.list g1;have s1:ae.toArray.size=l.length:=by have e1:=r1.length;have e3:=h2.len;simp;omega
 have s2:bp.toArray.size=m.length:=by have e1:=r2.length;have e3:=g2.len;simp;omega
 split at hb;rename_i iY;obtain⟨e,k,rfl⟩:=ZG hb;refine SeqAt.eq_listAt (e:=e) p1.isList p2.isList ⋯ ⋯ (Zn r1 r2 h2 g2 λhi hj hx hy ru rv=>VJ I 39 (A:=X.A.in1) (k _ _ _ hi hj) (by show X.A.units+1+39<cLine;omega) hx hy ru rv) ?_;rw[show min l.length m.length=l.length by omega] at q;rw[s1];exact⟨.bl _,H,I,rfl,q⟩;rename_i iY;cases hb;refine SeqAt.eq_list_lengthsAt p1.isList p2.isList (by rw[s1,s2];simpa using iY) ⋯ ?_;exact⟨.bl kb,H,I,rfl,q⟩
set_option tactic.hygienic true in
def zaJ{K:AO}(hr:xh k X.A)(hK:X.K=K:=by rfl):OpR X (compareOp .NotEq) (zou K fN):=by
 subst hK;intro pins s σ H x y v u Q I rx ry h;obtain⟨d,e,b,⟨l,m,hd⟩,hx,hy,hb,q⟩:=h;have hu:X.A.units+41<cLine:=Bp ⋯ hr.units;rw[show(fN !=b)= !b by cases b<;>rfl] at q;rcases hd with⟨rfl,rfl⟩|⟨rfl,rfl⟩
 .change(XL (eqG 39) l m).map _=_ at hb;cases ha:XL (eqG 39) l m with
  |none=>rw[ha] at hb;cases hb
  |some b'=>
   rw[ha] at hb;cases hb;obtain⟨e,k,rfl⟩:=ZG ha;obtain⟨a,xs,rfl,h1,h2⟩:=hx.tup_inv;obtain⟨a',ys,rfl,g1,g2⟩:=hy.tup_inv;cases rx;cases ry;obtain⟨ae,r1,p1,_⟩:=I.tuple h1;obtain⟨bp,r2,p2,_⟩:=I.tuple g1;have s1:ae.toArray.size=l.length:=by have e1:=r1.length;have e3:=h2.len;simp;omega
   have s2:bp.toArray.size=m.length:=by have e1:=r2.length;have e3:=g2.len;simp;omega
   refine SeqAt.RcNeAt.tuples (e:=e) p1 p2 ⋯ (Zn r1 r2 h2 g2 λhi hj hx hy ru rv=>VJ I 39 (A:=X.A.in1) (k _ _ _ hi hj) (by show X.A.units+1+39<cLine;omega) hx hy ru rv) _ _ _ _ ?_;rw[s1,s2];exact⟨.bl _,H,I,rfl,q⟩
 change(if _ then _ else _)=_ at hb;obtain⟨a,xs,rfl,h1,h2⟩:=hx.lst_inv;obtain⟨a',ys,rfl,g1,g2⟩:=hy.lst_inv;cases rx;cases ry;obtain⟨ae,r1,p1,_⟩:=I.list h1;obtain⟨bp,r2,p2,_⟩:=I.list g1;have s1:ae.toArray.size=l.length:=by have e1:=r1.length;have e3:=h2.len;simp;omega
 have s2:bp.toArray.size=m.length:=by have e1:=r2.length;have e3:=g2.len;simp;omega
 split at hb;rename_i iY;obtain⟨e,k,rfl⟩:=ZG hb;refine SeqAt.RcNeAt.lists (e:=e) p1.isList p2.isList ⋯ ⋯ (Zn r1 r2 h2 g2 λhi hj hx hy ru rv=>VJ I 39 (A:=X.A.in1) (k _ _ _ hi hj) (by show X.A.units+1+39<cLine;omega) hx hy ru rv) _ _ _ _ ?_;rw[show min l.length m.length=l.length by omega] at q;rw[s1];exact⟨.bl _,H,I,rfl,q⟩;rename_i iY;cases hb;refine SeqAt.RcNeAt.lists_lengths p1.isList p2.isList (by rw[s1,s2];simpa using iY) ⋯ _ _ _ _ ?_;exact⟨.bl fN,H,I,rfl,q⟩
end L2
namespace L2
open PySem.Calls PySem.W
section
variable{cmp:Nat->Nat->(Bool->pX->Prop)->pX->Prop}{r:Nat->Int}{n:Nat}
noncomputable def Kr(r:Nat->Int)(p:Array Nat)(i:Nat):Int:=r (p.getD i 0)
def XM(h:p[i]? =q[j]?):Kr r p i=Kr r q j:=by
 unfold Kr;rw[Fj,Fj,h]
def PmN(n:Nat)(p:Array Nat):Prop:=p.Perm (Iu (BX n))
def PmN.size(h:PmN n p):p.size=n:=by
 have:=Array.Perm.size_eq h;simpa using this
def PmN.lt{p:Array Nat}(h:PmN n p){i:Nat}(hi:i<n):p.getD i 0<n:=by
 have hs:=h.size;have iw:i<p.size:=by omega
 have e:p.getD i 0=p[i]:=by simp[HI,iw]
 rw[e];have:=(Array.Perm.mem_iff h).1 (Array.getElem_mem iw);simpa using this
def PmN.ne(h:PmN n p)(hi:i<n)(hj:j<n)(h9:i≠j):p.getD i 0≠p.getD j 0:=by
 have hs:=h.size;have iw:i<p.size:=by omega
 have gm:j<p.size:=by omega
 have nd:p.toList.Nodup:=by
  have:=Array.Perm.toList h;exact(this.nodup_iff).2 (by simpa using List.nodup_range)
 rw[show p.getD i 0=p.toList[i]'(by simpa using iw) by simp[HI,iw],show p.getD j 0=p.toList[j]'(by simpa using gm) by simp[HI,gm]];intro z;have nd:=List.pairwise_iff_getElem.1 nd;rcases Nat.lt_or_gt_of_ne h9 with h1|h1;exact nd i j (by simpa using iw) (by simpa using gm) h1 z;exact nd j i (by simpa using gm) (by simpa using iw) h1 z.symm
def PmN.rev(h:PmN n p)(i j:Nat):PmN n (kas_rev p i j):=(mirror_perm _ _ _ _).trans h
def PmN.bub(h:PmN n p)(k d:Nat):PmN n (bubble p k d):=(bubble_perm _ _ _).trans h
def zfp(hj:j<=p.size)(k:Nat):Kr r (kas_rev p i j) k=if i<=k/\k<j then Kr r p (i+j-1-k) else Kr r p k:=by
 have e:=getElem?_mirror_all (xs:=p) (i:=i) hj k;unfold kas_rev;by_cases h1:i<=k/\k<j;rw[if_pos h1] at e ⊢;exact XM e;rw[if_neg h1] at e ⊢;exact XM e
def zov(hs:src<p.size)(hd:d<=src)(k:Nat):Kr r (bubble p src d) k=if k=src-d then Kr r p src else if src-d<k/\k<=src then Kr r p (k-1) else Kr r p k:=by
 have e:=getElem?_bubble hs d hd k;by_cases h1:k=src-d;rw[if_pos h1] at e ⊢;exact XM e;rw[if_neg h1] at e ⊢;by_cases h2:src-d<k/\k<=src;rw[if_pos h2] at e ⊢;exact XM e;rw[if_neg h2] at e ⊢;exact XM e
set_option tactic.hygienic true in
def Uv(hj:j<=p.size)(he:∀k,i<=k->k<j->Kr r p k=Kr r p (j-1))(k:Nat):Kr r (kas_rev p i j) k=Kr r p k:=by
 rw[zfp hj];split;rename_i h;rw[he _ ⋯ ⋯,he k h.1 h.2];rfl
theorem zfq(hc:∀i j C,i<n->j<n->i≠j->C (decide (r i<r j)) s->cmp i j C s)(hp:PmN n p){Q:Nat->pX->Prop}:∀(f k:Nat),1<=k->k+f=n->
  (∀m,k<=m->m<=n->(∀i,k<=i->i<m->Kr r p (i-1)<=Kr r p i)->(m<n->Kr r p m<Kr r p (m-1))->Q m s)->(kas_asc p f k).kasWp cmp Q s
 |0,k,h1,hk,q=>q k (B1 _) ⋯ (λi a b=>by omega) (λz=>by omega)
 |f+1,k,h1,hk,q=>by
  unfold kas_asc;refine hc _ _ _ (hp.lt ⋯) (hp.lt ⋯) (hp.ne ⋯ ⋯ ⋯) ?_;by_cases h:Kr r p k<Kr r p (k-1);rw[show decide (r (p.getD k 0)<r (p.getD (k-1) 0))=fN from decide_eq_true h];dsimp only;rw[if_pos rfl];exact q k (B1 _) ⋯ (λi a b=>by omega) (λ_=>h);rw[show decide (r (p.getD k 0)<r (p.getD (k-1) 0))=kb from decide_eq_false h];dsimp only;rw[if_neg (by simp)];refine zfq hc hp f (k+1) ⋯ ⋯ λm a b c d=>q m ⋯ b (λi e g=> ?_) d;by_cases hi:i=k;subst hi;omega;exact c i ⋯ g
theorem TK(hc:∀i j C,i<n->j<n->i≠j->C (decide (r i<r j)) s->cmp i j C s){Q:Array Nat×Nat×Nat->pX->Prop}:∀(f:Nat) (p:Array Nat) (k q:Nat),PmN n p->1<=k->k+f=n->(∀i,1<=i->i<k->Kr r p i<=Kr r p (i-1))->(∀i,k-(q+1)<=i->i<k->Kr r p i=Kr r p (k-1))->q+1<=k->
  (∀p' k' q',PmN n p'->1<=k'->k'<=n->(∀i,1<=i->i<k'->Kr r p' i<=Kr r p' (i-1))->(∀i,k'-(q'+1)<=i->i<k'->Kr r p' i=Kr r p' (k'-1))->q'+1<=k'->Q (p',k',q') s)->(kas_desc f p k q).kasWp cmp Q s
 |0,p,k,q,hp,h1,hk,hd,he,hq,h=>h p k q hp h1 ⋯ hd he hq
 |f+1,p,k,q,hp,h1,hk,hd,he,hq,h=>by
  unfold kas_desc;refine hc _ _ _ (hp.lt ⋯) (hp.lt ⋯) (hp.ne ⋯ ⋯ ⋯) ?_;by_cases h2:Kr r p k<Kr r p (k-1)
  .rw[show decide (r (p.getD k 0)<r (p.getD (k-1) 0))=fN from decide_eq_true h2];dsimp only;rw[if_pos rfl];split
   .have hs:=hp.size;have ek:=Uv (r:=r) (p:=p) (i:=k-(q+1)) (j:=k) ⋯ he;refine TK hc f _ (k+1) 0 (hp.rev _ _) ⋯ ⋯ (λi a b=> ?_) (λi a b=> ?_) ⋯ h;rw[ek,ek];by_cases hi:i=k;subst hi;omega;exact hd i a ⋯
    have:i=k:=by omega
    subst this;simp
   refine TK hc f _ (k+1) 0 hp ⋯ ⋯ (λi a b=> ?_) (λi a b=> ?_) ⋯ h;by_cases hi:i=k;subst hi;omega;exact hd i a ⋯
   have:i=k:=by omega
   subst this;simp
  rw[show decide (r (p.getD k 0)<r (p.getD (k-1) 0))=kb from decide_eq_false h2];dsimp only;rw[if_neg (by simp)];refine hc _ _ _ (hp.lt ⋯) (hp.lt ⋯) (hp.ne ⋯ ⋯ ⋯) ?_;by_cases h3:Kr r p (k-1)<Kr r p k;rw[show decide (r (p.getD (k-1) 0)<r (p.getD k 0))=fN from decide_eq_true h3];dsimp only;rw[if_pos rfl];exact h p k q hp h1 ⋯ hd he hq;rw[show decide (r (p.getD (k-1) 0)<r (p.getD k 0))=kb from decide_eq_false h3];dsimp only;rw[if_neg (by simp)];refine TK hc f _ (k+1) (q+1) hp ⋯ ⋯ (λi a b=> ?_) (λi a b=> ?_) ⋯ h;by_cases hi:i=k;subst hi;omega;exact hd i a ⋯;rw[show k+1-1=k by omega];by_cases hi:i=k;rw[hi];have:=he i ⋯ ⋯;omega
def VL(r:Nat->Int)(p:Array Nat)(m:Nat):Prop:=∀i,1<=i->i<m->Kr r p (i-1)<=Kr r p i
def zeb(hc:∀i j C,i<n->j<n->i≠j->C (decide (r i<r j)) s->cmp i j C s){Q:Nat×Array Nat->pX->Prop}(hp:PmN n p)(h1:1<=k)(hk:k<=n)(hd:∀i,1<=i->i<k->Kr r p i<=Kr r p (i-1))
  (h:∀m p',PmN n p'->1<=m->m<=n->VL r p' m->Q (m,p') s):(kas_tail3 k n p).kasWp cmp Q s:=by
 unfold kas_tail3;rw[KasT.kasWp_bind];have hs:=hp.size;refine zfq hc (hp.rev 0 k) _ k h1 ⋯ λm a b c _=> ?_;refine h m _ (hp.rev 0 k) ⋯ b λi e g=> ?_;by_cases hi:i<k;rw[zfp ⋯,zfp ⋯,if_pos ⋯,if_pos ⋯];have:=hd (0+k-1-(i-1)) ⋯ ⋯;rw[show 0+k-1-(i-1)-1=0+k-1-i by omega] at this;exact this;exact c i ⋯ g
def Tg(hc:∀i j C,i<n->j<n->i≠j->C (decide (r i<r j)) s->cmp i j C s){Q:Nat×Array Nat->pX->Prop}(hp:PmN n p)(h1:1<=k)(hk:k<n)(hd:∀i,1<=i->i<k+1->Kr r p i<=Kr r p (i-1))
  (h:∀m p',PmN n p'->1<=m->m<=n->VL r p' m->Q (m,p') s):(kas_descPart k n p).kasWp cmp Q s:=by
 unfold kas_descPart;rw[KasT.kasWp_bind];have h0:∀i,k+1-(0+1)<=i->i<k+1->Kr r p i=Kr r p (k+1-1):=λi a b=>by
  have:i=k:=by omega
  subst this;simp
 refine TK hc (n-(k+1)) p (k+1) 0 hp ⋯ ⋯ hd h0 ⋯ λp' k' q' a b c d e g=> ?_;dsimp only;have hs:=a.size;split;have ek:=Uv (r:=r) (p:=p') (i:=k'-(q'+1)) (j:=k') ⋯ e;exact zeb hc (a.rev _ _) b c (λi x y=>by rw[ek,ek];exact d i x y) h;exact zeb hc a b c d h
theorem zgF(h:VL r p m):∀(d i:Nat),i+d<m->Kr r p i<=Kr r p (i+d)
 |0,i,_=>Es _
 |d+1,i,hd=>by
  have h1:=zgF h d i ⋯;have h2:=h (i+d+1) ⋯ ⋯;rw[show i+d+1-1=i+d by omega] at h2;exact D4 h1 h2
def zcY(h:VL r p m)(h9:i<=j)(hj:j<m):Kr r p i<=Kr r p j:=by
 have:=zgF h (j-i) i ⋯;rwa [show i+(j-i)=j by omega] at this
def zjO(hc:∀i j C,i<n->j<n->i≠j->C (decide (r i<r j)) s->cmp i j C s){Q:Nat×Array Nat->pX->Prop}(hp:PmN n p)(h1:1<=n)
  (h:∀m p',PmN n p'->1<=m->m<=n->VL r p' m->Q (m,p') s):(kas_count n p).kasWp cmp Q s:=by
 unfold kas_count;rw[KasT.kasWp_bind];refine zfq hc hp _ 1 ⋯ ⋯ λm a b c d=> ?_;have hs:=hp.size;by_cases hm:m=n;subst hm;rw[if_pos (by simp)];exact h m p hp a b c;rw[if_neg (by simpa using hm)];have hd:=d ⋯;by_cases h2:m>1
 .rw[if_pos h2];refine hc _ _ _ (hp.lt ⋯) (hp.lt ⋯) (hp.ne ⋯ ⋯ ⋯) ?_;by_cases h3:Kr r p 0<Kr r p (m-1);rw[show decide (r (p.getD 0 0)<r (p.getD (m-1) 0))=fN from decide_eq_true h3];dsimp only;rw[if_pos rfl];exact h m p hp a b c
  rw[show decide (r (p.getD 0 0)<r (p.getD (m-1) 0))=kb from decide_eq_false h3];dsimp only;rw[if_neg (by simp)];have he:∀i,0<=i->i<m->Kr r p i=Kr r p (m-1):=λi _ hi=>by
   have e1:=zcY (r:=r) c (show 0<=i by omega) hi;have e2:=zcY (r:=r) c (show i<=m-1 by omega) ⋯;omega
  have ek:=Uv (r:=r) (p:=p) (i:=0) (j:=m) ⋯ he;refine Tg hc (hp.rev _ _) ⋯ ⋯ (λi x y=> ?_) h;rw[ek,ek];by_cases hi:i=m;subst hi;omega;rw[he i ⋯ ⋯,he (i-1) ⋯ ⋯];exact Es _
 rw[if_neg h2];refine Tg hc hp ⋯ ⋯ (λi x y=> ?_) h;have:i=m:=by omega
 subst this;omega
set_option tactic.hygienic true in
theorem zaK(hc:∀i j C,i<n->j<n->i≠j->C (decide (r i<r j)) s->cmp i j C s){Q:Nat->pX->Prop}(hp:PmN n p)(hk:k<n)(ha:VL r p k):∀(f lo hi:Nat),lo<=hi->hi<=k->hi-lo<=f->(∀i,i<lo->Kr r p i<=Kr r p k)->(∀i,hi<=i->i<k->Kr r p k<Kr r p i)->
  (∀l,l<=k->(∀i,i<l->Kr r p i<=Kr r p k)->(∀i,l<=i->i<k->Kr r p k<Kr r p i)->Q l s)->(kas_place p k f lo hi).kasWp cmp Q s
 |0,lo,hi,h1,h2,h3,hl,hh,q=>by
  have:lo=hi:=by omega
  subst this;exact q lo h2 hl hh
 |f+1,lo,hi,h1,h2,h3,hl,hh,q=>by
  unfold kas_place;split
  .have:lo=hi:=by omega
   subst this;exact q lo h2 hl hh
  rename_i cJ;have m1:lo<=(lo+hi) / 2:=by omega
  have m2:(lo+hi) / 2<hi:=by omega
  refine hc _ _ _ (hp.lt ⋯) (hp.lt ⋯) (hp.ne ⋯ ⋯ ⋯) ?_;by_cases h4:Kr r p k<Kr r p ((lo+hi) / 2);rw[show decide (r (p.getD k 0)<r (p.getD ((lo+hi) / 2) 0))=fN from decide_eq_true h4];dsimp only;rw[if_pos rfl];refine zaK hc hp hk ha f lo _ m1 ⋯ ⋯ hl (λi a b=> ?_) q;have:=zcY ha a b;omega;rw[show decide (r (p.getD k 0)<r (p.getD ((lo+hi) / 2) 0))=kb from decide_eq_false h4];dsimp only;rw[if_neg (by simp)];refine zaK hc hp hk ha f _ hi ⋯ h2 ⋯ (λi a=> ?_) hh q;have:=zcY ha (show i<=(lo+hi) / 2 by omega) ⋯;omega
theorem zjP(hc:∀i j C,i<n->j<n->i≠j->C (decide (r i<r j)) s->cmp i j C s){Q:Array Nat->pX->Prop}:∀(f:Nat) (p:Array Nat) (k:Nat),PmN n p->k+f=n->VL r p k->(∀p',PmN n p'->VL r p' n->Q p' s)->(kas_bin f p k).kasWp cmp Q s
 |0,p,k,hp,hk,ha,h=>by
  have:k=n:=by omega
  subst this;exact h p hp ha
 |f+1,p,k,hp,hk,ha,h=>by
  unfold kas_bin;rw[KasT.kasWp_bind];have hs:=hp.size;refine zaK hc hp ⋯ ha k 0 k ⋯ (B1 _) ⋯ (λi a=>by omega) (λi a b=>by omega) λl a b c=> ?_;refine zjP hc f _ (k+1) (hp.bub _ _) ⋯ (λi x y=> ?_) h;have e:=λj=>zov (r:=r) (p:=p) (src:=k) (d:=k-l) ⋯ ⋯ j;rw[e,e,show k-(k-l)=l by omega];by_cases h1:i-1=l;rw[if_pos h1,if_neg ⋯,if_pos ⋯];have:=c (i-1) ⋯ ⋯;omega;rw[if_neg h1];by_cases h2:i=l;rw[if_neg ⋯,if_pos h2];exact b (i-1) ⋯;rw[if_neg h2];by_cases h3:l<i;rw[if_pos (show l<i-1/\i-1<=k by omega),if_pos (show l<i/\i<=k by omega)];exact ha (i-1) ⋯ ⋯;rw[if_neg ⋯,if_neg ⋯];exact ha i x ⋯
def zgG(hc:∀i j C,i<n->j<n->i≠j->C (decide (r i<r j)) s->cmp i j C s){Q:Array Nat->pX->Prop}(h1:1<=n)(h:∀p,PmN n p->VL r p n->Q p s):(kas_sort n).kasWp cmp Q s:=by
 unfold kas_sort;rw[KasT.kasWp_bind];refine zjO hc (HJ _) h1 λm p a b c d=> ?_;dsimp only;split;rw[show max m 1=m by omega];exact zjP hc _ p m a ⋯ d h
 have:m=n:=by omega
 subst this;exact h p a d
end
section
variable{w:World}
end
open PySem.AutoSeq1 (wpAny_loadPart')
open PySem.MeetsSeq PySem.MeetsSeq2 PySem.MeetsSeq3
section
variable{w:World}
end
end L2
namespace L2
open PySem.Calls PySem.W
section
variable{a:qo}{d:V}{u r:pW}{kvs:n8 (Key×V)}{k:Key}
end
section
variable{o e f:Expr}{apos aN:Pos}{td ty tx:TE}
end
open PySem.AutoSeq1 (wpAny_loadPart')
section
variable{w:World}
end
end L2
namespace L2
open PySem.Calls PySem.W
def WF:entryFor table "dict_itemiterator.__iter__"=dB Builtin.«dict_keyiterator.__iter__» :=
 entryFor_alias (id':="dict_keyiterator.__iter__") (by kernel_rfl) rfl (*...*) (by kernel_rfl)
section
def zbj(hit:IsItemIter s.heap it d i n ep ok ov)(h:Q (.ref it) s):wpAny (model prog w) A (pyIter (.ref it)) Q E s:=by
 have hT:s.TypeIs (.ref it) "dict_itemiterator":=⟨_,hit,rfl⟩;refine wpAny_pyIter_slot hT F.slot_dict_itemiterator_iter (wpAny_call_entry F.slot_dict_itemiterator_iter hT WF ?_ (F.args_dict_itemiterator_iter_1 _));show wpAny _ _ (ret (.ref it)) _ _ s;exact wpAny_pure ⟨_,rfl,"dict_itemiterator",_,hT,F.slot_dict_itemiterator_next.lookup,h⟩
end
noncomputable def Itm(a:qo)(o:Obj)(kvs:n8 (Key×V)):It:=
 ⟨λi H=>H a=dB (.frz o (.dK kvs))/\∃k v,kvs[i]? =dB (k,v),λi H x H'=>∃p k v,x= .ref p/\H p=fC/\H'=upd H p (.tup [kV k,v])/\kvs[i]? =dB (k,v),λi H=>H a=dB (.frz o (.dK kvs))/\kvs.length<=i⟩
theorem zfr:∀{kvs:n8 (Key×V)} {vs:n8 (Key×pW)} {i:Nat} {k:Key} {v:V},KV kvs vs->kvs[i]? =dB (k,v)->∃u,vs[i]? =dB (k,u)/\zE v u
 |_,_,i,k,v,.nil,h=>by simp at h
 |_,_,0,k,v,.cons h _,e=>by
  simp at e;subst e;obtain⟨e1,e2⟩:=h;exact⟨_,by simp;exact Prod.ext e1.symm rfl,e2⟩
 |_,_,i+1,k,v,.cons _ l,e=>by
  obtain⟨u,e1,e2⟩:=zfr (i:=i) l (by simpa using e);exact⟨u,by simpa using e1,e2⟩
def znp{P:Program}(h:(yi P w).is k u=fN):zE (kV k) u:=by
 have h:zae k u=fN:=h;rcases yJ h with⟨i,t,rfl,rfl⟩|⟨x,t,rfl,rfl⟩
 .exact⟨t,rfl⟩
 exact⟨t,rfl⟩
def TL(I:Inv X pins σ H s)(h:H a=dB (.frz o (.dK kvs)))(hd:o.data= .dict es ep):∃vs,KV kvs vs/\s.heap.DictAt (yi X.prog X.w) a vs ep:=by
 obtain⟨hg,_,_,vs,rel,o',es',ep',e1,e2,e3,e4⟩:=(show yz X.prog X.w H s.heap a (.frz o (.dK kvs)) from I.hok a _ h);rw[hg] at e1;cases e1;rw[hd] at e3;cases e3;exact⟨vs,rel,o,es,hg,e2,hd,e4⟩
def zfs{P:Program}{K:AO}(a it:qo)(o:Obj)(kvs:n8 (Key×V))(hd:o.data= .dict es ep):
  zdG P w K (.Tuple elts k tp) (Itm a o kvs) [it] it (λi h=>∃ok ov,IsItemIter h it a i kvs.length ep ok ov) where
 mem:=by simp
 obj:=λi h st b hb=>by
  obtain⟨ok,ov,e⟩:=st;have:b=it:=by simpa using hb
  subst this;exact⟨_,e,λv z=>by cases z⟩
 keep:=λi h h' st k=>let ⟨ok,ov,e⟩:=st;⟨ok,ov,k it (by simp) _ e⟩
 item:=by
  walk_at "!b";obtain⟨ha,ke,v,hx⟩:=hg;obtain⟨ok,ov,hit⟩:=st;obtain⟨vs,rel,hm⟩:=TL I ha hd;obtain⟨u,hu,ru⟩:=zfr rel hx;have hl:=rel.length;rw[hl] at hit;refine wpAny_pyNext_items_item hit hm hu λkey h1 hk fi ht hz jO=>⟨_,rfl,?_⟩;refine wpAny_letOwnedTupleGo_items (s:={s with heap:=h1}) fi λh2 kc dC=> ?_;have dC:Heap.SameBut it h1 h2:=dC;have nE:it<s.heap.objs.size:=Heap.lt_size hit;have vv:zK [kV ke,v] [key,u]:= .cons (znp hk) (.cons ru .nil)
  obtain⟨I2,fr,fb⟩:=Inv.turnedT (h':=h2) (t':=s.toks) (fp:=[it]) I vv (by show 2<=sizeLine;decide) (λb o hb eb=>by
   have hb:b≠it:=by simpa using hb
   exact(dC.2 b hb).trans (jO b o hb eb)) ((dC.2 _ (BE nE)).trans ht) hf (λb hb=>by
   have:b=it:=by simpa using hb
   subst this
   exact⟨_,hit⟩)
  exact⟨.ref s.heap.objs.size,_,I2,rfl,⟨_,ke,v,rfl,fr,rfl,hx⟩,⟨_,_,by rw[hl];exact kc⟩,fb⟩
 done:=by
  walk_at "!b";obtain⟨ha,hx⟩:=hg;obtain⟨ok,ov,hit⟩:=st;obtain⟨vs,rel,hm⟩:=TL I ha hd;have hl:=rel.length;rw[hl] at hit;refine wpAny_pyNext_items_end (I.ok.hd hc) hit hm (Bu ⋯) λh' eb=>⟨rfl,Inv.turnedL (t':=s.toks) (fp:=[it]) I (λb o hb eo=> ?_) hf⟩;exact eb b o (λz=>hb (by simp[z])) eo
 self:=λ_ _ _ _ _ st h=>let ⟨_,_,e⟩:=st;zbj e h
noncomputable def zec(p a:qo):HO:= .ext λh=>h.IsItemsView p a
def zjQ:V->n8 V->Hp->VK->Prop:=λx vs H Q=>∃(a:qo) (kvs:n8 (Key×V)),x= .ref a/\vs=[]/\H a=dB (.dK kvs)/\∀p,H p=fC->Q (.ref p) (upd H p (zec p a))
def zed:MtR X "dict.items" zjQ:=by
 intro pins s σ H x xs v us Q I rx r h;obtain⟨a,kvs,rfl,rfl,ha,q⟩:=h;cases rx;cases r;obtain⟨hz,lo,vs,rel,dd⟩:=zbS I.hok ha;have hn:(s.heap.push {cls:= .type "dict_items",data:= .fields #[.ref a]}).get? s.heap.objs.size=dB {cls:= .type "dict_items",data:= .fields #[.ref a]}:=Heap.get?_push_size _ rfl;refine call_meetsIn Ej dd.typeIs PySem.F.entry_dict_items (PySem.F.args_dict_items_1 _) (meets_dict_items (yi X.prog X.w) a lo) ⟨⟨vs,dd⟩,?_⟩;refine⟨.ref s.heap.objs.size,_,I.laid (t':=s.toks) (o:=zec s.heap.objs.size a) (λ_ _ e=>Heap.get?_push_of_some _ e) (B1 _) ⟨⟨_,hn,rfl,rfl⟩,⟨_,hn⟩,λh1 h2 ⟨o,e1,e2⟩ e3=>⟨o,e3 _ e1,e2⟩⟩,rfl,q _ I.fresh⟩
def zjR(t:TE):TI:=λσ H R=>t σ H λx H1=>∃(p a:qo) (kvs:n8 (Key×V)),x= .ref p/\H1 p=dB (zec p a)/\H1 a=dB (.dK kvs)/\∀o,R (Itm a o kvs) (upd H1 a (.frz o (.dK kvs)))
def zee(he:PE X e t):PI X (.Tuple elts k tp) e (zjR t):=by
 intro pins s σ H R I h;refine thn (he pins s σ H _ I h) ?_;rintro u s1 ⟨x,H1,I1,rx,p,a,kvs,ex,hp,ha,q⟩;subst ex;cases rx;have hv:s1.heap.IsItemsView p a:=(show yz X.prog X.w H1 s1.heap p (zec p a) from I1.hok p _ hp).1;obtain⟨hz,lo,vs,rel,ob,es,ep,e1,e2,e3,e4⟩:=zbS I1.hok ha;have hl:=rel.length;have I2:Inv X pins σ (upd H1 a (.frz ob (.dK kvs))) s1:=VA (h':=s1.heap) (t':=s1.toks) I1 (by rw[ha];exact CG) ⟨rfl,λ_ _=>rfl⟩ ⟨ob,e1⟩ ⟨e1,hz,lo,vs,rel,ob,es,ep,e1,e2,e3,e4⟩;refine wpAny_pyIter_items (knd:=yi X.prog X.w) hv ⟨ob,es,e1,e2,e3,e4⟩ ?_;have hi:(s1.heap.push {cls:= .type "dict_itemiterator",data:= .fields #[.none,.bool kb,.ref a,.int 0 0,.int vs.length 0,.int ep 0,.none,.none]}).get? s1.heap.objs.size=dB {cls:= .type "dict_itemiterator",data:= .fields #[.none,.bool kb,.ref a,.int 0 0,.int vs.length 0,.int ep 0,.none,.none]}:=Heap.get?_push_size _ rfl;have I3:=I2.kept (t':=s1.toks) (h':=s1.heap.push {cls:= .type "dict_itemiterator",data:= .fields #[.none,.bool kb,.ref a,.int 0 0,.int vs.length 0,.int ep 0,.none,.none]}) (λb o e=>Heap.get?_push_of_some _ e);refine⟨s1.heap.objs.size,[s1.heap.objs.size],_,_,_,rfl,I3,zfs a s1.heap.objs.size ob kvs e3,⟨.none,.none,by rw[hl];exact hi⟩,λb hb=> ?_,q ob⟩;have hb:s1.heap.objs.size<=b:=by
  have:b=s1.heap.objs.size:=by simpa using hb
  exact CD this.symm
 exact Inv.fpOk I2 hb (I2.hok.fresh hb)
open PySem.AutoSeq1 (wpAny_loadPart')
section
variable{w:World}
end
end L2
namespace L2
open PySem.Calls
mutual
inductive zjS(h:Heap):NK->Value->Prop where
 |int (i:Int) (t:Tok):zjS h (.int i) (.int i t)
 |str (x:Str) (t:Tok):zjS h (.str x) (.str x t)
 |tup {a:Addr} {o:Obj} {items:Array Value} {n:Nat} {l:List NK}:h.get? a=dB o->o.cls= .type "tuple"->o.data= .seq items n->zgH h l items.toList->zjS h (.tup l) (.ref a)
inductive zgH(h:Heap):List NK->List Value->Prop where
 |nil:zgH h [] []
 |cons {k:NK} {v:Value} {ks:List NK} {vs:List Value}:zjS h k v->zgH h ks vs->zgH h (k::ks) (v::vs)
end
section
variable{h h':Heap}
end
section
variable{w:World}
end
mutual
inductive NIs(K:AO)(H:Hp):V->NK->Prop where
 |int (i:Int):NIs K H (.int i) (.int i)
 |str (x:Str):NIs K H (.str x) (.str x)
 |tup {a:Addr} {vs:List V} {l:List NK}:SqT K H a vs->zl6 K H vs l->NIs K H (.ref a) (.tup l)
inductive zl6(K:AO)(H:Hp):List V->List NK->Prop where
 |nil:zl6 K H [] []
 |cons {v:V} {k:NK} {vs:List V} {ks:List NK}:NIs K H v k->zl6 K H vs ks->zl6 K H (v::vs) (k::ks)
end
noncomputable abbrev PN:n8 (NK×qo×V)->n8 (NK×qo×pW)->Prop:=Paired λ(p:NK×qo×V) (q:NK×qo×pW)=>p.1=q.1/\p.2.1=q.2.1/\zE p.2.2 q.2.2
section
variable{a:qo}
end
section
variable{a:qo}{y v d:V}{u r:pW}{o:pU V}
end
section
variable{o i e f value:Expr}{pos pos' kj apos aN:Pos}{td ty tv tx:TE}{K:AO}{r:Nat}
end
end L2
namespace L2
open PySem.Calls PySem.W
section
variable{w:World}{d it:qo}{es:Array DictEntry}{ep i:Nat}
end
noncomputable def ltL:n8 Int->n8 Int->Bool
 |[],[]=>kb
 |[],_::_=>fN
 |_::_,[]=>kb
 |a::x,b::y=>if a=b then ltL x y else decide (a<b)
section
variable{w:World}
end
section
variable{w:World}{T:String}{r d:qo}{n:Nat}{P:Nat->pW->Prop}{OK:Heap->Prop}
end
end L2
namespace L2
open PySem.Calls
open AutoSeq1 (wpAny_loadPart')
section
variable{w:World}{it t:qo}{ae:Array pW}
end
end L2
namespace L2
open PySem.Calls PySem.W
section
variable{cmp:Nat->Nat->(Bool->pX->Prop)->pX->Prop}{r:Nat->Int}{n:Nat}
end
section
variable{w:World}{κ:SortKind}{it:Array Keyed}
end
section
def Inv.adoptW{t':Nat}{D:qo}{o:HO}(I:Inv X pins σ H s)(k:∀b u,b≠D->s.heap.get? b=dB u->h'.get? b=dB u)(hn:H D=fC)(hL:D≠X.env.locals)
  (h1:X.s₀.heap.objs.size<=D) (h2:∀x c,X.env.cells.lookup x=dB c->c≠D) (h3:∀p∈X.pn++pins,p.1≠D) (new:yz X.prog X.w (upd H D o) h' D o):Inv X pins σ (upd H D o) {s with heap:=h',toks:=t'}:=by
 have g9:∀b u,H b=dB u->b≠D:=λb u e z=>by rw[z,hn] at e;cases e
 refine I.step (g':=s.gens) (d':=s.drawn) (ch:=[D]) (λb hb=> ?_) (λb o _ _ hc e _=>k b o (λz=>hc (by simp[z])) e) (λb o _ _ hc e _=>⟨o.slots,k b o (λz=>hc (by simp[z])) e⟩) (λb _ hc _ n=>by rw[zi (λz=>hc (by simp[z]))];exact n)
  (λb o hc e=>⟨o,k b o (λz=>hc (by simp[z])) e⟩) (λb _ e=>by rw[zi (g9 b _ e)];exact e) (λb _ _ e=>by rw[zi (g9 b _ e)];exact e) (λb ps e=>⟨#[],by rw[zi (g9 b _ e),e];simp⟩) (λm hm=> ?_) (λb u e=> ?_) I.bare
 .have e:b=D:=by simpa using hb
  subst e;exact⟨.inr h1,hL,h2,h3⟩
 .obtain⟨o,es,ep,ho,r⟩:=hm;exact⟨o,es,ep,k _ o (BM hL) ho,r⟩
 by_cases hb:b=D;subst hb;rw[zt] at e;cases e;exact new
 rw[zi hb] at e;refine(I.hok b u e).stay (λc v hc q=>k c v ?_ q) (λc q=>by rw[zi (g9 c _ q)];exact q) λc xs q=>by rw[zi (g9 c _ q)];exact q
 rcases hc with z|z;rw[z];exact hb;exact g9 c _ z
theorem zft:∀{xs:n8 V} {us:n8 pW} {i:Nat} {u:pW},zK xs us->us[i]? =dB u->∃x,xs[i]? =dB x/\zE x u
 |_,_,i,_,.nil,e=>by simp at e
 |_,_,0,_,.cons r _,e=>by cases e;exact⟨_,rfl,r⟩
 |_,_,i+1,_,.cons _ l,e=>zft (i:=i) l e
end
def zpZ(is:n8 (n8 Int)):Prop:=(2<=is.length->∀l∈is,l≠[])/\∀i j,i<j->j<is.length->ltL (is.getD j []) (is.getD i [])=fN
section
variable{k:Nat}{f:qo}{fd:FuncData}{ps:n8 Str}{sp:Sp}
end
theorem zgI:∀{xs:n8 V} {us:n8 pW},xs.length=us.length->(∀(i:Nat) x u,xs[i]? =dB x->us[i]? =dB u->zE x u)->zK xs us
 |[],[],_,_=> .nil
 |[],_::_,h,_=>by simp at h
 |_::_,[],h,_=>by simp at h
 |x::xs,u::us,h,k=> .cons (k 0 x u rfl rfl) (zgI (by simpa using h) λi a b ha hb=>k (i+1) a b ha hb)
noncomputable def zef(n:Nat):n8 V:=(BX n).map λ(i:Nat)=>V.int (i:Int)
theorem zgJ:∀(x y:n8 Int),HT.Yi x y=ltL x y
 |[],[]=>rfl
 |[],_::_=>rfl
 |_::_,[]=>rfl
 |a::x,b::y=>by
  rw[HT.zah,ltL,zgJ x y]
end L2
namespace L2
namespace Sm
noncomputable def inB(b j:Nat):Bool:=b.testBit j
noncomputable def plL(b:Nat):n8 Nat:=(BX 8).filter (inB b)
noncomputable def pl(b:Nat):Array Nat:=(plL b).toArray
noncomputable def st(h:Int):Nat->Nat×Nat
 |0=>(SetTable.bits h % 8,SetTable.bits h)
 |n+1=>SetTable.leap 7 (st h n).1 (st h n).2
noncomputable def pos(h:Int)(n:Nat):Nat:=(st h n).1
noncomputable def mkP(s:Nat×Nat):SetTable.Probe:={j:=s.1,more:=0,i:=s.1,perturb:=s.2,dummy:=fC}
structure Tb(t:SetTable)(b:Nat):Prop where
 mask:t.mask=7
 place:t.place=pl b
 AB:t.dummies= #[]
noncomputable def ix(b j:Nat):Nat:=((BX j).filter (inB b)).length
inductive znq(f:Nat->Int)(b:Nat)(x:Int)(n:Nat):SetTable.Met->Prop
 |empty (m:Nat):n<=m->inB b (pos x m)=kb->(∀k,n<=k->k<m->inB b (pos x k)=fN/\f (pos x k)≠x)->znq f b x n (.empty (pos x m) fC)
 |y8 (m:Nat):n<=m->inB b (pos x m)=fN->f (pos x m)=x->(∀k,n<=k->k<m->inB b (pos x k)=fN/\f (pos x k)≠x)->znq f b x n (.candidate (pos x m) (ix b (pos x m)) (mkP (st x (m+1))))
def zp0(b:Nat)(f:Nat->Int):Prop:=∀j<8,inB b j=fN->∃n,pos (f j) n=j/\∀m,m<n->inB b (pos (f j) m)=fN
end Sm
open PySem.Calls PySem.W
section
variable{w:World}
structure zqH(w:World)(h:Heap)(a:qo)(b:Nat)(f:Nat->Int×pW)(kf:Nat->NK)(o:Obj)(ep:Nat)(t:SetTable):Prop where
 get:h.get? a=dB o
 ex:o.ExactSet
 data:o.data= .set ((Sm.pl b).map f) ep t
 tb:Sm.Tb t b
 plain:t.plain=fN
 lt:b<256
 few:(Sm.plL b).length<=4
 chain:Sm.zp0 b λj=>(f j).1
 keys:∀j<8,Sm.inB b j=fN->(f j).1=zif w (kf j)/\(∃c,(f j).2= .ref c/\zjS h (kf j) (.ref c))/\zll (kf j)<=8
 inj:∀i<8,∀j<8,Sm.inB b i=fN->Sm.inB b j=fN->kf i=kf j->i=j
variable{a:qo}{b:Nat}{f:Nat->Int×pW}{kf:Nat->NK}{o:Obj}{ep:Nat}{t:SetTable}
end
section
variable{h h':Heap}
end
section
variable{w:World}
variable{a:qo}{b:Nat}{f:Nat->Int×pW}{kf:Nat->NK}{o:Obj}{ep:Nat}{t:SetTable}
end
section
variable{h h':Heap}
end
section
variable{w:World}
variable{R:Result->pX->Prop}{I:qo}{fp wr:n8 qo}{G:Array GenState->Array GenState->Prop}{n:Nat}{P:Nat->pW->Prop}{St:Nat->pX->Prop}
end
section
variable{w:World}
end
end L2
set_option maxHeartbeats 3200000
namespace L2
open PySem.Calls PySem.W
section
variable{w:World}
end
structure zqI(h:Heap)(a:qo)(b:Nat)(f:Nat->Int×pW)(o:Obj)(ep:Nat)(t:SetTable):Prop where
 get:h.get? a=dB o
 ex:o.ExactSet
 data:o.data= .set ((Sm.pl b).map f) ep t
 tb:Sm.Tb t b
 plain:t.plain=fN
 lt:b<256
 few:(Sm.plL b).length<=4
section
variable{w:World}{d it:qo}
variable{b:Nat}{f:Nat->Int×pW}{o:Obj}{ep:Nat}{t:SetTable}
variable{b:Nat}{f:Nat->Int×pW}{o:Obj}{ep:Nat}{t:SetTable}{i:Nat}
end
mutual
noncomputable def cp:NK->NK->Bool
 | .int _,.int _=>fN
 | .tup x,.tup y=>cpL x y
 |_,_=>kb
noncomputable def cpL:n8 NK->n8 NK->Bool
 |a::x,b::y=>cp a b&&cpL x y
 |_,_=>fN
end
section
open PySem.SeqAt
open PySem.AutoSeq1 (wpAny_loadPart')
open PySem.MeetsSeq PySem.MeetsSeq2 PySem.MeetsSeq3
variable{w:World}
end
section
variable{w:World}
def zow(b:Bool):NK->Prop
 | .tup (.tup _::_)=>b=kb
 | .tup (.int _::_)=>b=fN
 |_=>False
end
structure KOk(b:Bool)(ks:n8 NK):Prop where
 cmp:∀x∈ks,∀y∈ks,cp x y=fN
 AF:∀k∈ks,zll k<=8
 fst:∀k∈ks,zow b k
section
variable{w:World}
end
section
variable{w:World}
end
section
def zeg(I:Inv X pins σ H s)(k:∀b u,s.heap.get? b=dB u->h'.get? b=dB u)(old:vX H H')(new:∀b u,H' b=dB u->H b=dB u\/s.heap.objs.size<=b)(ok:∀b u,H' b=dB u->H b=fC->yz X.prog X.w H' h' b u):
  Inv X pins σ H' {s with heap:=h',toks:=t'}:=by
 refine I.un ⟨λb u q _ _ _=>k b u q,λb u q _ _ _=>⟨u.slots,k b u q⟩,λb u q n _=> ?_,λb u q _=>⟨u,k b u q⟩,λb xs q=>old _ _ q,λb u xs q=>old _ _ q,λb ps q=>⟨#[],by rw[old _ _ q];simp⟩⟩ λb u q=> ?_
 .cases e:H' b with
  |none=>rfl
  |some o=>
   rcases new b o e with z|z;rw[n] at z;cases z;exact absurd (B3 (Heap.lt_size q) z) (Cv _)
 cases e:H b with
 |none=>exact ok b u q e
 |some o=>
  have:=old b o e;rw[q] at this;cases this;exact(I.hok b _ e).stay (λc v _ z=>k c v z) (λc z=>old c _ z) λc xs z=>old c _ z
end
inductive zfu(H:Hp):List Addr->List (Int×V)->Prop
 |nil:zfu H [] []
 |cons {p:Addr} {x:Int×V} {ps:List Addr} {xs:List (Int×V)}:H p=dB (.tup [.int x.1,x.2])->zfu H ps xs->zfu H (p::ps) (x::xs)
open PySem.AutoSeq1 (wpAny_loadPart')
open PySem.MeetsSeq PySem.MeetsSeq2 PySem.MeetsSeq3
section
variable{w:World}
end
end L2
namespace L2
open PySem.Calls
section
variable{tg:Expr}
end
section
variable{G:Array GenState->Array GenState->Prop}{P:Nat->pW->Prop}{St:Nat->pX->Prop}{R:Result->pX->Prop}
noncomputable abbrev zqN(xs:Array pW)(c:Nat):Obj:={cls:= .type "list",dict:=fC,data:= .seq xs c,slots:= #[]}
noncomputable abbrev zqO(I S:qo)(d:pW):Code:= .builtin "max.loop" ⟨[.ref I,.none,.ref S],[("default",d)]⟩
def zjT{id:String}{b:Builtin}{xs:n8 pW}{kw:n8 (Str×pW)}(e1:builtinKind id=fC)(e2:plainId id=fN)(e3:entryFor table id=dB b)(e4:argsOk id ⟨xs,kw⟩)
  (h:wpAny (model prog w) A.in1 (b ⟨xs,kw⟩) (λfin s'=>match fin with
   | .done f=>(match (Except.ok f:Result) with| .ok (.ret v)=>Q v s'| .ok _=>False| .error e=>E e s')
   | .again c'=>c'.quiet=fN/\codeAny (model prog w) A c' (λr s'=>match r with| .ok (.ret v)=>Q v s'| .ok _=>False| .error e=>E e s') s') E s):wpAny (model prog w) A (call (.builtin id) xs kw) Q E s:=by
 refine wpAny_call (codeAny_call_builtin e2 e3 (by
  simp only[checkBuiltinCall,e1];cases hs:Manifest.signature? id with
  |none=>exact wpAny_pure h
  |some sig=>
   have e5:Bind.checkArgs id sig ⟨xs,kw⟩=pure ():=by simpa only[argsOk,hs] using e4
   simp only[e5]
   exact wpAny_pure h))
end
section
variable{w:World}
end
section
variable{w:World}{h:Heap}{g:Array GenState}{d:Drawn}{t:Nat}{os:OsState}{a:qo}
def zox(h:Heap)(g:Array GenState)(d:Drawn)(os:OsState)(E:pW->pX->Prop):Prop:=∀h' e tk',(∀b o,h.get? b=dB o->h'.get? b=dB o)->(∃o,h'.get? e=dB o/\o.cls= .type "AttributeError")->E (.ref e) ⟨h',g,d,tk',os⟩
end
def zeh:entryFor table "dict.update.loop"=dB Builtin.«dict.update.loop» :=entryFor_of_fast (by kernel_rfl)
def VM:plainId "dict.update.loop"=fN:=by decide+kernel
section
variable{w:World}{I:qo}{fp wr:n8 qo}{G:Array GenState->Array GenState->Prop}{n:Nat}{P:Nat->pW->Prop}{St:Nat->pX->Prop}{R:Result->pX->Prop}{KK:Type}[DecidableEq KK]{knd:KeyKind prog w KK}
def zhK{kv:n8 (KK×pW)}{i:Nat}{k:KK}{v:pW}(nd:(kv.map (·.1)).Nodup)(h:kv[i]? =dB (k,v)):stored (kv.take i) k v=kv.take (i+1):=by
 have hi:=(AQ.1 h).1;have e:=(AQ.1 h).2;unfold stored;rw[if_neg,List.take_succ_eq_append_getElem hi,e];intro q;rw[Dq] at q;obtain⟨x,hx,hk⟩:=q;obtain⟨m,hm,rfl⟩:=EY.1 hx;rw[BI] at hm;have hk:(kv.take i)[m].1=k:=of_decide_eq_true hk;rw[Hk] at hk;have h2:=(CK (xs:=kv.map (·.1)) (i:=m) (j:=i) (h₀:=by rw[AV];omega) (h₁:=by rw[AV];omega) nd).1 (by rw[Ez,Ez,hk,e]);omega
def zl7(W:WalksS prog w A.in1 I fp wr G n P St)(d:qo)(nf:d∉fp)(h0:Heap)(old:∀b o,h0.get? b=dB o->b∉d::wr)(kv:n8 (KK×pW))(nd:(kv.map (·.1)).Nodup)(hn:kv.length=n)(rY:n<=sizeLine)
  (wf:∀i v,P i v->∃p key k x m,kv[i]? =dB (k,x)/\v= .ref p/\knd.is k key=fN/\∃o,h0.get? p=dB o/\o.cls= .type "tuple"/\o.data= .seq #[key,x] m):
  ∀(q i:Nat) (s:pX) (t:Tok),n-i=q->i<=n->St i s->(∀b o,h0.get? b=dB o->s.heap.get? b=dB o)->s.heap.DictOf knd d (kv.take i)->(∀s',Moved (d::wr) G s s'->s'.heap.DictOf knd d kv->R (.ok (.ret .none)) s')->
   codeAny (model prog w) A (.builtin "dict.update.loop" ⟨[.ref d,.ref I,.int i t,.none],[]⟩) R s:=by
 have nw:d∉wr:=λq=>nf (W.sub _ q);have up:∀b∈wr,b∈d::wr:=λb q=> .tail _ q;have ns:∀{b:qo},b∉d::wr->b≠d:=λq e=>q (e ▸ .head _);have stay:∀{s s':pX} {l:n8 (KK×pW)},Moved wr G s s'->s.heap.DictOf knd d l->s'.heap.DictOf knd d l:=by
  rintro s s' l mv ⟨o,es,ep,ho,r⟩;exact⟨o,es,ep,mv.heap d o nw ho,r⟩
 intro q
 induction q with
 |zero=>
  intro i s t hq hi st ho hD fin;obtain rfl:i=n:=by omega
  refine codeAny_builtin zeh (by
   rw[Around.under_plainId VM _];refine wpAny_bind (m:=pyNext (.ref I)) (W.done s _ _ st λs' mv=> ?_);refine wpAny_bind (m:=Builtin.Dict.addKeywords d []) (wpAny_pure (wpAny_pure (fin s' (mv.mono up) ?_)));have:=stay mv hD
   rwa [<-hn,Bx] at this)
 |succ q ih=>
  intro i s t hq hi st ho hD fin;have lt:i<n:=by omega
  refine codeAny_builtin zeh (by
   rw[Around.under_plainId VM _];refine wpAny_bind (m:=pyNext (.ref I)) (W.item i s _ _ lt st λv s' hv st' mv=> ?_);obtain⟨p,key,k,x,m,hk,rfl,mP,o,hp,hc,hd⟩:=wf i v hv;have gY:∀b o,h0.get? b=dB o->s'.heap.get? b=dB o:=λb o e=>mv.heap b o (λz=>old b o e (up b z)) (ho b o e);have fh:=gY _ _ hp;have hT:s'.TypeIs (.ref p) "tuple":=⟨_,fh,hc⟩;refine wpAny_bind (wpAny_holding (wpAny_bind (m:=tryCatch (Builtin.Dict.pairItems (.ref p)) _) (wpAny_tryCatch ?_)));unfold Builtin.Dict.pairItems;refine wpAny_bind (wpAny_typeOf hT ?_);rw[if_pos ∅];refine wpAny_bind (wpAny_seqItems fh hd (wpAny_pure ?_));refine wpAny_holding (m:=dictSet d key x) (wpAny_dictSet_pairs mP (stay mv hD) (λh' rW sb=> ?_) (by rw[BI];omega));rw[zhK nd hk] at rW;refine wpAny_pure ⟨plainId_quiet VM _,ih (i+1) _ _ ⋯ lt (W.frame _ s' h' (s'.toks+1) st' (Cq _) λb hb ob e=>(sb.2 b λz=>nf (z ▸ hb)).trans e) (λb ob e=>(sb.2 b (ns (old b ob e))).trans (gY b ob e)) rW λs'' sG uV=> ?_⟩
   exact fin s'' (Moved.trans W.gtrans ((mv.mono up).then_heap (Cq _) λb ob q e=>(sb.2 b (ns q)).trans e) sG) uV)
end
def PrT(H:Hp):V->Key×V->Prop:=λp q=>∃b,p= .ref b/\H b=dB (.tup [kV q.1,q.2])
def zjU{P:Program}(ok:HOk P w H h)(hp:Paired (PrT H) ps kvs):∀{ae:n8 pW},zK ps ae->∃kv:n8 (Key×pW),KV kvs kv/\kv.length=ae.length/\∀(i:Nat) v,ae[i]? =dB v->
  ∃p key k x m,kv[i]? =dB (k,x)/\v= .ref p/\(yi P w).is k key=fN/\∃o,h.get? p=dB o/\o.cls= .type "tuple"/\o.data= .seq #[key,x] m:=by
 induction hp with
 |nil=>
  intro ae r;cases r;exact⟨[],.nil,rfl,λi v e=>by simp at e⟩
 | @cons p q ps kvs h1 _ ih=>
  intro ae r;obtain⟨k,y⟩:=q;cases r with
  |cons r1 r2=>
   obtain⟨kv,a1,a2,a3⟩:=ih r2;obtain⟨b,rfl,hb⟩:=h1;cases r1;obtain⟨_,ae,rv,o,e,c,m,d,_⟩:=(show yz P w H h b (.tup _) from ok b _ hb);obtain⟨u1,u2,rfl,g1,g2⟩:=zgi rv;refine⟨(k,u2)::kv,.cons ⟨rfl,g2⟩ a1,by rw[Bo,Bo,a2],λi v e'=> ?_⟩;cases i with
   |zero=>
    cases e';refine⟨b,u1,k,u2,m,rfl,rfl,?_,o,e,c,by simpa using d⟩;cases k with
    |inl i=>obtain⟨t,rfl⟩:=g1;exact zbB i t
    |inr x=>obtain⟨t,rfl⟩:=g1;exact zbC x t
   |succ i=>exact a3 i v (by simpa using e')
section
variable{w:World}{I:qo}{fp wr:n8 qo}{G:Array GenState->Array GenState->Prop}{n:Nat}{P:Nat->pW->Prop}{St:Nat->pX->Prop}{R:Result->pX->Prop}
end
section
variable{w:World}
end
section
variable{K:AO}{E:XK}
noncomputable def TM:D->D->Bool
 | .tup _,.tup _=>fN
 | .lst _,.lst _=>fN
 |_,_=>kb
noncomputable def Uw(neg:Bool):Op2:=λx y S=>match wf S 40 x,wf S 40 y with
 |some d,dB e=>if TM d e then (eqG 40 d e).map λb=>(.bl (neg !=b),S) else fC
 |_,_=>fC
def zfv(h:TM d e=fN):∃l m,(d= .tup l/\e= .tup m)\/(d= .lst l/\e= .lst m):=by
 cases d<;>cases e<;>first|exact⟨_,_,.inl ⟨rfl,rfl⟩⟩|exact⟨_,_,.inr ⟨rfl,rfl⟩⟩|exact BP (Bm h)
set_option tactic.hygienic true in
def zjV:ZQ K (zou K neg) (Uw neg):=by
 walk_at "!e";unfold Uw at h;split at h
 .rename_i d e e1 e2;split at h
  .rename_i hb;cases hg:eqG 40 d e with
   |none=>rw[hg] at h;cases h
   |some b=>
    rw[hg] at h;cases h;exact⟨d,e,b,zfv hb,(zcT E1 40 _ _ _ hx e1).1,(zcT E1 40 _ _ _ hy e2).1,hg,k _ _ _ Ext.refl E1 (.bl _)⟩
  cases h
 cases h
end
section
def zjW(h1:wf S 40 x=dB d)(h2:wf S 40 y=dB e)(hs:TM d e=fN)(hb:eqG 40 d e=dB b)(k:P (.bl (neg !=b)) S):WO (Uw neg x y S) P:= .of (by unfold Uw;rw[h1,h2];dsimp only;rw[if_pos hs,hb];rfl) k
def VN{get:Sto->pU (n8 Xv)}(hl:xs.length<=sizeLine)(J:Nat->n8 Xv->Sto->Prop)(hg:∀i es S,i<=xs.length->J i es S->get S=dB xs)
  (h:∀(i:Nat) (x:Xv) es S,xs[i]? =dB x->es.length<=i->J i es S->W (g x ρc S) λρ1 S1=>W (c ρ1 S1) λb S2=>(b=fN->W (m ρ1 S2) λy S3=>J (i+1) (es++[y]) S3)/\(b=kb->J (i+1) es S2)) (h0:J 0 [] S)
  (k:∀es S,es.length<=xs.length->J xs.length es S->P (.ref S.length) (S++[.lst es])):W (wT get g c m ρc (xs.length+1) 0 [] S) P:=by
 have aux:∀(n i:Nat) (es:n8 Xv) (S:Sto),i+n=xs.length->es.length<=i->J i es S->W (wT get g c m ρc (n+1) i es S) P:=by
  intro n
  induction n with
  |zero=>
   intro i es S e el hj;unfold wT;rw[hg i es S ⋯ hj,B7,Bu ⋯];dsimp only;rw[if_pos ⋯];exact .of rfl (k es S ⋯ (by rw[show xs.length=i by omega];exact hj))
  |succ n ih=>
   intro i es S e el hj;unfold wT;have hi:i<xs.length:=by omega
   rw[hg i es S ⋯ hj,B7,AK hi];obtain⟨ρ1,S1,e1,b,S2,e2,t,f⟩:=h i _ es S (AK hi) el hj;dsimp only[rn];rw[e1];dsimp only[rn];rw[e2];dsimp only[rn];cases b with
   |true=>
    obtain⟨y,S3,e3,q⟩:=t rfl;rw[if_pos rfl,e3];dsimp only[rn];rw[if_pos ⋯];exact ih (i+1) (es++[y]) S3 ⋯ (by simp;omega) q
   |false=>
    rw[if_neg (by simp)];exact ih (i+1) es S2 ⋯ ⋯ (f rfl)
 exact aux xs.length 0 [] S ⋯ (by simp) h0
end
section
variable{K:AO}{E:XK}
end
noncomputable def kX:Key->Xv
 | .inl i=> .int i
 | .inr z=> .str z
noncomputable def zaL(kvs:n8 (Key×Xv)):n8 Xv:=kvs.map λp=> .tup [kX p.1,p.2]
noncomputable def zaM(n:Nat)(S:Sto):pU (n8 Xv):=match S[n]? with
 |some (.fdk kvs)=>dB (zaL kvs)
 |_=>fC
noncomputable def iIt(m:TwE):TwI:=λρ S=>rb (m ρ S) λx S1=>(xR S1 x).map λp=> .ok (zaM p.1) (S1.set p.1 (.fdk p.2))
section
variable{K:AO}{E:XK}
def zjX:Xis K j H (kX k) (kV k):=by
 cases k;exact .int _;exact .str _
def KX.get{j:n8 qo}{kvs:n8 (Key×Xv)}{ks:n8 (Key×V)}{i:Nat}{k:Key}{x:Xv}(h:KX K j H kvs ks)(e:kvs[i]? =dB (k,x)):∃v,ks[i]? =dB (k,v)/\Xis K j H x v:=by
 induction h generalizing i with
 |nil=>simp at e
 |cons h _ ih=>
  cases i with
  |zero=>
   simp at e;obtain⟨rfl,rfl⟩:=e;exact⟨_,rfl,h⟩
  |succ i=>exact ih e
set_option tactic.hygienic true in
def zaN(h:RE K E t m):RI K E (zjR (znZ K "dict" zjQ t)) (iIt m):=by
 walk_at "!d"
 .cases e4:xR S1 x with
  |none=>rw[e4] at e;cases e
  |some p=>
   obtain⟨n,kvs⟩:=p;rw[e4] at e;cases e;refine h En0 e1 λj1 H1 X1 E1 u hu=> ?_;obtain⟨a,ks,rfl,hj,h1,h2⟩:=E1.dk hu e4;have hs:=(Yp e4).2;refine⟨tyD h1,a,ks,rfl,rfl,h1,λp hp=> ?_⟩;obtain⟨E2,X2⟩:=E1.new (o:=zec p a) hp;have ne:a≠p:=wm h1 hp;refine⟨p,a,ks,rfl,zt,by rw[zi ne];exact h1,λo=> ?_⟩;obtain⟨E3,X3⟩:=E2.writeF (n:=n) (c':= .fdk kvs) (o:= .frz o (.dK ks)) hs rfl hj (λX=>⟨o,ks,zt,(h2.mono X2).mono X⟩);refine k _ _ (X1.trans (X2.trans X3)) E3 _ ?_;intro F2 j2 H2 σ2 ρ2 S2 xs i X4 E4 e5;unfold zaM at e5;split at e5
   .rename_i nG ec;cases e5;have ha:H2 a=dB (.frz o (.dK ks)):=X4.imm _ _ zt rfl;obtain⟨o',ks',f1,f2⟩:=E4.cel n _ a ec (X4.pre n a hj);rw[ha] at f1;cases f1;refine⟨λy ey=> ?_,λhle=>⟨ha,by rw[f2.len];unfold zaL at hle;rw[AV] at hle;omega⟩⟩;unfold zaL at ey;rw[AW] at ey;cases ep:nG[i]? with
    |none=>rw[ep] at ey;cases ey
    |some q=>
     obtain⟨kk,xx⟩:=q;rw[ep] at ey;cases ey;obtain⟨v,g1,g2⟩:=f2.get ep;refine⟨⟨ha,kk,v,g1⟩,?_⟩;rintro v' H' ⟨q,k2,v2,rfl,hq,rfl,g3⟩;rw[g1] at g3;cases g3;exact⟨yB hq,.tup zt (.cons zjX (.one (g2.mono (Ext.same (yB hq)))))⟩
   cases e5
 exact h En0 e1 k
end
def zjY{Q':(Sto->pU (n8 Xv))->Sto->Prop}(h:W (m ρ S) λx S1=>∃n kvs,xR S1 x=dB (n,kvs)/\Q' (zaM n) (S1.set n (.fdk kvs))):W (iIt m ρ S) Q':=W.bind (h.imp λx S1 h=>by
 obtain⟨n,kvs,e,q⟩:=h;rw[e]
 exact .of rfl q)
section
variable{K:AO}{E:XK}{F:Fm}{j:n8 qo}{x y z:Xv}{u v w:V}
end
section
variable{K:AO}{j:n8 qo}
end
section
variable{a b m z:TwE}{x y:Xv}
end
noncomputable def zfw(S:Sto)(x:Xv)(nm:Str):pU (Nat×n8 (Str×Xv)):=match x with
 | .ref n=>match S[n]? with
  |some (.ins nm' fs)=>if nm'=nm then dB (n,fs) else fC
  |_=>fC
 |_=>fC
set_option tactic.hygienic true in
def zb5(h:zfw S x nm=dB (n,fs)):x= .ref n/\S[n]? =dB (.ins nm fs):=by
 unfold zfw at h;split at h;split at h;split at h;rename_i e1 e2;cases h;subst e2;exact⟨rfl,e1⟩;cases h;cases h;cases h
def zgK(h:S[n]? =dB (.ins nm fs)):zfw S (.ref n) nm=dB (n,fs):=by
 unfold zfw;dsimp only;rw[h];dsimp only;rw[if_pos rfl]
noncomputable def zcZ(f:Str)(v:Xv):n8 (Str×Xv)->n8 (Str×Xv)
 |[]=>[(f,v)]
 |(g,x)::r=>if g=f then (g,v)::r else (g,x)::zcZ f v r
section
variable{K:AO}{E:XK}{F:Fm}{j:n8 qo}{x:Xv}{v:V}{nm f m:Str}{C:qo}
def KX.look(h:KX K j H fs vs):(∀y,fs.lookup f=dB y->∃w,vs.lookup f=dB w/\Xis K j H y w)/\(fs.lookup f=fC->vs.lookup f=fC):=by
 induction h with
 |nil=>exact⟨(λ_ e=>by cases e),λ_=>rfl⟩
 | @cons g y1 w1 r rs h l ih=>
  obtain⟨i1,i2⟩:=ih;rw[BQ,BQ];cases hb:(f==g) with
  |true=>exact⟨(λy e=>by cases e;exact⟨w1,rfl,h⟩),(λe=>by cases e)⟩
  |false=>exact⟨i1,i2⟩
def KX.putF(hx:Xis K j H x v)(h:KX K j H fs vs):KX K j H (zcZ f x fs) (YD f v vs):=by
 induction h with
 |nil=>exact .cons hx .nil
 | @cons g y1 w1 r rs h l ih=>
  unfold zcZ L2.YD;by_cases e:g=f;rw[if_pos e,if_pos e];exact .cons hx l;rw[if_neg e,if_neg e];exact .cons h ih
def En.ins{n:Nat}{fs:n8 (Str×Xv)}(dj:Bc K mainGlobals nm=dB (dB (.ref C)))(E1:En K F j H σ ρ S)(hx:Xis K j H x v)(h:zfw S x nm=dB (n,fs)):∃a dx vs,v= .ref a/\j[n]? =dB a/\H a=dB (.ins C dx vs)/\KX K j H fs vs:=by
 obtain⟨rfl,hs⟩:=zb5 h;obtain⟨a,rfl,hj⟩:=hx.ref_inv;obtain⟨C',dx,vs,e0,e1,e2⟩:=E1.cel _ _ _ hs hj;rw[dj] at e0;cases e0;exact⟨a,dx,vs,rfl,hj,e1,e2⟩
noncomputable def vR(nm f:Str)(o:TwE):TwE:=λρ S=>rb (o ρ S) λx S1=>(zfw S1 x nm).bind λp=>(p.2.lookup f).map λy=> .ok y S1
def YM(dj:Bc K mainGlobals nm=dB (dB (.ref C)))(hc:Cls K C)(hn:ww K C f)(h:RE K E to o):RE K E (zpr K to f) (vR nm f o):=by
 walk_at "!a"
 .refine h En0 e1 λj1 H1 X1 E1 u hu=> ?_;rw[BF] at e;obtain⟨⟨n,fs⟩,e2,e⟩:=e;rw[AY] at e;obtain⟨y,e3,rfl⟩:=e;obtain⟨a,dx,vs,rfl,hj,f1,f2⟩:=E1.ins dj hu e2;obtain⟨w,g1,g2⟩:=f2.look.1 y e3;exact⟨a,C,dx,vs,w,rfl,f1,hc,hn,g1,k _ _ X1 E1 _ g2⟩
 exact h En0 e1 k
def VO(nm f:Str)(o m:TwE):TwS:=λρ S=>sb (m ρ S) λy S1=>sb (o ρ S1) λx S2=>(zfw S2 x nm).bind λp=>if p.2.length<1000 then dB (.nx ρ (S2.set p.1 (.ins nm (zcZ f y p.2)))) else fC
def KX.len2{fs:n8 (Str×Xv)}{vs:n8 (Str×V)}(h:KX K j H fs vs):vs.length=fs.length:=by
 induction h with
 |nil=>rfl
 |cons h _ ih=>exact congrArg (· +1) ih
set_option tactic.hygienic true in
def zgL{to tv:TE}{o m:TwE}(dj:Bc K mainGlobals nm=dB (dB (.ref C)))(hc:Cls K C)(hn:ww K C f)(ho:RE K E to o)(hv:RE K E tv m):RS K E (zps K to tv f) (VO nm f o m):=by
 intro F j D' σ H ρ S fl E0 e kk;rcases xk e with⟨y,S1,e1,e⟩|⟨c,S1,e1,rfl⟩
 .refine hv E0 e1 λj1 H1 X1 E1 wy t5=> ?_;rcases xk e with⟨x,S2,e2,e⟩|⟨c,S2,e2,rfl⟩
  .refine ho E1 e2 λj2 H2 X2 E2 u hu=> ?_;rw[BF] at e;obtain⟨⟨n,fs⟩,e3,e⟩:=e;dsimp only at e;split at e;rename_i hl;cases e;obtain⟨a,dx,vs,rfl,hj,f1,f2⟩:=E2.ins dj hu e3;obtain⟨E4,X4⟩:=E2.write (o:= .ins C dx (L2.YD f wy vs)) (c':= .ins nm (zcZ f y fs)) (zb5 e3).2 rfl hj rfl λX=>⟨C,dx,_,dj,zt,(KX.putF (t5.mono X2) f2).mono X⟩;exact⟨a,C,dx,vs,rfl,f1,hc,hn,by rw[f2.len2];exact hl,kk _ _ _ (X1.trans (X2.trans X4)) E4⟩;cases e
  exact ho E1 e2 (PX.mono kk X1)
 exact hv E0 e1 kk
noncomputable def zaO(nm:Str)(tw:TwF)(ms:n8 TwE):TwE:=λρ S=>rb (evL ms ρ S) λxs S1=>match tw (.ref S1.length::xs) (S1++[.ins nm []]) with
 |some (.ok .non S2)=>dB (.ok (.ref S1.length) S2)
 |_=>fC
set_option tactic.hygienic true in
def zei(dj:Bc K mainGlobals nm=dB (dB (.ref C)))(h:RL K E t (evL ms))(hn:ms.length+1=n:=by rfl):RE K E (ziu C (sTw K n tw) [] E t) (zaO nm tw ms):=by
 walk_at "!c"
 .refine h En0 e1 λj1 H1 X1 E1 vs hv=> ?_;intro x dx hx ph cx;rw[D2];split at e
  .rename_i S2 e2;cases e;have jt:upd H1 dx (.own x) x=fC:=by rw[zi (λz=>cx z.symm)];exact hx
   obtain⟨E2,X2⟩:=E1.new (p:=dx) (o:= .own x) ph;obtain⟨E3,X3⟩:=E2.cell (p:=x) (o:= .ins C dx []) (c:= .ins nm []) jt ⟨C,dx,[],dj,zt,.nil⟩;have X23:=X2.trans X3;have hr:Xis K (j1++[x]) (upd (upd H1 dx (.own x)) x (.ins C dx [])) (.ref S1.length) (.ref x):= .ref (by rw[<-E1.jl];simp);refine Wt E3 (.cons hr (hv.mono X23)) (by rw[Bo,hv.len,YH e1,hn]) e2 λj' H' X E4 v hw=> ?_;exact⟨hw.non_inv,k _ _ (X1.trans (X23.trans X)) E4 _ (hr.mono X)⟩
  cases e
 exact h En0 e1 k
end
section
def wV(h:W (o ρ S) λx S1=>∃n fs y,x= .ref n/\S1[n]? =dB (.ins nm fs)/\fs.lookup f=dB y/\P y S1):W (vR nm f o ρ S) P:=
 W.bind (h.imp λ_ _ h=>by obtain⟨n,fs,y,rfl,e1,e2,q⟩:=h;rw[zgK e1,B7,e2];exact .of rfl q)
def YN(h:W (m ρ S) λy S1=>W (o ρ S1) λx S2=>∃n fs,x= .ref n/\S2[n]? =dB (.ins nm fs)/\fs.length<1000/\N ρ (S2.set n (.ins nm (zcZ f y fs)))):WS (VO nm f o m ρ S) N R:=
 WS.bind (h.imp λ_ _ h=>WS.bind (h.imp λ_ _ h=>by obtain⟨n,fs,rfl,e1,e2,q⟩:=h;rw[zgK e1,B7,if_pos e2];exact .nx rfl q))
def zgM(h:W (evL ms ρ S) λxs S1=>W (tw (.ref S1.length::xs) (S1++[.ins nm []])) λv S2=>v= .non/\P (.ref S1.length) S2):W (zaO nm tw ms ρ S) P:=
 W.bind (h.imp λxs S1 h=>by
  obtain⟨v,S2,e,rfl,q⟩:=h;rw[e]
  exact .of rfl q)
end
def VP{K:AO}(h:X.K=K:=by rfl):IxR X (rIx K):=h ▸ znX
section
variable{K:AO}{E:XK}{j:n8 qo}
end
section
variable{K:AO}{E:XK}{F:Fm}{j:n8 qo}{x:Xv}{v:V}{c:Str}{C:qo}
end
end L2
namespace L2
section
variable{S':Sto}{x y:Xv}{a b m o:TwE}{c:TwT}{s t:TwS}{i k:Nat}{PL:n8 Xv->Sto->Prop}{X:Str->Sto->Prop}
end
open PySem.Calls
section
variable{K:AO}{E:XK}
theorem zej(h:zG K j H xs vs):∀n:Nat,zG K j H (B6 n xs).flatten (B6 n vs).flatten
 |0=> .nil
 |n+1=>by
  rw[Ck,Ck,D7,D7];exact h.append (zej h n)
end
structure zqJ(tw:TwF)(S:Sto)(l:n8 Xv)(is:n8 (n8 Int)):Prop where
 len:is.length=l.length
 key:∀(i:Nat) x,l[i]? =dB x->∃k,tw [x] S=dB (.ok k S)/\k.tupOf=dB ((is.getD i []).map Xv.int)
 fall:zpZ is
section
variable{K:AO}{E:XK}{j:n8 qo}
end
section
variable{K:AO}{E:XK}
noncomputable def zb6(x:Xv):pU (n8 Int):=x.tupOf.bind XI
def zjZ(h:Xis K j H x v)(e:zb6 x=dB ns):∃a,v= .ref a/\SqT K H a (ns.map V.int):=by
 unfold zb6 at e;cases et:x.tupOf with
 |none=>rw[et] at e;cases e
 |some l=>
  rw[et,B7] at e;obtain⟨a,vs,rfl,h1,h2⟩:=h.tupO et;rw[zaE e h2] at h1;exact⟨a,rfl,h1⟩
end
section
variable{K:AO}{E:XK}
end
section
variable{x y:Xv}
end
section
variable{K:AO}{E:XK}
end
section
variable{m:TwE}
end
section
variable{K:AO}{E:XK}
end
section
variable{x:Xv}
end
section
def znr(K:AO)(tl:TE):TI:=λσ H R=>tl σ H λx H1=>∃a,x= .ref a/\(((∃xs,SqL K H1 a xs)/\R (Itl K a) H1)\/((∃xs,SqT K H1 a xs)/\R (Itt K a) H1))
def zgN{K:AO}(hl:PE X l tl)(hK:X.K=K:=by rfl):PI X tg l (znr K tl):=by
 subst hK;intro pins s σ H R I h;refine thn (hl pins s σ H _ I h) ?_;rintro v s1 ⟨x,H1,I1,r1,a,rfl,⟨⟨xs,hq⟩,q⟩|⟨⟨xs,hq⟩,q⟩⟩
 .cases r1;obtain⟨ae,rv,p,hz⟩:=I1.list hq;refine wpAny_pyIter_list p.isList ?_;refine⟨s1.heap.objs.size,[s1.heap.objs.size],_,_,H1,rfl,I1.kept (t':=s1.toks) λb o e=>Heap.get?_push_of_some _ e,zbF a _,⟨_,Heap.get?_push_size _ rfl,rfl,rfl⟩,λb hb=> ?_,q⟩;have e:b=s1.heap.objs.size:=by simpa using hb
  walk_at "!j"
 cases r1;obtain⟨ae,rv,p,hz⟩:=I1.tuple hq;refine wpAny_pyIter_tuple (show s1.heap.IsTuple a ae.toArray from p) ?_;refine⟨s1.heap.objs.size,[s1.heap.objs.size],_,_,H1,rfl,I1.kept (t':=s1.toks) λb o e=>Heap.get?_push_of_some _ e,zeX a _,⟨_,Heap.get?_push_size _ rfl,rfl,rfl⟩,λb hb=> ?_,q⟩;have e:b=s1.heap.objs.size:=by simpa using hb
 walk_at "!j"
end
noncomputable def iA(m:TwE):TwI:=λρ S=>rb (m ρ S) λx S1=>match x with
 | .ref n=>(zA S1 (.ref n)).map λ_=> .ok (λS=>zA S (.ref n)) S1
 |y=>y.tupOf.map λl=> .ok (λ_=>dB l) S1
section
variable{K:AO}{E:XK}
set_option tactic.hygienic true in
def zl8(h:RE K E t m):RI K E (znr K t) (iA m):=by
 walk_at "!d"
 .have n9:∀y:Xv,x=y->y.tupOf.map (λl=>Rs.ok (λ_=>dB l) S1)=dB r->t σ H (λx H1=>∃a,x= .ref a/\(((∃xs,SqL K H1 a xs)/\R (Itl K a) H1)\/((∃xs,SqT K H1 a xs)/\R (Itt K a) H1))):=by
   rintro y rfl e;cases el:x.tupOf with
   |none=>rw[el] at e;cases e
   |some l=>
    rw[el] at e;cases e;refine h En0 e1 λj1 H1 X1 E1 u hu=> ?_;obtain⟨a,vs,rfl,h1,_⟩:=hu.tupO el;refine⟨a,rfl,.inr ⟨⟨vs,h1⟩,k _ _ X1 E1 _ ?_⟩⟩;intro F2 j2 H2 σ2 ρ2 S2 xs i X2 E2 e2;cases e2;obtain⟨a',ws,ea,g1,g2⟩:=(hu.mono X2).tupO el;cases ea;refine⟨λy ey=> ?_,λhle=>⟨ws,g1,by rw[g2.len];omega⟩⟩;obtain⟨w,f1,f2⟩:=g2.get ey;refine⟨⟨ws,w,g1,f1⟩,?_⟩;rintro v' H' ⟨rfl,hx⟩;have:=hx ws g1;rw[f1] at this;cases this;exact⟨vX.refl _,f2⟩
  split at e
  .rename_i n;cases el:zA S1 (.ref n) with
   |none=>rw[el] at e;cases e
   |some l=>
    rw[el] at e;cases e;refine h En0 e1 λj1 H1 X1 E1 u hu=> ?_;obtain⟨a,vs,rfl,h1,_⟩:=E1.lstAt hu el;refine⟨a,rfl,.inl ⟨⟨vs,h1.sql⟩,k _ _ X1 E1 _ ?_⟩⟩;intro F2 j2 H2 σ2 ρ2 S2 xs i X2 E2 e2;obtain⟨a',ws,ea,g1,g2⟩:=E2.lstAt (hu.mono X2) e2;cases ea;refine⟨λy ey=> ?_,λhle=>⟨ws,g1.sql,by rw[g2.len];omega⟩⟩;obtain⟨w,f1,f2⟩:=g2.get ey;refine⟨⟨ws,w,g1.sql,f1⟩,?_⟩;rintro v' H' ⟨rfl,hx⟩;have:=hx ws g1.sql;rw[f1] at this;cases this;exact⟨vX.refl _,f2⟩
  exact n9 _ rfl e
 exact h En0 e1 k
end
section
def zoy{Q':(Sto->pU (n8 Xv))->Sto->Prop}(h:W (m ρ S) λx S1=>∃n l,x= .ref n/\zA S1 (.ref n)=dB l/\Q' (λS=>zA S (.ref n)) S1):W (iA m ρ S) Q':=W.bind (h.imp λx S1 h=>by
 obtain⟨n,l,rfl,e,k⟩:=h;dsimp only;rw[e]
 exact .of rfl k)
def zoz{Q':(Sto->pU (n8 Xv))->Sto->Prop}(h:W (m ρ S) λx S1=>∃l,x= .tup l/\Q' (λ_=>dB l) S1):W (iA m ρ S) Q':=W.bind (h.imp λx S1 h=>by
 obtain⟨l,rfl,k⟩:=h
 exact .of rfl k)
end
end L2
namespace L2
open PyProof
open Builtin Builtin.Str
end L2
namespace L2
open PyProof
inductive PJ(X:Cx):List Expr->List TE->Prop where
 |nil:PJ X [] []
 |cons {e:Expr} {es:List Expr} {t:TE} {ts:List TE}:PE X e t->PJ X es ts->PJ X (e::es) (t::ts)
end L2
namespace L2
section
variable{K:AO}{E:XK}{F:Fm}{j:n8 qo}
inductive RJ(K:AO)(E:XK):List TE->List TwE->Prop where
 |nil:RJ K E [] []
 |cons {t:TE} {ts:List TE} {m:TwE} {ms:List TwE}:RE K E t m->RJ K E ts ms->RJ K E (t::ts) (m::ms)
end
section
variable{K:AO}{E:XK}{j:n8 qo}
end
section
variable{o m:TwE}{x y:Xv}
end
inductive Sh(n:Nat):List D->Nat->Nat->Prop where
 |nil:Sh n [] 0 0
 |int {i:Int} {r:List D} {w e:Nat}:i.natAbs<2^n->Sh n r w e->Sh n (.int i::r) (n+1+w) e
 |str {z:Str} {r:List D} {w e:Nat}:z.length<=n->(z.cps.toList.all λc=>decide (c<16^8))=fN->Sh n r w e->Sh n (.str z::r) (n+1+w) e
 |tup {l r:List D} {w e w' e':Nat}:Sh n l w e->Sh n r w' e'->Sh n (.tup l::r) (w+1+w') (max (e+1) e')
 |lst {l r:List D} {w e w' e':Nat}:Sh n l w e->Sh n r w' e'->Sh n (.lst l::r) (w+1+w') (max (e+1) e')
structure zqK(d:D):Prop where
 seq:∃l,d= .tup l\/d= .lst l
 sh:∃n w e,Sh n [d] w e/\8<=n/\n<=1900/\e<=100/\(n+3)*w+n+1<=16777216
section
variable{K:AO}
end
open PyProof
section
variable{K:AO}{E:XK}
end
end L2
namespace L2
theorem zb7:∀{ns:n8 (Str×NameKind)} {cs:n8 (Str×qo)} {p:Str×qo},p∈Tt env ns cs->p∈cs\/(p.1,NameKind.free)∈ns
 |[],_,_,h=> .inl h
 |(n,k)::r,cs,p,h=>by
  unfold Tt at h;rcases zb7 h with h|h
  .by_cases hk:(k== .free)=fN
   .rw[if_pos hk] at h;have uf:k= .free:=by simpa using hk
    cases e:env.cells.lookup n with
    |none=>rw[e] at h;exact .inl h
    |some c=>
     rw[e] at h;rcases Bi.mp h with rfl|h;exact .inr (by rw[uf];exact BJ);exact .inl h
   rw[if_neg hk] at h;exact .inl h
  exact .inr (Br _ h)
set_option tactic.hygienic true in
def zfx(l:n8 pW)(h:TriplesOk l):codeAmong pos (l++[rawInt a,rawInt b,c])=dB cv->codeAmong pos l=dB cv\/cv=c:=by
 fun_induction TriplesOk l with
 |case1=>
  intro e;simp only[HG,codeAmong,rawInt] at e;split at e;cases e;exact .inr rfl;cases e
 |case2 a t b u x rest ih=>
  intro e;simp only[EA,codeAmong] at e ⊢;split at e;rename_i hc;rw[if_pos hc];exact .inl e;rename_i hc;rw[if_neg hc];exact ih h e
 |case3 l h1 h2=>exact h.elim
section
def Inv.freeze(I:Inv X pins σ H s)(hx:X.env.cells.lookup x=dB c)(hz:X.zn x=fN)(hf:X.fn x=kb):∃H' o,Inv X pins σ H' s/\vX H H'/\H' c=dB (.frz o (.own 0))/\s.heap.get? c=dB o:=by
 obtain⟨v,o,ho,hd⟩:=I.cell x c hx;rcases I.freeC x c hx with hn|⟨_,o',h'⟩
 .have gu:=I.ok.cab x c (.inr hz) hx;have ne:∀b u,H b=dB u->b≠c:=λb u e z=>by rw[z,hn] at e;cases e
  refine⟨upd H c (.frz o (.own 0)),o,⟨I.ok,I.os,I.bare,⟨I.base.keep,I.base.slot,λb ob e n jt=> ?_,I.base.there,λb xs e=> ?_,λb ob u e=> ?_,λb ps e=> ?_⟩,I.loc,I.cell,?_,λy d e=> ?_,λp hp=> ?_,λb u e=> ?_,I.len⟩,yB hn,zt,ho⟩;rw[zi (Bj (B3 (Heap.lt_size e) gu))];exact I.base.free b ob e n jt;have:=I.base.tups b xs e;rw[zi (ne b _ this)];exact this;have:=I.base.frzs b ob u e;rw[zi (ne b _ this)];exact this;obtain⟨m,q⟩:=I.base.tbls b ps e;exact⟨m,by rw[zi (ne b _ q)];exact q⟩;rw[zi (BM (I.cne x c hx))];exact I.free;by_cases rL:d=c;subst rL;obtain rfl:=I.ok.inj y x d e hx;exact .inr ⟨hf,o,zt⟩;rw[zi rL];exact I.freeC y d e;obtain⟨e,n,r1,r2,r3⟩:=I.pin p hp;refine⟨e,?_,r1,r2,r3⟩;rw[zi];exact n;intro q;rw[q,ho] at e;cases e;exact r3 v hd;by_cases hb:b=c;subst hb;rw[zt] at e;cases e;exact⟨ho,o,ho⟩
  rw[zi hb] at e;exact(I.hok b u e).stay (λ_ _ _ q=>q) (λd q=>by rw[zi (ne d _ q)];exact q) λd xs q=>by rw[zi (ne d _ q)];exact q
 exact⟨H,o',I,λ_ _ e=>e,h',(I.hok c _ h').1⟩
theorem Inv.freezeL(I:Inv X pins σ H s):∀(l:n8 (Str×qo)),(∀p∈l,X.env.cells.lookup p.1=dB p.2/\X.zn p.1=fN/\X.fn p.1=kb)->∃H',Inv X pins σ H' s/\vX H H'/\∀p∈l,∃o,H' p.2=dB (.frz o (.own 0))/\s.heap.get? p.2=dB o
 |[],_=>⟨H,I,λ_ _ e=>e,λp hp=>nomatch hp⟩
 |p::r,h=>by
  obtain⟨H1,I1,S1,f1⟩:=I.freezeL r λq hq=>h q (Br _ hq);obtain⟨a1,a2,a3⟩:=h p BJ;obtain⟨H2,o,I2,S2,e1,e2⟩:=I1.freeze a1 a2 a3;refine⟨H2,I2,λb u e=>S2 b u (S1 b u e),λq hq=> ?_⟩;rcases Bi.mp hq with rfl|hq;exact⟨o,e1,e2⟩;obtain⟨o',e3,e4⟩:=f1 q hq;exact⟨o',S2 _ _ e3,e4⟩
def Inv.lamMade{P c f:qo}(I:Inv X pins σ H s)(hP:H P=dB (.tbl ps))(hx:∀b o,b≠P->s.heap.get? b=dB o->h'.get? b=dB o)
  (rS:h'.get? P=dB (DJ (ps++more))) (hc:s.heap.objs.size<=c) (hJ:h'.get? c=dB oc) (hf:s.heap.objs.size<=f) (jP:h'.get? f=dB fo) (An:c≠f):
  Inv X pins σ (upd (upd (upd H P (.tbl (ps++more))) c (.frz oc (.own 0))) f (.frz fo (.own 0))) {s with heap:=h',toks:=t'}:=by
 have mx:P<s.heap.objs.size:=(I.hok P _ hP).lt;have gt:∀a b:Nat,a<s.heap.objs.size->s.heap.objs.size<=b->b≠a:=λa b h1 h2=>by omega
 have cP:c≠P:=gt P c mx hc;have fP:f≠P:=gt P f mx hf;have old:∀b,b<s.heap.objs.size->b≠P->upd (upd (upd H P (.tbl (ps++more))) c (.frz oc (.own 0))) f (.frz fo (.own 0)) b=H b:=λb hb hp=>by
  rw[zi (BM (gt b f hb hf)),zi (BM (gt b c hb hc)),zi hp]
 have kJ:∀b u,H b=dB u->b<s.heap.objs.size:=λb u e=>(I.hok b u e).lt;have z6:upd (upd (upd H P (.tbl (ps++more))) c (.frz oc (.own 0))) f (.frz fo (.own 0)) P=dB (.tbl (ps++more)):=by
  rw[zi (BM fP),zi (BM cP),zt]
 have nP:∀b,H b=fC->b≠P:=λb n z=>by rw[z,hP] at n;cases n
 refine I.step (g':=s.gens) (d':=s.drawn) (ch:=[]) (λ_ z=>nomatch z) (λb o _ _ _ e n=>hx b o (nP b n) e) (λb o _ _ _ e n=>⟨o.slots,hx b o (nP b n) e⟩) (λb o _ e n=>by rw[old b (Heap.lt_size e) (nP b n)];exact n)
  (λb o _ e=> ?_) (λb xs e=> ?_) (λb o u e=> ?_) (λb qs e=> ?_) (λm hm=> ?_) (λb u e=> ?_) I.bare
 .by_cases hb:b=P;subst hb;exact⟨_,rS⟩;exact⟨o,hx b o hb e⟩
 .rw[old b (kJ b _ e) (λz=>by rw[z,hP] at e;cases e)];exact e
 .rw[old b (kJ b _ e) (λz=>by rw[z,hP] at e;cases e)];exact e
 .by_cases hb:b=P;subst hb;rw[hP] at e;cases e;exact⟨more,z6⟩;exact⟨#[],by rw[old b (kJ b _ e) hb,e];simp⟩
 .obtain⟨o,es,ep,ho,r⟩:=hm;exact⟨o,es,ep,hx _ o (nP _ I.free) ho,r⟩
 by_cases h1:b=f;subst h1;rw[zt] at e;cases e;exact⟨jP,fo,jP⟩;rw[zi h1] at e;by_cases h2:b=c;subst h2;rw[zt] at e;cases e;exact⟨hJ,oc,hJ⟩;rw[zi h2] at e;by_cases h3:b=P;subst h3;rw[zt] at e;cases e;exact rS;rw[zi h3] at e;refine(I.hok b u e).stay (λd o q r=>hx d o ?_ r) (λd q=> ?_) λd xs q=> ?_;rcases q with q|q;rw[q];exact h3;intro z;rw[z,hP] at q;cases q;rw[old d (kJ d _ q) (λz=>by rw[z,hP] at q;cases q)];exact q;rw[old d (kJ d _ q) (λz=>by rw[z,hP] at q;cases q)];exact q
end
structure zoA(X:Cx)(sc:Scope)(fr:n8 Str)(is:n8 Nat):Prop where
 blk:zcD X sc
 fre:∀(i:Nat) x,fr[i]? =dB x->sc.names.lookup x=dB .free/\∃k,is[i]? =dB k/\X.N[k]? =dB x
 all:∀y∈sc.names,y.2= .free->X.zn y.1=fN/\X.fn y.1=kb
def zoB(L:xi)(P:qo)(is:n8 Nat):TE:=λσ H Q=>∃(ps:Array pW) (vs:n8 V),H P=dB (.tbl ps)/\TriplesOk ps.toList/\(∀pos cv,codeAmong pos ps.toList=dB cv->∃c,cv= .ref c/\Yl H L.q c)/\
 is.map (λi=>(σ[i]?).join)=vs.map dB/\
 ∀f ps' H',vX (upd H P (.tbl ps')) H'->TriplesOk ps'.toList->(∀pos cv,codeAmong pos ps'.toList=dB cv->∃c,cv= .ref c/\Yl H' L.q c)->WK H' L f vs->Q (.ref f) H'
def zoC{id:Nat}{par:Arguments}{body:Expr}{sc:Scope}{pos:Pos}{tn:WB}{fr:n8 Str}{is:n8 Nat}{c P:qo}(S:zoA X sc fr is)(hq:X.env.qual=tn.d++".<locals>.")(fL:X.env.code= .ref c)(hC:DP X.K c P=fN)
  (jQ:defaultsOf par X.env=([],[]):=by rfl):PE X (.Lambda par body sc pos) (zoB ⟨id,par,body,sc,tn,fr⟩ P is):=by
 have hq:X.env.qual++"<lambda>"=tn.q:=by rw[hq];rfl
 generalize k9:tn.q=q at hq;intro pins s σ H Q I hh;obtain⟨ps,vs,hP,ht,j9,o6,k⟩:=hh;simp only[xi.q,k9] at j9 k;have mZ:s.heap.get? P=dB (DJ ps):=I.hok P _ hP;have hg:s.heap.Ns mainGlobals X.mg:=I.mod.glob.keeps I.bk;have ur:mainGlobals≠P:=λz=>by
  obtain⟨o,es,ep,e,hd,_⟩:=hg;rw[z,mZ] at e;cases e;cases hd
 have C:PySem.W.CodeHd s.heap c P:=GI I.kIn hC;have hb:s.heap.BuiltinsAt X.mg P:=by
  obtain⟨bm,ob,b1,b2,b3,b4,b5,b6⟩:=I.mod.bmn;have b3:=I.bk _ _ b3;refine⟨bm,ob,b1,b2,λz=> ?_,λz=> ?_,b3,b4,b5,b6⟩;obtain⟨o,es,ep,e,hd,_⟩:=hg;rw[z,e] at b3;cases b3;rw[hd] at b6;cases b6;rw[z,mZ] at b3;cases b3;cases b4
 have fin:∀(f c':qo) (pm cX:pW) (ps':Array pW) (H1:Hp) (s1:pX),Inv X pins σ H1 s1->vX (upd H P (.tbl ps')) H1->TriplesOk ps'.toList->(∀pos cv,codeAmong pos ps'.toList=dB cv->∃c,cv= .ref c/\Yl H1 q c)->
   H1 f=dB (.frz (D3 "<lambda>" q par body sc (YF sc X.env) pm c' cX) (.own 0))->Yl H1 q c'->EP X pins σ Q (.ref f) s1:=by
  intro f c' pm cX ps' H1 s1 I1 S1 t1 c1 hf eK;have cl:∀p∈YF sc X.env,X.env.cells.lookup p.1=dB p.2/\X.zn p.1=fN/\X.fn p.1=kb:=λp hp=>by
   refine⟨zao (cs:=[]) (λp hp=>nomatch hp) p hp,?_⟩;rcases zb7 hp with z|z;cases z;exact S.all _ z rfl
  obtain⟨H2,I2,S2,f2⟩:=I1.freezeL (YF sc X.env) cl;refine⟨.ref f,H2,I2,rfl,k f ps' H2 (λb u e=>S2 b u (S1 b u e)) t1 (λp cv e=> ?_) ⟨YF sc X.env,pm,cX,c',by rw[show xi.q ⟨id,par,body,sc,tn,fr⟩=q from k9];exact S2 _ _ hf,by rw[show xi.q ⟨id,par,body,sc,tn,fr⟩=q from k9];exact eK.mono (xG.same S2),λi x v e1 e2=> ?_,λx y a e1 e2=> ?_,λy hy e=> ?_,λx a e=> ?_⟩⟩;obtain⟨d,e1,e2⟩:=c1 p cv e;exact⟨d,e1,e2.mono (xG.same S2)⟩
  .obtain⟨h1,n,h2,h3⟩:=S.fre i x e1;have hm:(x,NameKind.free)∈sc.names:=Bw h1;have hs:σ[n]? =dB (dB v):=by
    have e:=congrArg (λl=>l[i]?) o6;simp only[AW,h2,e2,Cd,BG] at e;cases q:σ[n]? with
    |none=>rw[q] at e;cases e
    |some z=>rw[q] at e;exact congrArg dB e
   obtain⟨m,hn,hl⟩:=I2.loc;have hk:=S.blk.free _ hm rfl;obtain⟨u,r,l⟩:=hl n x v h3 hs (by rcases hk with k|k;exact .inr (.inl k);exact .inr (.inr k));rcases l with⟨k',_⟩|⟨_,a,ha,o,ho,hd⟩
   .rcases hk with k''|k'';rw[k'] at k'';cases k'';rw[k'] at k'';cases k''
   have dF:(YF sc X.env).lookup x=dB a:=zap hm ha;obtain⟨o',e3,e4⟩:=f2 (x,a) (Bw dF);rw[ho] at e4;cases e4;exact⟨a,o,u,dF,e3,hd,r⟩
  .exact I1.ok.inj x y a (Yk e1) (Yk e2)
  .obtain⟨a,ha⟩:=I1.ok.has y.1 (S.blk.free y hy e);exact⟨a,zap (by rw[<-e];exact hy) ha⟩
  obtain⟨o,e3,e4⟩:=f2 (x,a) (Bw e);obtain⟨u,o',e5,hd⟩:=I2.cell x a (Yk e);rw[e4] at e5;cases e5;exact⟨o,u,e3,hd⟩
 refine PySem.W.kla_eval jQ ?_;rw[hq];cases pA:codeAmong pos ps.toList with
 |none=>
  refine PySem.W.kla_makeFunction (I.closure S.blk) I.ok.glob hg fL C mZ ht pA ur hb λc' cX h' tk hx fj cJ oq og=> ?_;obtain⟨c₂,oc,fs,t,e2,mJ,hd,hv⟩:=oq;cases e2;have I1:=I.lamMade (t':=tk) (h':=h'.push (D3 "<lambda>" q par body sc (YF sc X.env) ((X.mg "__name__").getD .none) c' cX)) (fo:=D3 "<lambda>" q par body sc (YF sc X.env) ((X.mg "__name__").getD .none) c' cX) (more:= #[rawInt pos.line,rawInt pos.col,.ref c']) hP (λb o eL e=>Heap.get?_push_of_some _ (hx b o eL e)) (Heap.get?_push_of_some _ og) fj (Heap.get?_push_of_some _ mJ) (AZ fj (Ba cJ)) (Heap.get?_push_size _ rfl) (Bj cJ);have mx:P<s.heap.objs.size:=(I.hok P _ hP).lt;have S1:vX (upd H P (.tbl (ps++ #[rawInt pos.line,rawInt pos.col,.ref c']))) (upd (upd (upd H P (.tbl (ps++ #[rawInt pos.line,rawInt pos.col,.ref c']))) c' (.frz oc (.own 0))) h'.objs.size (.frz (D3 "<lambda>" q par body sc (YF sc X.env) ((X.mg "__name__").getD .none) c' cX) (.own 0))):=λb u e=>by
   have eL:b<s.heap.objs.size:=by
    by_cases eL:b=P;rw[eL];exact mx;rw[zi eL] at e;exact(I.hok b u e).lt
   rw[zi (Bj (B3 eL (AZ fj (Ba cJ)))),zi (Bj (B3 eL fj))];exact e
  have kg:Yl (upd (upd (upd H P (.tbl (ps++ #[rawInt pos.line,rawInt pos.col,.ref c']))) c' (.frz oc (.own 0))) h'.objs.size (.frz (D3 "<lambda>" q par body sc (YF sc X.env) ((X.mg "__name__").getD .none) c' cX) (.own 0))) q c':=⟨oc,fs,t,by rw[zi (Bj cJ),zt],hd,hv⟩;refine fin _ c' _ cX _ _ _ I1 S1 (by rw[GJ];exact TriplesOk_snoc _ _ _ _ ht) (λp cv e=> ?_) zt kg;rw[GJ] at e;rcases zfx ps.toList ht e with e|rfl;obtain⟨d,e1,oc',fs',t',e2,r⟩:=j9 p cv e;refine⟨d,e1,oc',fs',t',S1 _ _ ?_,r⟩;rw[zi (λz=>by rw[z,hP] at e2;cases e2)];exact e2;exact⟨c',rfl,kg⟩
 |some cv=>
  obtain⟨c',rfl,kg⟩:=j9 pos cv pA;refine PySem.W.kla_makeFunctionHit (I.closure S.blk) I.ok.glob hg fL C mZ ht pA hb λcX h' tk hk hsz=> ?_;have rD:H h'.objs.size=fC:=I.hok.fresh hsz;have I1:=I.laid (t':=tk) (a:=h'.objs.size) (o:= .frz (D3 "<lambda>" q par body sc (YF sc X.env) ((X.mg "__name__").getD .none) c' cX) (.own 0)) (λb o e=>Heap.get?_push_of_some _ (hk b o e)) hsz ⟨Heap.get?_push_size _ rfl,_,Heap.get?_push_size _ rfl⟩;have S1:vX H (upd H h'.objs.size (.frz (D3 "<lambda>" q par body sc (YF sc X.env) ((X.mg "__name__").getD .none) c' cX) (.own 0))):=yB rD;refine fin _ c' _ cX ps _ _ I1 (λb u e=>S1 b u ?_) ht (λp cv e=> ?_) zt (kg.mono (xG.same S1));by_cases eL:b=P;subst eL;rw[zt] at e;cases e;exact hP;rw[zi eL] at e;exact e;obtain⟨d,e1,e2⟩:=j9 p cv e;exact⟨d,e1,e2.mono (xG.same S1)⟩
noncomputable def zb8(P:Program)(w:World)(K:AO)(mg:Str->pU pW)(base:Heap)(N:n8 Str)(L:xi)(aC:n8 (Str×qo))(f c:qo)(A:Around)(outer:n8 Env)(s:pX)(H:Hp):Cx where
 prog:=P
 w:=w
 K:=K
 mg:=mg
 base:=base
 A:=A.deeper (FD L.q L.sc s.heap.objs.size f (.ref c) aC)
 N:=N
 s₀:=s
 H₀:=H
 env:=FD L.q L.sc s.heap.objs.size f (.ref c) aC
 outer:=outer
 stack:=FD L.q L.sc s.heap.objs.size f (.ref c) aC::outer
 ex:=[]
 calm:=fN
 fn:=λ_=>kb
 zn:=λ_=>kb
 pn:=[]
 xe:=λ_ _=>False
structure zek(ps fr:n8 Str)(sc:Scope):Prop where
 kind:sc.kind= .function
 co:sc.isCoroutine=kb
 gen:sc.isGenerator=kb
 nd:ps.Nodup
 par:∀x∈ps,sc.names.lookup x=dB .local
 fre:∀x∈fr,sc.names.lookup x=dB .free
 noc:∀y∈sc.names,y.2≠ .cell
theorem VQ:∀{l:n8 (Str×pW)},(l.map (·.1)).Nodup->(x,u)∈l->l.lookup x=dB u
 |[],_,h=>by cases h
 |(y,v)::r,nd,h=>by
  rw[Be,Cb] at nd;rw[BQ];rcases Bi.mp h with h'|h';cases h';simp
  have:x≠y:=by
   intro z;subst z;exact nd.1 (Bq.mpr ⟨_,h',rfl⟩)
  rw[show(x==y)=kb by simpa using this];exact VQ nd.2 h'
def zj0{ps:n8 Str}{us:n8 pW}{i:Nat}{x:Str}{u:pW}(nd:ps.Nodup)(hl:us.length=ps.length)(h1:ps[i]? =dB x)(h2:us[i]? =dB u):(ps.zip us).reverse.lookup x=dB u:=by
 refine VQ ?_ (List.mem_reverse.mpr (AX (i:=i) ?_));rw[List.map_reverse,(List.reverse_perm _).nodup_iff,List.map_fst_zip ⋯];exact nd;rw[CH];exact⟨h1,h2⟩
def CL(outer:n8 Env)(P:Program)(w:World)(H:Hp)(s:pX)(Q:VK)(r:Result)(s':pX):Prop:=match r with
 | .ok (.ret u)=>CE outer P w H s Q u s'
 |_=>False
def zl9{P:Program}{K:AO}{mg:Str->pU pW}(S:zek ps L.fr L.sc)
  (hb:∀(aC:n8 (Str×qo)) (pm cX:pW) (c:qo) (us:n8 pW),us.length=ps.length->bindArgs (HV "<lambda>" L.q L.par L.body L.sc aC pm (.ref c) cX) ⟨us,[]⟩=pure (ps.zip us)) {us:n8 pW} {Q:VK} (hr:xh (k+1) A) (e0:Uq P w K mg base A outer s H) (hL:WK H L f vs) (gI:vs.length=L.fr.length) (r:zK as us) (hl:as.length=ps.length)
  (dm:∀(aC:n8 (Str×qo)) (c:qo),xh k (zb8 P w K mg base (ps++L.fr) L aC f c A outer s H).A->∃t,PE (zb8 P w K mg base (ps++L.fr) L aC f c A outer s H) L.body t/\t ((as++vs).map dB) H Q):
  codeAny (model P w) A (.call (.ref f) ⟨us,[]⟩) (CL outer P w H s Q) s:=by
 obtain⟨aC,pm,cX,c,h1,⟨oc,fs,t,iz,dR,uL⟩,h3,h4,h5,h6⟩:=hL.ex;have jP:=(e0.hok f _ h1).1;have hJ:=(e0.hok c _ iz).1;have lim:s.heap.NoLimit:=e0.mod.nolimit.keeps λb o e=>(e0.bs b o e).1;have qO:us.length=ps.length:=by rw[<-r.length];exact hl
 refine PySem.W.kla_callFunE hr.depth jP rfl S.co S.gen rfl ⟨c,oc,fs,t,rfl,hJ,dR,uL⟩ ?_;rw[hb aC pm cX c us qO];refine wpAny_pure (wpAny_newFunctionEnv S.noc (λy hy=>S.par _ (Dx hy).1) (λh₁ dj gK=>⟨lim.fresh _ gK,?_⟩) S.kind);show codeAny _ _ (.expr L.body (FD L.q L.sc s.heap.objs.size f (.ref c) aC)) _ _;have hk:∀b o,s.heap.get? b=dB o->h₁.get? b=dB o:=λb o e=>gK.extBut b o (Bj (Heap.lt_size e)) (Heap.get?_push_of_some _ e);have i5:∀b:qo,b∉(zb8 P w K mg base (ps++L.fr) L aC f c A outer s H).ex:=λb z=>absurd (show b∈([]:n8 qo) from z) (by simp);have I:Inv (zb8 P w K mg base (ps++L.fr) L aC f c A outer s H) [] ((as++vs).map dB) H {s with heap:=h₁,toks:=s.toks+(ps.zip us).length}:=by
  refine⟨⟨e0.mod,S.kind,rfl,rfl,B1 _,λy z a e1 e2=>h4 y z a e1 e2,λy hy=> ?_,λy a z _=>(z.elim (λz=>EB z) λz=>EB z),λ_=>hr.hd,Around.frames_deeper e0.frames,.inr ⟨rfl,rfl⟩,λb z=>absurd z (i5 b),e0.bs,e0.bsz,λb _ _=>i5 b,λb z=>absurd z (i5 b),e0.funs,e0.frf⟩,
   rfl,e0.bare,Un.kept hk,⟨_,dj,λi y v e1 e2 e3=> ?_⟩,λy a e=> ?_,e0.hok.fresh (B1 _),λy a e=> ?_,λp hp=>absurd (show p∈([]:n8 (qo×Obj)) from hp) (by simp),e0.hok.kept hk,?_⟩
  .have hy:L.sc.names.lookup y=dB .cell\/L.sc.names.lookup y=dB .free:=hy;rcases hy with hy|hy;exact absurd rfl (S.noc _ (Bw hy));exact h5 _ (Bw hy) rfl
  .have e1:(ps++L.fr)[i]? =dB y:=e1;rw[AW,AY] at e2;obtain⟨v',e2,y2⟩:=e2;cases y2;by_cases hi:i<ps.length;rw[B2 hi] at e1;rw[B2 ⋯] at e2;obtain⟨u,hu,rv⟩:=r.get e2;exact⟨u,rv,.inl ⟨S.par y (AX e1),zj0 S.nd qO e1 hu⟩⟩;rw[B4 ⋯] at e1;rw[B4 ⋯,hl] at e2;obtain⟨a,o,u,g1,g2,g3,g4⟩:=h3 _ _ _ e1 e2;exact⟨u,g4,.inr ⟨.inr (S.fre y (AX e1)),a,g1,o,hk _ _ (e0.hok a _ g2).1,g3⟩⟩
  .obtain⟨o,u,g2,g3⟩:=h6 y a e;exact⟨u,o,hk _ _ (e0.hok a _ g2).1,g3⟩
  .obtain⟨o,u,g2,g3⟩:=h6 y a e;exact .inr ⟨rfl,o,g2⟩
  show _=(ps++L.fr).length;rw[AV,Bz,Bz,hl,gI]
 obtain⟨tt,ht,hq⟩:=dm aC c (hr.deeper _);refine PySem.W.kla_codeExpr (wpAny_mono (ht [] _ _ H Q I hq) (λu s' hs=> ?_) λe s' z=>BP z);obtain⟨v,H',J,rv,q⟩:=hs;exact⟨v,H',J.os,J.bare,J.base,J.hok,rv,q⟩
def zj1(P:Program)(w:World)(K:AO)(mg:Str->pU pW)(base:Heap)(k:Nat)(R:V->n8 V->Hp->VK->Prop):Prop:=
 ∀(A:Around) (outer:n8 Env) (s:pX) (H:Hp) (f:qo) (as:n8 V) (us:n8 pW) (Q:VK),xh k A->Uq P w K mg base A outer s H->zK as us->R (.ref f) as H Q->codeAny (model P w) A (.call (.ref f) ⟨us,[]⟩) (CL outer P w H s Q) s
noncomputable def zfy(ρ:Rho):n8 Nat->pU (n8 Xv)
 |[]=>dB []
 |i::r=>(ρ[i]?).join.bind λx=>(zfy ρ r).map (x:: ·)
noncomputable def zhL(L:xi)(n:Nat)(is:n8 Nat):TwE:=λρ S=>match S[n]? with
 |some (.tab t)=> @ite _ (t=L.t) (Ei _) ((zfy ρ is).map λxs=> .ok (.lam L xs) S) fC
 |_=>fC
noncomputable def WP:n8 (xi×(n8 Xv->TwF))->xi->pU (n8 Xv->TwF)
 |[],_=>fC
 |(M,t)::r,L=> @ite _ (M=L) (Ei _) (dB t) (WP r L)
noncomputable def zhM(n m:Nat)(e:TwE):n8 Xv->TwF:=λaz xs S=>if xs.length=n/\az.length=m then e ((xs++az).map dB) S else fC
section
variable{K:AO}{E:XK}
def zgO{t:n8 Xv->TwF}{r:n8 (xi×(n8 Xv->TwF))}:WP ((L,t)::r) L=dB t:=by unfold WP;exact if_pos rfl
theorem zel{t:n8 Xv->TwF}:∀{fns:n8 (xi×(n8 Xv->TwF))},WP fns L=dB t->(L,t)∈fns
 |[],h=>by cases h
 |(M,u)::r,h=>by
  unfold WP at h;by_cases e:M=L;rw[if_pos e] at h;cases h;rw[e];exact BJ;rw[if_neg e] at h;exact Br _ (zel h)
def En.writeS(E1:En K F j H σ ρ S)(hs:S[n]? =dB c)(z:c.fz=kb)(hj:j[n]? =dB a)(Sm:vX (upd H a o) H')(hc:VC K j H' a c'):En K F j H' σ ρ (S.set n c')/\Ext j H j H':=by
 obtain⟨o0,h0,m0⟩:=(E1.cel n c a hs hj).mu z;have S1:vX H (upd H' a o0):=λb u e=>by
  by_cases hb:b=a;subst hb;rw[zt];rw[h0] at e;exact e;rw[zi hb];exact Sm b u (by rw[zi hb];exact e)
 have e2:upd (upd H' a o0) a o=H':=by
  funext b;by_cases hb:b=a;subst hb;rw[zt];exact(Sm b o zt).symm;rw[zi hb,zi hb]
 have E2:=E1.heap S1;obtain⟨E3,X3⟩:=E2.writeF (o:=o) (c':=c') hs z hj (λX=>by rw[e2];exact hc);rw[e2] at E3 X3;exact⟨E3,(Ext.same S1).trans X3⟩
theorem zem(E1:En K F j H σ ρ S):∀{is:n8 Nat} {xs:n8 Xv},zfy ρ is=dB xs->∃vs,is.map (λi=>(σ[i]?).join)=vs.map dB/\zG K j H xs vs
 |[],xs,h=>by cases h;exact⟨[],rfl,.nil⟩
 |i::r,xs,h=>by
  unfold zfy at h;cases e:(ρ[i]?).join with
  |none=>rw[e] at h;cases h
  |some x=>
   rw[e] at h;dsimp only[Er] at h;cases e2:zfy ρ r with
   |none=>rw[e2] at h;cases h
   |some ys=>
    rw[e2] at h;cases h;obtain⟨vs,h1,h2⟩:=zem E1 e2;have e':ρ[i]? =dB (dB x):=by
     cases q:ρ[i]? with
     |none=>rw[q] at e;cases e
     |some z=>rw[q] at e;exact congrArg dB e
    obtain⟨v,h3,h4⟩:=E1.slot i x e';exact⟨v::vs,by simp[h3,h1],.cons h4 h2⟩
set_option tactic.hygienic true in
def zj2{c P:qo}(hP:WC K L.t=dB (c,P)):RE K E (zoB L P is) (zhL L n is):=by
 intro F j σ H ρ S r Q En0 e k;unfold zhL at e;split at e
 .rename_i t es;by_cases ht:t=L.t
  .rw[if_pos ht] at e;subst ht;cases e2:zfy ρ is with
   |none=>rw[e2] at e;cases e
   |some xs=>
    rw[e2] at e;cases e;have hn:n<j.length:=by rw[En0.jl];exact(AQ.1 es).1
    have hj:j[n]? =dB j[n]:=AK hn;obtain⟨ps,d,hH,htk,ie,j9⟩:=En0.cel n _ _ es hj;rw[hP] at htk;cases htk;obtain⟨vs,h1,h2⟩:=zem En0 e2;refine⟨ps,vs,hH,ie,j9,h1,λf ps' H' Sm t' c' la=> ?_⟩;obtain⟨E2,X2⟩:=En0.writeS (c':= .tab L.t) es rfl hj Sm ⟨ps',c,Sm _ _ zt,hP,t',c'⟩;have fW:S.set n (.tab L.t)=S:=by
     apply Em;intro m;rw[Bs];split;rename_i q;subst q;rw[if_pos (AQ.1 es).1,es];rfl
    rw[fW] at E2;exact k _ _ X2 E2 _ (.lam la (h2.mono X2))
  rw[if_neg ht] at e;cases e
 cases e
def zoD(K:AO)(fns:n8 (xi×(n8 Xv->TwF))):V->n8 V->Hp->VK->Prop:=λx as H Q=>∃(j:n8 qo) (S S':Sto) (xs az:n8 Xv) (L:xi) (tw:n8 Xv->TwF) (z:Xv),
 En K ⟨H,j,S⟩ j H (as.map dB) (xs.map dB) S/\Xis K j H (.lam L az) x/\WP fns L=dB tw/\tw az xs S=dB (.ok z S')/\∀v j' H' σ ρ,En K ⟨H,j,S⟩ j' H' σ ρ S'->Xis K j' H' z v->Q v H'
def XN(P:Program)(w:World)(K:AO)(mg:Str->pU pW)(base:Heap)(k:Nat)(L:xi)(tw:n8 Xv->TwF):Prop:=∀(A:Around) (outer:n8 Env) (s:pX) (H:Hp) (f:qo) (vs as:n8 V) (us:n8 pW) (Q:VK) (j:n8 qo) (S S':Sto) (xs az:n8 Xv) (z:Xv),
 xh k A->Uq P w K mg base A outer s H->WK H L f vs->zG K j H az vs->zK as us->En K ⟨H,j,S⟩ j H (as.map dB) (xs.map dB) S->tw az xs S=dB (.ok z S')->
 (∀v j' H' σ ρ,En K ⟨H,j,S⟩ j' H' σ ρ S'->Xis K j' H' z v->Q v H')->codeAny (model P w) A (.call (.ref f) ⟨us,[]⟩) (CL outer P w H s Q) s
def XN.mono{P:Program}{mg:Str->pU pW}{tw:n8 Xv->TwF}(h:XN P w K mg base i L tw)(hk:i<=k):XN P w K mg base k L tw:=
 λA outer s H f vs as us Q j S S' xs az z hr=>h A outer s H f vs as us Q j S S' xs az z (hr.mono hk)
def zgP{P:Program}{mg:Str->pU pW}{fns:n8 (xi×(n8 Xv->TwF))}(h:∀p∈fns,XN P w K mg base k p.1 p.2):zj1 P w K mg base k (zoD K fns):=by
 rintro A outer s H f as us Q hr e0 r ⟨j,S,S',xs,az,L,tw,z,E1,hx,hp,ht,q⟩;cases hx with
 |lam la l=>exact h (L,tw) (zel hp) A outer s H f _ as us Q j S S' xs az z hr e0 la l r E1 ht q
set_option tactic.hygienic true in
def zj3{P:Program}{mg:Str->pU pW}(Sc:zek ps L.fr L.sc)(hn:ps.length=n)(hm:L.fr.length=mm)
  (hb:∀(aC:n8 (Str×qo)) (pm cX:pW) (c:qo) (us:n8 pW),us.length=ps.length->bindArgs (HV "<lambda>" L.q L.par L.body L.sc aC pm (.ref c) cX) ⟨us,[]⟩=pure (ps.zip us))
  (qT:∀(aC:n8 (Str×qo)) (f c:qo) (A:Around) (outer:n8 Env) (s:pX) (H:Hp),xh k (zb8 P w K mg base (ps++L.fr) L aC f c A outer s H).A->∃t,PE (zb8 P w K mg base (ps++L.fr) L aC f c A outer s H) L.body t/\RE K E0 t m):
  XN P w K mg base (k+1) L (zhM n mm m):=by
 intro A outer s H f vs as us Q j S S' xs az z hr e0 la l r E1 ht q;unfold zhM at ht;split at ht
 .rename_i hl;have pE:as.length=xs.length:=by have:=E1.len;simpa using this
  refine zl9 Sc hb hr e0 la (by rw[l.len,hl.2,hm]) r (by rw[pE,hl.1,hn]) λaC c dM=> ?_;obtain⟨t,h1,h2⟩:=qT aC f c A outer s H dM;refine⟨t,h1,h2 (E1.slots (σ':=(as++vs).map dB) (ρ':=(xs++az).map dB) (by simp[pE,l.len]) λi x e=> ?_) ht λj' H' X E' v hv=>q _ _ _ _ _ E' hv⟩;rw[AW,AY] at e;obtain⟨y,e,e'⟩:=e;cases e';by_cases hi:i<xs.length;rw[B2 hi] at e;obtain⟨v,h3,h4⟩:=E1.slot i x (by rw[AW,e];rfl);rw[AW,AY] at h3;obtain⟨v',h3,pM⟩:=h3;cases pM;exact⟨v,by rw[AW,B2 ⋯,h3];rfl,h4⟩;rw[B4 ⋯] at e;obtain⟨v,h3,h4⟩:=l.get e;exact⟨v,by rw[AW,B4 ⋯,pE,h3];rfl,h4⟩
 cases ht
def zj4(h:S[n]? =dB (.tab L.t))(hc:zfy ρ is=dB xs)(k:P (.lam L xs) S):W (zhL L n is ρ S) P:= .of (by
 unfold zhL;rw[h];dsimp only;rw[if_pos rfl,hc]
 rfl) k
def zgQ(h1:xs.length=n)(h2:az.length=m)(k:W (e ((xs++az).map dB) S) P):W (zhM n m e az xs S) P:=by
 unfold zhM;rw[if_pos ⟨h1,h2⟩];exact k
end
noncomputable def noE:Expr:= .Name Str.empty ⟨0,0,0,0⟩
noncomputable def zp1(s:Stmt)(i:Nat):Stmt:=(wQ s).getD i (.Pass ⟨0,0,0,0⟩)
noncomputable def zj5(e:Expr):Arguments:=match e with
 | .Lambda a _ _ _=>a
 |_=>{posonlyargs:=[],args:=[],vararg:=fC,kwonlyargs:=[],kw_defaults:=[],kwarg:=fC,defaults:=[]}
def zgR(e:Expr):Expr:=match e with
 | .Lambda _ b _ _=>b
 |_=>noE
noncomputable def zns(e:Expr):Scope:=match e with
 | .Lambda _ _ s _=>s
 |_=>{kind:= .function,names:=[],isGenerator:=kb,isCoroutine:=kb}
set_option tactic.hygienic true in
def VR{K:AO}{f c P:qo}(h:zja K f=dB (c,P)):DP K c P=fN/\∀{oc:pW} {od:pU qo} {fd:FuncData} {sl:Array (pU pW)},K.lookup f=dB ⟨oc,od,.func fd,sl⟩->fd.code= .ref c:=by
 unfold zja at h;split at h;rename_i Aw _ e1;split at h;rename_i c1 e2;split at h;split at h;split at h;rename_i hd;cases h;refine⟨hd,λe=> ?_⟩;rw[e1] at e;cases e;exact e2;cases h;cases h;cases h;cases h;cases h
noncomputable def zaP(fz:n8 Str)(CX:CXT)(P:Program)(w:World)(K:AO)(mg:Str->pU pW)(base:Heap)(N:n8 Str)(qual:Str)(scope:Scope)(f:qo)(cd:pW)(A:Around)(outer:n8 Env)(s:pX)(H:Hp)(E:XK):Cx:=
 {WA CX P w K mg base N qual scope f cd A outer s H E with fn:=λx=> !fz.contains x,zn:=λx=>fz.contains x}
def Inv.toZ{P:Program}{K:AO}{mg:Str->pU pW}{base:Heap}{N:n8 Str}{E:XK}
  (I:Inv (WA CX P w K mg base N qual scope f cd A outer s H E) pins σ H1 s1):Inv (zaP fz CX P w K mg base N qual scope f cd A outer s H E) pins σ H1 s1:=
 ⟨⟨I.ok.mod,I.ok.kind,I.ok.glob,I.ok.blt,I.ok.above,I.ok.inj,I.ok.has,λx c _ e=>I.ok.cab x c (.inl rfl) e,I.ok.hd,I.ok.frames,I.ok.stk,I.ok.exf,I.ok.bs,I.ok.bsz,I.ok.noex,I.ok.exfs,I.ok.funs,I.ok.frf⟩,I.os,I.bare,I.base,I.loc,I.cell,I.free,
  λx c e=> .inl ((I.freeC x c e).elim (λz=>z) λz=>EB (show fN=kb from z.1)),I.pin,I.hok,I.len⟩
noncomputable def zj6(osc sc:Scope)(N fz fr:n8 Str)(is:n8 Nat):Bool:=zi4 osc sc&&fr.length==is.length&&(fr.zip is).all (λp=>sc.names.lookup p.1==dB .free&&N[p.2]? ==dB p.1)&&sc.names.all (λy=>y.2 != .free||fz.contains y.1)
def zgS{N fz fr:n8 Str}(hs:X.env.scope=osc)(hN:X.N=N)(hf:X.fn=λx=> !fz.contains x)(hz:X.zn=λx=>fz.contains x)(h:zj6 osc sc N fz fr is=fN):zoA X sc fr is:=by
 unfold zj6 at h;simp only[Cj,CO,beq_iff_eq,bne_iff_ne,ne_eq,EW] at h;obtain⟨⟨⟨h1,h2⟩,h3⟩,h4⟩:=h;refine⟨blk hs h1,λi x e=> ?_,λy hy e=> ?_⟩
 .have hi:i<is.length:=by rw[<-h2];exact(AQ.1 e).1
  have e2:is[i]? =dB is[i]:=AK hi;obtain⟨g1,g2⟩:=h3 (x,is[i]) (AX (i:=i) (by rw[CH];exact⟨e,e2⟩));exact⟨g1,is[i],e2,by rw[hN];exact g2⟩
 have g:=(h4 y hy).resolve_left λz=>z e;rw[hf,hz];exact⟨g,by dsimp only;rw[g];rfl⟩
def zgT{L:xi}{e:Expr}{pos:Pos}{is:n8 Nat}{c P:qo}(S:zoA X L.sc L.fr is)(hq:X.env.qual=L.t.d++".<locals>.")(fL:X.env.code= .ref c)(hC:DP X.K c P=fN)
  (hL:e= .Lambda L.par L.body L.sc pos:=by rfl) (jQ:defaultsOf L.par X.env=([],[]):=by rfl):PE X e (zoB L P is):=by
 rw[hL];exact zoC (id:=L.id) S hq fL hC jQ
section
variable{P:Program}{K:AO}{mg:Str->pU pW}
def zen:∀p∈([]:n8 (xi×(n8 Xv->TwF))),XN P w K mg base k p.1 p.2:=λp hp=>nomatch hp
def zb9{tw:n8 Xv->TwF}{fns:n8 (xi×(n8 Xv->TwF))}(h:XN P w K mg base i L tw)(hk:i<=k)(r:∀p∈fns,XN P w K mg base k p.1 p.2):∀p∈(L,tw)::fns,XN P w K mg base k p.1 p.2:=λp hp=>by
 rcases Bi.mp hp with rfl|hp;exact h.mono hk;exact r p hp
end
section
variable{K:AO}{E:XK}{C:qo}{nm m:Str}
end
noncomputable def XO(K:AO)(dc:n8 WB):n8 qo:=dc.filterMap λt=>(WC K t).map (·.2)
noncomputable def zc0:n8 qo->Bool
 |[]=>fN
 |a::r=> !r.contains a&&zc0 r
noncomputable def zca(K:AO)(ts:n8 qo)(dc:n8 WB):Bool:=dc.all (λt=>match WC K t with
 |some (_,P)=>ts.contains P&&(K.lookup P).isNone
 |none=>kb)&&zc0 (XO K dc)
theorem zcb:∀{l:n8 qo},zc0 l=fN->l.Nodup
 |[],_=>Gk
 |a::r,h=>by
  unfold zc0 at h;simp only[Cj,Bool.not_eq_true',Gs,decide_eq_false_iff_not] at h;exact Cb.mpr ⟨h.1,zcb h.2⟩
structure zma(K:AO)(ts:n8 qo)(dc:n8 WB)(bC:n8 qo):Prop where
 at_:∀(i:Nat) t,dc[i]? =dB t->∃c P,bC[i]? =dB P/\WC K t=dB (c,P)
 len:bC.length=dc.length
 nd:bC.Nodup
 sub:∀P∈bC,P∈ts/\K.lookup P=fC/\∃t c,WC K t=dB (c,P)
def zgU{K:AO}(h:zca K ts dc=fN):zma K ts dc (XO K dc):=by
 unfold zca at h;rw[Cj,CO] at h;obtain⟨h1,h2⟩:=h;have key:∀(l:n8 WB),(∀t∈l,t∈dc)->(∀(i:Nat) t,l[i]? =dB t->∃c P,(XO K l)[i]? =dB P/\WC K t=dB (c,P))/\(XO K l).length=l.length/\∀P∈XO K l,P∈ts/\K.lookup P=fC/\∃t c,WC K t=dB (c,P):=by
  intro l
  induction l with
  |nil=>intro _;exact⟨λi t e=>by simp at e,rfl,λP hP=>by cases hP⟩
  |cons t r ih=>
   intro hs;obtain⟨g1,g2,g3⟩:=ih λt ht=>hs t (Br _ ht);have ht:=h1 t (hs t BJ);cases e:WC K t with
   |none=>rw[e] at ht;cases ht
   |some p=>
    obtain⟨c,P⟩:=p;rw[e] at ht;simp only[Cj,Gs,decide_eq_true_eq,Option.isNone_iff_eq_none] at ht;have e2:XO K (t::r)=P::XO K r:=by unfold XO;rw[Dt,e];rfl
    rw[e2];refine⟨λi u eu=> ?_,by simp[g2],λQ hQ=> ?_⟩
    .cases i with
     |zero=>simp at eu;subst eu;exact⟨c,P,rfl,e⟩
     |succ i=>
      obtain⟨c',P',a,b⟩:=g1 i u (by simpa using eu);exact⟨c',P',by simpa using a,b⟩
    rcases Bi.mp hQ with rfl|hQ;exact⟨ht.1,ht.2,t,c,e⟩;exact g3 Q hQ
 obtain⟨g1,g2,g3⟩:=key dc λ_ h=>h;exact⟨g1,g2,zcb h2,g3⟩
def zmb{K:AO}{c P:qo}(h:WC K t=dB (c,P)):DP K c P=fN:=by
 unfold WC at h;rw[BF] at h;obtain⟨f,_,h⟩:=h;exact(VR h).1
structure zj7(bC:n8 qo)(H:Hp):Prop where
 all:∀b,H b=fC\/(∃o xs,H b=dB (.frz o (.lst xs)))\/(b∈bC/\H b=dB (.tbl #[]))
 tb:∀P∈bC,H P=dB (.tbl #[])
def zaQ(K:AO)(bC:n8 qo):Sp:=λvs H Q _=>∃(a:qo) (ns:n8 Int),vs=[V.ref a]/\zj7 bC H/\SqX K H a (ns.map V.int)/\ns.length<=63/\∀H',Q (.bl fN) H'
def zmc{P:Program}{K:AO}{mg:Str->pU pW}(Fn:ZO P w K mg base CX k f fd ps (sTw K 1 tw))(hT:zma K ts dc bC)
  (h:∀ns:n8 Int,ns.length<=63->∃S,tw [.ref 0] (.frz (ns.map Xv.int)::dc.map .tab)=dB (.ok (.bl fN) S)):ZO P w K mg base CX k f fd ps (zaQ K bC):=by
 refine Fn.imp ?_;rintro vs H Q E ⟨a,ns,rfl,hO,hS,hl,q⟩;obtain⟨S',e⟩:=h ns hl;have hlen:(a::bC).length=(Ce.frz (ns.map Xv.int)::dc.map Ce.tab).length:=by simp[hT.len]
 refine⟨rfl,a::bC,.frz (ns.map Xv.int)::dc.map .tab,[.ref 0],_,?_,e,λv j' H' σ ρ E' hv=> ?_⟩
 .refine⟨rfl,λi x e=> ?_,hlen,λn m b c d e1 e2 e3 e4 z1 z2=> ?_,λn c b e1 e2=> ?_,Ext.refl,λn c e=>⟨c,e,λz=>z,λ_=>rfl⟩,hlen,λb u e=> .inl e,λn b hn e=> ?_,λb e=>e⟩
  .cases i with
   |zero=>simp at e;subst e;exact⟨_,rfl,.ref rfl⟩
   |succ i=>simp at e
  .cases n with
   |zero=>simp at e3;subst e3;cases z1
   |succ n=>
    cases m with
    |zero=>simp at e4;subst e4;cases z2
    |succ m=>
     simp only[FQ] at e1 e2;obtain⟨h1,g1⟩:=AQ.1 e1;obtain⟨h2,g2⟩:=AQ.1 e2;rw[(CK hT.nd).mp (g1.trans g2.symm)]
  .cases n with
   |zero=>
    simp at e1 e2;subst e1 e2;refine⟨ns.map V.int,?_,zG.ints ns⟩;rcases hS with (hS|⟨o,hS⟩)|hS
    .rcases hO.all a with z|⟨o,xs,z⟩|⟨_,z⟩
     .rw[z] at hS;cases hS
     .rw[z] at hS;cases hS
     rw[z] at hS;cases hS
    .exact .inl ⟨o,hS⟩
    exact .inr λH=> .inr hS
   |succ n=>
    simp only[FQ,AW,AY] at e1 e2;obtain⟨t,e1,rfl⟩:=e1;obtain⟨c,P',g1,g2⟩:=hT.at_ n t e1;rw[g1] at e2;cases e2;exact⟨#[],c,hO.tb _ (AX g1),g2,trivial,λpos cv q=>by cases q⟩
  dsimp only at hn;have:=(AQ.1 e).1;omega
 rw[hv.bl_inv];exact q H'
def zhN{P:Program}{K:AO}{mg mb:Str->pU pW}
  (KX:K.In s₁.heap) (hT:zma K ts dc bC) (eF:∀P∈ts,s₁.heap.get? P=dB (DJ #[])) (dj:s₁.heap.Ns mainGlobals mg) (hb:s₁.heap.Ns builtinsNs mb) (jb:∀x:Str,x≠"__name__"->mb x=bootBuiltins x) (oO:s₁.heap.NoLimit)
  (rN:∃bm ob,mg "__builtins__"=dB (.ref bm)/\bm≠builtinsNs/\s₁.heap.get? bm=dB ob/\ob.cls= .type "module"/\ob.dict=dB builtinsNs/\ob.data= .plain) (qR:s₁.heap.NoSeer) (ie:P.given.tree=fC) (hg:s₁.gens= #[])
  (ha:s₁.heap.get? a=dB {cls:= .type "list",data:= .seq vs.toArray}) (hi:IntsAre vs ns) (hl:ns.length<=sizeLine) (hr:xh k callerA)
  (F:∀base:Heap,K.In base->base.Ns mainGlobals mg->ZO P w K mg base CX k fa fd [x] sp) (lS:∀(s:pX) (u:pW),BindsTo s fd ⟨[u],[]⟩ [(x,u)])
  (fV:∀H:Hp,zj7 bC H->SqX K H a (ns.map V.int)->sp [.ref a] H (λv _=>v= .bl fN) λ_ _ _=>False)
  (pJ:∀H e s',CX [] H s₁ (λ_ _ _=>False) e s'->False):
  codeAny (model P w) callerA (.call (.ref fa) ⟨[.ref a],[]⟩) (λr s'=>r= .ok (.ret (.bool fN))/\OldK s₁.heap s'.heap/\s'.os=s₁.os/\AllBare s'.gens) s₁:=by
 have rv:=zbT hi;have nF:=hi.length;have km:∀P∈bC,s₁.heap.get? P=dB (DJ #[]):=λP hP=>eF P (hT.sub P hP).1;have core:∀H:Hp,zj7 bC H->SqX K H a (ns.map V.int)->HOk P w H s₁.heap->(∀b,H b≠fC->b=a\/b∈bC)->(H a≠fC->K.lookup a=fC)->
   codeAny (model P w) callerA (.call (.ref fa) ⟨[.ref a],[]⟩) (λr s'=>r= .ok (.ret (.bool fN))/\OldK s₁.heap s'.heap/\s'.os=s₁.os/\AllBare s'.gens) s₁:=by
  intro H hO hS hok hA hK;have d8:∀{b:qo} {o:Obj},s₁.heap.get? b=dB o->H b=fC->(zcq s₁.heap H).get? b=dB o:=λe n=>zih e n;have qh:∀{b:qo} {o:Obj},s₁.heap.get? b=dB o->o.cls≠ .type "list"->(o.cls≠ .none\/∀ps,o.data≠ .fields ps)->H b=fC:=λ{b o} e d d'=>by
   cases q:H b with
   |none=>rfl
   |some u=>
    rcases hA b (by rw[q];simp) with rfl|hm;rw[ha] at e;cases e;exact absurd rfl d;rw[km b hm] at e;cases e;rcases d' with d'|d';exact absurd rfl d';exact absurd rfl (d' _)
  have i5:∀{b:qo} {o:Obj} {es:Array DictEntry} {ep:Nat},s₁.heap.get? b=dB o->o.data= .dict es ep->H b=fC:=λ{b o es ep} e d=>by
   cases q:H b with
   |none=>rfl
   |some u=>
    rcases hA b (by rw[q];simp) with rfl|hm;rw[ha] at e;cases e;have d':Data.seq vs.toArray _=Data.dict es ep:=d;cases d';rw[km b hm] at e;cases e;cases d
  have iM:∀{b:qo} {m:Str->pU pW},s₁.heap.Ns b m->(zcq s₁.heap H).Ns b m:=λ{b m} ⟨o,es,ep,e,d,r⟩=>⟨o,es,ep,d8 e (i5 e d),d,r⟩
  have rT:K.In (zcq s₁.heap H):=λb o e=>d8 (KX b o e) (by
   cases q:H b with
   |none=>rfl
   |some u=>
    rcases hA b (by rw[q];simp) with rfl|hm;rw[hK (by rw[q];simp)] at e;cases e
    rw[(hT.sub b hm).2.1] at e;cases e)
  have hM:Mod P K mg (zcq s₁.heap H):=⟨rT,iM dj,⟨mb,iM hb,jb⟩,let ⟨mc,h1,h2⟩:=oO;⟨mc,iM h1,h2⟩,let ⟨bm,ob,b1,b2,b3,b4,b5,b6⟩:=rN;⟨bm,ob,b1,b2,d8 b3 (qh b3 (by rw[b4];simp) (.inl (by rw[b4];simp))),b4,b5,b6⟩,let ⟨bm,ob,b1,b2,b3,b4,b5,b6⟩:=rN;let ⟨mc,c1,c2⟩:=qR.statics;let ⟨mm,m1,m2⟩:=qR.mods;⟨⟨mc,iM c1,c2⟩,⟨mm,iM m1,m2⟩,⟨mb,iM hb,jb⟩,⟨mg,bm,ob,iM dj,b1,d8 b3 (qh b3 (by rw[b4];simp) (.inl (by rw[b4];simp))),b4,b5⟩⟩,ie⟩;have e0:Uq P w K mg (zcq s₁.heap H) callerA [] s₁ H:=⟨rfl,hM,λb o e=>zlm e,CD (zhk _ _),trivial,λb hb=>absurd (show b∈([]:n8 qo) from hb) (by simp),hok,.of_eq hg⟩;refine codeAny_mono ((F _ rT (iM dj)).run callerA [] s₁ H ⟨[.ref a],[]⟩ [.ref a] [.ref a] _ _ hr e0 (lS s₁ (.ref a)) (.cons rfl .nil) (fV H hO hS)) λr s' h=> ?_;cases r with
  |error e=>exact(pJ H e s' h).elim
  |ok fl=>
   cases fl with
   |next=>exact BP h
   |brk=>exact BP h
   |cont=>exact BP h
   |ret u=>
    obtain⟨v,H',os,bare,un,lC,r',q⟩:=h;have q':v= .bl fN:=q;subst q';obtain rfl:u=Value.bool fN:=r';have old:∀b o,s₁.heap.get? b=dB o->b∉bC->s'.heap.get? b=dB o:=λb o e nb=>by
     cases q:H b with
     |none=>exact un.keep b o e q (by intro z;exact absurd (show b∈([]:n8 qo) from z) (by simp)) (by simp)
     |some u=>
      rcases hO.all b with z|⟨ob,xs,z⟩|⟨z,_⟩
      .rw[q] at z;cases z
      .have z2:=un.frzs b ob _ z;obtain⟨e1,_⟩:=hok b _ z;obtain⟨e2,_⟩:=lC b _ z2;rw[e] at e1;cases e1;exact e2
      exact absurd z nb
    refine⟨rfl,⟨λb o e=> ?_,λb o e=>un.there b o e (by simp)⟩,os,bare⟩;by_cases hb:b∈bC;obtain⟨_,_,t,c,ht⟩:=hT.sub b hb;obtain⟨o2,sx,_,_,_,_,_,_,_,c1,c2,c3,c4,_⟩:=GI KX (zmb ht);obtain⟨more,e1⟩:=un.tbls b _ (hO.tb b hb);have e2:=lC b _ e1;have e3:=km b hb;rw[e] at e3;cases e3;exact .inr (.inl ⟨⟨c,o2,sx,c1,c2,c3,c4⟩,rfl,#[],more,rfl,e2⟩);exact .inl (old b o e hb)
 have aT:a∉bC:=λhm=>by
  have e:=km a hm;rw[ha] at e;cases e
 have tH:∀(H:Hp),(∀P∈bC,H P=dB (.tbl #[]))->∀b∈bC,∀u,H b=dB u->yz P w H s₁.heap b u:=λH h b hb u e=>by
  rw[h b hb] at e;cases e;exact km b hb
 cases hk:K.lookup a with
 |some o=>
  have e:=KX a o hk;rw[ha] at e;cases e;have oT:∀b,b∈bC->(if b∈bC then dB (HO.tbl #[]) else fC)=dB (HO.tbl #[]):=λb h=>if_pos h;refine core (λb=>if b∈bC then dB (.tbl #[]) else fC) ⟨λb=> ?_,λb h=>if_pos h⟩ (.inr ⟨vs.toArray,_,hk,by rw[B8,nF];exact hl,by simpa using rv⟩) (λb u z=> ?_) (λb z=> ?_) λz=>absurd (if_neg aT) z;by_cases hb:b∈bC;exact .inr (.inr ⟨hb,if_pos hb⟩);exact .inl (if_neg hb);by_cases hb:b∈bC;exact tH (λb=>if b∈bC then dB (.tbl #[]) else fC) (λb h=>if_pos h) b hb u z;have z':=(if_neg hb).symm.trans z;cases z';by_cases hb:b∈bC;exact .inr hb;exact absurd (if_neg hb) z
 |none=>
  have h1:∀b,b∈bC->(if b=a then dB (HO.frz {cls:= .type "list",data:= .seq vs.toArray} (.lst (ns.map V.int))) else if b∈bC then dB (.tbl #[]) else fC)=dB (HO.tbl #[]):=λb h=>by
   have ne:b≠a:=λz=>aT (by rw[<-z];exact h);rw[if_neg ne,if_pos h]
  refine core (λb=>if b=a then dB (.frz {cls:= .type "list",data:= .seq vs.toArray} (.lst (ns.map V.int))) else if b∈bC then dB (.tbl #[]) else fC) ⟨λb=> ?_,h1⟩ (.inl (.inr ⟨{cls:= .type "list",data:= .seq vs.toArray},if_pos rfl⟩)) (λb u z=> ?_) (λb z=> ?_) λ_=>hk;by_cases hb:b=a;exact .inr (.inl ⟨_,_,if_pos hb⟩);by_cases hm:b∈bC;exact .inr (.inr ⟨hm,h1 b hm⟩);exact .inl ((if_neg hb).trans (if_neg hm));by_cases hb:b=a;have z':=(if_pos hb).symm.trans z;cases z';subst hb;exact⟨ha,by rw[AV];exact hl,vs,_,rv,ha⟩;by_cases hm:b∈bC;exact tH _ h1 b hm u z;have z':=((if_neg hb).trans (if_neg hm)).symm.trans z;cases z';by_cases hb:b=a;exact .inl hb;by_cases hm:b∈bC;exact .inr hm;exact absurd ((if_neg hb).trans (if_neg hm)) z
def zj8{l:G1}{n k:Nat}{q:Program}{loose:n8 Str}{XP:(Str->pU pW)->Heap->Prop}{YP:World->Heap->Prop}{d:DefRec}{K:Params->AO}{CX:World->CXT}{x:Str}{ts:n8 qo}{dc:n8 WB}
  (hn:l.most=dB n) (eJ:n<=63) (lP:d.params.defaults=[]) (hr:xh k callerA)
  (hY:∀(w:World) (h:Heap),YP w h->(K w.params).In h/\∀P∈ts,h.get? P=dB (DJ #[])) (hB:∀w:World,zca (K w.params) ts dc=fN)
  (F:∀(w:World) (mg:Str->pU pW) (fa:qo) (h:Heap),(K w.params).In h->h.Ns mainGlobals mg->mg d.name=dB (.ref fa)->
   ∃fd:FuncData,(∀(s:pX) (u:pW),BindsTo s fd ⟨[u],[]⟩ [(x,u)])/\
    ∀base:Heap,(K w.params).In base->base.Ns mainGlobals mg->ZO l.prog w (K w.params) mg base (CX w) k fa fd [x] (zaQ (K w.params) (XO (K w.params) dc)))
  (pJ:∀(w:World) (H:Hp) (s:pX) (e:pW) (s':pX),CX w [] H s (λ_ _ _=>False) e s'->False) (oU:importsNone q=fN) (ie:l.prog.given.tree=fC):
  Ie q loose XP YP l.row.toRowW d [] (λf vs=>HF f vs):=by
 refine Att.zdQ hn lP λw s₀ s₁ mg mb fa o pm cd doc a vs ns G Y ho hd cZ jL jG hints hlen hg=> ?_;obtain⟨KX,eF⟩:=hY w _ Y;obtain⟨fd,hb,hF⟩:=F w mg fa _ KX G.T.g jL;exact zhN KX (zgU (hB w)) eF G.T.g G.T.b G.T.builtins G.T.nolimit G.T.bmain (G.T.seer oU) ie hg jG hints (AZ (AZ hlen eJ) ∅) hr hF hb (λH hO hS=>⟨a,ns,rfl,hO,hS,AZ hlen eJ,λ_=>rfl⟩) λH e s'=>pJ w H s₁ e s'
open PySem.Calls PySem.W
end L2
namespace L2
section
variable{K:AO}{x:Xv}
end
open PySem.Builtin.Int (intBits)
def XQ(hr:xh k X.A)(hk:32<=k:=by decide)(dW:X.stack=X.env::X.outer:=by rfl)(hg:X.env.scope.isGenerator=kb:=by rfl)(hJ:X.env.scope.isCoroutine=kb:=by rfl):
  OpR X (binaryOp .FloorDiv) (rI (λ_ j=>j≠0) λi j=> .int (i.fdiv j)):=by
 intro pins s σ H x y v u Q I rx ry h;obtain⟨i,j,rfl,rfl,hc,q⟩:=h;obtain⟨t,rfl⟩:=rx;obtain⟨t',rfl⟩:=ry;exact floordiv_int hc ⟨.int _,H,I.tok _,⟨_,rfl⟩,q⟩ (.inr (PylongRoom.of I.nolimit (by have:=hr.dp;show X.A.depth+100<_;omega) (SeerAt.of (I.ok.mod.seer.keeps I.bk) I.ok.mod.tree (by rw[I.ok.frames,dW]) hg hJ I.ok.blt I.ok.glob)))
def YO:Op2:=xIC (λ_ j=>decide (j≠0)) λi j=> .int (i.fdiv j)
def zeo{K:AO}:ZQ K (rI (λ_ j=>j≠0) λi j=> .int (i.fdiv j)) YO:=zfi (λi j h=>by simpa using h) λ_ _ _ _=> .int _
def XR(h:q≠0)(k:P (.int (p.fdiv q)) S):WO (YO (.int p) (.int q) S) P:= .of (by unfold YO xIC;exact if_pos (decide_eq_true h)) k
end L2
namespace L2
def zqC(s:Stmt):Expr:=match s with
 | .Assign _ e _=>e
 |_=>noE
def zj9{K:AO}(h1:Bc K mainGlobals m=dB (dB (.ref f)))(h:(WC K ⟨fC,m,d⟩).isSome=fN):∃c P,zja K f=dB (c,P)/\WC K ⟨fC,m,d⟩=dB (c,P):=by
 obtain⟨⟨c,P⟩,e⟩:=CM.1 h;refine⟨c,P,?_,e⟩;unfold WC zi9 at e;dsimp only at e;rw[h1] at e;exact e
def PSm(X Y:Cx)(st:n8 Stmt)(t:TS):Prop:=
 ∀(pins:n8 (qo×Obj)) (s:pX) (σ:St) (H:Hp) (D:Vx),Inv X pins σ H s->t D σ H->wpAny (model X.prog X.w) X.A (execs st X.env) (SP Y pins D) X.xe s
section
variable{fz:n8 Str}{CX:CXT}{P:Program}{w:World}{K:AO}{mg:Str->pU pW}{base:Heap}{N:n8 Str}{qual:Str}{scope:Scope}{f:qo}{cd:pW}{outer:n8 Env}{E:XK}{st:Stmt}{rest:n8 Stmt}{t u:TS}
def zoE(h:PSs (zaP fz CX P w K mg base N qual scope f cd A outer s H E) rest t):PSm (WA CX P w K mg base N qual scope f cd A outer s H E) (zaP fz CX P w K mg base N qual scope f cd A outer s H E) rest t:=
 λpins s1 σ H1 D I q=>h pins s1 σ H1 D I.toZ q
def zep(h1:PS (WA CX P w K mg base N qual scope f cd A outer s H E) st t)(h2:PSm (WA CX P w K mg base N qual scope f cd A outer s H E) (zaP fz CX P w K mg base N qual scope f cd A outer s H E) rest u):PSm (WA CX P w K mg base N qual scope f cd A outer s H E) (zaP fz CX P w K mg base N qual scope f cd A outer s H E) (st::rest) (znJ t u):=by
 intro pins s1 σ H1 D I h;refine wpAny_execs_cons (thn (h1 pins s1 σ H1 {D with nx:=u D} I h) λfl s2 q=> ?_);cases fl with
 |next=>
  obtain⟨σ',H',I',q⟩:=q;exact h2 pins s2 σ' H' D I' q
 |ret v=>obtain⟨v',σ',H',I',q⟩:=q;exact⟨v',σ',H',I'.toZ,q⟩
 |brk=>obtain⟨σ',H',I',q⟩:=q;exact⟨σ',H',I'.toZ,q⟩
 |cont=>obtain⟨σ',H',I',q⟩:=q;exact⟨σ',H',I'.toZ,q⟩
end
def Fun.okZ2{P:Program}{w:World}{K:AO}{mg:Str->pU pW}{base:Heap}{x qual:Str}{st:Stmt}{f c T:qo}{fd:FuncData}{N ps:n8 Str}{k:Nat}{sp:Sp}{fz:n8 Str}(F:Fun K x qual st f fd)(hT:zja K f=dB (c,T))(S:zw N ps (zh st))(len:∀vs H Q E,sp vs H Q E->vs.length=ps.length)
  (dm:∀(A:Around) (outer:n8 Env) (s:pX) (H:Hp) (vs:n8 V) (Q:VK) (E:XK),xh k (A.deeper (envOfC qual (zh st) s.heap.objs.size f (.ref c)))->sp vs H Q E->
   ∃t,PSm (WA (CXE P w) P w K mg base N qual (zh st) f (.ref c) A outer s H E) (zaP fz (CXE P w) P w K mg base N qual (zh st) f (.ref c) A outer s H E) (wQ st) t/\t {nx:=λ_ H'=>Q .non H',rt:=Q} (Yh N vs) H):ZO P w K mg base (CXE P w) (k+1) f fd ps sp:=by
 obtain⟨oc,od,kV,doc,pm,an,bj,ct,fT,rfl,lk,cZ⟩:=F.ex;have hc:bj= .ref c:=(VR hT).2 lk;subst hc;refine⟨len,λA outer s H args us vs Q E hr e0 hb r fV=> ?_⟩;have hl:=len _ _ _ _ fV;have KX:K.In s.heap:=e0.mod.kin.keeps λb o e=>(e0.bs b o e).1;have lim:s.heap.NoLimit:=e0.mod.nolimit.keeps λb o e=>(e0.bs b o e).1;have gO:∀y∈ps.zip us,(zh st).names.lookup y.1=dB .local\/((zh st).names.lookup y.1=dB .cell/\((cellsFrom (s.heap.objs.size+1) (zh st).names []).lookup y.1).isSome=fN):=λ⟨n,v⟩ hy=>by
  rcases S.par n (Dx hy).1 with q|q;exact .inl q;exact .inr ⟨q,Ep _ _ _ (.inl q)⟩
 refine codeAny_call_function hr.depth (KX _ _ lk) rfl S.co S.gen rfl (GQ KX cZ) (hb _ _ _ _ ?_);refine wpAny_newFunctionEnv_cells S.kind gO λenv he s1 x=> ?_;subst he;refine⟨lim.keeps x.toInCall.keep,codeAny_func ?_⟩;obtain⟨t,ht,hq⟩:=dm A outer s H vs Q E (hr.deeper _) fV;refine wpAny_mono (ht [] s1 (Yh N vs) H _ (zbM S hr.hd e0 hl r x) hq) (λfl s' hs=> ?_) λe s' hs=>hs;have fin:∀{σ':St} {H':Hp} {v:V} {u:pW},Inv (zaP fz (CXE P w) P w K mg base N qual (zh st) f (.ref c) A outer s H E) [] σ' H' s'->zE v u->Q v H'->CE outer P w H s Q u s':=
  λ{σ' H' v u} J rv q=>⟨v,H',J.os,J.bare,J.base,J.hok,rv,q⟩
 cases fl with
 |ret u=>
  obtain⟨v,σ',H',J,rv,q⟩:=hs;exact fin J rv q
 |next=>
  obtain⟨σ',H',J,q⟩:=hs;exact fin (v:=V.non) (u:=Value.none) J rfl q
 |brk=>
  obtain⟨_,_,_,q⟩:=hs;exact BP q
 |cont=>
  obtain⟨_,_,_,q⟩:=hs;exact BP q
open PySem.Calls PySem.W
section
variable{K:AO}{E:XK}
end
end L2
namespace L2
section
variable{w:World}
noncomputable abbrev zM1(h:Heap)(l1:qo):Heap:=h.push {cls:= .type "tuple_iterator",data:= .fields #[.ref l1,.int 0 0]}
noncomputable abbrev zM2(h:Heap)(l1 l2:qo):Heap:=(zM1 h l1).push {cls:= .type "list_iterator",data:= .fields #[.ref l2,.int 0 0]}
noncomputable abbrev zM3(h:Heap)(l1 l2:qo):Heap:=(zM2 h l1 l2).push {cls:= .type "tuple",data:= .seq #[.ref h.objs.size,.ref (zM1 h l1).objs.size]}
noncomputable abbrev zM4(h:Heap)(l1 l2:qo):Heap:=(zM3 h l1 l2).push {cls:= .type "tuple",data:= .seq #[.none,.none]}
noncomputable abbrev zM5(h:Heap)(l1 l2:qo):Heap:=(zM4 h l1 l2).push {cls:= .type "zip",data:= .fields #[.none,.bool kb,.bool kb,.ref (zM2 h l1 l2).objs.size,.ref (zM3 h l1 l2).objs.size]}
end
section
variable{K:AO}{E:XK}
end
open PySem.Calls PySem.W
noncomputable def zeq{κ:Type}[DecidableEq κ](kvs:n8 (κ×Xv))(k:κ):n8 (κ×Xv):=kvs.filter λkv=>decide (kv.1≠k)
section
variable{K:AO}{E:XK}{j:n8 qo}
def KX.out{κ:Type}[DecidableEq κ](k:κ){kvs:n8 (κ×Xv)}{ks:n8 (κ×V)}(h:KX K j H kvs ks):KX K j H (zeq kvs k) (Ta ks k):=by
 unfold zeq Ta
 induction h with
 |nil=>exact .nil
 | @cons q x v r rs h1 _ ih=>
  rw[Dp,Dp];by_cases e:q=k;rw[if_neg (by simp[e]),if_neg (by simp[e])];exact ih;rw[if_pos (by simp[e]),if_pos (by simp[e])];exact .cons h1 ih
def zfz(d k:TwE):TwE:=λρ S=>rb (d ρ S) λx S1=>(xR S1 x).bind λ_=>rb (k ρ S1) λy S2=>match xR S2 x,VH y with
 |some (n,kvs),dB key=>(vj kvs key).map λv=> .ok v (S2.set n (.dk (zeq kvs key)))
 |_,_=>fC
def zfA(d k z:TwE):TwE:=λρ S=>rb (d ρ S) λx S1=>(xR S1 x).bind λ_=>rb (k ρ S1) λy S2=>rb (z ρ S2) λw S3=>match xR S3 x,VH y with
 |some (n,kvs),dB key=>(match vj kvs key with
  |some v=>dB (.ok v (S3.set n (.dk (zeq kvs key))))
  |none=>dB (.ok w S3))
 |_,_=>fC
set_option tactic.hygienic true in
def zka(hd:RE K E td d)(hk:RE K E ty k):RE K E (ziM td ty) (zfz d k):=by
 walk_at "!g"
 .refine hd En0 e1 λj1 H1 X1 E1 u hu=> ?_;cases g8:xR S1 x with
  |none=>rw[g8] at e;cases e
  |some p0=>
   walk_at "!i";refine⟨a,rfl,.inl ⟨k5,.inl f0⟩,?_⟩;rcases zo e with⟨y,S2,e2,e⟩|⟨c,S2,e2,rfl⟩
   .refine hk E1 e2 λj2 H2 X2 E2 w hw=> ?_;split at e;rename_i n kvs key ed ek;obtain⟨a',ks,ea,hj,f1,f2⟩:=E2.dk (hu.mono X2) ed;cases ea;rw[AY] at e;obtain⟨v,ev,rfl⟩:=e;obtain⟨w1,g1,g2⟩:=f2.val.1 _ ev;obtain⟨E4,X4⟩:=E2.wdk ed hj (f2.out key);exact⟨ks,key,w1,f1,VI hw ek,g1,kk _ _ (X1.trans (X2.trans X4)) E4 _ (g2.mono X4)⟩;cases e
   exact hk E1 e2 (PX.mono kk X1)
 exact hd En0 e1 kk
set_option tactic.hygienic true in
def zkb(hd:RE K E td d)(hk:RE K E ty k)(hz:RE K E tx z):RE K E (ziN td ty tx) (zfA d k z):=by
 walk_at "!g"
 .refine hd En0 e1 λj1 H1 X1 E1 u hu=> ?_;cases g8:xR S1 x with
  |none=>rw[g8] at e;cases e
  |some p0=>
   walk_at "!i";refine⟨a,rfl,.inl ⟨k5,.inl f0⟩,?_⟩;rcases zo e with⟨y,S2,e2,e⟩|⟨c,S2,e2,rfl⟩
   .refine hk E1 e2 λj2 H2 X2 E2 w hw=> ?_;rcases zo e with⟨q,S3,e3,e⟩|⟨c,S3,e3,rfl⟩
    .refine hz E2 e3 λj3 H3 X3 E3 wq hq=> ?_;split at e
     .rename_i n kvs key ed ek;obtain⟨a',ks,ea,hj,f1,f2⟩:=E3.dk (hu.mono (X2.trans X3)) ed;cases ea;refine⟨ks,key,f1,VI (hw.mono X3) ek,λv hv=> ?_,λhv=> ?_⟩
      .cases ev:vj kvs key with
       |none=>rw[f2.val.2 ev] at hv;cases hv
       |some y1=>
        obtain⟨w1,g1,g2⟩:=f2.val.1 _ ev;rw[g1] at hv;cases hv;rw[ev] at e;cases e;obtain⟨E4,X4⟩:=E3.wdk ed hj (f2.out key);exact kk _ _ (X1.trans (X2.trans (X3.trans X4))) E4 _ (g2.mono X4)
      cases ev:vj kvs key with
      |some y1=>
       obtain⟨w1,g1,g2⟩:=f2.val.1 _ ev;rw[g1] at hv;cases hv
      |none=>
       rw[ev] at e;cases e;exact kk _ _ (X1.trans (X2.trans X3)) E3 _ hq
     cases e
    exact hz E2 e3 (PX.mono kk (X1.trans X2))
   exact hk E1 e2 (PX.mono kk X1)
 exact hd En0 e1 kk
noncomputable def zcc:Op2:=λx y S=>match zA S x,y with
 |some u,.int k=>if -(2^63)<=k/\k<2^63/\u.length*k.toNat<=sizeLine then dB (.ref S.length,S++[.lst (B6 k.toNat u).flatten]) else fC
 |_,_=>fC
set_option tactic.hygienic true in
def zc1:ZQ K (znk K) zcc:=by
 walk_at "!e";unfold zcc at h;split at h;rename_i us q eu;split at h;rename_i hz;cases h;obtain⟨a,vs,rfl,h1,h2⟩:=E1.lstAt hx eu;refine⟨a,q,vs,rfl,hy.int_inv,h1,hz.1,hz.2.1,by rw[h2.len];exact hz.2.2,λp hp=> ?_⟩;obtain⟨E2,X2,h3⟩:=E1.lst (zej h2 q.toNat) hp;exact k _ _ _ X2 E2 h3;cases h;cases h
end
section
def zkc(h:W (a ρ S) λx S1=>(∃p,xR S1 x=dB p)/\W (b ρ S1) λy S2=>∃n kvs k v,xR S2 x=dB (n,kvs)/\VH y=dB k/\vj kvs k=dB v/\P v (S2.set n (.dk (zeq kvs k)))):W (zfz a b ρ S) P:=
 W.bind (h.imp λx S1 h=>by
  obtain⟨⟨p,e0⟩,h⟩:=h;rw[e0,B7];refine W.bind (h.imp λ_ _ h=> ?_);obtain⟨n,kvs,k,v,e1,e2,e3,q1⟩:=h;rw[e1,e2];dsimp only;rw[e3]
  exact .of rfl q1)
def zkd(h:W (a ρ S) λx S1=>(∃p,xR S1 x=dB p)/\W (b ρ S1) λy S2=>W (z ρ S2) λw S3=>∃n kvs k,xR S3 x=dB (n,kvs)/\VH y=dB k/\(∀v,vj kvs k=dB v->P v (S3.set n (.dk (zeq kvs k))))/\(vj kvs k=fC->P w S3)):W (zfA a b z ρ S) P:=
 W.bind (h.imp λx S1 h=>by
  obtain⟨⟨p,e0⟩,h⟩:=h;rw[e0,B7];refine W.bind (h.imp λ_ _ h=>W.bind (h.imp λ_ _ h=> ?_));obtain⟨n,kvs,k,e1,e2,q1,q2⟩:=h;rw[e1,e2];dsimp only;cases ev:vj kvs k with
  |some v=>exact .of rfl (q1 v ev)
  |none=>exact .of rfl (q2 ev))
def zgV(hx:zA S x=dB u)(h:0<=p/\p<=1000000/\u.length*p.toNat<=sizeLine)(k:P (.ref S.length) (S++[.lst (B6 p.toNat u).flatten])):WO (zcc x (.int p) S) P:= .of (by unfold zcc;rw[hx];exact if_pos ⟨⋯,⋯,h.2.2⟩) k
end
end L2
namespace L2
open PySem.Calls
def zc2:typeLookup (.type "list") "keys"=pure fC:=by rw[typeLookup_type,builtinLookup_eq_fast];kernel_rfl
def zfB:typeLookup (.type "list") "__getattr__"=pure fC:=by rw[typeLookup_type,builtinLookup_eq_fast];kernel_rfl
section
variable{w:World}{h:Heap}{g:Array GenState}{d:Drawn}{t:Nat}{os:OsState}{a:qo}
def zer{tk:Tok}{Q:Fin->pX->Prop}{xs:Array pW}{n:Nat}{sl:Array (pU pW)}(hx:h.get? a=dB ⟨.type "list",fC,.seq xs n,sl⟩)(hh:A.handled=fC)(hq:zox h g d os E):
  wpAny (model prog w) A (Builtin.«object.__getattribute__» ⟨[.ref a,.str "keys" tk],[]⟩) Q E ⟨h,g,d,t,os⟩:=by
 have hT:(⟨h,g,d,t,os⟩:pX).TypeIs (.ref a) "list":=⟨_,hx,rfl⟩;have f4:=zc2
 repeat (any_goals (first|assumption|wp_step))
 refine wpAny_raiseAttrError hh (λh' tk' e q=> ?_) (*...*);obtain⟨q1,q2,o,vs,q3⟩:=q;exact hq h' e tk' q1 ⟨_,q3,rfl⟩
def zfC{tk:Tok}{R:Result->pX->Prop}{xs:Array pW}{n:Nat}{sl:Array (pU pW)}(hx:h.get? a=dB ⟨.type "list",fC,.seq xs n,sl⟩)(hh:A.handled=fC)(hq:zox h g d os λe s=>R (.error e) s):
  codeAny (model prog w) A (.call (.builtin "list.__getattribute__") ⟨[.ref a,.str "keys" tk],[]⟩) R ⟨h,g,d,t,os⟩:=
 codeAny_call_builtin F.slot_list_getattribute.plain F.entry_list_ga (F.slot_list_getattribute.check _ _ _ _ _ _ _ _ (show(⟨h,g,d,t,os⟩:pX).TypeIs (.ref a) "list" from ⟨_,hx,rfl⟩) (F.args_list_getattribute_2 _ _) (zer hx (by simpa using hh) hq))
def zke{tk:Tok}{xs:Array pW}{n:Nat}{sl:Array (pU pW)}(hx:h.get? a=dB ⟨.type "list",fC,.seq xs n,sl⟩)(hh:A.handled=fC)(hq:zox h g d os E):
  wpAny (model prog w) A (getAttrBy (.ref a) (.str "keys" tk) kb) Q E ⟨h,g,d,t,os⟩:=by
 have hT:(⟨h,g,d,t,os⟩:pX).TypeIs (.ref a) "list":=⟨_,hx,rfl⟩;have f2:=F.slot_list_getattribute.lookup;have f3:=F.slot_list_getattribute.bind (.ref a);have f5:=zfB
 repeat (any_goals (first|assumption|wp_step))
 refine zfC hx (by simpa using hh) λh' e tk' q1 q2=> ?_;obtain⟨o,q2,q3⟩:=q2;have hE:(⟨h',g,d,tk',os⟩:pX).TypeIs (.ref e) "AttributeError":=⟨_,q2,q3⟩;have f6:=sub_AttributeError;have Aq:(⟨h',g,d,tk',os⟩:pX).TypeIs (.ref a) "list":=⟨_,q1 _ _ hx,rfl⟩
 repeat (any_goals (first|assumption|wp_step))
 exact hq h' e tk' q1 ⟨o,q2,q3⟩
def zfD{Q:pU pW->pX->Prop}{xs:Array pW}{n:Nat}{sl:Array (pU pW)}(hx:h.get? a=dB ⟨.type "list",fC,.seq xs n,sl⟩)(hh:A.handled=fC)(hq:∀h' tk',(∀b o,h.get? b=dB o->h'.get? b=dB o)->Q fC ⟨h',g,d,tk',os⟩):
  wpAny (model prog w) A (getAttr? (.ref a) "keys") Q E ⟨h,g,d,t,os⟩:=by
 unfold getAttr? getAttrBy?;have hT:(⟨h,g,d,t,os⟩:pX).TypeIs (.ref a) "list":=⟨_,hx,rfl⟩;refine wpAny_bind (wpAny_mkText (wpAny_bind (wpAny_attempt (zke hx hh λh' e tk' q1 q2=> ?_))));obtain⟨o,q2,q3⟩:=q2;have hE:(⟨h',g,d,tk',os⟩:pX).TypeIs (.ref e) "AttributeError":=⟨_,q2,q3⟩;have f6:=sub_AttributeError
 repeat (any_goals (first|assumption|wp_step))
 exact hq h' tk' q1
end
section
variable{w:World}{I:qo}{fp wr:n8 qo}{G:Array GenState->Array GenState->Prop}{n:Nat}{P:Nat->pW->Prop}{St:Nat->pX->Prop}{R:Result->pX->Prop}{KK:Type}[DecidableEq KK]{knd:KeyKind prog w KK}
def zmd{a:qo}{items:Array pW}{m:Nat}{sl:Array (pU pW)}{kv:n8 (KK×pW)}(hh:A.handled=fC)(hx:s.heap.get? a=dB ⟨.type "list",fC,.seq items m,sl⟩)(nd:(kv.map (·.1)).Nodup)(hn:kv.length=items.size)(rY:items.size<=sizeLine)
  (wf:∀(i:Nat) v,items[i]? =dB v->∃p key k x m,kv[i]? =dB (k,x)/\v= .ref p/\knd.is k key=fN/\∃o,s.heap.get? p=dB o/\o.cls= .type "tuple"/\o.data= .seq #[key,x] m)
  (h:∀s':pX,s'.heap.DictOf knd s.heap.objs.size kv->(∀b o,s.heap.get? b=dB o->s'.heap.get? b=dB o)->s'.gens=s.gens->s'.drawn=s.drawn->s'.os=s.os->Q (.ref s.heap.objs.size) s'):
  wpAny (model prog w) A (call (.type "dict") [.ref a]) Q E s:=by
 refine callType_codes (Q₁:=λobj s₁=>obj= .ref s.heap.objs.size/\s₁={s with heap:=s.heap.push {cls:= .type "dict",data:= .dict #[]}}) F.kt_called_dict (F.kt_typeCall_dict_1 _) F.entry_dict_init (kt_code_dict_new _ ⟨rfl,rfl⟩) ?_;rintro obj s₁ ⟨rfl,rfl⟩;have eI:(s.heap.push {cls:= .type "dict",data:= .dict #[]}).DictOf knd s.heap.objs.size []:=Heap.DictOf.new s.heap;have ia:=Heap.get?_push_of_some (h:=s.heap) {cls:= .type "dict",data:= .dict #[]} hx;have hT:Shared.TypeIs {s with heap:=s.heap.push {cls:= .type "dict",data:= .dict #[]}} (.ref a) "list":=⟨_,ia,rfl⟩;refine⟨eI.typeIs,F.args_dict_init_2 _ _,?_⟩;unfold Builtin.«dict.__init__»
 refine wpAny_bind (by
  unfold Builtin.Dict.selfAndRest;refine wpAny_bind (wpAny_notOrdered_dict eI.typeIs (wpAny_pure (a:=(s.heap.objs.size,[Value.ref a])) ?_));show wpAny _ _ (Builtin.Dict.updateFrom "dict.__init__" s.heap.objs.size (.ref a) [] .none) _ _ _;unfold Builtin.Dict.updateFrom;refine wpAny_bind (wpAny_typeOf hT ?_);rw[if_pos ∅];refine wpAny_bind (zfD (g:=s.gens) (d:=s.drawn) (t:=s.toks) (os:=s.os) ia (by simpa using hh) λh' tk' kp=> ?_);rw[if_pos (by rfl)];refine wpAny_bind (wpAny_rule ?_);have fc:=kp _ _ ia;refine wpAny_bind (wpAny_pyIter_list (items:=items) ⟨_,fc,rfl,m,rfl⟩ ?_);have lt:a<h'.objs.size:=Heap.lt_size fc;have sI:s.heap.objs.size<h'.objs.size:=by
   obtain⟨o,_,_,e,_⟩:=eI;exact Heap.lt_size (kp _ _ e)
  refine wpAny_pure ⟨plainId_quiet VM _,?_⟩;have old:∀b o,s.heap.get? b=dB o->b≠s.heap.objs.size/\b≠h'.objs.size:=λb o e=>⟨Bj (Heap.lt_size e),Bj (Nat.lt_trans (Heap.lt_size e) sI)⟩;refine zl7 (G:=λa b=>b=a) ((Walks.list (A:=A.in1.in1) (by simpa using hh) h'.objs.size a (Bj lt) items).toS) s.heap.objs.size (λz=> ?_) s.heap (λb o e z=> ?_) kv nd hn rY (λi v hv=>wf i v hv) _ 0 _ _ rfl (Cy _) ⟨⟨_,Heap.get?_push_size _ rfl,rfl,rfl⟩,⟨_,Heap.get?_push_of_some _ fc,rfl,m,rfl⟩⟩ (λb o e=> ?_) ?_ (λs' mv hD=> ?_);rcases (by simpa using z:s.heap.objs.size=h'.objs.size\/s.heap.objs.size=a) with z|z;omega;exact (old _ _ hx).1 z.symm;rcases (by simpa using z:b=s.heap.objs.size\/b=h'.objs.size) with z|z;exact (old _ _ e).1 z;exact (old _ _ e).2 z;exact Heap.get?_push_of_some _ (kp _ _ (Heap.get?_push_of_some _ e));rw[HW];obtain⟨o,es,ep,e,r⟩:=eI;exact⟨o,es,ep,Heap.get?_push_of_some _ (kp _ _ e),r⟩;refine⟨rfl,h s' hD (λb o e=>mv.heap b o (λz=> ?_) (Heap.get?_push_of_some _ (kp _ _ (Heap.get?_push_of_some _ e)))) mv.gens mv.drawn mv.os⟩;rcases(by simpa using z:b=s.heap.objs.size\/b=h'.objs.size) with z|z;exact (old _ _ e).1 z
  exact (old _ _ e).2 z)
end
def zkf:n8 V->Hp->VK->Prop:=λxs H Q=>∃(a:qo) (ps:n8 V) (kvs:n8 (Key×V)),xs=[.ref a]/\H a=dB (.lst ps)/\Paired (PrT H) ps kvs/\(kvs.map (·.1)).Nodup/\∀l,H l=fC->Q (.ref l) (upd H l (.dK kvs))
def zfE(hc:X.calm=fN):Yf X (.type "dict") zkf:=by
 intro pins s σ H xs us Q I r h;obtain⟨a,ps,kvs,rfl,ha,hp,nd,q⟩:=h;obtain⟨u,rfl,ru⟩:=XA r;cases ru;obtain⟨z,ae,m,rv,e⟩:=(show yz X.prog X.w H s.heap a (.lst ps) from I.hok a _ ha);obtain⟨kv,a1,a2,a3⟩:=zjU I.hok hp rv;have cG:kvs.length=ae.length:=by rw[<-hp.length,<-rv.length]
 have nd':(kv.map (·.1)).Nodup:=by rw[show kv.map (·.1)=kvs.map (·.1) from(KV.keys a1).symm];exact nd
 refine zmd (knd:=yi X.prog X.w) (kv:=kv) (I.ok.hd hc) e nd' (by rw[B8];exact a2) (by rw[B8,<-rv.length];exact z) (λi v hv=>a3 i v (by simpa using hv)) λs' hD kp e1 e2 e3=> ?_;have e':({s with heap:=s'.heap,toks:=s'.toks}:pX)=s':=by
  cases s';simp only at e1 e2 e3;subst e1 e2 e3;rfl
 have I1:=I.laid (a:=s.heap.objs.size) (o:= .dK kvs) (t':=s'.toks) kp (B1 _) ⟨by rw[cG,<-rv.length];exact z,beq_eq_false_iff_ne.mpr (BE I.big),kv,a1,hD⟩;rw[e'] at I1;exact⟨.ref _,_,I1,rfl,q _ (I.hok.fresh (B1 _))⟩
noncomputable def zfF:n8 Xv->pU (n8 (Key×Xv))
 |[]=>dB []
 | .tup [.int n,y]::r=>(zfF r).map ((.inl n,y):: ·)
 |_=>fC
def zme{K:AO}:∀{xs:n8 Xv} {kvs:n8 (Key×Xv)} {vs:n8 V},zfF xs=dB kvs->zG K j H xs vs->∃ks,KX K j H kvs ks/\Paired (PrT H) vs ks/\ks.map (·.1)=kvs.map (·.1):=by
 intro xs
 induction xs with
 |nil=>intro kvs vs e h;cases e;cases h;exact⟨[],.nil,.nil,rfl⟩
 |cons x r ih=>
  intro kvs vs e h;obtain⟨n,y,rfl⟩:∃n y,x= .tup [.int n,y]:=by rcases x with _|_|_|_|(_|⟨_|_|_|_|_|_|_|_,_|⟨_,_|_⟩⟩)|_|_|_<;>first|exact zNo e rfl|exact⟨_,_,rfl⟩
  change(zfF r).map _=_ at e;rw[AY] at e;obtain⟨ms,e1,rfl⟩:=e;obtain⟨v,rs,rfl,h1,h2⟩:=h.cons_inv;obtain⟨ks,g1,g2,g3⟩:=ih e1 h2;obtain⟨a,us,rfl,f1,f2⟩:=h1.tup_inv;obtain⟨u,w,rfl,q1,q2⟩:=f2.d2;rw[q1.int_inv] at f1;exact⟨(.inl n,w)::ks,.cons q2 g1,.cons ⟨a,rfl,f1⟩ g2,by rw[Be,Be,g3]⟩
noncomputable def zc3:Opn:=λxs S=>match xs with
 |[x]=>(VD S x).bind λl=>(zfF l.2).bind λkvs=>if (kvs.map (·.1)).Nodup then dB (.ref S.length,S++[.dk kvs]) else fC
 |_=>fC
set_option tactic.hygienic true in
def zkg{K:AO}:zcL K zkf zc3:=by
 walk_at "!h";unfold zc3 at h;split at h;rename_i x;rw[BF] at h;obtain⟨⟨n,l⟩,e1,h⟩:=h;rw[BF] at h;obtain⟨kvs,e2,h⟩:=h;split at h;rename_i nd;cases h;obtain⟨w,rfl,hx⟩:=hv.d1;obtain⟨a,ws,rfl,hj,f1,f2⟩:=E1.wl hx e1;obtain⟨ks,g1,g2,g3⟩:=zme e2 f2;refine⟨a,ws,ks,rfl,f1,g2,by rw[g3];exact nd,λp hp=> ?_⟩;have X:Ext j H (j++[p]) (upd H p (.dK ks)):=⟨λn a e=>by rw[B2 (AQ.1 e).1];exact e,xG.same (yB hp)⟩;obtain⟨E2,X2⟩:=E1.cell (o:= .dK ks) (c:= .dk kvs) hp ⟨ks,zt,g1.mono X⟩;exact k _ _ _ X2 E2 (.ref (by rw[<-E1.jl];simp));cases h;cases h
def zkh(hx:VD S x=dB (n,l))(h:zfF l=dB kvs)(nd:(kvs.map (·.1)).Nodup)(k:P (.ref S.length) (S++[.dk kvs])):WO (zc3 [x] S) P:= .of (by
 show((VD S x).bind _)=_
 rw[hx,B7,h,B7,if_pos nd]) k
end L2
namespace L2
open PySem.Calls PySem.W
noncomputable def zmf{α:Type}(f:Nat->Nat->Bool):KasT α->α
 | .ret a=>a
 | .ask i j k=>zmf f (k (f i j))
def zmg{α:Type}{f:Nat->Nat->Bool}{cmp cmp':Nat->Nat->(Bool->pX->Prop)->pX->Prop}(hc:∀i j C,i<n->j<n->i≠j->C (f i j) s->cmp i j C s)(eK:∀i j C,cmp' i j C s->i<n/\j<n/\i≠j/\C (f i j) s){Q R:α->pX->Prop}(t:KasT α):t.kasWp cmp' R s->Q (zmf f t) s->t.kasWp cmp Q s:=by
 induction t with
 |ret a=>intro _ h;exact h
 |ask i j k ih=>
  intro h q;obtain⟨h1,h2,h3,h4⟩:=eK i j _ h;exact hc i j _ h1 h2 h3 (ih (f i j) h4 q)
def zmh{α:Type}{f:Nat->Nat->Bool}{Q:α->pX->Prop}(t:KasT α):t.kasWp (λi j C s=>C (f i j) s) Q s->Q (zmf f t) s:=by
 induction t with
 |ret a=>exact λh=>h
 |ask i j k ih=>exact λh=>ih (f i j) h
noncomputable def zhO(is:n8 Int):Array Nat:=if is.length<2 then Iu (BX is.length) else zmf (λi j=>decide (is.getD i 0<is.getD j 0)) (kas_sort is.length)
noncomputable def Xs(is:n8 Int):n8 Nat:=(zhO is).toList
def zgW(is:n8 Int)(s:pX):PmN is.length (zhO is):=by
 unfold zhO;split;exact HJ _;exact zmh (Q:=λp _=>PmN is.length p) (s:=s) _ (zgG (r:=λi=>is.getD i 0) (λi j C _ _ _ h=>h) ⋯ λp h _=>h)
def Ww(is:n8 Int)(s:pX):(Xs is).Perm (BX is.length):=by
 have:=zgW is s;unfold PmN at this;have h:=Array.perm_iff_toList_perm.1 this;unfold Xs;simpa using h
section
def zki(h2:2<=is.length){cmp:Nat->Nat->(Bool->pX->Prop)->pX->Prop}(hc:∀i j C,i<is.length->j<is.length->i≠j->C (decide (is.getD i 0<is.getD j 0)) s->cmp i j C s):(kas_sort is.length).kasWp cmp (λp s'=>p=zhO is/\s'=s) s:=by
 refine zmg (f:=λi j=>decide (is.getD i 0<is.getD j 0)) (n:=is.length) (cmp':=λi j C s'=>i<is.length/\j<is.length/\i≠j/\C (decide (is.getD i 0<is.getD j 0)) s') hc (λi j C h=>h) _ (zgG (Q:=λ_ _=>True) (r:=λi=>is.getD i 0) (λi j C a b c d=>⟨a,b,c,d⟩) ⋯ λ_ _ _=>CG) ⟨?_,rfl⟩;unfold zhO;rw[if_neg ⋯]
def zhP(h:IntsAre vs is)(h2:2<=vs.length):(∀Q:SortKind->pX->Prop,Q oneType' s->wpAny (model prog w) A (keyKind' vs.toArray) Q (λ_ _=>False) s)/\∀i j C,i<vs.length->j<vs.length->i≠j->C (decide (is.getD i 0<is.getD j 0)) s->kas_ask prog w A oneType' vs i j C s:=by
 have at_:∀{vs:n8 pW} {is:n8 Int},IntsAre vs is->∀i,i<vs.length->∃t,vs.getD i Value.none= .int (is.getD i 0) t:=λ{vs is} h=>by
  induction h with
  |nil=>intro i hi;simp at hi
  | @cons n t vs ns _ ih=>
   intro i hi;cases i with
   |zero=>exact⟨_,rfl⟩
   |succ i=>exact ih i (by simpa using hi)
 refine⟨λQ q=> ?_,λi j C hi hj _ c=> ?_⟩;rw[ksk_kind (keys:=vs.toArray) (by simpa using h) (by simpa using h2)];exact wpAny_pure q;unfold kas_ask;obtain⟨t,e⟩:=at_ h i hi;obtain⟨u,g⟩:=at_ h j hj;rw[e,g];exact kat_lt_int c
def zbk{R:n8 pW->pX->Prop}{r:qo}{a b c:Int}{t u v:Tok}{n:Nat}(hh:A.handled=fC)(hr:IsRange s.heap r a b c t u v)(jw:Builtin.Range.small a b c=fN)(hn:Builtin.Range.rangeSize a b c=n)(hlen:n<=2^24)
  (fin:∀(g:Heap) (k:Nat) (xs:Array pW),(∀b o,s.heap.get? b=dB o->g.get? b=dB o)->s.heap.objs.size<g.objs.size->ItemsOf (λi v=>∃t,v= .int (a+i*c) t) xs n->R xs.toList {s with heap:=g,toks:=k}):
  wpAny (model prog w) A (collect (.ref r)) R E s:=by
 unfold collect;refine wpAny_bind (wpAny_runValue ?_);refine codeAny_builtin entry_proto_collect' ?_;rw[Around.under_plainId PySem.F.plain_proto_collect _];refine wpAny_bind (m:=newList []) ?_;refine wpAny_newObj_type ?_;refine wpAny_pure ⟨plainId_quiet FR _,?_⟩;refine codeAny_builtin entry_list_iadd' ?_;rw[Around.under_plainId FR _];have at0:(s.heap.push {cls:= .type "list",data:= .seq ([]:n8 pW).toArray}).get? s.heap.objs.size=dB {cls:= .type "list",data:= .seq #[]}:=Heap.get?_push_size _ rfl;have step:=wpAny_extend_range (prog:=prog) (w:=w) (A:=A) (s:={s with heap:=s.heap.push {cls:= .type "list",data:= .seq ([]:n8 pW).toArray}})
  (R:=λ(q:Result) (s':pX)=>∃(h':Heap) (tk:Nat) (acc':Array pW) (c':Nat),q= .ok (.ret (.ref s.heap.objs.size))/\s'={s with heap:=h',toks:=tk}/\
   (∀b o,s.heap.get? b=dB o->h'.get? b=dB o)/\h'.get? s.heap.objs.size=dB {cls:= .type "list",dict:=fC,data:= .seq acc' c',slots:= #[]}/\ItemsOf (λi v=>∃t,v= .int (a+i*c) t) acc' n)
  hh (Heap.get?_push_of_some _ hr) jw hn hlen s.heap.objs.size (.ref s.heap.objs.size) 0 at0
  (λh' tk acc' c' hk jV bQ=>⟨h',tk,acc',c',rfl,rfl,λb o e=>hk b o (Bj (Heap.lt_size e)) (Heap.get?_push_of_some _ e),jV,bQ⟩)
 refine wpAny_mono step (λf s' x=> ?_) λe s' x=> ?_
 .cases f with
  |done f=>
   obtain⟨h',tk,acc',c',e,rfl,hk,jV,bQ⟩:=x;cases e;show wpAny _ A (load s.heap.objs.size>>=_) _ _ _;refine wpAny_bind (wpAny_load jV ?_);exact wpAny_pure (fin h' tk acc' hk (Heap.lt_size jV) bQ)
  |again c₁=>
   refine⟨x.1,codeAny_mono x.2 λq s₂ y=> ?_⟩;obtain⟨h',tk,acc',c',rfl,rfl,hk,jV,bQ⟩:=y;show wpAny _ A (load s.heap.objs.size>>=_) _ _ _;refine wpAny_bind (wpAny_load jV ?_);exact wpAny_pure (fin h' tk acc' hk (Heap.lt_size jV) bQ)
 obtain⟨_,_,_,_,e',_⟩:=x;cases e'
end
def zmi(h:zK ks us):∀{is:n8 Int},ks=is.map V.int->IntsAre us is:=by
 induction h with
 |nil=>intro is e;rw[List.map_eq_nil_iff.1 e.symm];exact .nil
 | @cons x u xs us r _ ih=>
  intro is e;cases is with
  |nil=>cases e
  |cons i is=>
   rw[Be] at e;injection e with e1 e2;subst e1;obtain⟨t,rfl⟩:=r;exact .cons i t (ih e2)
section
variable{R:V->n8 V->Hp->VK->Prop}
def zfG(F:zj1 X.prog X.w X.K X.mg X.base k R)(hr:xh (k+1) X.A)(I:Inv X pins σ H s){Q:VK}(hz:xs.length<64)
  (col:∀{R:n8 pW->pX->Prop} {E:pW->pX->Prop},(∀(g:Heap) (tk:Nat) (ae:n8 pW),(∀b o,s.heap.get? b=dB o->g.get? b=dB o)->s.heap.objs.size<g.objs.size->zK xs ae->R ae {s with heap:=g,toks:=tk})->wpAny (model X.prog X.w) X.A.in1 (collect u) R E s)
  (J:Nat->n8 V->Hp->Prop) (j0:J 0 [] H) (turn:∀i x ks H2,xs[i]? =dB x->ks.length=i->J i ks H2->R (.ref f) [x] H2 (λv H3=>J (i+1) (ks++[v]) H3))
  (fin:∀ks H2,ks.length=xs.length->J xs.length ks H2->∃is:n8 Int,ks=is.map V.int/\∀p,H2 p=fC->Q (.ref p) (upd H2 p (.lst ((Xs is).map λi=>xs.getD i .non)))):
  wpAny (model X.prog X.w) X.A (call (.builtin "sorted") [u] [(Str.ofString "key",.ref f)]) (EP X pins σ Q) X.xe s:=by
 refine call_function_entry_kw kind_sorted plain_sorted entry_sorted (ksk_s1 _ _) ?_;unfold Builtin.«sorted»;refine wpAny_bind (m:=checkCount "sorted" 1 1 _) (wpAny_pure ?_);refine wpAny_bind (col λg tk ae kp cJ hv=> ?_);have hlen:xs.length=ae.length:=hv.length;have nW:ae.length<=sizeLine:=zn6 ⋯;refine wpAny_bind (wpAny_newList ?_ nW);have il:(g.push (seqObj "list" ae.toArray 0)).get? g.objs.size=dB (seqObj "list" ae.toArray 0):=Heap.get?_push_size _ rfl;have keep:∀b o,s.heap.get? b=dB o->(g.push (seqObj "list" ae.toArray 0)).get? b=dB o:=λb o q=>Heap.get?_push_of_some _ (kp b o q);show wpAny _ _ _ _ _ {s with heap:=g.push (seqObj "list" ae.toArray 0),toks:=tk};have mQ:(g.push (seqObj "list" ae.toArray 0)).objs.size=g.objs.size+1:=by rw[size_push']
 generalize (g.push (seqObj "list" ae.toArray 0))=G at il keep mQ ⊢;refine wpAny_bind (wpAny_holding (wpAny_call_entry_kw slot_list_sort ⟨_,il,rfl⟩ entry_list_sort ?body (ksk_l1 _ _)));show wpAny (model X.prog X.w) X.A.in1.in1 (Builtin.«list.sort» ⟨[.ref g.objs.size],[(Str.ofString "key",.ref f)]⟩) _ _ _;rw[ksk_t1];generalize hD:g.objs.size=D at il mQ cJ ⊢;obtain⟨e1,oC⟩:∃e1,(G.update D (Obj.mapSeq λ_=>(#[]:Array pW))).get? D=dB (seqObj "list" #[] e1):=⟨_,get?_update_seq il λ_=> #[]⟩;have oR:((G.update D (Obj.mapSeq λ_=>(#[]:Array pW))).push (seqObj "tuple" ae.toArray 0)).objs.size=D+2:=by rw[size_push',Heap.size_update,mQ]
 unfold ksk_tree;refine wpAny_bind (listItems_at il rfl ?_);refine wpAny_bind (listUpdate_at il rfl ?_ (by rw[B8];exact nW) (Cy _));refine wpAny_bind (seqEpoch_at oC rfl ?_);refine wpAny_bind (wpAny_newTuple ?_ nW);refine wpAny_bind (wpAny_newList ?_ (Cy _));refine wpAny_holding ?_;have iP:∀b o,s.heap.get? b=dB o->(((G.update D (Obj.mapSeq λ_=>(#[]:Array pW))).push (seqObj "tuple" ae.toArray 0)).push (seqObj "list" #[] 0)).get? b=dB o:=λb o q=>by
  have tZ: @LT.lt Nat _ b s.heap.objs.size:=Heap.lt_size q;refine Heap.get?_push_of_some _ (Heap.get?_push_of_some _ ?_);rw[Heap.get?_update_ne _ _ _ _ (Bj ⋯)];exact keep b o q
 have su:(((G.update D (Obj.mapSeq λ_=>(#[]:Array pW))).push (seqObj "tuple" ae.toArray 0)).push (seqObj "list" #[] 0)).get? D=dB (seqObj "list" #[] e1):=Heap.get?_push_of_some _ (Heap.get?_push_of_some _ oC);have atK:(((G.update D (Obj.mapSeq λ_=>(#[]:Array pW))).push (seqObj "tuple" ae.toArray 0)).push (seqObj "list" #[] 0)).get? (D+2)=dB (seqObj "list" #[] 0):=by rw[<-oR];exact Heap.get?_push_size _ rfl
 show wpAny (model X.prog X.w) X.A.in1.in1 (ksk_rest D (.ref f) kb ae.toArray e1 (.ref _)) _ _ {s with heap:=(((G.update D (Obj.mapSeq λ_=>(#[]:Array pW))).push (seqObj "tuple" ae.toArray 0)).push (seqObj "list" #[] 0)),toks:=tk};rw[oR];generalize (((G.update D (Obj.mapSeq λ_=>(#[]:Array pW))).push (seqObj "tuple" ae.toArray 0)).push (seqObj "list" #[] 0))=G3 at iP su atK ⊢;have I3:Inv X pins σ H {s with heap:=G3,toks:=tk}:=I.kept (t':=tk) iP;clear keep mQ oR oC il;have kE:∀b:Nat,s.heap.objs.size<=b->b≠X.env.locals/\b∉X.fs/\X.s₀.heap.objs.size<=b/\(∀x c,X.env.cells.lookup x=dB c->c≠b)/\∀p∈X.pn++pins,p.1≠b:=λb hb=>by
  refine⟨λz=> ?_,I.nofs hb,AZ I.sz hb,λx c e z=> ?_,λp hp z=> ?_⟩;have: @LT.lt Nat _ X.env.locals s.heap.objs.size:=I.lt;rw[<-z] at this;omega;obtain⟨v,o,ho,_⟩:=I.cell x c e;have: @LT.lt Nat _ c s.heap.objs.size:=Heap.lt_size ho;rw[z] at this;omega;have: @LT.lt Nat _ p.1 s.heap.objs.size:=Heap.lt_size (I.pin p hp).1;rw[z] at this;omega
 have oD:=kE D ⋯;have oK:=kE (D+2) ⋯;generalize hK:D+2=kS at atK oK ⊢;have rV:D≠kS:=by omega
 have nD:H D=fC:=I.hok.fresh ⋯;have nK:H kS=fC:=I.hok.fresh ⋯;unfold ksk_rest;refine wpAny_bind (wpAny_rule ?_)
 first
  |rw[List.forIn_toArray]
  |(rw[<-DZ];simp only[List.toList_toArray])
  |rw[<-DZ]
 refine wpAny_bind (ksk_fold (λi s'=>∃(H':Hp) (kA:Array pW) (e:Nat) (ks:n8 V),Inv X (pins++[(D,seqObj "list" #[] e1),(kS,seqObj "list" kA e)]) σ H' s'/\zK ks kA.toList/\ks.length=i/\J i ks H') ae 0 _ ?init ?step ?done)
 case init=>
  refine⟨H,#[],0,[],I3.pins_of λp hp=> ?_,.nil,rfl,j0⟩;rcases Bf.1 hp with hp|hp;exact I3.pin p (Bn _ hp);rcases Bi.1 hp with rfl|hp;exact⟨su,nD,oD.1,oD.2.1,λv z=>by cases z⟩;rw[B5.1 hp];exact⟨atK,nK,oK.1,oK.2.1,λv z=>by cases z⟩
 case step=>
  rintro j u s' hu ⟨H',kA,e,ks,I',hk,cG,hj⟩;rw[E8] at cG hj ⊢;obtain⟨x,hx,rx⟩:=zft hv hu;have iZ:j<ae.length:=(AQ.1 hu).1;have fV:=turn j x ks H' hx cG hj;refine wpAny_bind (wpAny_attempt (wpAny_mono (Q:=EP X (pins++[(D,seqObj "list" #[] e1),(kS,seqObj "list" kA e)]) σ (λv H3=>J (j+1) (ks++[v]) H3)) (E:=λ_ _=>False) (wpAny_call (codeAny_mono (F X.A.in1.in1 X.stack s' H' f [x] [u] _ (⟨hr.hd,by have:=hr.dp;show X.A.depth+3*k+5<_;omega,by have:=hr.un;show X.A.units+1+1+16*k+200<_;omega,hr.gd⟩:xh k X.A.in1.in1) I'.env0.in1.in1 (.cons rx .nil) fV) λr s2 hq=> ?_)) (λv s2 he=> ?_) λ_ _ z=>z.elim))
  .cases r with
   |error e=>exact BP hq
   |ok fl=>
    cases fl with
    |ret u=>exact I'.after hq
    |next=>exact BP hq
    |brk=>exact BP hq
    |cont=>exact BP hq
  obtain⟨kv,H3,I4,r4,q4⟩:=he;dsimp only;have pK:=I4.pin (kS,seqObj "list" kA e) (by simp);have pD:=I4.pin (D,seqObj "list" #[] e1) (by simp);have lF:ks.length=kA.size:=by
   have:=hk.length;rwa [Dd] at this
  refine wpAny_bind (listUpdate_at pK.1 rfl ?_ ⋯ (AZ (CD (HK ..)) ⋯));have s1:=Heap.SameBut.update s2.heap kS (Obj.mapSeq (·.push v));obtain⟨c2,dR⟩:∃c2,(s2.heap.update kS (Obj.mapSeq (·.push v))).get? kS=dB (seqObj "list" (kA.push v) c2):=⟨_,get?_update_seq pK.1 (·.push v)⟩;have I5:Inv X pins σ H3 s2:=I4.pins_of λp hp=>I4.pin p (by simp[hp]);have I6:Inv X pins σ H3 {s2 with heap:=s2.heap.update kS (Obj.mapSeq (·.push v))}:=I5.turned (t':=s2.toks) (λb o hb q=>(s1.2 b hb).trans q) pK.2.1 oK.1 (.inr oK.2.2.1) oK.2.2.2.1 oK.2.2.2.2
  refine wpAny_pure ⟨rfl,H3,kA.push v,c2,ks++[kv],I6.pins_of λp hp=> ?_,by
   rw[Array.toList_push]
   exact hk.append (.cons r4 .nil),by simp[cG],q4⟩
  rcases Bf.1 hp with hp|hp;exact I6.pin p (Bn _ hp);rcases Bi.1 hp with rfl|hp;exact⟨(s1.2 D rV).trans pD.1,pD.2.1,oD.1,oD.2.1,λv z=>by cases z⟩;rw[B5.1 hp];exact⟨dR,pK.2.1,oK.1,oK.2.1,λv z=>by cases z⟩
 case done=>
  rintro s' ⟨H',kA,e,ks,I',hk,cG,hj⟩;rw[E8] at cG hj;have pK:=I'.pin (kS,seqObj "list" kA e) (by simp);have pD:=I'.pin (D,seqObj "list" #[] e1) (by simp);have I5:Inv X pins σ H' s':=I'.pins_of λp hp=>I'.pin p (by simp[hp]);have lF:kA.toList.length=ae.length:=by rw[<-hk.length];omega
  rw[<-hlen] at hj;obtain⟨is,mP,q⟩:=fin ks H' ⋯ hj;have cL:is.length=ae.length:=by rw[<-AV (f:=V.int),<-mP];omega
  have hints:IntsAre kA.toList is:=zmi hk mP;have pm:=zgW is s';have jF:∀i∈Xs is,i<ae.length:=λi hi=>by
   rw[<-cL];exact Cw.1 ((Ww is s').mem_iff.1 hi)
  have o7:zK ((Xs is).map λi=>xs.getD i .non) ((Xs is).map λi=>ae.getD i Value.none):=by
   generalize Xs is=l at jF
   induction l with
   |nil=>exact .nil
   |cons i l ih=>
    refine .cons ?_ (ih λi hi=>jF i (.tail _ hi));have hi:=jF i (.head _);obtain⟨x,h1,h2⟩:=zft hv (AK hi);show zE (xs.getD i .non) (ae.getD i Value.none);rw[AU,AU,h1,AK hi];exact h2
  refine wpAny_bind (listItems_at pK.1 rfl ?_);generalize ho:((Xs is).map λi=>ae.getD i Value.none)=outs at o7;have tR:outs.length=ae.length:=by
   rw[<-ho,AV,(Ww is s').length_eq,Hl,cL]
  have tail:∀(st:SortSt),(arrOf st).map (·.2)=outs.toArray->(arrOf st).size=ae.length->failedOf st=fC->wpAny (model X.prog X.w) X.A.in1.in1 (ksk_tail D kb e1 (.ref kS) st) (λfin s2=>∃v,fin= .done (.ret v)/\wpAny (model X.prog X.w) X.A.in1 (ret (.ref D)) (λfin s3=>∃v,fin= .done (.ret v)/\EP X pins σ Q v s3) X.xe s2) X.xe s':=by
   intro st fi r9 rE;have s1:=Heap.SameBut.update s'.heap kS (Obj.mapSeq λ_=>(#[]:Array pW));have ny:(s'.heap.update kS (Obj.mapSeq λ_=>(#[]:Array pW))).get? D=dB (seqObj "list" #[] e1):=(s1.2 D rV).trans pD.1;have s2:=Heap.SameBut.update (s'.heap.update kS (Obj.mapSeq λ_=>(#[]:Array pW))) D (Obj.mapSeq λ_=>outs.toArray);obtain⟨c2,dR⟩:∃c2,((s'.heap.update kS (Obj.mapSeq λ_=>(#[]:Array pW))).update D (Obj.mapSeq λ_=>outs.toArray)).get? D=dB (seqObj "list" outs.toArray c2):=⟨_,get?_update_seq ny λ_=>outs.toArray⟩;unfold ksk_tail;dsimp only;refine wpAny_bind (listUpdate_at pK.1 rfl ?_ (by rw[Dd] at lF;omega) (Cy _));refine wpAny_bind (wpAny_letGo ?_);refine wpAny_bind (seqEpoch_at ny rfl ?_);rw[fi,rE];simp only[E9,if_false];refine wpAny_bind (listUpdate_at ny rfl ?_ (Cy _) (by rw[B8];omega));simp only[bne_self_eq_false,E9,if_false];refine wpAny_pure ⟨_,rfl,wpAny_pure ⟨_,rfl,?_⟩⟩;have I6:Inv X pins σ H' {s' with heap:=s'.heap.update kS (Obj.mapSeq λ_=>(#[]:Array pW))}:=I5.turned (t':=s'.toks) (λb o hb q=>(s1.2 b hb).trans q) pK.2.1 oK.1 (.inr oK.2.2.1) oK.2.2.2.1 oK.2.2.2.2;refine⟨.ref D,_,I6.adoptW (t':=s'.toks) (o:= .lst ((Xs is).map λi=>xs.getD i .non)) (λb o hb q=>(s2.2 b hb).trans q) pD.2.1 oD.1 oD.2.2.1 oD.2.2.2.1 oD.2.2.2.2 ⟨by rw[o7.length];omega,outs,c2,o7,dR⟩,rfl,q D pD.2.1⟩
  unfold ksk_end;simp only[E9,if_false];by_cases h2:ae.toArray.size<2
  .rw[if_pos h2,if_pos h2];refine wpAny_bind (wpAny_pure ?_);rw[StateT.run_pure];refine wpAny_bind (wpAny_pure ?_);dsimp only;rw[B8] at h2;refine tail (SortSt.mk' general' (kA.zip ae.toArray) #[] 7 fC) ?_ ?_ rfl
   .show (kA.zip ae.toArray).map (·.2)=_;apply Array.toList_inj.1;rw[Array.toList_map,ksk_zip,List.map_snd_zip ⋯,<-ho];unfold Xs zhO;rw[if_pos ⋯,cL];cases ae with
    |nil=>rfl
    |cons v r=>
     cases r with
     |nil=>rfl
     |cons _ _=>simp at h2;omega
   show (kA.zip ae.toArray).size=_;rw[Array.size_zip,B8,<-Dd,lF,EZ]
  rw[if_neg h2,if_neg h2];rw[B8] at h2;obtain⟨kd,ask⟩:=zhP (prog:=X.prog) (w:=X.w) (A:=X.A.in1.in1) (s:=s') hints ⋯;have ea:kA.toList.toArray=kA:=by simp
  rw[ea] at kd;refine wpAny_bind (wpAny_mono (kd (λk s2=>oneType'=k/\s'=s2) ⟨rfl,rfl⟩) ?_ λ_ _ z=>z.elim);rintro _ _ ⟨rfl,rfl⟩;have tree:=zki (s:=s') (is:=is) (cmp:=kas_ask X.prog X.w X.A.in1.in1 oneType' kA.toList) ⋯ λi j C a b c d=>ask i j C ⋯ ⋯ c d;rw[cL] at tree;refine wpAny_bind (wpAny_mono (kat_run (ks:=kA.toList) (vs:=ae) (Q:=λst' s2=>(arrOf st').map (·.2)=outs.toArray/\(arrOf st').size=ae.length/\failedOf st'=fC/\s'=s2) lF ⋯ ⋯ (λp' st' s2 hp x y z=> ?_) tree) ?_ λ_ _ z=>z);obtain⟨rfl,rfl⟩:=z;refine⟨?_,by rw[x,Array.size_map,hp],y,rfl⟩;rw[kat_snds lF x,<-ho];rfl;rintro⟨⟨⟩,st'⟩ _ ⟨a,b,c,rfl⟩;exact tail st' a b c
end
def zgX(R:V->n8 V->Hp->VK->Prop)(te tl:TE):TE:=λσ H Q=>te σ H λx H1=>∃n:Int,x= .int n/\0<=n/\n<64/\tl σ H1 λy H2=>∃f,y= .ref f/\∃J:Nat->n8 V->Hp->Prop,J 0 [] H2/\
 (∀(i:Nat) ks H3,i<n.toNat->ks.length=i->J i ks H3->R (.ref f) [.int i] H3 (λv H4=>J (i+1) (ks++[v]) H4))/\
 ∀ks H3,ks.length=n.toNat->J n.toNat ks H3->∃is:n8 Int,ks=is.map V.int/\∀p,H3 p=fC->Q (.ref p) (upd H3 p (.lst ((Xs is).map λi:Nat=>V.int (i:Int))))
section
variable{R:V->n8 V->Hp->VK->Prop}
def zhQ{e l:Expr}{te tl:TE}{pp p2 kp pos cW:Pos}(F:zj1 X.prog X.w X.K X.mg X.base k R)(hr:xh (k+1) X.A)(hc:X.calm=fN)(hg:Gl X "sorted")(hm:X.mg "sorted"=fC)(oW:Gl X "range")(iW:X.mg "range"=fC)(ha:PE X e te)(hl:PE X l tl)
  (kc:starEach [e] X.env=[(kb,eval e X.env)]:=by rfl) (he:backTo pos (starEach [.Call (.Name "range" p2) [e] [] cW] X.env)=(kb,eval (.Call (.Name "range" p2) [e] [] cW) X.env)::backTo pos (starEach [] X.env):=by rfl) (fg:(backTo pos (starEach [.Call (.Name "range" p2) [e] [] cW] X.env)).any (·.1)=kb:=by rfl):
  PE X (.Call (.Name "sorted" pp) [.Call (.Name "range" p2) [e] [] cW] [⟨dB "key",l,kp⟩] pos) (zgX R te tl):=by
 intro pins s σ H Q I h;refine wpAny_Call_Name_kw (vq I hg hm boot_sorted ?_ ∅ ∅);refine callWith_kw ?_ he fg rfl rfl;rw[he];show wpAny _ _ (spliced ((kb,eval (.Call (.Name "range" p2) [e] [] cW) X.env)::backTo pos [])) _ _ s;refine Calls.spliced_cons ?_;refine wpAny_Call_Name_kw (vq I oW iW boot_range ?_ ∅ ∅);refine BO ?_ kc rfl
 refine thn (zS ha ze kc cW pins s σ H (λvs H1=>∃n:Int,vs=[.int n]/\0<=n/\n<64/\tl σ H1 λy H2=>∃f,y= .ref f/\∃J:Nat->n8 V->Hp->Prop,J 0 [] H2/\
   (∀(i:Nat) ks H3,i<n.toNat->ks.length=i->J i ks H3->R (.ref f) [.int i] H3 (λv H4=>J (i+1) (ks++[v]) H4))/\
   ∀ks H3,ks.length=n.toNat->J n.toNat ks H3->∃is:n8 Int,ks=is.map V.int/\∀p,H3 p=fC->Q (.ref p) (upd H3 p (.lst ((Xs is).map λi:Nat=>V.int (i:Int))))) I ?_) λus s1 ⟨vs,H1,I1,r1,q1⟩=> ?_
 .have h:te σ H _:=h;show te σ H λx H1=>∃n:Int,[x]=[V.int n]/\_;simpa only[HL,and_true] using h
 obtain⟨n,rfl,h0,h1,q⟩:=q1;obtain⟨u,rfl,t,rfl⟩:=XA r1;refine call_range_1 ?_;refine Calls.spliced_nil ?_;have Ag:IsRange (s1.heap.push {cls:= .type "range",data:= .fields #[.int 0 s1.toks,.int n t,.int 1 (s1.toks+1)]}) s1.heap.objs.size 0 n 1 s1.toks t (s1.toks+1):=IsRange.new ..;have ub:∀b o,s1.heap.get? b=dB o->(s1.heap.push {cls:= .type "range",data:= .fields #[.int 0 s1.toks,.int n t,.int 1 (s1.toks+1)]}).get? b=dB o:=λb o e=>Heap.get?_push_of_some _ e;obtain⟨f1,f2,f3,f4,f5,f6⟩:=Inv.fpOk I1 (B1 _) (I1.hok.fresh (B1 _));have I2:Inv X (pins++[(s1.heap.objs.size,{cls:= .type "range",data:= .fields #[.int 0 s1.toks,.int n t,.int 1 (s1.toks+1)]})]) σ H1 {s1 with heap:=s1.heap.push {cls:= .type "range",data:= .fields #[.int 0 s1.toks,.int n t,.int 1 (s1.toks+1)]},toks:=s1.toks+2}:=by
  have I0:Inv X pins σ H1 {s1 with heap:=s1.heap.push {cls:= .type "range",data:= .fields #[.int 0 s1.toks,.int n t,.int 1 (s1.toks+1)]},toks:=s1.toks+2}:=I1.kept ub;refine I0.pins_of λp hp=> ?_;rcases Bf.1 hp with hp|hp;exact I0.pin p (Bn _ hp);rw[B5.1 hp];exact⟨Heap.get?_push_size _ rfl,f1,f2,f3,λv z=>by cases z⟩
 show wpAny _ _ (evalAll [(do let v <-eval l X.env;standAt pos;pure v)]) _ _ _;refine wpAny_evalAll_cons (wpAny_bind (thn (hl _ _ σ H1 _ I2 q) ?_));rintro u s2 ⟨y,H2,I3,ry,f,ef,J,j0,turn,fin⟩;refine wpAny_bind (wpAny_standAt (wpAny_pure ?_));refine wpAny_evalAll_nil ?_;subst ef;obtain rfl:u=Value.ref f:=ry;have pr:=(I3.pin _ (Bn _ (Bn _ (B5.2 rfl)))).1;have I4:Inv X pins σ H2 s2:=I3.pins_of λp hp=>I3.pin p (by simp[hp]);have hn:Builtin.Range.rangeSize 0 n 1=n.toNat:=by rw[rangeSize_one];split<;>omega
 have sX:(zef n.toNat).length=n.toNat:=by simp[zef]
 refine zfG (xs:=zef n.toNat) F hr I4 ⋯ (λ{R E} h=>zbk (A:=X.A.in1) (I4.ok.hd hc) pr (small_one ∅ ∅ ⋯ ⋯) hn (AZ ⋯ (show 1000000<=2^24 by decide)) λg tk xs kp lt bQ=>h g tk xs.toList kp lt ?_) J j0 (λi x ks H3 hx hk hj=> ?_) λks H3 hk hj=> ?_
 .obtain⟨a1,a2⟩:=bQ;refine zgI (by simp[zef,a1]) λi v u ei eu=> ?_;unfold zef at ei;rw[AW] at ei;have hi:i<n.toNat:=by
   have:=(AQ.1 eu).1;simpa [a1] using this
  rw[Cm hi] at ei;cases ei;obtain⟨t,rfl⟩:=a2 i u (by simpa using eu);exact⟨t,by congr 1;omega⟩
 .unfold zef at hx;rw[AW] at hx;have hi:i<n.toNat:=by
   apply Bv;intro z;rw[Bu (by simp;omega)] at hx;cases hx
  rw[Cm hi] at hx;cases hx;exact turn i ks H3 hi hk hj
 rw[sX] at hk hj;obtain⟨is,e1,e2⟩:=fin ks H3 hk hj;refine⟨is,e1,λp hp=> ?_⟩;have cL:is.length=n.toNat:=by rw[<-hk,e1,AV]
 rw[show((Xs is).map λi=>(zef n.toNat).getD i .non)=(Xs is).map λi:Nat=>V.int (i:Int) from Du λi hi=>by
  have hi:=Cw.1 ((Ww is s2).mem_iff.1 hi);rw[cL] at hi;unfold zef;rw[AU,AW,Cm hi]
  rfl]
 exact e2 p hp
end
noncomputable def zaR(tw:TwF):Nat->Nat->Sto->pU (n8 Int×Sto)
 |0,_,S=>dB ([],S)
 |n+1,i,S=>match tw [.int i] S with
  |some (.ok (.int k) S1)=>(zaR tw n (i+1) S1).map λp=>(k::p.1,p.2)
  |_=>fC
noncomputable def zc4(fns:n8 (xi×(n8 Xv->TwF)))(e l:TwE):TwE:=λρ S=>rb (e ρ S) λx S1=>match x with
 | .int n=>if 0<=n/\n<64 then rb (l ρ S1) λy S2=>(match y with
  | .lam L az=>(WP fns L).bind λtw=>(zaR (tw az) n.toNat 0 S2).map λp=> .ok (.ref p.2.length) (p.2++[.lst ((Xs p.1).map λi:Nat=> .int (i:Int))])
  |_=>fC) else fC
 |_=>fC
section
variable{K:AO}{E:XK}
def zkj:∀l:n8 Nat,zG K j H (l.map λi:Nat=>Xv.int (i:Int)) (l.map λi:Nat=>V.int (i:Int)):=by
 intro l
 induction l with
 |nil=>exact .nil
 |cons a r ih=>exact .cons (.int _) ih
set_option tactic.hygienic true in
def zhR{fns:n8 (xi×(n8 Xv->TwF))}(he:RE K E te e)(hl:RE K E tl l):RE K E (zgX (zoD K fns) te tl) (zc4 fns e l):=by
 intro F j σ H ρ S r Q En0 e0 k;rcases zo e0 with⟨x,S1,e1,e0⟩|⟨c,S1,e1,rfl⟩
 .refine he En0 e1 λj1 H1 X1 E1 u hu=> ?_;split at e0
  .rename_i n;split at e0
   .rename_i hn;refine⟨n,hu.int_inv,hn.1,hn.2,?_⟩;rcases zo e0 with⟨y,S2,e2,e0⟩|⟨c,S2,e2,rfl⟩
    .refine hl E1 e2 λj2 H2 X2 E2 v hv=> ?_;split at e0
     .rename_i L az;rw[BF] at e0;obtain⟨tw,hp,e0⟩:=e0;rw[AY] at e0;obtain⟨⟨is,S3⟩,h3,rfl⟩:=e0;obtain⟨f,rfl⟩:∃f,v= .ref f:=by cases hv with|lam _ _=>exact⟨_,rfl⟩
      refine⟨f,rfl,λi ks H3=>∃(j3:n8 qo) (S':Sto) (dn rest:n8 Int),Ext j2 H2 j3 H3/\En K F j3 H3 σ ρ S'/\i<=n.toNat/\zaR (tw az) (n.toNat-i) i S'=dB (rest,S3)/\ks=dn.map V.int/\dn++rest=is,⟨j2,S2,[],is,Ext.refl,E2,Cy _,h3,rfl,rfl⟩,?_,?_⟩;rintro i ks H3 hi hk ⟨j3,S',dn,rest,X3,E3,_,cG,rfl,hd⟩;rw[show n.toNat-i=(n.toNat-(i+1))+1 by omega] at cG;unfold zaR at cG;split at cG;rename_i kk S4 e4;rw[AY] at cG;obtain⟨⟨r2,S5⟩,h5,h6⟩:=cG;cases h6;have kU:zG K j3 H3 [.int (i:Int)] [.int (i:Int)]:= .one (.int _);obtain⟨l1,s1⟩:=WY kU;refine⟨j3,S',S4,[.int i],az,L,tw,.int kk,E3.enter l1 s1,hv.mono X3,hp,e4,λv j' H' σ' ρ' Ex hz=> ?_⟩;obtain⟨E4,X4⟩:=E3.leave Ex;rw[hz.int_inv];exact⟨j',S4,dn++[kk],r2,X3.trans X4,E4,hi,h5,by simp,by rw[<-hd];simp⟩;cases cG;rintro ks H3 hk ⟨j3,S',dn,rest,X3,E3,_,cG,rfl,hd⟩;rw[CP] at cG;cases cG;rw[D2] at hd;subst hd;refine⟨dn,rfl,λp hp=> ?_⟩;obtain⟨E5,X5,h5⟩:=E3.lst (zkj (Xs dn)) hp;exact k _ _ (X1.trans (X2.trans (X3.trans X5))) E5 _ h5
     cases e0
    exact hl E1 e2 (PX.mono k X1)
   cases e0
  cases e0
 exact he En0 e1 k
end
section
def zfH{g:Nat->Int}:∀(n i:Nat),(∀j,i<=j->j<i+n->tw [.int j] S=dB (.ok (.int (g j)) S))->zaR tw n i S=dB ((List.range' i n).map g,S):=by
 intro n
 induction n with
 |zero=>intro i _;rfl
 |succ n ih=>
  intro i h;unfold zaR;rw[h i (B1 _) ⋯];dsimp only;rw[ih (i+1) λj h1 h2=>h j ⋯ ⋯];rfl
def zhS{fns:n8 (xi×(n8 Xv->TwF))}(h:W (e ρ S) λx S1=>∃n:Int,x= .int n/\(0<=n/\n<64)/\W (l ρ S1) λy S2=>∃L az tw is S3,y= .lam L az/\WP fns L=dB tw/\zaR (tw az) n.toNat 0 S2=dB (is,S3)/\P (.ref S3.length) (S3++[.lst ((Xs is).map λi:Nat=> .int (i:Int))])):W (zc4 fns e l ρ S) P:=by
 refine W.bind (h.imp λx S1 h=> ?_);obtain⟨n,rfl,hn,h⟩:=h;dsimp only;rw[if_pos hn];refine W.bind (h.imp λy S2 h=> ?_);obtain⟨L,az,tw,is,S3,rfl,h1,h2,q⟩:=h;dsimp only;rw[h1,B7,h2];exact .of rfl q
end
def VS:(toString "min"++toString ".loop":String)="min.loop":=by decide
def zkk(a v:pW):argsOk "min" ⟨[a],[(Str.ofString "key",v)]⟩:=by unfold argsOk;kernel_rfl
section
def Inv.thaw{σ0:St}(I0:Inv X kD σ0 H0 s0)(h0:H0 a=dB (.dK ks))(I:Inv X pins σ H s)(h:H a=dB (.frz o (.dK kvs))):Inv X pins σ (upd H a (.dK kvs)) s:=by
 have ne:∀b u,H b=dB u->(∀o ks,u≠ .frz o (.dK ks))->b≠a:=λb u e n z=>by
  subst z;rw[h] at e;cases e;exact n _ _ rfl
 have nn:∀b,H b=fC->b≠a:=λb e z=>by rw[z,h] at e;cases e
 refine⟨I.ok,I.os,I.bare,⟨I.base.keep,I.base.slot,λb ob e n hx=> ?_,I.base.there,λb xs e=> ?_,λb ob u e=> ?_,λb ps e=> ?_⟩,I.loc,I.cell,?_,λx c e=> ?_,λp hp=> ?_,λb u e=> ?_,I.len⟩;have q:=I.base.free b ob e n hx;rw[zi (nn b q)];exact q;have q:=I.base.tups b xs e;rw[zi (ne b _ q λ_ _ z=>by cases z)];exact q;have q:=I.base.frzs b ob u e;rw[zi (λz=>by subst z;rw[I0.base.frzs _ ob u e] at h0;cases h0)];exact q;obtain⟨m,q⟩:=I.base.tbls b ps e;exact⟨m,by rw[zi (ne b _ q λ_ _ z=>by cases z)];exact q⟩;rw[zi (nn _ I.free)];exact I.free
 .rcases I.freeC x c e with q|⟨f,ob,q⟩
  .exact .inl (by rw[zi (nn c q)];exact q)
  exact .inr ⟨f,ob,by rw[zi (ne c _ q λ_ _ z=>by cases z)];exact q⟩
 .obtain⟨e,n,r⟩:=I.pin p hp;exact⟨e,by rw[zi (nn _ n)];exact n,r⟩
 by_cases hb:b=a;subst hb;rw[zt] at e;cases e;exact(I.hok b _ h).2
 rw[zi hb] at e;exact(I.hok b u e).stay (λ_ _ _ q=>q) (λd q=>by rw[zi (ne d _ q λ_ _ z=>by cases z)];exact q) λd xs q=>by rw[zi (ne d _ q λ_ _ z=>by cases z)];exact q
noncomputable def yN(is:n8 (n8 Int))(n:Nat):Nat:=argBest (λi j=>ltL (is.getD i []) (is.getD j [])) n
def TN(f:Nat->Nat->Bool):∀n,argBest f n<=n:=by
 intro n
 induction n with
 |zero=>exact B1 _
 |succ n ih=>
  show(if f (n+1) (argBest f n) then n+1 else argBest f n)<=n+1;split<;>omega
def zfI{f g:Nat->Nat->Bool}:∀n,(∀i j,i<=n->j<=n->f i j=g i j)->argBest f n=argBest g n:=by
 intro n
 induction n with
 |zero=>intro _;rfl
 |succ n ih=>
  intro h;show(if f (n+1) (argBest f n) then n+1 else argBest f n)=(if g (n+1) (argBest g n) then n+1 else argBest g n);rw[ih λi j a b=>h i j ⋯ ⋯,h _ _ (B1 _) (Nat.le_succ_of_le (TN g n))]
def zhT(h:n<is.length):yN (is++[l]) n=yN is n:=by
 unfold yN;refine zfI n λi j a b=> ?_;have e:∀i,i<=n->(is++[l]).getD i []=is.getD i []:=λi hi=>by
  rw[AU,B2 ⋯,AU]
 rw[e i a,e j b]
variable{R:V->n8 V->Hp->VK->Prop}{it S:qo}{Q:VK}{J:Nat->n8 V->n8 (n8 Int)->Hp->Prop}
noncomputable abbrev XS(xs:Array pW)(c:Nat):Obj:={cls:= .type "list",dict:=fC,data:= .seq xs c,slots:= #[]}
def zkl(F:zj1 X.prog X.w X.K X.mg X.base k R)(hr:xh (k+1) X.A)(hc:X.calm=fN)(hd:ob.data= .dict es ep)(hS:S≠it)(fS:∀H,H S=fC->Um X pins H S)(fI:∀H,H it=fC->Um X pins H it)(hn:0<kvs.length)
  (rd:∀i ks is H,J i ks is H->H a=dB (.frz ob (.dK kvs))/\is.length=i/\ks.length=i/\∀(m:Nat) v,ks[m]? =dB v->∃b,v= .ref b/\SqT X.K H b ((is.getD m []).map V.int))
  (turn:∀(i:Nat) ks is H2 key v,kvs[i]? =dB (key,v)->J i ks is H2->R (.ref f) [kV key] H2 (λv H3=>∃l,J (i+1) (ks++[v]) (is++[l]) H3)) {Rr:Result->pX->Prop}
  (fin:∀ks is H2 s2 u,J kvs.length ks is H2->Inv X pins σ H2 s2->(∀key v,kvs[yN is (kvs.length-1)]? =dB (key,v)->zE (kV key) u)->Rr (.ok (.ret u)) s2):
  ∀(q i:Nat) (H1:Hp) (s1:pX) (ks:n8 V) (is:n8 (n8 Int)) (io:Obj) (xs:Array pW) (c:Nat),kvs.length-i=q->i<=kvs.length->Inv X (pins++[(it,io),(S,XS xs c)]) σ H1 s1->s1.heap.IsKeyIter it a i kvs.length ep->J i ks is H1->
   ((i=0/\xs= #[])\/(0<i/\∃u v key x kv,xs= #[u,v]/\kvs[yN is (i-1)]? =dB (key,x)/\zE (kV key) u/\ks[yN is (i-1)]? =dB kv/\zE kv v))->
   codeAny (model X.prog X.w) X.A (.builtin "min.loop" ⟨[.ref it,.ref f,.ref S],[]⟩) Rr s1:=by
 intro q
 induction q with
 |zero=>
  intro i H1 s1 ks is io xs c hq hi I1 hit hj old;obtain rfl:i=kvs.length:=by omega
  obtain⟨ha,cL,cG,_⟩:=rd _ _ _ _ hj;have pS:=(I1.pin (S,XS xs c) (by simp)).1;have I0:Inv X pins σ H1 s1:=I1.pins_of λp hp=>I1.pin p (by simp[hp]);have nI:=(I1.pin (it,io) (by simp)).2.1;have nS:=(I1.pin (S,XS xs c) (by simp)).2.1;obtain⟨vs,rel,hm⟩:=TL I0 ha hd;have hl:=rel.length;rw[hl] at hit;rcases old with⟨z,_⟩|⟨_,u,v,key,x,kv,rfl,hk,ru,_,_⟩
  .omega
  refine codeAny_builtin G9 (by
   rw[Around.under_plainId CV _];refine wpAny_bind (m:=seqItems? (.ref S)) (wpAny_seqItems pS rfl (wpAny_bind (m:=tryCatch (pyNext (.ref it)) _) (wpAny_tryCatch (wpAny_pyNext_dict_end (I0.ok.hd hc) hit hm (Bu ⋯) λh' eb=> ?_))));have sD:h'.get? S=dB (XS #[u,v] c):=eb S _ hS pS;have I2:Inv X pins σ H1 {s1 with heap:=h'}:=Inv.turnedL (t':=s1.toks) (fp:=[it]) I0 (λb o hb eo=>eb b o (λz=>hb (by simp[z])) eo) λb hb=>by
    rw[B5.1 hb];exact fI H1 nI
   refine wpAny_bind (m:=updateSeq S (λ_=> #[])) (wpAny_updateSeq sD rfl (wpAny_bind (wpAny_letGo (wpAny_pure ?_))))
   refine fin ks is H1 _ u hj (Inv.turnedL (t':=s1.toks) (fp:=[S]) I2 (λb o hb eo=>(Heap.get?_update_other _ _ λz=>hb (by simp[z])).trans eo) λb hb=>by
    rw[B5.1 hb];exact fS H1 nS) λkey' v' e=> ?_
   rw[hk] at e;cases e
   exact ru)
 |succ q ih=>
  intro i H1 s1 ks is io xs c hq hi I1 hit hj old;obtain⟨ha,cL,cG,Am⟩:=rd _ _ _ _ hj;have pS:=(I1.pin (S,XS xs c) (by simp)).1;have I0:Inv X pins σ H1 s1:=I1.pins_of λp hp=>I1.pin p (by simp[hp]);have nI:=(I1.pin (it,io) (by simp)).2.1;have nS:=(I1.pin (S,XS xs c) (by simp)).2.1;obtain⟨vs,rel,hm⟩:=TL I0 ha hd;have hl:=rel.length;have lt:i<kvs.length:=by omega
  obtain⟨key,x,hx⟩:∃key x,kvs[i]? =dB (key,x):=⟨_,_,AK lt⟩;obtain⟨ux,hu,A0⟩:=zfr rel hx;rw[hl] at hit
  refine codeAny_builtin G9 (by
   rw[Around.under_plainId CV _];refine wpAny_bind (m:=seqItems? (.ref S)) (wpAny_seqItems pS rfl (wpAny_bind (m:=tryCatch (pyNext (.ref it)) _) (wpAny_tryCatch (wpAny_pyNext_dict_item hit hm hu λitem h1 lI iu qS=> ?_))));rw[<-hl] at iu;have sE:h1.get? S=dB (XS xs c):=(qS.2 S hS).trans pS;have I2:Inv X pins σ H1 {s1 with heap:=h1}:=Inv.turnedL (t':=s1.toks) (fp:=[it]) I0 (λb o hb eo=>(qS.2 b (by simpa using hb)).trans eo) λb hb=>by
    rw[B5.1 hb];exact fI H1 nI
   obtain⟨iR,oS,lW,iH⟩:=id iu;have I3:Inv X (pins++[(it,iR),(S,XS xs c)]) σ H1 {s1 with heap:=h1}:=I2.pins_of λp hp=>by
    rcases Bf.1 hp with hp|hp;exact I2.pin p (Bn _ hp);rcases Bi.1 hp with rfl|hp;exact⟨oS,nI,(fI H1 nI).2.1,(fI H1 nI).2.2.1,λv z=>by rw[iH] at z;cases z⟩;rw[B5.1 hp];exact⟨sE,nS,(fS H1 nS).2.1,(fS H1 nS).2.2.1,λv z=>by cases z⟩
   have rk:zE (kV key) item:=znp lI;have fV:=turn i ks is H1 key x hx hj;refine wpAny_bind (m:=tryCatch (holding [item] (call (.ref f) [item])) _) (wpAny_tryCatch (wpAny_holding (wpAny_mono (Q:=EP X (pins++[(it,iR),(S,XS xs c)]) σ (λv H3=>∃l,J (i+1) (ks++[v]) (is++[l]) H3)) (E:=λ_ _=>False) (wpAny_call (codeAny_mono (F X.A.in1 X.stack _ H1 f [kV key] [item] _ (⟨hr.hd,by have:=hr.dp;show X.A.depth+3*k+5<_;omega,by have:=hr.un;show X.A.units+1+16*k+200<_;omega,hr.gd⟩:xh k X.A.in1) I3.env0.in1 (.cons rk .nil) fV) λr s2 hq=> ?_)) (λv s2 he=> ?_) λ_ _ z=>z.elim)))
   .cases r with
    |error e=>exact BP hq
    |ok fl=>
     cases fl with
     |ret u=>exact I3.after hq
     |next=>exact BP hq
     |brk=>exact BP hq
     |cont=>exact BP hq
   obtain⟨kv,H3,I4,r4,l,rp⟩:=he;obtain⟨Ap,uj,uc,lH⟩:=rd _ _ _ _ rp;have mn:=(I4.pin (S,XS xs c) (by simp)).1;have nj:=(I4.pin (it,iR) (by simp)).1;have nz:=(I4.pin (it,iR) (by simp)).2.1;have mw:=(I4.pin (S,XS xs c) (by simp)).2.1;have ui:s2.heap.IsKeyIter it a (i+1) kvs.length ep:=⟨iR,nj,lW,iH⟩;have I5:Inv X pins σ H3 s2:=I4.pins_of λp hp=>I4.pin p (by simp[hp]);have go:∀(s3:pX) (xs':Array pW) (c':Nat),Inv X pins σ H3 s3->s3.heap.get? it=dB iR->s3.heap.get? S=dB (XS xs' c')->(∃u v key x kv',xs'= #[u,v]/\kvs[yN (is++[l]) i]? =dB (key,x)/\zE (kV key) u/\(ks++[kv])[yN (is++[l]) i]? =dB kv'/\zE kv' v)->
     codeAny (model X.prog X.w) X.A (.builtin "min.loop" ⟨[.ref it,.ref f,.ref S],[]⟩) Rr s3:=λs3 xs' c' I6 rB uS hb=>by
    refine ih (i+1) H3 s3 (ks++[kv]) (is++[l]) iR xs' c' ⋯ lt (I6.pins_of λp hp=> ?_) ⟨iR,rB,lW,iH⟩ rp (.inr ⟨⋯,hb⟩);rcases Bf.1 hp with hp|hp;exact I6.pin p (Bn _ hp);rcases Bi.1 hp with rfl|hp;exact⟨rB,nz,(fI H3 nz).2.1,(fI H3 nz).2.2.1,λv z=>by rw[iH] at z;cases z⟩;rw[B5.1 hp];exact⟨uS,mw,(fS H3 mw).2.1,(fS H3 mw).2.2.1,λv z=>by cases z⟩
   have put:∀(hb:yN (is++[l]) i=i),codeAny (model X.prog X.w) X.A (.builtin "min.loop" ⟨[.ref it,.ref f,.ref S],[]⟩) Rr {s2 with heap:=s2.heap.update S (Obj.mapSeq λ_=> #[item,v])}:=λhb=>by
    obtain⟨c2,dR⟩:∃c2,(s2.heap.update S (Obj.mapSeq λ_=> #[item,v])).get? S=dB (XS #[item,v] c2):=⟨_,Heap.get?_update_self _ mn rfl⟩
    refine go _ #[item,v] c2 (Inv.turnedL (t':=s2.toks) (fp:=[S]) I5 (λb o hb eo=>(Heap.get?_update_other _ _ λz=>hb (by simp[z])).trans eo) λb hb=>by
     rw[B5.1 hb];exact fS H3 mw) ((Heap.get?_update_other _ _ hS).trans nj) dR ⟨item,v,key,x,kv,rfl,by rw[hb];exact hx,rk,by rw[hb,B4 ⋯,cG,CP];rfl,r4⟩
   rcases old with⟨rfl,rfl⟩|⟨h0,u0,v0,nH,x0,sN,rfl,jc,sC,lG,sA⟩
   .refine wpAny_bind (m:=updateSeq S (λ_=> #[item,v])) (wpAny_updateSeq mn rfl (by
     rw[VS]
     exact wpAny_pure ⟨plainId_quiet CV _,put rfl⟩))
   have jT:yN (is++[l]) (i-1)=yN is (i-1):=zhT ⋯;have u3:yN is (i-1)<=i-1:=TN _ _;have g0:(is++[l]).getD (yN is (i-1)) []=is.getD (yN is (i-1)) []:=by
    rw[AU,B2 ⋯,AU]
   have gi:(is++[l]).getD i []=l:=by
    rw[AU,B4 ⋯,cL,CP];rfl
   have eG:yN (is++[l]) i=if ltL l (is.getD (yN is (i-1)) [])=fN then i else yN is (i-1):=by
    have hb:∀g:Nat->Nat->Bool,argBest g ((i-1)+1)=if g ((i-1)+1) (argBest g (i-1))=fN then (i-1)+1 else argBest g (i-1):=λg=>rfl;have:=hb λi j=>ltL ((is++[l]).getD i []) ((is++[l]).getD j []);rw[show i-1+1=i by omega] at this;unfold yN at jT g0 ⊢;rw[this,jT,g0,gi]
   obtain⟨b1,x9,pY⟩:=lH i kv (by rw[B4 ⋯,cG,CP];rfl);obtain⟨b0,y0,pZ⟩:=lH (yN is (i-1)) sN (by rw[B2 ⋯];exact lG);rw[gi] at pY;rw[g0] at pZ;subst x9;subst y0;obtain rfl:v=Value.ref b1:=r4;obtain rfl:v0=Value.ref b0:=sA;obtain⟨t1,w1,p1,_⟩:=I5.tuple pY;obtain⟨t0,w0,p0,_⟩:=I5.tuple pZ;refine wpAny_bind (m:=tryCatch (holding [item,Value.ref b1] (richCompare .Lt (.ref b1) (.ref b0)>>=_)) _) (wpAny_tryCatch (wpAny_holding (wpAny_bind ?_)));refine HT.ze3 (A:=X.A.in1) p1 p0 (zak w1) (zak w0) (by have:=hr.un;show X.A.units+1<_;omega) ?_;refine wpAny_bind (wpAny_holding (wpAny_truthy_bool (wpAny_bind (wpAny_letGo (wpAny_pure ?_)))));rw[zgJ];cases lQ:ltL l (is.getD (yN is (i-1)) []) with
   |true=>
    rw[if_pos rfl];rw[lQ,if_pos rfl] at eG
    refine wpAny_bind (wpAny_updateSeq mn rfl (wpAny_bind (wpAny_letGo (by
     rw[VS]
     exact wpAny_pure ⟨plainId_quiet CV _,put eG⟩))))
   |false=>
    rw[if_neg ∅];rw[lQ,if_neg ∅] at eG
    refine wpAny_bind (wpAny_letGo (by
     rw[VS]
     refine wpAny_pure ⟨plainId_quiet CV _,go s2 _ c I5 nj mn ⟨u0,.ref b0,nH,x0,.ref b0,rfl,by rw[eG];exact jc,sC,by rw[eG,B2 ⋯];exact lG,rfl⟩⟩)))
def znt(K:AO)(R:V->n8 V->Hp->VK->Prop)(td tl:TE):TE:=λσ H Q=>td σ H λx H1=>∃a,x= .ref a/\tl σ H1 λy H2=>∃f kvs,y= .ref f/\H2 a=dB (.dK kvs)/\0<kvs.length/\∀o,∃J:Nat->n8 V->n8 (n8 Int)->Hp->Prop,J 0 [] [] (upd H2 a (.frz o (.dK kvs)))/\
 (∀i ks is H,J i ks is H->H a=dB (.frz o (.dK kvs))/\is.length=i/\ks.length=i/\∀(m:Nat) v,ks[m]? =dB v->∃b,v= .ref b/\SqT K H b ((is.getD m []).map V.int))/\
 (∀(i:Nat) ks is H2 key v,kvs[i]? =dB (key,v)->J i ks is H2->R (.ref f) [kV key] H2 (λv H3=>∃l,J (i+1) (ks++[v]) (is++[l]) H3))/\
 ∀ks is H3 key v,J kvs.length ks is H3->kvs[yN is (kvs.length-1)]? =dB (key,v)->Q (kV key) (upd H3 a (.dK kvs))
def zmj{K:AO}{e l:Expr}{te tl:TE}{pp kp pos:Pos}(F:zj1 X.prog X.w X.K X.mg X.base k R)(hr:xh (k+1) X.A)(hc:X.calm=fN)(hg:Gl X "min")(hm:X.mg "min"=fC)(ha:PE X e te)(hl:PE X l tl)(hK:X.K=K:=by rfl)
  (uE:starEach [e] X.env=[(kb,eval e X.env)]:=by rfl) (he:backTo pos (starEach [e] X.env)=(kb,eval e X.env)::backTo pos (starEach [] X.env):=by rfl) (fg:(backTo pos (starEach [e] X.env)).any (·.1)=kb:=by rfl):
  PE X (.Call (.Name "min" pp) [e] [⟨dB "key",l,kp⟩] pos) (znt K R te tl):=by
 subst hK;intro pins s σ H Q I h;refine wpAny_Call_Name_kw (vq I hg hm boot_min ?_ ∅ ∅)
 refine callWith_kw (thn (zS ha ze uE pos pins s σ H (λvs H1=>∃a,vs=[.ref a]/\tl σ H1 λy H2=>∃f kvs,y= .ref f/\H2 a=dB (.dK kvs)/\0<kvs.length/\∀o,∃J:Nat->n8 V->n8 (n8 Int)->Hp->Prop,J 0 [] [] (upd H2 a (.frz o (.dK kvs)))/\
   (∀i ks is H,J i ks is H->H a=dB (.frz o (.dK kvs))/\is.length=i/\ks.length=i/\∀(m:Nat) v,ks[m]? =dB v->∃b,v= .ref b/\SqT X.K H b ((is.getD m []).map V.int))/\
   (∀(i:Nat) ks is H2 key v,kvs[i]? =dB (key,v)->J i ks is H2->R (.ref f) [kV key] H2 (λv H3=>∃l,J (i+1) (ks++[v]) (is++[l]) H3))/\
   ∀ks is H3 key v,J kvs.length ks is H3->kvs[yN is (kvs.length-1)]? =dB (key,v)->Q (kV key) (upd H3 a (.dK kvs))) I ?_) ?_) he fg rfl rfl
 .have h:te σ H _:=h;show te σ H λx H1=>∃a,[x]=[V.ref a]/\_;simpa only[HL,and_true] using h
 rintro us s1 ⟨vs,H1,I1,r1,a,rfl,q⟩;obtain⟨u,rfl,ru⟩:=XA r1;cases ru;show wpAny _ _ (evalAll [(do let v <-eval l X.env;standAt pos;pure v)]) _ _ _;refine wpAny_evalAll_cons (wpAny_bind (thn (hl _ _ σ H1 _ I1 q) ?_));rintro u s2 ⟨y,H2,I2,ry,f,kvs,ef,pF,hn,q2⟩;refine wpAny_bind (wpAny_standAt (wpAny_pure ?_));refine wpAny_evalAll_nil ?_;subst ef;obtain rfl:u=Value.ref f:=ry;obtain⟨hz,lo,vs,rel,ob,es,ep,e1,e2,e3,e4⟩:=zbS I2.hok pF;obtain⟨J,j0,rd,turn,fin⟩:=q2 ob;have tY:=rel.length;have I3:Inv X pins σ (upd H2 a (.frz ob (.dK kvs))) s2:=VA (h':=s2.heap) (t':=s2.toks) I2 (by rw[pF];exact CG) ⟨rfl,λ_ _=>rfl⟩ ⟨ob,e1⟩ ⟨e1,hz,lo,vs,rel,ob,es,ep,e1,e2,e3,e4⟩;refine zjT PySem.F.kind_min PySem.F.plain_min PySem.F.entry_min (zkk _ _) (wpAny_bind (m:=Builtin.Builtins.bindParams "min" ["key","default"] 0 ⟨[],[(Str.ofString "key",.ref f)]⟩) (wpAny_of_eq (a:=[dB (.ref f),fC]) rfl (wpAny_bind (wpAny_pure (wpAny_bind (wpAny_pyIter_dict (knd:=yi X.prog X.w) (A:=X.A.in1) lo ⟨ob,es,e1,e2,e3,e4⟩ ?_))))));have hi:(s2.heap.push {cls:= .type "dict_keyiterator",data:= .fields #[.ref a,.int 0 0,.int vs.length 0,.int ep 0]}).get? s2.heap.objs.size=dB {cls:= .type "dict_keyiterator",data:= .fields #[.ref a,.int 0 0,.int vs.length 0,.int ep 0]}:=Heap.get?_push_size _ rfl;have nX:(s2.heap.push {cls:= .type "dict_keyiterator",data:= .fields #[.ref a,.int 0 0,.int vs.length 0,.int ep 0]}).objs.size=s2.heap.objs.size+1:=Heap.size_push ..;refine wpAny_bind (wpAny_newObj_type ?_);rw[VS];refine wpAny_pure ⟨plainId_quiet CV _,?_⟩;show codeAny (model X.prog X.w) X.A (.builtin "min.loop" ⟨[.ref s2.heap.objs.size,.ref f,.ref (s2.heap.push {cls:= .type "dict_keyiterator",data:= .fields #[.ref a,.int 0 0,.int vs.length 0,.int ep 0]}).objs.size],[]⟩) _ _;rw[nX];have kp:∀b o,s2.heap.get? b=dB o->((s2.heap.push {cls:= .type "dict_keyiterator",data:= .fields #[.ref a,.int 0 0,.int vs.length 0,.int ep 0]}).push (XS #[] 0)).get? b=dB o:=λb o e=>Heap.get?_push_of_some _ (Heap.get?_push_of_some _ e);have I4:=I3.kept (t':=s2.toks) (h':=(s2.heap.push {cls:= .type "dict_keyiterator",data:= .fields #[.ref a,.int 0 0,.int vs.length 0,.int ep 0]}).push (XS #[] 0)) kp;have fp:∀b,s2.heap.objs.size<=b->∀H',H' b=fC->Um X pins H' b:=λb hb H' hn=>Inv.fpOk I2 hb hn;have n1:upd H2 a (.frz ob (.dK kvs)) s2.heap.objs.size=fC:=I3.hok.fresh (B1 _);have n2:upd H2 a (.frz ob (.dK kvs)) (s2.heap.objs.size+1)=fC:=I3.hok.fresh (Cq _);have at2:((s2.heap.push {cls:= .type "dict_keyiterator",data:= .fields #[.ref a,.int 0 0,.int vs.length 0,.int ep 0]}).push (XS #[] 0)).get? (s2.heap.objs.size+1)=dB (XS #[] 0):=by rw[<-nX];exact Heap.get?_push_size _ rfl
 refine zkl (a:=a) (kvs:=kvs) (es:=es) (J:=J) F hr hc e3 (FC _) (fp _ (Cq _)) (fp _ (B1 _)) hn rd turn (λks is H5 s5 u hj I5 hb=> ?_) _ 0 _ _ [] [] {cls:= .type "dict_keyiterator",data:= .fields #[.ref a,.int 0 0,.int vs.length 0,.int ep 0]} _ 0 rfl (Cy _) (I4.pins_of λp hp=> ?_) ⟨_,Heap.get?_push_of_some _ hi,rfl,by rw[tY];rfl⟩ j0 (.inl ⟨rfl,rfl⟩)
 .have jT:yN is (kvs.length-1)<kvs.length:=by
   have:=TN (λi j=>ltL (is.getD i []) (is.getD j [])) (kvs.length-1);unfold yN;omega
  have e:=AK jT;exact⟨_,_,I2.thaw pF I5 (rd _ _ _ _ hj).1,hb _ _ e,fin ks is H5 _ _ hj e⟩
 rcases Bf.1 hp with hp|hp;exact I4.pin p (Bn _ hp);rcases Bi.1 hp with rfl|hp;exact⟨Heap.get?_push_of_some _ hi,n1,(fp _ (B1 _) _ n1).2.1,(fp _ (B1 _) _ n1).2.2.1,λv z=>by cases z⟩;rw[B5.1 hp];exact⟨at2,n2,(fp _ (Cq _) _ n2).2.1,(fp _ (Cq _) _ n2).2.2.1,λv z=>by cases z⟩
end
def Th(H H':Hp):Prop:=∀b u,H b=dB u->(∀o ks,u≠ .frz o (.dK ks))->H' b=dB u
section
variable{K:AO}
def Yl.keepD(k:Th H H')(h:Yl H q c):Yl H' q c:=by
 obtain⟨oc,fs,t,e,r⟩:=h;exact⟨oc,fs,t,k _ _ e (λ_ _ z=>by cases z),r⟩
def WK.keepD(k:Th H H')(h:WK H L f vs):WK H' L f vs:=by
 obtain⟨aC,pm,cX,c,h1,h2,h3,h4,h5,h6⟩:=h.ex;refine⟨aC,pm,cX,c,k _ _ h1 (λ_ _ z=>by cases z),h2.keepD k,λi x v e1 e2=> ?_,h4,h5,λx a e=> ?_⟩;obtain⟨a,o,u,e3,e4,r⟩:=h3 i x v e1 e2;exact⟨a,o,u,e3,k _ _ e4 (λ_ _ z=>by cases z),r⟩;obtain⟨o,u,e3,r⟩:=h6 x a e;exact⟨o,u,k _ _ e3 (λ_ _ z=>by cases z),r⟩
def Xis.keepD(k:Th H H')(h:Xis K j H x v):Xis K j H' x v:=
 Xis.rec (motive_1:=λx v _=>Xis K j H' x v) (motive_2:=λxs vs _=>zG K j H' xs vs) .non .bl .int .str (λh _ l=> .tup (k _ _ h λ_ _ z=>by cases z) l) (λh _ l=> .ct h l) (λh=> .ref h) (λh _ l=> .lam (h.keepD k) l) .nil (λ_ _ h l=> .cons h l) h
def zG.keepD(k:Th H H')(h:zG K j H xs vs):zG K j H' xs vs:=h.ind (m:=zG K j H') .nil λa _ c=> .cons (a.keepD k) c
def KX.keepD{κ:Type}{xs:n8 (κ×Xv)}{vs:n8 (κ×V)}(k:Th H H')(h:KX K j H xs vs):KX K j H' xs vs:=by
 induction h with
 |nil=>exact .nil
 |cons h _ ih=>exact .cons (h.keepD k) ih
def NX.keepD(k:Th H H')(h:NX K j H xs vs):NX K j H' xs vs:=by
 induction h with
 |nil=>exact .nil
 |cons e h1 h2 _ ih=>exact .cons e (h1.keepD k) (h2.keepD k) ih
def VC.keepD(k:Th H H')(e0:H' a=H a)(h:VC K j H a c):VC K j H' a c:=by
 cases c with
 |lst l=>obtain⟨_,e,l⟩:=h;exact⟨_,e0.trans e,l.keepD k⟩
 |frz l=>
  obtain⟨_,e,l⟩:=h;rcases e with⟨o,e⟩|e;exact⟨_,.inl ⟨o,e0.trans e⟩,l.keepD k⟩;exact⟨_,.inr e,l.keepD k⟩
 |dk l=>obtain⟨_,e,l⟩:=h;exact⟨_,e0.trans e,l.keepD k⟩
 |dt l=>obtain⟨_,e,l⟩:=h;exact⟨_,e0.trans e,l.keepD k⟩
 |ins n l=>obtain⟨_,_,_,n,e,l⟩:=h;exact⟨_,_,_,n,e0.trans e,l.keepD k⟩
 |fdk l=>obtain⟨_,_,e,l⟩:=h;exact⟨_,_,e0.trans e,l.keepD k⟩
 |dn l=>obtain⟨_,e,l⟩:=h;exact⟨_,e0.trans e,l.keepD k⟩
 |fdn l=>obtain⟨_,_,e,l⟩:=h;exact⟨_,_,e0.trans e,l.keepD k⟩
 |exc c=>obtain⟨C,n,e⟩:=h;exact⟨C,n,e0.trans e⟩
 |tab t=>
  obtain⟨ps,d,e,x,t,r⟩:=h;refine⟨ps,d,e0.trans e,x,t,λpos cv q=> ?_⟩;obtain⟨c,e1,e2⟩:=r pos cv q;exact⟨c,e1,e2.keepD k⟩
end
section
variable{K:AO}
set_option tactic.hygienic true in
def En.thaw(E0:En K F j H σ ρ S)(hs:S[n]? =dB (.dk kvs))(hj:j[n]? =dB a)(h0:H a=dB (.dK ks))(X:En K ⟨upd H a (.frz o (.dK ks)),j,S.set n (.fdk kvs)⟩ j' H' σ' ρ' S')(hn:S'[n]? =dB (.fdk kvs)):En K F j' (upd H' a (.dK ks)) σ ρ (S'.set n (.dk kvs))/\Ext j H j' (upd H' a (.dK ks)):=by
 have hf:H' a=dB (.frz o (.dK ks)):=X.ext.imm _ _ zt rfl;have gm:j'[n]? =dB a:=X.ext.pre n a hj;have kd:Th H' (upd H' a (.dK ks)):=λb u e z=>by
  rw[zi];exact e;intro q;subst q;rw[hf] at e;cases e;exact z _ _ rfl
 have sJ:n<S.length:=(AQ.1 hs).1;have sf:∀{m:Nat},m≠n->(S.set n (.fdk kvs))[m]? =S[m]? :=λ{m} q=>by rw[Bs,if_neg (λz=>q z.symm)]
 have imm:∀b u,H b=dB u->u.mu=kb->upd H' a (.dK ks) b=dB u:=λb u e m=>by
  have hb:b≠a:=λz=>by subst z;rw[h0] at e;cases e;cases m
  rw[zi hb];exact X.ext.imm b u (by show upd H a (.frz o (.dK ks)) b=dB u;rw[zi hb];exact e) m
 have ex:Ext j H j' (upd H' a (.dK ks)):=⟨X.ext.pre,imm⟩;have nr:∀(m:Nat) l,m≠n->j'[m]? =dB a->S'[m]? ≠dB (.fdk l):=λm l hm e ec=>by
  by_cases hl:m<j.length
  .have e1:j[m]? =dB j[m]:=AK hl;have e2:=X.ext.pre m _ e1;rw[e] at e2;injection e2 with e2
   rw[<-e2] at e1;have iq:m<S.length:=by rw[<-E0.jl];exact hl
   have es:S[m]? =dB S[m]:=AK iq;generalize S[m]=cm at es;have hc:=E0.cel m _ a es e1;obtain⟨c2,f1,f2,f3⟩:=X.old m cm (show(S.set n (.fdk kvs))[m]? =dB cm by rw[sf hm,es]);rw[ec] at f1;cases f1;cases cm with
   |frz l=>cases f3 rfl
   |dk l=>exact hm (E0.inj m n a _ _ e1 hj es hs rfl rfl)
   |lst l=>obtain⟨_,q,_⟩:=hc;rw[h0] at q;cases q
   |dt l=>obtain⟨_,q,_⟩:=hc;rw[h0] at q;cases q
   |ins n l=>obtain⟨_,_,_,_,q,_⟩:=hc;rw[h0] at q;cases q
   |dn l=>obtain⟨_,q,_⟩:=hc;rw[h0] at q;cases q
   |fdk l=>obtain⟨_,_,q,_⟩:=hc;rw[h0] at q;cases q
   |fdn l=>obtain⟨_,_,q,_⟩:=hc;rw[h0] at q;cases q
   |exc c=>obtain⟨C,_,q⟩:=hc;rw[h0] at q;cases q
   |tab t=>obtain⟨_,_,q,_⟩:=hc;rw[h0] at q;cases q
  have:=X.fresh m a (by show j.length<=m;omega) e;have q:upd H a (.frz o (.dK ks)) a=fC:=this;rw[zt] at q;cases q
 have hk:∃ks',H' a=dB (.frz o (.dK ks'))/\KX K j' H' kvs ks':=by
  obtain⟨o',ks',q1,q2⟩:=X.cel n _ a hn gm;rw[hf] at q1;cases q1;exact⟨ks,hf,q2⟩
 obtain⟨ks',rK,ua⟩:=hk;rw[hf] at rK;cases rK;have sat:∀{m:Nat} {d:Ce},(S'.set n (.dk kvs))[m]? =dB d->(m=n/\d= .dk kvs)\/(m≠n/\S'[m]? =dB d):=λ{m d} e=>by
  rw[Bs] at e;split at e;rename_i q;split at e;cases e;exact .inl ⟨q.symm,rfl⟩;cases e;rename_i q;exact .inr ⟨λr=>q r.symm,e⟩
 have jk:∀(m:Nat) c,j'[m]? =dB a->S'[m]? =dB c->c.fz=kb->False:=λm c e1 e2 z=>by
  obtain⟨u,e,m⟩:=(X.cel m c a e2 e1).mu z;rw[hf] at e;cases e;cases m
 refine⟨⟨E0.len,λi x e=> ?_,by simp[X.jl],λm1 m2 b c1 c2 e1 e2 e3 e4 z1 z2=> ?_,λm d b e1 e2=> ?_,E0.ext.trans ex,λm c e=> ?_,E0.l0,λb u e=> ?_,λm b hm e=> ?_,λb e=> ?_⟩,ex⟩;obtain⟨v,e1,e2⟩:=E0.slot i x e;exact⟨v,e1,e2.mono ex⟩
 .rcases sat e3 with⟨rfl,rfl⟩|⟨q1,g3⟩
  .rw[gm] at e1;cases e1;rcases sat e4 with⟨rfl,_⟩|⟨q2,e4⟩
   .rfl
   exact (jk m2 c2 e2 e4 z2).elim
  rcases sat e4 with⟨r2,_⟩|⟨q2,g4⟩
  .rw[r2,gm] at e2;cases e2;exact(jk m1 c1 e1 g3 z1).elim
  exact X.inj m1 m2 b c1 c2 e1 e2 g3 g4 z1 z2
 .rcases sat e1 with⟨rfl,rfl⟩|⟨q,e1⟩
  .rw[gm] at e2;cases e2;exact⟨ks,zt,ua.keepD kd⟩
  have hc:=X.cel m d b e1 e2;by_cases hb:b=a
  .subst hb;cases d with
   |frz l=>
    obtain⟨vs,q|q,l⟩:=hc;obtain⟨o',q⟩:=q;rw[hf] at q;cases q;exact⟨vs,.inr q,l.keepD kd⟩
   |fdk l=>exact(nr m l q e2 e1).elim
   |fdn l=>obtain⟨_,_,q,_⟩:=hc;rw[hf] at q;cases q
   |exc c=>obtain⟨C,_,q⟩:=hc;rw[hf] at q;cases q
   |_=>exact(jk m _ e2 e1 rfl).elim
  exact hc.keepD kd (zi hb)
 .obtain⟨c1,e1,e2,e3⟩:=E0.old m c e;by_cases q:m=n;subst q;rw[hs] at e1;cases e1;refine⟨.dk kvs,by rw[Bs,if_pos rfl,if_pos (AQ.1 hn).1],λ_=>e2 rfl,λy=> ?_⟩;rw[e2 rfl] at y;cases y;obtain⟨c2,f1,f2,f3⟩:=X.old m c1 (show(S.set n (.fdk kvs))[m]? =dB c1 by rw[sf q,e1]);refine⟨c2,by rw[Bs,if_neg (λz=>q z.symm)];exact f1,λz=>e2 (f2 z),λz=> ?_⟩;obtain rfl:=e3 z;exact f3 z
 .rcases E0.keep b u e with h1|h1
  .by_cases hb:b=a;subst hb;rw[h0] at h1;cases h1;exact .inl zt
   rcases X.keep b u (show upd H a (.frz o (.dK ks)) b=dB u by rw[zi hb];exact h1) with h2|⟨m,c,h2,h3,h4⟩
   .exact .inl (by rw[zi hb];exact h2)
   have h2:j[m]? =dB b:=h2;have h3:(S.set n (.fdk kvs))[m]? =dB c:=h3;have tV:m≠n:=λz=>by
    subst z;rw[Bs,if_pos rfl,if_pos sJ] at h3;cases h3;cases h4
   rw[sf tV] at h3;by_cases hl:m<F.j0.length
   .have e1:F.j0[m]? =dB F.j0[m]:=AK hl;have e2:=E0.ext.pre m _ e1;rw[h2] at e2;injection e2 with e2
    rw[<-e2] at e1;have eJ:m<F.S0.length:=by rw[<-E0.l0];exact hl
    obtain⟨c1,f1,f2,_⟩:=E0.old m _ (AK eJ);rw[h3] at f1;cases f1;exact .inr ⟨m,_,e1,AK eJ,f2 h4⟩
   rw[E0.fresh m b ⋯ h2] at e;cases e
  exact .inr h1
 .by_cases hl:m<j.length;have e1:j[m]? =dB j[m]:=AK hl;have e2:=X.ext.pre m _ e1;rw[e] at e2;injection e2 with e2;rw[<-e2] at e1;exact E0.fresh m _ hm e1;have q:upd H a (.frz o (.dK ks)) b=fC:=X.fresh m b (by show j.length<=m;omega) e;refine E0.dom b ?_;by_cases hb:b=a;subst hb;rw[zt] at q;cases q;rw[zi hb] at q;exact q
 by_cases hb:b=a;subst hb;rw[zt] at e;cases e;rw[zi hb] at e;have q:upd H a (.frz o (.dK ks)) b=fC:=X.dom b e;rw[zi hb] at q;exact E0.dom b q
end
noncomputable def Ti(tw:TwF):n8 (Key×Xv)->Sto->pU (n8 (n8 Int)×Sto)
 |[],S=>dB ([],S)
 |p::r,S=>match tw [kX p.1] S with
  |some (.ok x S1)=>(zb6 x).bind λl=>(Ti tw r S1).map λq=>(l::q.1,q.2)
  |_=>fC
noncomputable def zkm(fns:n8 (xi×(n8 Xv->TwF)))(d l:TwE):TwE:=λρ S=>rb (d ρ S) λx S1=>(xR S1 x).bind λ_=>rb (l ρ S1) λy S2=>match y,xR S2 x with
 | .lam L az,dB (n,kvs)=>(WP fns L).bind λtw=>(Ti (tw az) kvs (S2.set n (.fdk kvs))).bind λp=>(kvs[yN p.1 (kvs.length-1)]?).map λq=> .ok (kX q.1) (p.2.set n (.dk kvs))
 |_,_=>fC
section
variable{K:AO}{E:XK}
set_option tactic.hygienic true in
def zmk{fns:n8 (xi×(n8 Xv->TwF))}(hd:RE K E td d)(hl:RE K E tl l):RE K E (znt K (zoD K fns) td tl) (zkm fns d l):=by
 intro F j σ H ρ S r Q En0 e0 k;rcases zo e0 with⟨x,S1,e1,e0⟩|⟨c,S1,e1,rfl⟩
 .refine hd En0 e1 λj1 H1 X1 E1 u hu=> ?_;rw[BF] at e0;obtain⟨⟨n0,jq⟩,g8,e0⟩:=e0;obtain⟨a,k5,rfl,_,_,_⟩:=E1.dk hu g8;refine⟨a,rfl,?_⟩;rcases zo e0 with⟨y,S2,e2,e0⟩|⟨c,S2,e2,rfl⟩
  .refine hl E1 e2 λj2 H2 X2 E2 v hv=> ?_;split at e0
   .rename_i L az n kvs e4;rw[BF] at e0;obtain⟨tw,hp,e0⟩:=e0;rw[BF] at e0;obtain⟨⟨is,S3⟩,h3,e0⟩:=e0;rw[AY] at e0;obtain⟨⟨key,kx⟩,h4,rfl⟩:=e0;obtain⟨f,rfl⟩:∃f,v= .ref f:=by cases hv with|lam _ _=>exact⟨_,rfl⟩
    obtain⟨a',ks,ea,hj,h5,h6⟩:=E2.dk (hu.mono X2) e4;cases ea;have hs:=(Yp e4).2;have cG:=h6.len;refine⟨f,ks,rfl,h5,by rw[cG];have:=(AQ.1 h4).1;dsimp only at this;omega,λo=> ?_⟩;obtain⟨E2f,X2f⟩:=E2.writeF (n:=n) (c':= .fdk kvs) (o:= .frz o (.dK ks)) hs rfl hj (λX=>⟨o,ks,zt,h6.mono X⟩)
    refine⟨λi kk im H3=>∃(j3:n8 qo) (S':Sto) (ys:n8 Xv) (rest:n8 (n8 Int)),En K ⟨upd H2 a (.frz o (.dK ks)),j2,S2.set n (.fdk kvs)⟩ j3 H3 σ ρ S'/\zG K j3 H3 ys kk/\ys.map zb6=im.map dB/\im.length=i/\Ti (tw az) (kvs.drop i) S'=dB (rest,S3)/\im++rest=is,
     ⟨j2,S2.set n (.fdk kvs),[],is,E2f.enter E2f.len E2f.slot,.nil,rfl,rfl,h3,rfl⟩,?_,?_,?_⟩
    .rintro i kk im H3 ⟨j3,S',ys,rest,E3,hy,kQ,cL,_,_⟩;have qK:ys.length=im.length:=by rw[<-AV (f:=zb6),kQ,AV]
     refine⟨E3.ext.imm _ _ zt rfl,cL,by rw[hy.len,qK,cL],λm w hw=> ?_⟩;obtain⟨z,ez,hz⟩:=hy.getV hw;have hm:m<im.length:=by rw[<-qK];exact(AQ.1 ez).1
     have:=congrArg (λl=>l[m]?) kQ;simp only[AW,ez,Cd,AK hm,BG] at this;have:=zjZ hz this;rwa [show im[m]=im.getD m [] by rw[AU,AK hm];rfl] at this
    .rintro i kk im H3 key' v' hx ⟨j3,S',ys,rest,E3,hy,kQ,cL,fK,hd⟩;have hi:i<kvs.length:=by rw[<-cG];exact(AQ.1 hx).1
     have jO:(kvs[i]).1=key':=by
      have:=congrArg (λl=>l[i]?) h6.keys;simp only[AW,hx,AK hi,Cd,BG] at this;exact this.symm
     rw[Ft hi] at fK;unfold Ti at fK;split at fK
     .rename_i z S4 e5;rw[BF] at fK;obtain⟨li,u5,fK⟩:=fK;rw[AY] at fK;obtain⟨⟨r2,S5⟩,h7,h8⟩:=fK;cases h8;rw[jO] at e5;have kU:zG K j3 H3 [kX key'] [kV key']:= .one zjX;obtain⟨l1,s1⟩:=WY kU;have Xf:Ext j2 H2 j3 H3:=by
       refine⟨E3.ext.pre,λb u e m=>E3.ext.imm b u ?_ m⟩;show upd H2 a (.frz o (.dK ks)) b=dB u;rw[zi (λq=>by subst q;rw[h5] at e;cases e;cases m)];exact e
      refine⟨j3,S',S4,[kX key'],az,L,tw,z,E3.enter l1 s1,hv.mono Xf,hp,e5,λw j' H' σ' ρ' Ex hz=> ?_⟩;obtain⟨E4,X4⟩:=E3.leave Ex;exact⟨li,j',S4,ys++[z],r2,E4,(hy.mono X4).append (.one hz),by simp[kQ,u5],by simp[cL],h7,by rw[<-hd];simp⟩
     cases fK
    rintro kk im H3 key' v' ⟨j3,S',ys,rest,E3,hy,kQ,cL,fK,hd⟩ hb;rw[cG,List.drop_length] at fK;cases fK;rw[D2] at hd;subst hd;rw[cG] at hb;have jO:key=key':=by
     have:=congrArg (λl=>l[yN im (kvs.length-1)]?) h6.keys;simp only[AW,hb] at this;rw[h4] at this;simp only[Cd,BG] at this;exact this.symm
    subst jO;have hn:S3[n]? =dB (.fdk kvs):=by
     obtain⟨c',f1,_,f3⟩:=E3.old n (.fdk kvs) (by show(S2.set n (.fdk kvs))[n]? =dB _;rw[Bs,if_pos rfl,if_pos (AQ.1 hs).1]);rw[f3 rfl] at f1;exact f1
    obtain⟨E5,X5⟩:=E2.thaw hs hj h5 E3 hn;exact k _ _ (X1.trans (X2.trans X5)) E5 _ zjX
   cases e0
  exact hl E1 e2 (PX.mono k X1)
 exact hd En0 e1 k
end
section
def zfJ{g:Key->n8 Int}:∀(kvs:n8 (Key×Xv)),(∀p∈kvs,∃x,tw [kX p.1] S=dB (.ok x S)/\zb6 x=dB (g p.1))->Ti tw kvs S=dB (kvs.map λp=>g p.1,S):=by
 intro kvs
 induction kvs with
 |nil=>intro _;rfl
 |cons p r ih=>
  intro h;obtain⟨x,h1,h2⟩:=h p (.head _);unfold Ti;rw[h1];dsimp only;rw[h2,B7,ih λq hq=>h q (.tail _ hq)];rfl
def zml{fns:n8 (xi×(n8 Xv->TwF))}(h:W (d ρ S) λx S1=>(∃p,xR S1 x=dB p)/\W (l ρ S1) λy S2=>∃L az tw n kvs is S3 q,y= .lam L az/\WP fns L=dB tw/\xR S2 x=dB (n,kvs)/\Ti (tw az) kvs (S2.set n (.fdk kvs))=dB (is,S3)/\kvs[yN is (kvs.length-1)]? =dB q/\P (kX q.1) (S3.set n (.dk kvs))):W (zkm fns d l ρ S) P:=by
 refine W.bind (h.imp λx S1 h=> ?_);obtain⟨⟨p,e0⟩,h⟩:=h;rw[e0,B7];refine W.bind (h.imp λy S2 h=> ?_);obtain⟨L,az,tw,n,kvs,is,S3,q,rfl,h1,h2,h3,h4,k⟩:=h;rw[h2];dsimp only;rw[h1,B7,h3,B7,h4];exact .of rfl k
end
noncomputable abbrev zes(T0:qo)(f:Bool)(TI TO:qo):Obj:={cls:= .type "zip",dict:=fC,data:= .fields #[rawInt T0,.bool f,.bool kb,.ref TI,.ref TO],slots:= #[]}
section
variable{w:World}{z TI TO i1 i2 l1 l2 T0:qo}{f:Bool}{k1 k2:Nat}{xs ys:Array pW}{x y:pW}{o:Obj}
def zgY{Q:Bool->pX->Prop}(hz:s.heap.get? z=dB (zes T0 f TI TO))(ha:s.heap.get? T0=dB o)
  (h:∀h',h'.get? z=dB (zes T0 fN TI TO)->Heap.SameBut z s.heap h'->Q kb {s with heap:=h'}):wpAny (model prog w) A (Builtin.SmallTypes.ownedTupleIsFree (.ref z)) Q E s:=by
 unfold Builtin.SmallTypes.ownedTupleIsFree;refine wpAny_bind (wpAny_field hz rfl (x:=rawInt T0) rfl ?_);show wpAny _ _ (loadIfAlive (T0:Int).toNat>>=_) _ _ _;rw[B9];refine wpAny_bind (kdx_alive ha ?_);show wpAny _ _ (field (.ref z) 1>>=_) _ _ _;refine wpAny_bind (wpAny_field hz rfl (x:= .bool f) rfl ?_);cases f with
 |true=>
  rw[if_neg ∅];exact wpAny_pure (h s.heap hz ⟨rfl,λ_ _=>rfl⟩)
 |false=>
  rw[if_pos ∅];refine wpAny_bind (wpAny_setField_rec hz (by simp) λh₁ hz₁ hs₁=> ?_);exact wpAny_pure (h h₁ hz₁ hs₁)
def zmm(D:ZipApart z TI TO i1 i2 l1 l2)(hz:s.heap.get? z=dB (zes T0 f TI TO))(ha:s.heap.get? T0=dB o)(dD:IsPair s.heap TI (.ref i1) (.ref i2))
  (h1:s.heap.IsListIter i1 l1 k1) (h2:s.heap.IsListIter i2 l2 k2) (hl1:s.heap.IsList l1 xs) (hl2:s.heap.IsList l2 ys) (hx:xs[k1]? =dB x) (hy:ys[k2]? =dB y)
  (hQ:∀h',h'.get? z=dB (zes T0 fN TI TO)->h'.IsListIter i1 l1 (k1+1)->h'.IsListIter i2 l2 (k2+1)->IsPair h' s.heap.objs.size x y->h'.objs.size=s.heap.objs.size+1->
   (∀c o,c≠z->c≠i1->c≠i2->s.heap.get? c=dB o->h'.get? c=dB o)->Q (.ref s.heap.objs.size) {s with heap:=h'}):
  wpAny (model prog w) A (Builtin.«zip.__next__» ⟨[.ref z],[]⟩) (λfin s'=>∃v,fin= .done (.ret v)/\Q v s') E s:=by
 show wpAny _ _ (field (.ref z) 2>>=_) _ _ _;refine wpAny_bind (wpAny_field hz rfl (x:= .bool kb) rfl ?_);show wpAny _ _ (field (.ref z) 3>>=_) _ _ _;refine wpAny_bind (wpAny_field hz rfl (x:= .ref TI) rfl ?_);refine wpAny_bind (wpAny_seqItems dD rfl ?_);show wpAny _ _ (Builtin.SmallTypes.ownedTupleIsFree (.ref z)>>=_) _ _ _;refine wpAny_bind (zgY hz ha λh₁ hz₁ hs₁=> ?_);rw[if_neg ∅];refine wpAny_bind ?_;rw[<-DZ];simp only[FZ,Gm];refine wpAny_bind (wpAny_bind (wpAny_holding ?_));show wpAny _ _ (Builtin.SmallTypes.nextOf (.ref i1)>>=_) _ _ _;refine wpAny_bind (wpAny_nextOf_list_item (h1.extBut hs₁.extBut D.i1z) (hl1.extBut hs₁.extBut D.l1z) hx λh₂ h1₂ hs₂=>wpAny_pure (wpAny_pure ?_));refine wpAny_bind (wpAny_bind (wpAny_holding ?_));show wpAny _ _ (Builtin.SmallTypes.nextOf (.ref i2)>>=_) _ _ _;refine wpAny_bind (wpAny_nextOf_list_item ((h2.extBut hs₁.extBut D.i2z).extBut hs₂.extBut D.i12.symm) ((hl2.extBut hs₁.extBut D.l2z).extBut hs₂.extBut D.l2i1) hy λh₃ h2₃ hs₃=>wpAny_pure ?_);refine wpAny_pure (wpAny_pure ?_);refine wpAny_bind (wpAny_newTuple (items:=[x,y]) ?_ (show 2<=sizeLine by decide));have hsz:h₃.objs.size=s.heap.objs.size:=by rw[hs₃.1,hs₂.1,hs₁.1]
 have hz₃:h₃.get? z=dB (zes T0 fN TI TO):=hs₃.extBut _ _ D.i2z.symm (hs₂.extBut _ _ D.i1z.symm hz₁);have h1₃:h₃.IsListIter i1 l1 (k1+1):=h1₂.extBut hs₃.extBut D.i12;refine wpAny_pure ⟨_,rfl,?_⟩;show Q (.ref h₃.objs.size) {s with heap:=h₃.push {cls:= .type "tuple",data:= .seq #[x,y]}};have hT:IsPair (h₃.push {cls:= .type "tuple",data:= .seq #[x,y]}) h₃.objs.size x y:=Heap.get?_push_size _ rfl;rw[hsz] at hT ⊢;exact hQ _ (Heap.get?_push_of_some _ hz₃) (h1₃.at λo e=>Heap.get?_push_of_some _ e) (h2₃.at λo e=>Heap.get?_push_of_some _ e) hT (by rw[Heap.size_push,hsz]) λc o c1 c3 c4 e=>
  Heap.get?_push_of_some _ (hs₃.extBut _ _ c4 (hs₂.extBut _ _ c3 (hs₁.extBut _ _ c1 e)))
def zoF{Q:Fin->pX->Prop}(hh:A.handled=fC)(D:ZipApart z TI TO i1 i2 l1 l2)(hz:s.heap.get? z=dB (zes T0 f TI TO))(ha:s.heap.get? T0=dB o)(dD:IsPair s.heap TI (.ref i1) (.ref i2))
  (h1:s.heap.IsListIter i1 l1 k1) (h2:s.heap.IsListIter i2 l2 k2) (hl1:s.heap.IsList l1 xs) (hl2:s.heap.IsList l2 ys) (iy:xs[k1]? =fC\/ys[k2]? =fC)
  (hE:∀h' e,(∀c o,c≠z->c≠i1->c≠i2->s.heap.get? c=dB o->h'.get? c=dB o)->(∃o,h'.get? e=dB o/\o.cls= .type "StopIteration")->E (.ref e) {s with heap:=h'}):
  wpAny (model prog w) A (Builtin.«zip.__next__» ⟨[.ref z],[]⟩) Q E s:=by
 show wpAny _ _ (field (.ref z) 2>>=_) _ _ _;refine wpAny_bind (wpAny_field hz rfl (x:= .bool kb) rfl ?_);show wpAny _ _ (field (.ref z) 3>>=_) _ _ _;refine wpAny_bind (wpAny_field hz rfl (x:= .ref TI) rfl ?_);refine wpAny_bind (wpAny_seqItems dD rfl ?_);show wpAny _ _ (Builtin.SmallTypes.ownedTupleIsFree (.ref z)>>=_) _ _ _;refine wpAny_bind (zgY hz ha λh₁ hz₁ hs₁=> ?_);rw[if_neg ∅];refine wpAny_bind ?_;rw[<-DZ];simp only[FZ,Gm];refine wpAny_bind (wpAny_bind (wpAny_holding ?_));show wpAny _ _ (Builtin.SmallTypes.nextOf (.ref i1)>>=_) _ _ _;cases hx:xs[k1]? with
 |none=>
  refine wpAny_bind (wpAny_nextOf_list_end hh (h1.extBut hs₁.extBut D.i1z) (hl1.extBut hs₁.extBut D.l1z) hx λh₂ e hs₂ he=> ?_);exact hE h₂ e (λc o c1 c3 _ x=>hs₂ _ _ c3 (hs₁.extBut _ _ c1 x)) he
 |some x=>
  have hy:ys[k2]? =fC:=by rcases iy with h|h;rw[hx] at h;cases h;exact h
  refine wpAny_bind (wpAny_nextOf_list_item (h1.extBut hs₁.extBut D.i1z) (hl1.extBut hs₁.extBut D.l1z) hx λh₂ h1₂ hs₂=>wpAny_pure (wpAny_pure ?_));refine wpAny_bind (wpAny_bind (wpAny_holding ?_));show wpAny _ _ (Builtin.SmallTypes.nextOf (.ref i2)>>=_) _ _ _;refine wpAny_bind (wpAny_nextOf_list_end hh ((h2.extBut hs₁.extBut D.i2z).extBut hs₂.extBut D.i12.symm) ((hl2.extBut hs₁.extBut D.l2z).extBut hs₂.extBut D.l2i1) hy λh₃ e hs₃ he=> ?_);exact hE h₃ e (λc o c1 c3 c4 x=>hs₃ _ _ c4 (hs₂.extBut _ _ c3 (hs₁.extBut _ _ c1 x))) he
structure zc5(h:Heap)(B z TI TO i1 i2 l1 l2:qo)(xs ys:Array pW)(i:Nat)(ts:n8 qo):Prop where
 ti:IsPair h TI (.ref i1) (.ref i2)
 h1:h.IsListIter i1 l1 i
 h2:h.IsListIter i2 l2 i
 hl1:h.IsList l1 xs
 hl2:h.IsList l2 ys
 zz:(i=0/\IsZip h z TI TO .none/\∃a b,IsPair h TO a b)\/∃T0 f o,h.get? z=dB (zes T0 f TI TO)/\h.get? T0=dB o/\B<=T0
 len:ts.length=i
 ps:∀(m:Nat) t,ts[m]? =dB t->B<=t/\∃x y,xs[m]? =dB x/\ys[m]? =dB y/\IsPair h t x y
 nd:ts.Pairwise (· < ·)
def zc5.keep{h h':Heap}{B:qo}{i:Nat}{ts:n8 qo}(st:zc5 h B z TI TO i1 i2 l1 l2 xs ys i ts){S:qo}(hS:S<B)(n1:S≠z/\S≠TI/\S≠TO/\S≠i1/\S≠i2/\S≠l1/\S≠l2)(k:∀b o,b≠S->h.get? b=dB o->h'.get? b=dB o):zc5 h' B z TI TO i1 i2 l1 l2 xs ys i ts:=by
 obtain⟨a1,a2,a3,a4,a5,a6,a7⟩:=n1;refine⟨k _ _ a2.symm st.ti,st.h1.at λo e=>k _ o a4.symm e,st.h2.at λo e=>k _ o a5.symm e,st.hl1.at λo e=>k _ o a6.symm e,st.hl2.at λo e=>k _ o a7.symm e,?_,st.len,λm t e=> ?_,st.nd⟩
 .rcases st.zz with⟨e,z1,a,b,z2⟩|⟨T0,f,o,z1,z2,z3⟩
  .exact .inl ⟨e,k _ _ a1.symm z1,a,b,k _ _ a3.symm z2⟩
  exact .inr ⟨T0,f,o,k _ _ a1.symm z1,k _ _ (λq=>by subst q;exact absurd hS (Hx z3)) z2,z3⟩
 obtain⟨b,x,y,e1,e2,e3⟩:=st.ps m t e;exact⟨b,x,y,e1,e2,k _ _ (λq=>by subst q;exact absurd hS (Hx b)) e3⟩
end
section
variable{w:World}{z TI TO i1 i2 l1 l2 B:qo}{xs ys:Array pW}
def zmn{i:Nat}{ts:n8 qo}{x y:pW}{Q:pU pW->pX->Prop}(D:ZipApart z TI TO i1 i2 l1 l2)(hB:z<B/\TI<B/\TO<B/\i1<B/\i2<B/\l1<B/\l2<B)(st:zc5 s.heap B z TI TO i1 i2 l1 l2 xs ys i ts)(hx:xs[i]? =dB x)(hy:ys[i]? =dB y)(hs:B<=s.heap.objs.size)
  (cJ:∀t∈ts,t<s.heap.objs.size)
  (hQ:∀h',zc5 h' B z TI TO i1 i2 l1 l2 xs ys (i+1) (ts++[s.heap.objs.size])->h'.objs.size=s.heap.objs.size+1->(∀c o,c≠z->c≠TO->c≠i1->c≠i2->s.heap.get? c=dB o->h'.get? c=dB o)->Q (dB (.ref s.heap.objs.size)) {s with heap:=h'}):
  wpAny (model prog w) A (pyNext (.ref z)) Q E s:=by
 obtain⟨b1,b2,b3,b4,b5,b6,b7⟩:=hB;have fin:∀h',(∃T0 f o,h'.get? z=dB (zes T0 f TI TO)/\h'.get? T0=dB o/\B<=T0)->h'.IsListIter i1 l1 (i+1)->h'.IsListIter i2 l2 (i+1)->IsPair h' s.heap.objs.size x y->(∀c o,c≠z->c≠TO->c≠i1->c≠i2->s.heap.get? c=dB o->h'.get? c=dB o)->zc5 h' B z TI TO i1 i2 l1 l2 xs ys (i+1) (ts++[s.heap.objs.size]):=λh' hz h1 h2 hp hk=>by
  refine⟨hk _ _ D.TIz D.TITO D.TIi1 D.TIi2 st.ti,h1,h2,st.hl1.at λo e=>hk _ o D.l1z D.l1TO D.l1i1 D.l1i2 e,st.hl2.at λo e=>hk _ o D.l2z D.l2TO D.l2i1 D.l2i2 e,.inr hz,by simp[st.len],λm t e=> ?_,?_⟩
  .by_cases hm:m<ts.length;rw[B2 hm] at e;obtain⟨b,x,y,e1,e2,e3⟩:=st.ps m t e;exact⟨b,x,y,e1,e2,hk _ _ (BE (B3 b1 b)) (BE (B3 b3 b)) (BE (B3 b4 b)) (BE (B3 b5 b)) e3⟩
   rw[B4 ⋯] at e;have:m=i:=by
    have:=(AQ.1 e).1;simp at this;have:=st.len;omega
   subst this;rw[st.len,CP] at e;cases e;exact⟨hs,x,y,hx,hy,hp⟩
  rw[List.pairwise_append];exact⟨st.nd,List.pairwise_singleton _ _,λa ha b hb=>by rw[B5.1 hb];exact cJ a ha⟩
 rcases st.zz with⟨rfl,hz,a,b,dG⟩|⟨T0,f,o,hz,ha,mW⟩
 .refine wpAny_pyNext_zip_item D hz st.ti dG st.h1 st.h2 st.hl1 st.hl2 hx hy λh' a1 a2 a3 a4 a5 a6 hk=>hQ h' (fin h' ⟨_,kb,_,a1,a5,hs⟩ a3 a4 a5 hk) a6 hk
 have hT:s.TypeIs (.ref z) "zip":=⟨_,hz,rfl⟩;unfold pyNext
 refine wpAny_bind (wpAny_attempt (wpAny_callSpecial?_slot (name:=Str.ofString "__next__") hT DK
  (wpAny_call_entry DK hT Ga
   (zmm D hz ha st.ti st.h1 st.h2 st.hl1 st.hl2 hx hy λh' a1 a3 a4 a5 a6 hk=>wpAny_pure ?_) (FT _))))
 have fY:∀c o,c≠z->c≠TO->c≠i1->c≠i2->s.heap.get? c=dB o->h'.get? c=dB o:=λc o c1 _ c3 c4 e=>hk c o c1 c3 c4 e;exact hQ h' (fin h' ⟨T0,fN,o,a1,hk _ _ (BE (B3 b1 mW)) (BE (B3 b4 mW)) (BE (B3 b5 mW)) ha,mW⟩ a3 a4 a5 fY) a6 fY
def zmo{Q:pU pW->pX->Prop}(hh:A.handled=fC)(D:ZipApart z TI TO i1 i2 l1 l2)(st:zc5 s.heap B z TI TO i1 i2 l1 l2 xs ys i ts)(iy:xs[i]? =fC\/ys[i]? =fC)
  (hQ:∀h',(∀c o,c≠z->c≠TO->c≠i1->c≠i2->s.heap.get? c=dB o->h'.get? c=dB o)->Q fC {s with heap:=h'}):wpAny (model prog w) A (pyNext (.ref z)) Q E s:=by
 rcases st.zz with⟨rfl,hz,a,b,dG⟩|⟨T0,f,o,hz,ha,hT⟩
 .exact wpAny_pyNext_zip_end hh D hz st.ti dG st.h1 st.h2 st.hl1 st.hl2 iy hQ
 have hT:s.TypeIs (.ref z) "zip":=⟨_,hz,rfl⟩;unfold pyNext
 refine wpAny_bind (wpAny_attempt (wpAny_callSpecial?_slot (name:=Str.ofString "__next__") hT DK
  (wpAny_call_entry DK hT Ga (zoF hh D hz ha st.ti st.h1 st.h2 st.hl1 st.hl2 iy λh' e hk he=> ?_) (FT _))))
 obtain⟨o,ho,hc⟩:=he;refine wpAny_bind (wpAny_isInstance (T:="StopIteration") (b:=fN) ⟨o,ho,hc⟩ isSubtype_stop ?_);exact wpAny_pure (hQ _ λc o c1 _ c3 c4 e=>hk c o c1 c3 c4 e)
end
def zhU:typeLookup (.type "zip") "__len__"=pure fC:=by rw[typeLookup_type,builtinLookup_eq_fast];kernel_rfl
def zfK:typeLookup (.type "zip") "__length_hint__"=pure fC:=by rw[typeLookup_type,builtinLookup_eq_fast];kernel_rfl
noncomputable abbrev zqL(ts:n8 qo)(c:Nat):Obj:={cls:= .type "list",dict:=fC,data:= .seq (ts.map Value.ref).toArray c,slots:= #[]}
section
variable{z TI TO i1 i2 l1 l2 B S:qo}{R:Result->pX->Prop}
def zmp(hh:A.handled=fC)(D:ZipApart z TI TO i1 i2 l1 l2)(hB:z<B/\TI<B/\TO<B/\i1<B/\i2<B/\l1<B/\l2<B)(hS:S<B)(nS:S≠z/\S≠TI/\S≠TO/\S≠i1/\S≠i2/\S≠l1/\S≠l2)(he:xs.size=ys.size)(hz:xs.size<=sizeLine):
  ∀(q i:Nat) (s:pX) (ts:n8 qo) (c:Nat),xs.size-i=q->i<=xs.size->zc5 s.heap B z TI TO i1 i2 l1 l2 xs ys i ts->B<=s.heap.objs.size->(∀t∈ts,t<s.heap.objs.size)->s.heap.get? S=dB (zqL ts c)->
   (∀(h':Heap) (ts':n8 qo) (c':Nat),ts'.length=xs.size->(∀(m:Nat) t,ts'[m]? =dB t->B<=t/\∃x y,xs[m]? =dB x/\ys[m]? =dB y/\IsPair h' t x y)->ts'.Pairwise (· < ·)->h'.get? S=dB (zqL ts' c')->(∀b o,b≠S->b≠z->b≠TO->b≠i1->b≠i2->s.heap.get? b=dB o->h'.get? b=dB o)->R (.ok (.ret res)) {s with heap:=h'})->
   codeAny (model prog w) A (.builtin "list.extend.loop" ⟨[.ref S,.ref z,res],[]⟩) R s:=by
 obtain⟨b1,b2,b3,b4,b5,b6,b7⟩:=hB;have up:∀{t a:qo},a<B->B<=t->t≠a:=λh1 h2=>BE (B3 h1 h2);intro q
 induction q with
 |zero=>
  intro i s ts c hq hi st hs cJ hl fin;obtain rfl:i=xs.size:=by omega
  refine codeAny_builtin Fu ?_;rw[Around.under_plainId Dm _];show wpAny _ A.in1 (pyNext (.ref z)>>=_) _ _ s;refine wpAny_bind (zmo hh D st (.inl (Array.getElem?_eq_none (B1 _))) λh' hk=> ?_);refine wpAny_pure (fin h' ts c st.len (λm t e=> ?_) st.nd (hk _ _ nS.1 nS.2.2.1 nS.2.2.2.1 nS.2.2.2.2.1 hl) λb o _ c1 c2 c3 c4 e=>hk b o c1 c2 c3 c4 e);obtain⟨h1,x,y,h2,h3,h4⟩:=st.ps m t e;exact⟨h1,x,y,h2,h3,hk _ _ (up b1 h1) (up b3 h1) (up b4 h1) (up b5 h1) h4⟩
 |succ q ih=>
  intro i s ts c hq hi st hs cJ hl fin;have rA:i<xs.size:=by omega
  refine codeAny_builtin Fu ?_;rw[Around.under_plainId Dm _];show wpAny _ A.in1 (pyNext (.ref z)>>=_) _ _ s;refine wpAny_bind (zmn D ⟨b1,b2,b3,b4,b5,b6,b7⟩ st (Fw rA) (Fw ⋯) hs cJ λh' st' nY hk=> ?_);have gj:=hk _ _ nS.1 nS.2.2.1 nS.2.2.2.1 nS.2.2.2.2.1 hl;show wpAny _ A.in1 (updateSeq S (·.push (.ref s.heap.objs.size))>>=_) _ _ _;refine wpAny_bind ?_;have hsz:((ts.map Value.ref).toArray).size=i:=by simp[st.len]
  refine wpAny_updateSeq gj rfl (wpAny_pure ⟨plainId_quiet Dm _,?_⟩) (by rw[hsz];omega) (by show((ts.map Value.ref).toArray.push _).size<=sizeLine+1;rw[HK,hsz];omega);have dU:∀b o,b≠S->h'.get? b=dB o->(h'.update S (Obj.mapSeq (·.push (Value.ref s.heap.objs.size)))).get? b=dB o:=λb o hb e=>(Heap.get?_update_other _ _ (BM hb)).trans e;have hl2:∃c2,(h'.update S (Obj.mapSeq (·.push (Value.ref s.heap.objs.size)))).get? S=dB (zqL (ts++[s.heap.objs.size]) c2):=by
   obtain⟨c2,e2⟩:∃c2,(h'.update S (Obj.mapSeq (·.push (Value.ref s.heap.objs.size)))).get? S=dB (seqObj "list" ((ts.map Value.ref).toArray.push (Value.ref s.heap.objs.size)) c2):=⟨_,get?_update_seq gj (·.push (Value.ref s.heap.objs.size))⟩;exact⟨c2,by rw[e2];simp[zqL]⟩
  obtain⟨c2,hl2⟩:=hl2;have js:(h'.update S (Obj.mapSeq (·.push (Value.ref s.heap.objs.size)))).objs.size=s.heap.objs.size+1:=by rw[Heap.size_update,nY]
  refine ih (i+1) _ (ts++[s.heap.objs.size]) c2 ⋯ rA (st'.keep hS nS dU) (AZ hs (by show _<=Gu _;rw[js];exact Cq _)) (λt ht=> ?_) hl2 λv7 ts' c' f1 f2 f3 f4 f5=>fin v7 ts' c' f1 f2 f3 f4 λb o c0 c1 c2 c3 c4 e=>f5 b o c0 c1 c2 c3 c4 (dU b o c0 (hk b o c1 c2 c3 c4 e));show t<Gu _;rw[js];rcases Bf.1 ht with ht|ht;exact Cr (cJ t ht);rw[B5.1 ht];exact CB _
def zhV(hh:A.handled=fC)(D:ZipApart z TI TO i1 i2 l1 l2)(hB:z<B/\TI<B/\TO<B/\i1<B/\i2<B/\l1<B/\l2<B)(hS:S<B)(nS:S≠z/\S≠TI/\S≠TO/\S≠i1/\S≠i2/\S≠l1/\S≠l2)(he:xs.size=ys.size)(hz:xs.size<=sizeLine)
  (st:zc5 s.heap B z TI TO i1 i2 l1 l2 xs ys 0 []) (hs:B<=s.heap.objs.size) (c₀:Nat) (hl:s.heap.get? S=dB {cls:= .type "list",data:= .seq #[] c₀}) (gW:IsZip s.heap z TI TO .none)
  (fin:∀(h':Heap) (ts':n8 qo) (c':Nat),ts'.length=xs.size->(∀(m:Nat) t,ts'[m]? =dB t->B<=t/\∃x y,xs[m]? =dB x/\ys[m]? =dB y/\IsPair h' t x y)->ts'.Pairwise (· < ·)->h'.get? S=dB (zqL ts' c')->(∀b o,b≠S->b≠z->b≠TO->b≠i1->b≠i2->s.heap.get? b=dB o->h'.get? b=dB o)->R (.ok (.ret res)) {s with heap:=h'}):
  wpAny (model prog w) A.in1 (Builtin.List.listExtendWith (.ref S) (.ref z) res)
   (λfin s'=>match fin with| .done f=>R (.ok f) s'| .again c'=>c'.quiet=fN/\codeAny (model prog w) A c' R s') (λe s'=>R (.error e) s') s:=by
 have hT:s.TypeIs (.ref z) "zip":=⟨_,gW,rfl⟩;unfold Builtin.List.listExtendWith;refine wpAny_bind (wpAny_typeOf hT ?_);have h1:Builtin.List.listSameRef (.ref S) (.ref z)=kb:=by simp[Builtin.List.listSameRef,nS.1]
 have h2:(Value.type "zip"==Value.type "list")=kb:=by decide
 have h3:(Value.type "zip"==Value.type "tuple")=kb:=by decide
 simp only[h1,h2,h3,Ic,E9,if_false];refine wpAny_bind (wpAny_pyIter_zip gW ?_);refine wpAny_bind (wpAny_holding ?_);unfold Builtin.List.listLengthHint;refine wpAny_bind (wpAny_specialOf hT zhU ?_);show wpAny _ A.in1 (specialOf (Value.ref z) (Str.ofString "__length_hint__")>>=_) _ _ _;refine wpAny_bind (wpAny_specialOf hT zfK ?_);refine wpAny_pure ?_
 show wpAny _ A.in1 (rule "list.extend.makes-room">>=λ_=>Builtin.List.listTouch (.ref S)>>=λ_=>
  again (.builtin "list.extend.loop" ⟨[.ref S,.ref z,res],[]⟩)) _ _ _
 refine wpAny_bind (wpAny_rule ?_);refine wpAny_bind ?_;show wpAny _ A.in1 (updateSeq S (·.push .none)>>=λ_=>updateSeq S (·.pop)) _ _ _;refine wpAny_bind (wpAny_updateSeq hl rfl ?_);have mX:=Heap.get?_update_self (Obj.mapSeq (·.push Value.none)) hl rfl;refine wpAny_updateSeq (hz:=by seq_fits) mX rfl ?_;have uR:=Heap.get?_update_self (Obj.mapSeq (·.pop)) mX rfl;have dU:∀b o,b≠S->s.heap.get? b=dB o->((s.heap.update S (Obj.mapSeq (·.push Value.none))).update S (Obj.mapSeq (·.pop))).get? b=dB o:=
  λb o hb e=>(Heap.get?_update_other _ _ (BM hb)).trans ((Heap.get?_update_other _ _ (BM hb)).trans e)
 refine wpAny_pure ⟨plainId_quiet Dm _,?_⟩;refine zmp hh D hB hS nS he hz _ 0 _ [] _ rfl (Cy _) (st.keep hS nS dU) (by show B<=Gu _;rw[Heap.size_update,Heap.size_update];exact hs) (λt ht=>nomatch ht) uR λh' ts' c' f1 f2 f3 f4 f5=>fin h' ts' c' f1 f2 f3 f4 λb o c0 c1 c2 c3 c4 e=>f5 b o c0 c1 c2 c3 c4 (dU b o c0 e)
def zmq(hh:A.handled=fC)(D:ZipApart z TI TO i1 i2 l1 l2)(hB:z<s.heap.objs.size/\TI<s.heap.objs.size/\TO<s.heap.objs.size/\i1<s.heap.objs.size/\i2<s.heap.objs.size/\l1<s.heap.objs.size/\l2<s.heap.objs.size)(he:xs.size=ys.size)(hz:xs.size<=sizeLine)
  (gW:IsZip s.heap z TI TO .none) (dD:IsPair s.heap TI (.ref i1) (.ref i2)) (dG:IsPair s.heap TO a b) (h1:s.heap.IsListIter i1 l1 0) (h2:s.heap.IsListIter i2 l2 0) (hl1:s.heap.IsList l1 xs) (hl2:s.heap.IsList l2 ys)
  (fin:∀(h':Heap) (ts:n8 qo) (c:Nat),ts.length=xs.size->(∀(m:Nat) t,ts[m]? =dB t->s.heap.objs.size<t/\∃x y,xs[m]? =dB x/\ys[m]? =dB y/\IsPair h' t x y)->ts.Pairwise (· < ·)->h'.get? s.heap.objs.size=dB (zqL ts c)->(∀b o,b≠z->b≠TO->b≠i1->b≠i2->s.heap.get? b=dB o->h'.get? b=dB o)->Q (.ref s.heap.objs.size) {s with heap:=h'}):
  wpAny (model prog w) A (call (.type "list") [.ref z]) Q E s:=by
 refine callType_codes (Q₁:=λobj s₁=>obj= .ref s.heap.objs.size/\s₁={s with heap:=s.heap.push {cls:= .type "list",data:= .seq #[]}}) PySem.F.called_list (PySem.F.typeCall_list_1 _) PySem.F.entry_list_init
  (code_list_new _ ⟨rfl,rfl⟩) λobj s₁ h₁=> ?_
 obtain⟨rfl,rfl⟩:=h₁;obtain⟨b1,b2,b3,b4,b5,b6,b7⟩:=hB;have hS:(s.heap.push {cls:= .type "list",data:= .seq #[]}).get? s.heap.objs.size=dB {cls:= .type "list",data:= .seq #[]}:=Heap.get?_push_size _ rfl;have hsz:(s.heap.push {cls:= .type "list",data:= .seq #[]}).objs.size=s.heap.objs.size+1:=Heap.size_push ..;refine⟨⟨_,hS,rfl⟩,PySem.F.args_list_init_2 _ _,?_⟩;show wpAny _ A.in1.in1 (do let old <-Builtin.List.listItems (.ref s.heap.objs.size);Builtin.List.listUpdate (.ref s.heap.objs.size) (λ_=> #[]);letGo old.toList.reverse;Builtin.List.listExtendWith (.ref s.heap.objs.size) (.ref z) .none) _ _ _;refine wpAny_bind ?_;unfold Builtin.List.listItems;refine wpAny_bind (wpAny_seqItems hS rfl (wpAny_pure ?_));show wpAny _ A.in1.in1 (updateSeq s.heap.objs.size (λ_=> #[])>>=λ_=>letGo (#[]:Array pW).toList.reverse>>=λ_=>Builtin.List.listExtendWith (.ref s.heap.objs.size) (.ref z) .none) _ _ _;refine wpAny_bind (wpAny_updateSeq hS rfl ?_);have mX:=Heap.get?_update_self (Obj.mapSeq (λ_=>(#[]:Array pW))) hS rfl;have dU:∀b o,s.heap.get? b=dB o->((s.heap.push {cls:= .type "list",data:= .seq #[]}).update s.heap.objs.size (Obj.mapSeq (λ_=>(#[]:Array pW)))).get? b=dB o:=
  λb o e=>(Heap.get?_update_other _ _ (BE (Heap.lt_size e))).trans (Heap.get?_push_of_some _ e)
 refine wpAny_bind (wpAny_letGo ?_);refine zhV (B:=s.heap.objs.size+1) hh D ⟨Cr b1,Cr b2,Cr b3,Cr b4,Cr b5,Cr b6,Cr b7⟩ (CB _) ⟨BE b1,BE b2,BE b3,BE b4,BE b5,BE b6,BE b7⟩ he hz
  ⟨dU _ _ dD,h1.at λo e=>dU _ o e,h2.at λo e=>dU _ o e,hl1.at λo e=>dU _ o e,hl2.at λo e=>dU _ o e,.inl ⟨rfl,dU _ _ gW,a,b,dU _ _ dG⟩,rfl,λm t e=>by simp at e,Fq⟩ (by show _<=Gu _;rw[Heap.size_update,hsz];exact B1 _) _ mX (dU _ _ gW) λh' ts' c' f1 f2 f3 f4 f5=>⟨rfl,fin h' ts' c' f1 f2 f3 f4 λb o c1 c2 c3 c4 e=>f5 b o (Bj (Heap.lt_size e)) c1 c2 c3 c4 (dU b o e)⟩
end
noncomputable def zbl(H:Hp)(as:n8 qo)(dH:n8 (V×V)):Hp:=λb=>match (as.zip dH).find? λx=>decide (x.1=b) with
 |some x=>dB (.tup [x.2.1,x.2.2])
 |none=>H b
def zgZ{as:n8 qo}{dH:n8 (V×V)}(nd:as.Nodup){j:Nat}{a:qo}{x y:V}(h1:as[j]? =dB a)(h2:dH[j]? =dB (x,y)):zbl H as dH a=dB (.tup [x,y]):=by
 have:(as.zip dH).find? (λx=>decide (x.1=a))=dB (a,x,y):=by
  induction as generalizing j dH with
  |nil=>simp at h1
  |cons b as ih=>
   cases dH with
   |nil=>simp at h2
   |cons q dH=>
    rw[DX,Ct];cases j with
    |zero=>simp at h1 h2;subst h1 h2;simp
    |succ j=>
     have h1:as[j]? =dB a:=by simpa using h1
     have cx:b≠a:=λe=>(Cb.1 nd).1 (e ▸ AX h1);simp only[decide_eq_false cx];exact ih (Cb.1 nd).2 h1 (by simpa using h2)
 unfold zbl;rw[this]
def XT(h:b∉as):zbl H as dH b=H b:=by
 have:(as.zip dH).find? (λx=>decide (x.1=b))=fC:=GY.2 λx hx=>by
  obtain⟨x1,x2⟩:=x;have:=(Dx hx).1;simp;exact λe=>h (e ▸ this)
 unfold zbl;rw[this]
def zkn(nd:as.Nodup)(hl:as.length=dH.length)(h:zbl H as dH b=dB u)(hb:b∈as):∃(j:Nat) (x y:V),as[j]? =dB b/\dH[j]? =dB (x,y)/\u= .tup [x,y]:=by
 obtain⟨j,hj⟩:=By hb;have mO:j<dH.length:=by rw[<-hl];exact(AQ.1 hj).1
 obtain⟨⟨x,y⟩,e⟩:∃p,dH[j]? =dB p:=⟨_,AK mO⟩;rw[zgZ nd hj e] at h;cases h;exact⟨j,x,y,hj,e,rfl⟩
def zko(H:Hp)(ps:n8 qo)(dH:n8 (V×V)):Prop:=ps.length=dH.length/\∀(m:Nat) p x y,ps[m]? =dB p->dH[m]? =dB (x,y)->H p=dB (.tup [x,y])
def zkp(K:AO)(ta:TA):TE:=λσ H Q=>ta σ H λvs H1=>∃a b xs ys,vs=[.ref a,.ref b]/\SqL K H1 a xs/\SqL K H1 b ys/\xs.length=ys.length/\∀H2 ps l,vX H1 H2->zko H2 ps (xs.zip ys)->H2 l=fC->Q (.ref l) (upd H2 l (.lst (ps.map V.ref)))
def zkq{K:AO}{l m:Expr}{ta:TA}{p p2 pos cW:Pos}(hc:X.calm=fN)(hg:Gl X "list")(hm:X.mg "list"=fC)(oW:Gl X "zip")(iW:X.mg "zip"=fC)(ha:PA X [l,m] ta)(hK:X.K=K:=by rfl)
  (hs:starEach [l,m] X.env=[(kb,eval l X.env),(kb,eval m X.env)]:=by rfl) (dC:starEach [m] X.env=[(kb,eval m X.env)]:=by rfl) (he:starEach [.Call (.Name "zip" p2) [l,m] [] cW] X.env=[(kb,eval (.Call (.Name "zip" p2) [l,m] [] cW) X.env)]:=by rfl):
  PE X (.Call (.Name "list" p) [.Call (.Name "zip" p2) [l,m] [] cW] [] pos) (zkp K ta):=by
 subst hK;intro pins s σ H Q I h;refine wpAny_Call_Name_kw (vq I hg hm boot_list ?_ ∅ ∅);refine BO ?_ he rfl;rw[he];show wpAny _ _ (spliced ((kb,eval (.Call (.Name "zip" p2) [l,m] [] cW) X.env)::backTo pos [])) _ _ s;refine Calls.spliced_cons ?_;refine wpAny_Call_Name_kw (vq I oW iW Boot.«zip» ?_ ∅ ∅);refine BO (thn (ha cW pins s σ H _ I h) ?_) (by rw[hs,dC]) (by rw[dC];rfl);rintro us s1 ⟨vs,H1,I1,r1,q1⟩;obtain⟨a,b,xs,ys,rfl,hq,bP,hlen,q⟩:=q1;obtain⟨u,u',rfl,ru,ru'⟩:=zgi r1;cases ru;cases ru';obtain⟨ae,rv,pl,hz⟩:=I1.list hq;obtain⟨its',rv',pl',nY⟩:=I1.list bP;have kL:a<s1.heap.objs.size:=by obtain⟨o,n,e,_⟩:=id pl;exact Heap.lt_size e
 have kK:b<s1.heap.objs.size:=by obtain⟨o,n,e,_⟩:=id pl';exact Heap.lt_size e
 refine call_zip_2 pl.isList pl'.isList λh' kP dD dG h1 h2 hsz hk=> ?_;refine Calls.spliced_nil ?_;have hl:=rv.length;have gj:=rv'.length;have big:∀{c:Nat},c<s1.heap.objs.size->∀d:Nat,c≠s1.heap.objs.size+d:=λh d=>Bj (B3 h (Dr _ _));have lo:∀d:Nat,d<5->s1.heap.objs.size+d<h'.objs.size:=λd hd=>by rw[hsz];exact Nat.add_lt_add_left hd _
 have D:ZipApart (s1.heap.objs.size+4) (s1.heap.objs.size+2) (s1.heap.objs.size+3) s1.heap.objs.size (s1.heap.objs.size+1) a b:=⟨by simp,by simp,by simp,by simp,by simp,by simp,by simp,by simp,by simp,by simp,big kL _,big kL _,big kL 0,big kL _,big kK _,big kK _,big kK 0,big kK _⟩;refine zmq (s:={s1 with heap:=h'}) (I1.ok.hd hc) D ⟨lo 4 ∅,lo 2 ∅,lo 3 ∅,lo 0 ∅,lo 1 ∅,by show a<h'.objs.size;rw[hsz];exact B3 kL (Dr _ _),by show b<h'.objs.size;rw[hsz];exact B3 kK (Dr _ _)⟩ (by rw[B8,B8];omega) (by rw[B8,<-hl];exact hz) kP dD dG h1 h2 (pl.isList.at λo e=>hk _ o e) (pl'.isList.at λo e=>hk _ o e) λg ts c f1 f2 f3 f4 f5=> ?_;have nd:ts.Nodup:=f3.imp λh e=>absurd h (by rw[e];exact Cv _);have oJ:ts.length=(xs.zip ys).length:=by rw[f1,B8,G2,<-hlen,EZ,hl]
 have kp:∀b o,s1.heap.get? b=dB o->g.get? b=dB o:=λb o e=>f5 b o (big (Heap.lt_size e) 4) (big (Heap.lt_size e) 3) (big (Heap.lt_size e) 0) (big (Heap.lt_size e) 1) (hk b o e);have fZ:∀t∈ts,s1.heap.objs.size<=t/\t≠h'.objs.size:=λt ht=>by
  obtain⟨m,hm⟩:=By ht;have e:h'.objs.size<t:=(f2 m t hm).1;refine⟨?_,BE e⟩;rw[hsz] at e;exact Ba (Bp (Dr _ _) e)
 have pr:∀(m:Nat) t x y,ts[m]? =dB t->(xs.zip ys)[m]? =dB (x,y)->∃u v,zE x u/\zE y v/\IsPair g t u v:=λm t x y e1 e2=>by
  obtain⟨_,u,v,g1,g2,g3⟩:=f2 m t e1;rw[CH] at e2;obtain⟨u',hu,ru⟩:=rv.get e2.1;obtain⟨v',hv,sy⟩:=rv'.get e2.2;have g1:ae[m]? =dB u:=by simpa using g1
  have g2:its'[m]? =dB v:=by simpa using g2
  rw[g1] at hu;rw[g2] at hv;cases hu;cases hv;exact⟨u,v,ru,sy,g3⟩
 have old:vX H1 (zbl H1 ts (xs.zip ys)):=λb u e=>by
  rw[XT];exact e;intro hb;have:=(I1.hok b u e).lt;exact absurd (B3 this (fZ b hb).1) (Cv _)
 have I2:Inv X pins σ (zbl H1 ts (xs.zip ys)) {s1 with heap:=g,toks:=s1.toks}:=by
  refine zeg I1 kp old (λb u e=> ?_) λb u e n=> ?_;by_cases hb:b∈ts;exact .inr (fZ b hb).1;rw[XT hb] at e;exact .inl e;by_cases hb:b∈ts;obtain⟨j,x,y,e1,e2,rfl⟩:=zkn nd oJ e hb;obtain⟨u,v,ru,rv,g3⟩:=pr j b x y e1 e2;exact⟨by show 2<=sizeLine;decide,[u,v],.cons ru (.cons rv .nil),_,g3,rfl,_,rfl,rfl⟩;rw[XT hb,n] at e;cases e
 have hD:h'.objs.size∉ts:=λhb=>(fZ _ hb).2 rfl;have nD:zbl H1 ts (xs.zip ys) h'.objs.size=fC:=by
  rw[XT hD];exact I1.hok.fresh (by rw[hsz];exact Dr _ _)
 have tz:zko (zbl H1 ts (xs.zip ys)) ts (xs.zip ys):=⟨oJ,λm p x y e1 e2=>zgZ nd e1 e2⟩;have I3:Inv X pins σ (upd (zbl H1 ts (xs.zip ys)) h'.objs.size (.lst (ts.map V.ref))) {s1 with heap:=g,toks:=s1.toks}:=by
  refine zeg I1 kp (λb u e=> ?_) (λb u e=> ?_) λb u e n=> ?_;rw[zi];exact old b u e;intro z;subst z;rw[old _ u e] at nD;cases nD;by_cases hb:b=h'.objs.size;right;rw[hb,hsz];exact Dr _ _;rw[zi hb] at e;by_cases hb:b∈ts;exact .inr (fZ b hb).1;rw[XT hb] at e;exact .inl e;by_cases hb:b=h'.objs.size
  .subst hb;rw[zt] at e;cases e;refine⟨by rw[AV,f1,B8,<-hl];exact hz,ts.map Value.ref,c,?_,f4⟩;clear f1 f2 f3 f4 f5 nd oJ fZ pr old I2 hD nD tz
   induction ts with
   |nil=>exact .nil
   |cons t r ih=>exact .cons rfl ih
  rw[zi hb] at e;have:=I2.hok b u e;refine this.stay (λ_ _ _ q=>q) (λd q=> ?_) λd xs q=> ?_;rw[zi (λz=>by subst z;rw[nD] at q;cases q)];exact q;rw[zi (λz=>by subst z;rw[nD] at q;cases q)];exact q
 exact⟨.ref _,_,I3,rfl,q _ ts _ old tz nD⟩
noncomputable def zbm(xs ys:n8 Xv):n8 Xv:=(xs.zip ys).map λp=> .tup [p.1,p.2]
def zfL(ms:n8 TwE):TwE:=λρ S=>rb (evL ms ρ S) λxs S1=>match xs with
 |[x,y]=>(zA S1 x).bind λus=>(zA S1 y).bind λvs=>if us.length=vs.length then dB (.ok (.ref S1.length) (S1++[.lst (zbm us vs)])) else fC
 |_=>fC
section
variable{K:AO}{E:XK}
def zmr(h1:zG K j H us xs)(h2:zG K j H vs ys)(t:zko H ps (xs.zip ys)):zG K j H (zbm us vs) (ps.map V.ref):=by
 induction us generalizing vs xs ys ps with
 |nil=>
  obtain rfl:=h1.nil_inv;obtain⟨t,_⟩:=t;have:ps=[]:=by cases ps with|nil=>rfl|cons _ _=>simp at t
  subst this;exact .nil
 |cons u us ih=>
  obtain⟨x,xr,rfl,a1,a2⟩:=h1.cons_inv;cases vs with
  |nil=>
   obtain rfl:=h2.nil_inv;obtain⟨t,_⟩:=t;have:ps=[]:=by cases ps with|nil=>rfl|cons _ _=>simp at t
   subst this;exact .nil
  |cons v vs=>
   obtain⟨y,yr,rfl,b1,b2⟩:=h2.cons_inv;obtain⟨t1,t2⟩:=t;cases ps with
   |nil=>simp at t1
   |cons p ps=>
    rw[DX] at t1 t2;refine .cons (.tup (t2 0 p x y rfl rfl) (.cons a1 (.one b1))) (ih a2 b2 ⟨by simpa using t1,λm q x y e1 e2=>t2 (m+1) q x y (by simpa using e1) (by simpa using e2)⟩)
set_option tactic.hygienic true in
def zkr(h:RL K E t (evL ms)):RE K E (zkp K t) (zfL ms):=by
 walk_at "!c"
 .refine h En0 e1 λj1 H1 X1 E1 vs hv=> ?_;split at e;rename_i x y;rw[BF] at e;obtain⟨us,e2,e⟩:=e;rw[BF] at e;obtain⟨ws,e3,e⟩:=e;split at e;rename_i hl;cases e;obtain⟨p,q,rfl,hp,hq⟩:=hv.d2;obtain⟨a,as,rfl,f1,f2⟩:=E1.lstAt hp e2;obtain⟨b,bs,rfl,g1,g2⟩:=E1.lstAt hq e3;refine⟨a,b,as,bs,rfl,f1.sql,g1.sql,by rw[f2.len,g2.len,hl],λH2 ps l sm tz hn=> ?_⟩;have X2:Ext j1 H1 j1 H2:=Ext.same sm;obtain⟨E3,X3,h3⟩:=(E1.heap sm).lst (zmr (f2.mono X2) (g2.mono X2) tz) hn;exact k _ _ (X1.trans (X2.trans X3)) E3 _ h3;cases e;cases e
 exact h En0 e1 k
end
def zks(h:W (evL ms ρ S) λxs S1=>∃x y us vs,xs=[x,y]/\zA S1 x=dB us/\zA S1 y=dB vs/\us.length=vs.length/\P (.ref S1.length) (S1++[.lst (zbm us vs)])):W (zfL ms ρ S) P:=by
 refine W.bind (h.imp λxs S1 h=> ?_);obtain⟨x,y,us,vs,rfl,h1,h2,h3,q⟩:=h;dsimp only;rw[h1,B7,h2,B7,if_pos h3];exact .of rfl q
end L2
namespace L2
def zp2(s:Stmt):Expr:=match s with
 | .For _ e _ _ _=>e
 |_=>noE
noncomputable def zp3(s:Stmt)(i:Nat):Stmt:=match s with
 | .For _ _ b _ _=>b.getD i (.Pass ⟨0,0,0,0⟩)
 | .If _ b _ _=>b.getD i (.Pass ⟨0,0,0,0⟩)
 |_=> .Pass ⟨0,0,0,0⟩
def kwE(e:Expr):Expr:=match e with
 | .Call _ _ (⟨_,l,_⟩::_) _=>l
 |_=>noE
set_option tactic.hygienic true in
def zhW{K:AO}{E E':XK}(dj:Bc K mainGlobals nm=dB (dB (.ref C)))(h:RL K E t (evL ms))(hn:ms.length+1=n:=by rfl):RE K E (ziu C (sTw K n tw) [] E' t) (zaO nm tw ms):=by
 walk_at "!c"
 .refine h En0 e1 λj1 H1 X1 E1 vs hv=> ?_;intro x dx hx ph cx;rw[D2];split at e
  .rename_i S2 e2;cases e;have jt:upd H1 dx (.own x) x=fC:=by rw[zi (λz=>cx z.symm)];exact hx
   obtain⟨E2,X2⟩:=E1.new (p:=dx) (o:= .own x) ph;obtain⟨E3,X3⟩:=E2.cell (p:=x) (o:= .ins C dx []) (c:= .ins nm []) jt ⟨C,dx,[],dj,zt,.nil⟩;have X23:=X2.trans X3;have hr:Xis K (j1++[x]) (upd (upd H1 dx (.own x)) x (.ins C dx [])) (.ref S1.length) (.ref x):= .ref (by rw[<-E1.jl];simp);refine Wt E3 (.cons hr (hv.mono X23)) (by rw[Bo,hv.len,YH e1,hn]) e2 λj' H' X E4 v hw=> ?_;exact⟨hw.non_inv,k _ _ (X1.trans (X23.trans X)) E4 _ (hr.mono X)⟩
  cases e
 exact h En0 e1 k
def Va:∀(names:n8 (Str×NameKind)) (n:Nat) (acc:n8 (Str×qo)),cellsFrom n names acc=cellsFrom n names []++acc:=by
 intro names
 induction names with
 |nil=>intro n acc;rfl
 |cons p r ih=>
  intro n acc;obtain⟨name,kind⟩:=p;unfold cellsFrom;split;rw[ih (n+1) ((name,n)::acc),ih (n+1) [(name,n)],Hg];rfl;exact ih n acc
set_option tactic.hygienic true in
def zoG:∀(names:n8 (Str×NameKind)) (n:Nat) {x:Str} {c:qo},(x,c)∈cellsFrom n names []->(x,NameKind.cell)∈names:=by
 intro names
 induction names with
 |nil=>intro n x c h;cases h
 |cons p r ih=>
  intro n x c h;obtain⟨name,kind⟩:=p;unfold cellsFrom at h;split at h
  .rename_i hk;rw[Va] at h;rcases Bf.1 h with h|h;exact Br _ (ih _ h)
   have:kind= .cell:=by simpa using hk
   rw[B5.1 h|>λe=>(Iw e).1,<-this];exact BJ
  exact Br _ (ih _ h)
set_option tactic.hygienic true in
def zfM:∀(names:n8 (Str×NameKind)) (n:Nat) {x:Str},(x,NameKind.cell)∈names->∃c,(x,c)∈cellsFrom n names []:=by
 intro names
 induction names with
 |nil=>intro n x h;cases h
 |cons p r ih=>
  intro n x h;obtain⟨name,kind⟩:=p;unfold cellsFrom;rcases Bi.1 h with h|h;cases h;show ∃c,(x,c)∈cellsFrom (n+1) r [(x,n)];rw[Va];exact⟨n,Bn _ BJ⟩;obtain⟨c,hc⟩:∃c,(x,c)∈cellsFrom (if (kind==NameKind.cell)=fN then n+1 else n) r []:=ih _ h;split;rename_i hk;rw[if_pos hk] at hc;rw[Va];exact⟨c,Dl _ hc⟩;rename_i hk;rw[if_neg hk] at hc;exact⟨c,hc⟩
structure XU(X:Cx)(sc:Scope):Prop where
 nd:(sc.names.map (·.1)).Nodup
 kind:sc.kind= .function
 names:∀y∈sc.names,y.2= .local->sc.names.lookup y.1=dB .local
 free:∀y∈sc.names,y.2= .free->X.env.kindOf y.1=dB .cell\/X.env.kindOf y.1=dB .free
def zkt:∀{names:n8 (Str×NameKind)},(names.map (·.1)).Nodup->∀{x:Str} {j k:NameKind},(x,j)∈names->(x,k)∈names->j=k:=by
 intro names
 induction names with
 |nil=>intro _ x j k h;cases h
 |cons p r ih=>
  intro hn x j k h1 h2;rw[Be,Cb] at hn;rcases Bi.1 h1 with e1|h1;rcases Bi.1 h2 with e2|h2;rw[<-e1] at e2;exact(Iw e2).2.symm;exact absurd (Bq.2 ⟨_,h2,rfl⟩) (by rw[show x=p.1 by rw[<-e1]];exact hn.1);rcases Bi.1 h2 with e2|h2;exact absurd (Bq.2 ⟨_,h1,rfl⟩) (by rw[show x=p.1 by rw[<-e2]];exact hn.1);exact ih hn.2 h1 h2
def VT{env:Env}{x:Str}{k:NameKind}(hk:k= .cell\/k= .free):∀{names:n8 (Str×NameKind)},
  (names.map λ(n,k)=>if (k==NameKind.free&&env.scope.kind== .function&&env.kindOf n==dB .cell) then (n,NameKind.cell) else (n,k)).lookup x=dB k->(x,NameKind.free)∈names\/(x,NameKind.cell)∈names:=by
 intro names
 induction names with
 |nil=>intro h;simp at h
 |cons p r ih=>
  intro h;obtain⟨n,j⟩:=p;have h:D0 x ((if (j==NameKind.free&&env.scope.kind== .function&&env.kindOf n==dB .cell)=fN then (n,NameKind.cell) else (n,j))::_)=_:=h;by_cases hj:(j==NameKind.free&&env.scope.kind== .function&&env.kindOf n==dB .cell)=fN
  .rw[if_pos hj,BQ] at h;have gm:j= .free:=by
    simp only[Cj,beq_iff_eq] at hj;exact hj.1.1
   cases hx:x==n with
   |true=>rw[eq_of_beq hx,<-gm];exact .inl BJ
   |false=>
    rw[hx] at h;exact(ih h).imp (Br _) (Br _)
  rw[if_neg hj,BQ] at h;cases hx:x==n with
  |true=>
   rw[hx] at h;have h':j=k:=C0 h;rw[eq_of_beq hx];rcases hk with e|e;rw[h',e];exact .inr BJ;rw[h',e];exact .inl BJ
  |false=>
   rw[hx] at h;exact(ih h).imp (Br _) (Br _)
noncomputable def VU(sc:Scope)(C:qo)(env:Env):n8 (Str×qo):=cellsFrom (C+1) sc.names (YF sc env)
noncomputable def yI(X:Cx)(N':n8 Str)(sc:Scope)(C:qo)(s₀:pX)(H₀:Hp)(fp:n8 qo):Cx:={ziR X N' sc C s₀ H₀ fp with env:=compEnvC sc (VU sc C X.env) C X.env,fn:=λx=>sc.names.lookup x==dB .cell}
def zp4{C:qo}(hO:CellsOk h (C+1) (cellsFrom (C+1) sc.names []))(hm:(x,NameKind.cell)∈sc.names)(e:(VU sc C env).lookup x=dB c):C<=c:=by
 obtain⟨d,hd⟩:=zfM sc.names (C+1) hm;obtain⟨d',gq⟩:=we hd;unfold VU at e;rw[Va,Eb,gq] at e;cases e;exact Ba (hO.empty x _ (Bw gq)).2
def zet(h:(VU sc C env).lookup x=dB c):(x,c)∈cellsFrom (C+1) sc.names []\/(env.cells.lookup x=dB c/\(sc.names.lookup x==dB .cell)=kb):=by
 unfold VU at h;rw[Va,Eb] at h;cases e:(cellsFrom (C+1) sc.names []).lookup x with
 |some d=>rw[e] at h;cases h;exact .inl (Bw e)
 |none=>
  rw[e] at h;refine .inr ⟨Yk (by simpa using h),?_⟩;cases q:(sc.names.lookup x==dB NameKind.cell) with
  |false=>rfl
  |true=>
   obtain⟨d,hd⟩:=zfM sc.names (C+1) (Bw (eq_of_beq q));obtain⟨d',gq⟩:=we hd;rw[e] at gq;cases gq
def VW(h:(VU sc C env).lookup x=dB c):(x,c)∈cellsFrom (C+1) sc.names []\/env.cells.lookup x=dB c:=(zet h).imp (λz=>z) (·.1)
def zku(B:XU X sc)(h:(x,NameKind.free)∈sc.names)(e:X.env.cells.lookup x=dB c):(VU sc C X.env).lookup x=dB c:=by
 unfold VU;rw[Va,Eb];cases q:(cellsFrom (C+1) sc.names []).lookup x with
 |some d=>exact absurd (zkt B.nd h (zoG _ _ (Bw q))) ∅
 |none=>simpa using zap h e
def zoH(h:(x,NameKind.cell)∈sc.names):∃c,(VU sc C env).lookup x=dB c:=by
 obtain⟨c,hc⟩:=zfM sc.names (C+1) h;obtain⟨d,hd⟩:=we hc;refine⟨d,?_⟩;unfold VU;rw[Va,Eb,hd];rfl
def zc6{Q:Env->pX->Prop}
  (hQ:Q (newEnv scope s.heap.objs.size globals (cellsFrom (s.heap.objs.size+1) scope.names cl) qual fC .none (dB env) bt) {s with heap:=pushCells (s.heap.push {cls:= .type "dict",data:= .dict #[]}) scope.names}):
  wpAny M A (newFunctionEnv scope globals cl [] qual fC .none (dB env) bt) Q E s:=by
 simp only[newFunctionEnv,GW,if_true];refine wpAny_bind (wpAny_alloc ?_);refine wpAny_bind (wpAny_layCells _ (λname kind cells=>by cases ud:kind==NameKind.cell<;>simp[ud]) _ _ _ _ ?_);rw[show({s with heap:=s.heap.push {cls:= .type "dict",data:= .dict #[]}}:pX).heap.objs.size=s.heap.objs.size+1 from Heap.size_push ..];rw[Gm];exact wpAny_bind (wpAny_pure (wpAny_pure hQ))
section
def Inv.closureC(I:Inv X pins σ H s)(B:XU X sc):closureFor sc X.env=pure (YF sc X.env):=
 WJ λy hy e=>I.ok.has y.1 (B.free y hy e)
def zfN{h₁:Heap}{t':Nat}{fp:n8 qo}{acc C:qo}{s₀:pX}{m:Str->pU pW}
  (I:Inv X pins σ H s) (B:XU X sc) (cp:wS X sc cap N') (hf:∀b∈fp,Um X pins H b) (jP:∀b∈fp,b<s.heap.objs.size) (bQ:acc=s.heap.objs.size) (ho:s₀.os=s.os) (oV:s₀.gens=s.gens)
  (h0:s₀.heap=s.heap.push {cls:= .type "list",data:= .seq #[]}) (hC:C=s₀.heap.objs.size)
  (hO:CellsOk h₁ (C+1) (cellsFrom (C+1) sc.names [])) (dj:h₁.Ns C m) (gK:∀b o,s₀.heap.get? b=dB o->h₁.get? b=dB o):
  Inv (yI X N' sc C s₀ (upd H acc (.lst [])) fp) [] (vO cap σ) (upd H acc (.lst [])) {s₀ with heap:=h₁,toks:=t'}:=by
 have rD:H acc=fC:=I.hok.fresh (CD bQ.symm);have iK:∀b o,s.heap.get? b=dB o->s₀.heap.get? b=dB o:=λb o e=>by rw[h0];exact Heap.get?_push_of_some _ e
 have kq:s₀.heap.objs.size=s.heap.objs.size+1:=by rw[h0,Heap.size_push]
 have I0:Inv X pins σ (upd H acc (.lst [])) {s with heap:=s₀.heap,toks:=s.toks}:=I.laid iK (CD bQ.symm) ⟨Cy _,[],0,.nil,by rw[h0,bQ];exact Heap.get?_push_size _ rfl⟩;have CX':∀b,b<s.heap.objs.size->b≠C:=λb hb=>Bj (by rw[hC,kq];exact Cr hb);have CA:∀b,b<s.heap.objs.size->b≠acc:=λb hb=>Bj (by rw[bQ];exact hb);have cellLt:∀x c,X.env.cells.lookup x=dB c->c<s.heap.objs.size:=λx c e=>by
  obtain⟨v,o,q,_⟩:=I.cell x c e;exact Heap.lt_size q
 have pP:∀b,b<s.heap.objs.size->∀x c,(x,c)∈cellsFrom (C+1) sc.names []->b≠c:=λb hb x c z=>by
  have h1:=(hO.empty x c z).2;have h2:=kq;rw[<-hC] at h2;exact Bj (B3 hb (AZ (Cq _) (AZ (CD h2.symm) (AZ (Cq _) h1))))
 have inj:∀x y c,(VU sc C X.env).lookup x=dB c->(VU sc C X.env).lookup y=dB c->x=y:=λx y c h1 h2=>by
  rcases VW h1 with a1|a1;rcases VW h2 with a2|a2;exact name_of_addr hO.apart a1 a2;exact absurd rfl (pP c (cellLt y c a2) x c a1);rcases VW h2 with a2|a2;exact absurd rfl (pP c (cellLt x c a1) y c a2);exact I.ok.inj x y c a1 a2
 refine⟨⟨I.ok.mod,B.kind,I.ok.glob,I.ok.blt,CD hC.symm,inj,λx hx=> ?_,λx c h e=>(h.elim (λz=>AZ (CD hC.symm) (zp4 hO (Bw (eq_of_beq z)) e)) λz=>EB z),I.ok.hd,I.ok.frames,.inl rfl,λb hb=>⟨CX' b (jP b hb),λx c e=>(VW e).elim (λz=>(pP b (jP b hb) x c z).symm) ((hf b hb).2.2.2.2.1 x c)⟩,
   λb o e=> ?_,?_,λb o e hb=> ?_,λb hb hz=> ?_,I0.stack,I0.stkFree⟩,
  rfl,?_,Un.kept gK,⟨m,dj,λj x v h1 h2 h3=> ?_⟩,λx c e=> ?_,?_,λx c e=> ?_,λp hp=>absurd (show p∈([]:n8 (qo×Obj)) from hp) (by simp),I0.hok.kept gK,?_⟩
 .have hm:(x,NameKind.free)∈sc.names\/(x,NameKind.cell)∈sc.names:=by
   rcases hx with hx|hx;exact VT (env:=X.env) (.inl rfl) hx;exact VT (env:=X.env) (.inr rfl) hx
  rcases hm with hm|hm;obtain⟨c,hc⟩:=I.ok.has x (B.free _ hm rfl);exact⟨c,zku B hm hc⟩;exact zoH hm
 .obtain⟨e1,e2⟩:=I.bs b o e;exact⟨iK b o e1,by show upd H acc (.lst []) b=fC;rw[zi (CA b (Heap.lt_size e1))];exact e2⟩
 .exact AZ I.ok.bsz (AZ I.sz (by show _<=s₀.heap.objs.size;omega))
 .rcases (hf b hb).2.2.2.1 with z|z;exact I.ok.noex b o e z;exact absurd (B3 (Heap.lt_size e) (AZ I.ok.bsz z)) (Cv _)
 .rcases Bi.mp (I.stkSub b hz) with e|e;exact (hf b hb).2.1 e;exact (hf b hb).2.2.1 e
 .show AllBare s₀.gens;rw[oV];exact I.bare
 .obtain⟨i,e1,e2⟩:=zbV h2;obtain⟨e3,e4⟩:=cp.at j i x e1 h1;have hm:(x,NameKind.free)∈sc.names:=Bw e4;have hk:=B.free _ hm rfl;obtain⟨m0,Ai,hl⟩:=I.loc;obtain⟨u,r,l⟩:=hl i x v e3 e2 (by rcases hk with k|k;exact .inr (.inl k);exact .inr (.inr k));refine⟨u,r,.inr ?_⟩;rcases l with⟨k,_⟩|⟨_,c,hc,o,q,d⟩
  .rcases hk with k'|k';rw[k] at k';cases k';rw[k] at k';cases k'
  exact⟨xX (env:=X.env) e4,c,zku B hm hc,o,gK c o (iK c o q),d⟩
 .rcases VW e with z|z;obtain⟨o,q,d⟩:=(hO.empty x c z).1;exact⟨_,o,q,d⟩;obtain⟨v,o,q,d⟩:=I.cell x c z;exact⟨v,o,gK c o (iK c o q),d⟩
 .show upd H acc (.lst []) C=fC;rw[zi (by rw[hC,bQ,kq];exact FC _)];exact I.hok.fresh (by rw[hC,kq];exact Cq _)
 .show upd H acc (.lst []) c=fC\/((sc.names.lookup x==dB .cell)=kb/\∃o,upd H acc (.lst []) c=dB (.frz o (.own 0)));rcases zet e with z|⟨z,zf⟩
  .have h1:=(hO.empty x c z).2;have h2:s.heap.objs.size<c:=by
    rw[hC,kq] at h1;exact B3 (Cr (CB _)) h1
   rw[zi (by rw[bQ];exact BE h2)];exact .inl (I.hok.fresh (Ba h2))
  rw[zi (CA c (cellLt x c z))];exact(I.freeC x c z).imp (λz=>z) λz=>⟨zf,z.2⟩
 show (vO cap σ).length=N'.length;unfold vO;rw[AV];exact cp.len
def zaS{use:pU (pW->Sem Unit)}{R:qo->Hp->Prop}
  (hc:X.calm=fN) (B:XU X sc) (cp:wS X sc cap N') (hi:PI X tg iter wi) (ow:zhv cap g)
  (hg:∀C s₀ H₀ fp,PG (yI X N' sc C s₀ H₀ fp) tg g) (ht:∀C s₀ H₀ fp,PTs (yI X N' sc C s₀ H₀ fp) ifs tt) (he:∀C s₀ H₀ fp,PE (yI X N' sc C s₀ H₀ fp) elt te)
  (hs:∀x,foldedSetIterable iter X.env x=pure x)
  (I:Inv X pins σ H s) (h:wi σ H λJ H1=>∀acc,H1 acc=fC->ziS cap g tt te J σ acc H1 (R acc))
  (fin:∀(acc C:qo) (H':Hp) (s':pX) (m:Str->pU pW),Inv X pins σ H' s'->s'.heap.Ns C m->C≠X.env.locals->
   (∀{σ':St} {s'':pX},Inv X pins σ' H' s''->∀h',Heap.SameBut C s''.heap h'->Inv X pins σ' H' {s'' with heap:=h'})->
   R acc H'->compPost (model X.prog X.w) X.A X.xe use Q (.ref acc) C (.ok .next) s'):
  wpAny (model X.prog X.w) X.A (comprehension (.ListComp elt [⟨tg,iter,ifs,0⟩] sc pos) sc X.env p (newList []) kb (eval iter X.env) use) Q X.xe s:=by
 refine wpAny_comprehension_free rfl hs (I.closureC B) B.kind B.names (thn (hi pins s σ H _ I h) λxv s1 h1=>thn h1 λnJ s2 h2=> ?_);obtain⟨it,fp,tn,J,H2,e,I2,T,kz,f2,r2⟩:=h2;subst e;have se:∀b∈fp,b<s2.heap.objs.size:=λb hb=>by
  obtain⟨o,e,_⟩:=T.obj _ _ kz b hb;exact Heap.lt_size e
 refine wpAny_newObj_type (zc6 ?_);dsimp only;obtain⟨s₀,es0⟩:∃s₀:pX,s₀={s2 with heap:=s2.heap.push {cls:= .type "list",dict:=fC,data:= .seq ([]:n8 pW).toArray}}:=⟨_,rfl⟩;have e0h:s₀.heap=s2.heap.push {cls:= .type "list",data:= .seq #[]}:=by rw[es0]
 obtain⟨C,eC⟩:∃C:qo,C=s₀.heap.objs.size:=⟨_,rfl⟩;obtain⟨acc,eA⟩:∃a:qo,a=s2.heap.objs.size:=⟨_,rfl⟩;rw[show(s2.heap.push {cls:= .type "list",dict:=fC,data:= .seq ([]:n8 pW).toArray}).objs.size=C by rw[eC,e0h]];obtain⟨h₁,eh₁⟩:∃h₁:Heap,h₁=pushCells ((s2.heap.push {cls:= .type "list",dict:=fC,data:= .seq ([]:n8 pW).toArray}).push {cls:= .type "dict",data:= .dict #[]}) sc.names:=⟨_,rfl⟩;have keep₁:∀b o,s₀.heap.get? b=dB o->h₁.get? b=dB o:=λb o e=>by
  rw[eh₁];refine pushCells_keeps _ _ b o (Heap.get?_push_of_some _ ?_);rw[e0h] at e;exact e
 have hO:CellsOk h₁ (C+1) (cellsFrom (C+1) sc.names []):=by
  have:=cellsFrom_ok sc.names ((s2.heap.push {cls:= .type "list",dict:=fC,data:= .seq ([]:n8 pW).toArray}).push {cls:= .type "dict",data:= .dict #[]}) (C+1) [] ⟨λ_ _ hm=>(nomatch hm),Fq⟩ (by rw[Heap.size_push,eC,e0h];exact B1 _);rw[<-eh₁,Heap.size_push] at this;rw[show(s2.heap.push {cls:= .type "list",dict:=fC,data:= .seq ([]:n8 pW).toArray}).objs.size=C by rw[eC,e0h]] at this;exact this
 have hns₁:h₁.Ns C λ_=>fC:=by
  rw[eh₁,eC,e0h];exact(Heap.Ns.new _ (.type "dict")).keeps (pushCells_keeps _ _)
 have me:C=s2.heap.objs.size+1:=by rw[eC,e0h,Heap.size_push]
 have iK:∀b o,s2.heap.get? b=dB o->s₀.heap.get? b=dB o:=λb o e=>by rw[e0h];exact Heap.get?_push_of_some _ e
 have sd:H2 acc=fC:=I2.hok.fresh (CD eA.symm);show codeAny (model X.prog X.w) X.A (.compStart (.ListComp elt [⟨tg,iter,ifs,0⟩] sc pos) 0 (.ref it) (.ref s2.heap.objs.size) (compEnvC sc (VU sc C X.env) C X.env))
  (compPost (model X.prog X.w) X.A X.xe use Q (.ref s2.heap.objs.size) C) {s2 with heap:=pushCells ((s2.heap.push {cls:= .type "list",dict:=fC,data:= .seq ([]:n8 pW).toArray}).push {cls:= .type "dict",data:= .dict #[]}) sc.names}
 rw[<-eA,<-eh₁];have x4:({s2 with heap:=h₁}:pX)={s₀ with heap:=h₁,toks:=s2.toks}:=by rw[es0]
 rw[x4];obtain⟨W,⟨m0,w0⟩,turn⟩:=r2 acc sd;have Ib:Inv (yI X N' sc C s₀ (upd H2 acc (.lst [])) fp) [] (vO cap σ) (upd H2 acc (.lst [])) {s₀ with heap:=h₁,toks:=s2.toks}:=
  zfN I2 B cp f2 se eA (by rw[es0]) (by rw[es0]) e0h eC hO hns₁ keep₁
 have stat:∀{H':Hp},(∀b∈fp,H' b=fC)->∀b∈fp,Um (yI X N' sc C s₀ (upd H2 acc (.lst [])) fp) [] H' b:=λhn b hb=>
  ⟨hn b hb,(Ib.ok.exf b hb).1,Ib.ok.exfs b hb,.inl hb,λx c e=>(Ib.ok.exf b hb).2 x c e,λp hp=>absurd (show p∈([]:n8 (qo×Obj)) from hp) (by simp)⟩
 have v8:∀b∈fp,upd H2 acc (.lst []) b=fC:=λb hb=>by
  rw[zi (by rw[eA];exact Bj (se b hb))];exact(f2 b hb).1
 have loop:codeAny (model X.prog X.w) X.A (.compLoop (.ListComp elt [⟨tg,iter,ifs,0⟩] sc pos) 0 (.ref it) (.ref acc) (compEnvC sc (VU sc C X.env) C X.env))
   (compPost (model X.prog X.w) X.A X.xe use Q (.ref acc) C) {s₀ with heap:=h₁,toks:=s2.toks}:=by
  refine XD (λn s'=>∃i ys H',Inv (yI X N' sc C s₀ (upd H2 acc (.lst [])) fp) [] (vO cap σ) H' s'/\tn i s'.heap/\(∀b∈fp,H' b=fC)/\W i n ys H') ?_ m0
   ⟨0,[],_,Ib,T.keep _ _ _ kz λb hb o e=>keep₁ b o (iK b o e),v8,w0⟩
  rintro n s3 ⟨i,ys,H3,I3,ky,lV,w3⟩;rcases turn i n ys H3 w3 with⟨stop,qn⟩|⟨go,step⟩
  .refine thn (T.done (yI X N' sc C s₀ (upd H2 acc (.lst [])) fp) rfl rfl rfl hc i [] s3 _ H3 (λ_ _=>False) I3 (stat lV) ky stop) λr s4 ⟨hr,I4⟩=> ?_;subst hr;have u0:Un (frs X.stack) fp H2 (upd H2 acc (.lst [])) s2.heap s₀.heap:=Un.laid iK (CD eA.symm) sd;have un:Un (frs X.stack) fp H2 H3 s2.heap s4.heap:=u0.trans I4.base;have I5:Inv X pins σ H3 s4:=I2.call' (by rw[I4.os];show s₀.os=_;rw[es0]) un I4.hok I4.bare λb hb=>⟨(f2 b hb).2.2.2.1,(f2 b hb).2.1,(f2 b hb).2.2.2.2.1,(f2 b hb).2.2.2.2.2⟩;obtain⟨m4,jK,_⟩:=I4.loc;have CL:C≠X.env.locals:=λz=>by
    have:=I2.lt;rw[<-z,me] at this;exact absurd this (HM.mpr (Cq _))
   refine fin acc C H3 s4 m4 I5 jK CL (λ{σ' s''} I6 h' sb=> ?_) qn;refine I6.turned (t':=s''.toks) (λb o hb e=>(sb.2 b hb).trans e) I4.free CL (.inr ?_) (λx c e z=> ?_) λp hp z=> ?_;have:=I2.sz;rw[me];omega;obtain⟨v,o,q,_⟩:=I2.cell x c e;have:=Heap.lt_size q;rw[z,me] at this;exact absurd this (HM.mpr (Cq _));obtain⟨q,_⟩:=I2.pin p hp;have:=Heap.lt_size q;rw[z,me] at this;exact absurd this (HM.mpr (Cq _))
  refine thn (T.item (yI X N' sc C s₀ (upd H2 acc (.lst [])) fp) rfl rfl rfl hc i [] s3 _ H3 (λ_ _=>False) I3 (stat lV) ky go) λr s4 ⟨u,hr,h4⟩=> ?_;subst hr;refine thn h4 ?_;rintro _ s5 ⟨x,H5,I5,r5,y5,je,pO⟩;have I5':=I5.pinned (stat pO) (T.obj _ _ je);refine thn (hg C s₀ _ fp _ s5 _ H5 x u _ I5' r5 (ow σ _ x H5 _ ⟨rfl,λ_ _ e=>e⟩ (step x H5 y5))) ?_;rintro _ s6 ⟨σ6,H6,I6,q6,qq⟩;have again:∀{H7:Hp} {s7:pX} {zs:n8 V},Inv (yI X N' sc C s₀ (upd H2 acc (.lst [])) fp) ([]++zaf fp s5.heap) σ6 H7 s7->(∃m',m'<n/\W (i+1) m' zs H7)->
    ∃m,m<n/\∃i ys H',Inv (yI X N' sc C s₀ (upd H2 acc (.lst [])) fp) [] (vO cap σ) H' s7/\tn i s7.heap/\(∀b∈fp,H' b=fC)/\W i m ys H':=λ{H7 s7 zs} I7 w7=>by
   obtain⟨m',hm,w7⟩:=w7;refine⟨m',hm,i+1,zs,H7,(I7.unpinned).weak qq.1.symm qq.2,T.keep _ _ _ je λb hb o e=>(I7.pin (b,o) (Bn _ (Bn _ (YC hb e)))).1,λb hb=> ?_,w7⟩;obtain⟨o,e,d⟩:=T.obj _ _ je b hb;exact(I7.pin (b,o) (Bn _ (Bn _ (YC hb e)))).2.1
  refine thn (ht C s₀ _ fp _ s6 σ6 H6 _ I6 q6) ?_;rintro ok s7 ⟨H7,I7,q7⟩;cases ok with
  |false=>
   rw[if_neg Bm] at q7 ⊢;exact again I7 q7
  |true=>
   rw[if_pos rfl] at q7 ⊢;refine thn (he C s₀ _ fp _ s7 σ6 H7 _ I7 q7) ?_;rintro xv s8 ⟨v,H8,I8,r8,lU,u9,w8⟩;refine thn (xt _ s8 σ6 H8 (.ref acc) [v] (.ref acc) [xv] (λ_ H9=>H9=upd H8 acc (.lst (ys++[v]))) I8 rfl (.cons r8 .nil) ⟨acc,ys,v,rfl,rfl,lU,u9,rfl⟩) ?_;rintro _ s9 ⟨_,H9,I9,_,e9⟩;subst e9;exact again I9 w8
 exact codeAny_compStart_list loop (T.self _ 0 _ _ _ (T.keep _ _ _ kz λb hb o e=>keep₁ b o (iK b o e)) loop)
def zeu(hc:X.calm=fN)(B:XU X sc)(cp:wS X sc cap N')(hi:PI X tg iter wi)(ow:zhv cap g)
  (hg:∀C s₀ H₀ fp,PG (yI X N' sc C s₀ H₀ fp) tg g) (ht:∀C s₀ H₀ fp,PTs (yI X N' sc C s₀ H₀ fp) ifs tt) (he:∀C s₀ H₀ fp,PE (yI X N' sc C s₀ H₀ fp) elt te)
  (hs:∀x,foldedSetIterable iter X.env x=pure x:=by intro _;rfl):PE X (.ListComp elt [⟨tg,iter,ifs,0⟩] sc pos) (ziT cap wi g tt te):=by
 intro pins s σ H Q I h;rw[eval_ListComp];refine zaS (use:=fC) (R:=λacc H2=>Q (.ref acc) H2) hc B cp hi ow hg ht he hs I h λacc C H' s' m I' hn CL mk r=> ?_;exact⟨m,hn,λh' sb=>⟨.ref acc,H',mk I' h' sb,rfl,r⟩⟩
def zev{i:Nat}{y:Str}{py kB:Pos}(hc:X.calm=fN)(B:XU X sc)(cp:wS X sc cap N')(hi:PI X tg iter wi)(ow:zhv cap g)
  (hg:∀C s₀ H₀ fp,PG (yI X N' sc C s₀ H₀ fp) tg g) (ht:∀C s₀ H₀ fp,PTs (yI X N' sc C s₀ H₀ fp) ifs tt) (he:∀C s₀ H₀ fp,PE (yI X N' sc C s₀ H₀ fp) elt te)
  (hN:X.N.Nodup) (hy:X.N[i]? =dB y) (hl:X.env.scope.names.lookup y=dB .local)
  (tF:swapsWith (.ListComp elt [⟨tg,iter,ifs,0⟩] sc pos) (dB (.Name y py)) kB.line X.env=pure fN:=by rfl)
  (hs:∀x,foldedSetIterable iter X.env x=pure x:=by intro _;rfl):PS X (.Assign [.Name y py] (.ListComp elt [⟨tg,iter,ifs,0⟩] sc pos) kB) (zdT i cap wi g tt te):=by
 intro pins s σ H D I h;rw[exec_Assign_Name_used _ _ _ _ tF];refine wpAny_bind (wpAny_standAt (wpAny_bind ?_));show wpAny _ X.A (do let _ <-comprehension (.ListComp elt [⟨tg,iter,ifs,0⟩] sc pos) sc X.env _ (newList []) kb (eval iter X.env) (dB (assign (.Name y py) X.env))) _ _ s;refine wpAny_bind (thn (zaS (use:=dB (assign (.Name y py) X.env)) (Q:=λ_ s'=>SP X pins D .next s') (R:=λacc H2=>D.nx (σ.set i (dB (.ref acc))) H2) hc B cp hi ow hg ht he hs I h λacc C H' s' m I' hn CL mk r=> ?_) λ_ s' hq=>wpAny_pure (wpAny_pure hq));show wpAny _ X.A (assign (.Name y py) X.env (.ref acc)) _ _ _;refine wpAny_assign_Name (zbD I' hN hy (.inl hl) (v:= .ref acc) rfl (λs'' I'' gK=> ?_) (.inr hl));obtain⟨a,sb,ha⟩:=gK;have uX:C≠a:=by
  rcases ha with ha|ha;rw[ha];exact CL;intro z;rw[<-z] at ha;obtain⟨v,o,q,d⟩:=I'.cell y C ha;obtain⟨o',es,ep,q',d',_⟩:=hn;rw[q] at q';cases q';rw[d] at d';cases d'
 exact⟨m,hn.sameBut sb uX,λh' sb'=>⟨_,H',mk I'' h' sb',r⟩⟩
end
noncomputable def zc7(osc sc:Scope):Bool:=decide (sc.names.map (·.1)).Nodup&&sc.kind== .function&&sc.names.all (λy=>y.2 != .local||sc.names.lookup y.1==dB .local)&&
 sc.names.all (λy=>y.2 != .free||(osc.names.lookup y.1==dB .cell||osc.names.lookup y.1==dB .free))
def zp5(hs:X.env.scope=osc)(h:zc7 osc sc=fN):XU X sc:=by
 unfold zc7 at h;simp only[Cj,CO,bne_iff_ne,ne_eq,beq_iff_eq,EW,decide_eq_true_eq] at h;obtain⟨⟨⟨h1,h2⟩,h3⟩,h4⟩:=h;refine⟨h1,h2,λy hy e=>(h3 y hy).resolve_left λz=>z e,λy hy e=> ?_⟩;show X.env.scope.names.lookup y.1=_\/X.env.scope.names.lookup y.1=_;rw[hs];exact(h4 y hy).resolve_left λz=>z e
def WG{env:Env}:∀{names:n8 (Str×NameKind)} {x:Str},names.lookup x=dB .cell->
  (names.map λ(n,k)=>if (k==NameKind.free&&env.scope.kind== .function&&env.kindOf n==dB .cell) then (n,NameKind.cell) else (n,k)).lookup x=dB .cell:=by
 intro names
 induction names with
 |nil=>intro x h;simp at h
 |cons p r ih=>
  intro x h;obtain⟨n,k⟩:=p;show D0 x ((if (k==NameKind.free&&env.scope.kind== .function&&env.kindOf n==dB .cell)=fN then (n,NameKind.cell) else (n,k))::_)=_;rw[BQ] at h;cases hx:x==n with
  |true=>
   rw[hx] at h;have h':k= .cell:=C0 h;subst h';rw[if_neg (by simp),BQ,hx]
  |false=>
   rw[hx] at h;split<;>rw[BQ,hx]<;>exact ih h
def zp6(h:zc7 qa sc=fN):XU (yI X N' qa C s₀ H₀ fp) sc:=by
 unfold zc7 at h;simp only[Cj,CO,bne_iff_ne,ne_eq,beq_iff_eq,EW,decide_eq_true_eq] at h;obtain⟨⟨⟨h1,h2⟩,h3⟩,h4⟩:=h;refine⟨h1,h2,λy hy e=>(h3 y hy).resolve_left λz=>z e,λy hy e=> ?_⟩;rcases(h4 y hy).resolve_left λz=>z e with q|q;exact .inl (WG (env:=X.env) q);exact xX (env:=X.env) q
end L2
namespace Mth
open PySem.Builtin.Int (intBits)
def zms(h1:intBits i<=m)(h2:intBits j<=m)(h:m+1<=k:=by decide):intBits (i+j)<=k:=AZ (PySem.intBits_add_le h1 h2) (by rw[Nat.max_self];exact h)
def zmt(h1:intBits i<=m)(h2:intBits j<=m)(h:m+1<=k:=by decide):intBits (i-j)<=k:=AZ (PySem.intBits_sub_le h1 h2) (by rw[Nat.max_self];exact h)
end Mth
namespace Prf
variable{fu:Nat}{ns:n8 Int}{rws:n8 (n8 (Int×Int))}{many:Nat}{rows:n8 (n8 (Nat×Int)×Int)}{rs:n8 (n8 (Nat×Int)×Int)}{rn:Nat}{es:n8 (Nat×Int)}{ps:n8 (Nat×Int)}{row:n8 (Int×Int)}
open L2
open PySem.Builtin.Int (intBits)
set_option maxHeartbeats 4000000
local macro_rules|`(tactic|walk_at "sc")=>`(tactic|exact ⟨rfl, rfl, rfl, by decide +kernel, rfl, by decide +kernel, by decide +kernel⟩)
structure Fi(K:AO)(mg:Str->pU pW)(nm:Str)(st:Stmt)(ps:n8 Str) where
 a:qo
 fd:FuncData
 F:Fun K nm nm st a fd
 m:mg nm=dB (.ref a)
 b:Vy K fd ps []
structure Mi(K:AO)(g:qo)(nm qn:Str)(st:Stmt)(ps:n8 Str) where
 a:qo
 fd:FuncData
 F:Fun K nm qn st a fd
 b:Vy K fd ps []
 mt:zqw K g nm a
def LoN(K:AO)(x qual:Str)(st:Stmt)(f:qo):Prop:=∃fd,Fun K x qual st f fd
def FL(K:AO)(nm:Str)(st:Stmt):Prop:=∃f,Bc K mainGlobals nm=dB (dB (.ref f))/\LoN K nm nm st f
def ML(K:AO)(g:qo)(nm qn:Str)(st:Stmt):Prop:=∃f,Bh K (.ref g) nm=dB (dB (.ref f))/\FA K (.ref f)=fN/\LoN K nm qn st f
def zp7{K:AO}{x:Str}{st:Stmt}{f:qo}{oc:pW}{od an:pU qo}{fT:Array (pU pW)}{kV doc pm bj ct:pW}(a:Bc K mainGlobals x=dB (dB (.ref f)))
  (l:K.lookup f=dB ⟨oc,od,.func (Dg x x (YE st) (wQ st) (zh st) .none kV doc pm an bj ct),fT⟩) (c:Eh K bj x=fN) (k:CZ K (.ref f)=fN):FL K x st:=⟨f,a,_,ziQ l c k⟩
def zp8{K:AO}{g:qo}{x qn:Str}{st:Stmt}{f:qo}{oc:pW}{od an:pU qo}{fT:Array (pU pW)}{kV doc pm bj ct:pW}(a:Bh K (.ref g) x=dB (dB (.ref f)))(i:FA K (.ref f)=fN)
  (l:K.lookup f=dB ⟨oc,od,.func (Dg x qn (YE st) (wQ st) (zh st) .none kV doc pm an bj ct),fT⟩) (c:Eh K bj qn=fN) (k:CZ K (.ref f)=fN):ML K g x qn st:=⟨f,a,i,_,ziQ l c k⟩
def BA(x qual:Str)(st:Stmt)(ps:n8 Str):Prop:=∀(kV doc pm:pW) (an:pU qo) (bj ct:pW) (us:n8 pW),us.length=ps.length->bindArgs (Dg x qual (YE st) (wQ st) (zh st) .none kV doc pm an bj ct) ⟨us,[]⟩=pure (ps.zip us)
noncomputable def FL.to{K:AO}{h:Heap}{mg:Str->pU pW}{x:Str}{st:Stmt}{ps:n8 Str}(H:FL K x st)(X:K.In h)(G:h.Ns mainGlobals mg)(B:BA x x st ps):Fi K mg x st ps:=
 ⟨H.choose,H.choose_spec.2.choose,H.choose_spec.2.choose_spec,CT X G H.choose_spec.1,H.choose_spec.2.choose_spec.binds B⟩
noncomputable def ML.to{K:AO}{g:qo}{x qn:Str}{st:Stmt}{ps:n8 Str}(H:ML K g x qn st)(B:BA x qn st ps):Mi K g x qn st ps:=
 ⟨H.choose,H.choose_spec.2.2.choose,H.choose_spec.2.2.choose_spec,H.choose_spec.2.2.choose_spec.binds B,⟨H.choose_spec.1,H.choose_spec.2.1,H.choose_spec.2.2.choose_spec.kp⟩⟩
theorem at0{P:n8 pW->Prop}(h:P []):∀us:n8 pW,us.length=0->P us:=λus e=>by cases us;exact h;cases e
theorem at_{P:n8 pW->Prop}(h:∀(a:pW) (us:n8 pW),us.length=n->P (a::us)):∀us:n8 pW,us.length=n+1->P us:=λus e=>by cases us;cases e;exact h _ _ (Nat.succ.inj e)
def zoI{K:AO}{mg:Str->pU pW}{st:Stmt}{x:Str}{fa:qo}(f:Fi K mg "law" st [x])(hK:∀s:pX,K.In s.heap->True)(h:mg "law"=dB (.ref fa)):fa=f.a:=by
 have e:=h.symm.trans f.m;injection e with e;injection e
def zp9:TS:=λ_ _ _=>False
def zg0{st:Stmt}:PS X st zp9:=λ_ _ _ _ _ _ h=>BP h
section
variable{P:Program}{w:World}{K:AO}{mg:Str->pU pW}{base:Heap}
def okS{x qual:Str}{st:Stmt}{f:qo}{fd:FuncData}{N ps:n8 Str}{k n m:Nat}{b:TwS}(F:Fun K x qual st f fd)(S:zw N ps (zh st)) 
  (h:∀{bj:pW} {A:Around} {outer:n8 Env} {s:pX} {H:Hp} {E:XK},xh k (A.deeper (envOfC qual (zh st) s.heap.objs.size f bj))->N.Nodup->∃t,PSs (WA (CXE P w) P w K mg base N qual (zh st) f bj A outer s H E) (wQ st) t/\RS K E t b) (hp:ps.length=n:=by rfl) (hN:N.length=n+m:=by rfl):
  ZO P w K mg base (CXE P w) (k+1) f fd ps (sTw K n (zR n m b)):=
 F.okE S (λ_ _ _ _ h=>h.1.trans hp.symm) λ_ _ _ _ _ _ _ _ hr h'=>let ⟨t,a,r⟩:=h hr S.nd;⟨t,a,zno hN r h'⟩
variable(P w)(base)
noncomputable abbrev Fi.Ok{nm:Str}{st:Stmt}{ps:n8 Str}(f:Fi K mg nm st ps)(r n:Nat)(tw:TwF):Prop:=ZO P w K mg base (CXE P w) r f.a f.fd ps (sTw K n tw)
variable(mg)
noncomputable abbrev Mi.Ok{g:qo}{nm qn:Str}{st:Stmt}{ps:n8 Str}(f:Mi K g nm qn st ps)(r n:Nat)(tw:TwF):Prop:=ZO P w K mg base (CXE P w) r f.a f.fd ps (sTw K n tw)
end
section
variable{P:Program}{K:AO}{mg:Str->pU pW}
noncomputable def top (i:Nat):Stmt:=PySem.Challenge.pw_lots_k08_whole_equations_answered.main.body.getD i (.Pass ⟨0,0,0,0⟩)
abbrev vA:Stmt:=top 1
abbrev YQ:Stmt:=top 2
abbrev wW:Stmt:=top 3
abbrev vB:Stmt:=top 4
abbrev xo:Stmt:=top 5
abbrev Za:Stmt:=zgq (top 7) 0
abbrev Zb:Stmt:=top 8
abbrev Vb:Stmt:=top 9
abbrev Zc:Stmt:=top 10
abbrev xK:Stmt:=top 11
abbrev yC:Stmt:=top 12
abbrev Vc:Stmt:=top 19
abbrev ZS:Stmt:=top 20
abbrev zaT:Stmt:=top 21
abbrev Vd:Stmt:=top 22
abbrev wb:Stmt:=zgq (top 24) 0
abbrev Zd:Stmt:=top 25
abbrev ZH:Stmt:=top 26
abbrev ZI:Stmt:=top 27
abbrev Zj:Stmt:=top 28
abbrev VX:Stmt:=top 29
abbrev Ve:Stmt:=top 30
abbrev Zu:Stmt:=top 32
abbrev XV:Stmt:=top 35
abbrev XW:Stmt:=top 36
abbrev Ux:Stmt:=top 37
abbrev Uy:Stmt:=top 38
abbrev Uz:Stmt:=top 39
abbrev wX:Stmt:=top 40
abbrev wY:Stmt:=top 41
abbrev XX:Stmt:=top 42
abbrev wZ:Stmt:=top 43
abbrev XY:Stmt:=top 45
abbrev XZ:Stmt:=top 46
abbrev ZT:Stmt:=top 47
abbrev Vf:Stmt:=top 48
abbrev YR:Stmt:=top 49
abbrev ZJ:Stmt:=top 50
abbrev xC:Stmt:=top 51
abbrev yT:Stmt:=top 52
abbrev xU:Stmt:=top 53
abbrev YS:Stmt:=top 54
abbrev wK:Stmt:=top 55
abbrev Wa:Stmt:=top 56
abbrev vS:Stmt:=top 57
abbrev zg1:Stmt:=top 58
def VY:zw ["number","modulus","bound","before","rest","factor_before","factor","quotient","lower","farther"] ["number","modulus","bound"] (zh vA):=by walk_at "sc"
def zbn:zw ["number","modulus","found"] ["number","modulus"] (zh YQ):=by walk_at "sc"
def Vg:zw ["number","modulus","bound","found"] ["number","modulus","bound"] (zh wW):=by walk_at "sc"
def VZ:zw ["number","modulus","rest"] ["number","modulus"] (zh vB):=by walk_at "sc"
def WH:zw ["numbers","modulus","bound","tops","bottom","number","top","found"] ["numbers","modulus","bound"] (zh xo):=by walk_at "sc"
def UA:zw ["self","row","column","inverse","factors","parts"] ["self","row","column","inverse","factors","parts"] (zh Za):=by walk_at "sc"
def UB:zw ["rows","counts","row","column","number"] ["rows"] (zh Zb):=by walk_at "sc"
def zew:zw ["entries","steps","modulus","factors","place","step","factor","column","number"] ["entries","steps","modulus"] (zh Vb):=by walk_at "sc"
def UC:zw ["entries","modulus","left","column","number"] ["entries","modulus"] (zh Zc):=by walk_at "sc"
def Tj:zw ["rows","modulus","counts","steps","place","entries","factors","left","column","inverse","parts"] ["rows","modulus"] (zh xK):=by walk_at "sc"
def Xt:zw ["steps","lasts","many","modulus","values","step","last","taken","numbers","value"] ["steps","lasts","many","modulus"] (zh yC):=by walk_at "sc"
def zex:zw ["thing"] ["thing"] (zh Vc):=by walk_at "sc"
def zaU:zw ["one","other","rest"] ["one","other"] (zh ZS):=by walk_at "sc"
def zhX:zw ["top","bottom","part"] ["top","bottom"] (zh zaT):=by walk_at "sc"
def zey:zw ["top","bottom"] ["top","bottom"] (zh Vd):=by walk_at "sc"
def Wb:zw ["self","parts","last"] ["self","parts","last"] (zh wb):=by walk_at "sc"
def UD:zw ["some","bottom","one"] ["some"] (zh Zd):=by walk_at "sc"
def zc8:zw ["some","bottom"] ["some","bottom"] (zh ZH):=by walk_at "sc"
def zc9:zw ["row","tops","last"] ["row"] (zh ZI):=by walk_at "sc"
def zbo:zw ["rows"] ["rows"] (zh Zj):=by walk_at "sc"
def zhY:zw ["row","numbers"] ["row","numbers"] (zh VX):=by walk_at "sc"
def zez:zw ["rows","tops","bottom","row"] ["rows","tops","bottom"] (zh Ve):=by walk_at "sc"
def zhZ:zw ["rows","steps","many","modulus","chosen","lasts","numbers","powers","look","digits","found"] ["rows","steps","many","modulus"] (zh Zu):=by walk_at "sc"
def zda:zw ["rows","many","modulus","answer"] ["rows","many"] (zh XV):=by walk_at "sc"
def zdb:zw ["rows","many","modulus","whole","steps","xs"] ["rows","many","modulus"] (zh XW):=by walk_at "sc"
def zfO:zw ["rows","many","modulus","ys"] ["rows","many","modulus"] (zh Ux):=by walk_at "sc"
def zfP:zw ["rows","many","xs","free","modulus","zs"] ["rows","many","xs","free","modulus"] (zh Uy):=by walk_at "sc"
def zfQ:zw ["rows","many","modulus","whole","steps"] ["rows","many","modulus"] (zh Uz):=by walk_at "sc"
def Tz:zw ["whole","steps","many","modulus","found"] ["whole","steps","many","modulus"] (zh wX):=by walk_at "sc"
def zbp:zw ["steps","many","settled"] ["steps","many"] (zh wY):=by walk_at "sc"
def zh0:zw ["rows","many","columns"] ["rows","many"] (zh XX):=by walk_at "sc"
def zbq:zw ["rows","many","free","level"] ["rows","many","free"] (zh wZ):=by walk_at "sc"
def zdc:zw ["_law_script","_law_k","_law_prime","_law_many","_law_cell_here"] ["_law_script","_law_k","_law_prime","_law_many"] (zh XY):=by walk_at "sc"
def zdd:zw ["_law_script","_law_k"] ["_law_script","_law_k"] (zh XZ):=by walk_at "sc"
def Wc:zw ["_law_top","_law_bottom","_law_one","_law_other"] ["_law_top","_law_bottom"] (zh ZT):=by walk_at "sc"
def zeA:zw ["_law_row","_law_xs","_law_top","_law_bottom","_law_part_here","_law_x"] ["_law_row","_law_xs"] (zh Vf):=by walk_at "sc"
def zbr:zw ["_law_found","_law_one"] ["_law_found"] (zh YR):=by walk_at "sc"
def zde:zw ["_law_found","_law_size"] ["_law_found","_law_size"] (zh ZJ):=by walk_at "sc"
def Vh:zw ["_law_found","_law_rows_here","_law_many","_law_row"] ["_law_found","_law_rows_here","_law_many"] (zh xC):=by walk_at "sc"
def Vi:zw ["_law_found","_law_rows_here","_law_many","_law_at"] ["_law_found","_law_rows_here","_law_many"] (zh yT):=by walk_at "sc"
def Ua:zw ["_law_found","_law_rows_here","_law_many"] ["_law_found","_law_rows_here","_law_many"] (zh xU):=by walk_at "sc"
def zbs:zw ["_law_found","_law_word","_law_rows_here","_law_many"] ["_law_found","_law_word","_law_rows_here","_law_many"] (zh YS):=by walk_at "sc"
def zdf:zw ["_law_rows_here","_law_many","_law_work","_law_row","_law_whole","_law_part_here","_law_rank_here","_law_at","_law_found","_law_lead","_law_k"] ["_law_rows_here","_law_many"] (zh wK):=by walk_at "sc"
def zdg:zw ["_law_script","_law_k","_law_way"] ["_law_script","_law_k","_law_way"] (zh Wa):=by walk_at "sc"
def zdh:zw ["_law_script","_law_many","_law_way","_law_rows_here","_law_number","_law_turn","_law_one","_law_other","_law_last","_law_row"] ["_law_script","_law_many"] (zh vS):=by walk_at "sc"
def zoJ:zw ["_law_script","_law_many","_law_rows_here","_law_rank_here","_law_word","_law_handed","_law_found"] ["_law_script"] (zh zg1):=by walk_at "sc"
abbrev zfR:HH:=kwE (zp2 (zp1 xK 2))
def Zg:xi:=⟨1,zj5 zfR,zgR zfR,zns zfR,⟨fC,"steps_of","steps_of"⟩,["rows"]⟩
abbrev zfS:HH:=kwE (zqC (zp3 (zp3 (zp1 xK 2) 3) 0))
def zcd:xi:=⟨2,zj5 zfS,zgR zfS,zns zfS,⟨fC,"steps_of","steps_of"⟩,["counts"]⟩
noncomputable abbrev Wd:n8 WB:=[⟨fC,"steps_of","steps_of"⟩]
set_option genInjectivity false in
set_option genSizeOf false in
structure Tx(K:AO)(mg:Str->pU pW) where
 aP:Fi K mg "small_multiple" vA ["number","modulus","bound"]
 bJ:Fi K mg "inverse_of" YQ ["number","modulus"]
 aJ:Fi K mg "quotient_behind" wW ["number","modulus","bound"]
 aQ:Fi K mg "nearest_nought" vB ["number","modulus"]
 aE:Fi K mg "quotients_behind" xo ["numbers","modulus","bound"]
 aY:Fi K mg "column_counts" Zb ["rows"]
 cB:Fi K mg "take_off" Vb ["entries","steps","modulus"]
 aX:Fi K mg "remainders_of" Zc ["entries","modulus"]
 bG:Fi K mg "steps_of" xK ["rows","modulus"]
 aB:Fi K mg "remainders_meeting" yC ["steps","lasts","many","modulus"]
 cC:Fi K mg "is_whole" Vc ["thing"]
 bz:Fi K mg "common_part" ZS ["one","other"]
 dy:Fi K mg "lowest" zaT ["top","bottom"]
 cD:Fi K mg "fraction" Vd ["top","bottom"]
 aW:Fi K mg "shared_bottom" Zd ["some"]
 bW:Fi K mg "tops_over" ZH ["some","bottom"]
 bV:Fi K mg "whole_row" ZI ["row"]
 bF:Fi K mg "whole_rows" Zj ["rows"]
 dw:Fi K mg "sum_at" VX ["row","numbers"]
 cE:Fi K mg "all_meet" Ve ["rows","tops","bottom"]
 dz:Fi K mg "lifted" Zu ["rows","steps","many","modulus"]
 bX:Fi K mg "answer_of" XV ["rows","many"]
 bY:Fi K mg "answer_by" XW ["rows","many","modulus"]
 cO:Fi K mg "none_by" Ux ["rows","many","modulus"]
 cQ:Fi K mg "many_by" Uy ["rows","many","xs","free","modulus"]
 cR:Fi K mg "list_by" Uz ["rows","many","modulus"]
 bh:Fi K mg "list_meeting" wX ["whole","steps","many","modulus"]
 bK:Fi K mg "free_place" wY ["steps","many"]
 du:Fi K mg "turned" XX ["rows","many"]
 bI:Fi K mg "level_rows" wZ ["rows","many","free"]
 ck:Fi K mg "_law_draw" XY ["_law_script","_law_k","_law_prime","_law_many"]
 cu:Fi K mg "_law_cell" XZ ["_law_script","_law_k"]
 bA:Fi K mg "_law_lowest" ZT ["_law_top","_law_bottom"]
 cF:Fi K mg "_law_sum" Vf ["_law_row","_law_xs"]
 bL:Fi K mg "_law_share" YR ["_law_found"]
 cj:Fi K mg "_law_list" ZJ ["_law_found","_law_size"]
 aL:Fi K mg "_law_many_shown" xC ["_law_found","_law_rows_here","_law_many"]
 aK:Fi K mg "_law_none_shown" yT ["_law_found","_law_rows_here","_law_many"]
 aR:Fi K mg "_law_one_shown" xU ["_law_found","_law_rows_here","_law_many"]
 bM:Fi K mg "_law_right" YS ["_law_found","_law_word","_law_rows_here","_law_many"]
 c7:Fi K mg "_law_rank" wK ["_law_rows_here","_law_many"]
 c9:Fi K mg "_law_part" Wa ["_law_script","_law_k","_law_way"]
 bZ:Fi K mg "_law_rows" vS ["_law_script","_law_many"]
 dA:Fi K mg "law" zg1 ["_law_script"]
 dh:mg "abs"=fC
 gE:mg "all"=fC
 eY:mg "bool"=fC
 gD:mg "dict"=fC
 bU:mg "enumerate"=fC
 gC:mg "int"=fC
 ai:mg "isinstance"=fC
 fE:mg "len"=fC
 dJ:mg "list"=fC
 iO:mg "min"=fC
 aF:mg "range"=fC
 df:mg "reversed"=fC
 eh:mg "sorted"=fC
 iN:mg "str"=fC
 fD:mg "sum"=fC
 dI:mg "tuple"=fC
 cT:mg "zip"=fC
 aj:qo
 en:mg "LotsError"=dB (.ref aj)
 bR:ziW K mg "LotsError" aj [.type "ValueError",.type "Exception",.type "BaseException",.type "object"] "ValueError.__new__"
 eD:zgs K aj
 bT:Eg K (.ref aj)=dB (.type "type")
 bo:C7 K aj (.type "BaseException")=dB fN
 bS:C7 K aj (.type "ValueError")=dB fN
 av:qo
 eZ:mg "NoNumber"=dB (.ref av)
 cy:ziW K mg "NoNumber" av [.type "ValueError",.type "Exception",.type "BaseException",.type "object"] "ValueError.__new__"
 f9:zgs K av
 cA:Eg K (.ref av)=dB (.type "type")
 bN:C7 K av (.type "BaseException")=dB fN
 cz:C7 K av (.type "ValueError")=dB fN
 aM:qo
 gF:mg "Step"=dB (.ref aM)
 d7:Cls K aM
 cH:Bc K mainGlobals "Step"=dB (dB (.ref aM))
 bg:ww K aM "row"
 aD:ww K aM "column"
 aG:ww K aM "inverse"
 aH:ww K aM "factors"
 aZ:ww K aM "parts"
 ay:Mi K aM "__init__" "Step.__init__" Za ["self","row","column","inverse","factors","parts"]
 fF:Mk K aM ay.a
 au:qo
 di:mg "WholeRow"=dB (.ref au)
 aU:Cls K au
 aS:Bc K mainGlobals "WholeRow"=dB (dB (.ref au))
 ak:ww K au "parts"
 ax:ww K au "last"
 ah:Mi K au "__init__" "WholeRow.__init__" wb ["self","parts","last"]
 cU:Mk K au ah.a
 da:(WC K ⟨fC,"steps_of","steps_of"⟩).isSome=fN
 cS:Bc K mainGlobals "steps_of"=dB (dB (.ref bG.a))
 aV:qo
 cI:mg "NOUGHT"=dB (.ref aV)
 cK:∀H,SqT K H aV [.int 0,.int 1]
 cV:qo
 fG:mg "ONE"=dB (.ref cV)
 fM:∀H,SqT K H cV [.int 1,.int 1]
 bO:∃t,mg "FIRST_MODULUS"=dB (.int 1000000000000000000000000000000000000000000009 t)
def zeB{CX:CXT}{x:Str}{st:Stmt}{ps:n8 Str}{f:Fi X.K X.mg x st ps}{k:Nat}{sp:Sp}{E:XK}{e:Expr}{es:n8 Expr}{t:TA}{p pos:Pos}(F:ZO X.prog X.w X.K X.mg X.base CX k f.a f.fd ps sp)(hr:xh k X.A)(hx:WW CX X E)(ha:PA X (e::es) t)(hg:Gl X x:=by rfl)(gn:(x==("__debug__":Str))=kb:=by decide)(he:starEach (e::es) X.env=(kb,eval e X.env)::starEach es X.env:=by rfl)(fg:(backTo pos (starEach es X.env)).any (·.1)=kb:=by rfl):PE X (.Call (.Name x p) (e::es) [] pos) (zgj sp [] E t):=zgk F hr hg f.m f.F.kp f.b .nil hx ha gn he fg
local macro_rules|`(tactic|walk_at "q4")=>`(tactic|(dsimp only [yI, ziR]; decide +kernel))|`(tactic|walk_at "q2")=>`(tactic|((try simp only [Nat.add_eq]); omega))
local macro_rules|`(tactic|walk_at "q3")=>do
 let a<-("zcK zi8 zlK zdW zlI zlJ zcJ zi7 zfd".splitOn " ").toArray.mapM fun n=>`(tacticSeq|with_reducible exact $(Lean.mkIdent (.mkSimple n)))
 `(tactic|first $[| $a]*)
local macro_rules|`($f \ ($o,$h,$p,$x))=>`(zgk $o $h rfl ($f).m ($f).F.kp ($f).b .nil $p $x)|`($i:num :: $b)=>`(zlH (i:=$i) rfl rfl $b)|`($a :: $b)=>`(@zS _ _ _ _ _ $a $b (by walk_at "q3"))|`($i >>= ($g,$b))=>`(znQ PassesOwn.leaving rfl $i $g $b)|`($a * 0)=>`(zi3 (K:=K) $a)|`(tactic|walk_at "q5")=>`(tactic|repeat first|exact zbW rfl|exact zhw|exact ze9|with_reducible apply ziU|with_reducible apply ze8)|`($a <|> $b)=>`(@zik _ _ _ _ _ $a $b)|`(¬$a)=>`(@zlo _ _ _ $a)|`(!$a)=>`(@znK _ _ _ _ $a)|`(~~~$a)=>`(@znU _ _ _ _ _ $a)|`($r >>> ($a,$b))=>`(@ziA _ _ _ _ _ _ _ $r $a $b fun _ _ => rfl)|`($a % $b)=>`(@ziA _ _ _ _ _ _ _ (zlG (K:=K)) $a $b fun _ _ => rfl)|`($a &&& $b)=>`(@ziA _ _ _ _ _ _ _ (zi1 (K:=K)) $a $b fun _ _ => rfl)
set_option hygiene false in
local macro_rules|`($i:num ∘ $o ∘ ($n,$c,$l,$g,$t,$e))=>`(zev (i:=$i) (N':=$n) rfl (zp5 (osc:=zh $o) rfl (by decide +kernel)) $c $l (by walk_at "q5") (fun C s₀ H₀ fp => $g) (fun C s₀ H₀ fp => $t) (fun C s₀ H₀ fp => $e) nd rfl rfl)|`($o ∘ ($n,$c,$l,$g,$t,$e))=>`(zeu (N':=$n) rfl (zp5 (osc:=zh $o) rfl (by decide +kernel)) $c $l (by walk_at "q5") (fun C s₀ H₀ fp => $g) (fun C s₀ H₀ fp => $t) (fun C s₀ H₀ fp => $e))|`($f <*> $b)=>`(zeB ($f (fu:=fu) T) (hr.mono ∅) zne $b)|`($f <$> ($s,$b:ident,$t))=>`(okS ($f).F $s (fun hr nd => ⟨_, $t, (by unfold $b; walk_at "re")⟩))|`($f <* $b)=>`(zeB ($f (fu:=fu) T) (hr.mono ∅) znf $b)|`(↑$i)=>`(zgc (i:=$i) (by first|exact nd | walk_at "q4") rfl (by walk_at "q1"))|`(-$a)=>`(zY (zbX (K:=K)) rfl T.fE boot_len ($a :: ze))
local macro_rules|`(tactic|walk_at "re")=>do
 let g(s:String):=(s.splitOn " ").toArray.map fun n=>Lean.mkIdent (.mkSimple n)
 let a<-(g "zj zC yG xZ ym zP yv wA Wu WX zcM zjh zdX zb0 VE VG Zs ZC vY zaD zjo xQ zff zfk wg zaA zjs zcR zpL zcO TH zod zn8 znl YM zje XG zof zn7 zjV zjt zjg zgL zgw znm zjv zjm zeo VF zaw Zm zdY zpQ xH zfn Ws zgv zaC zfj zl0 zjw zn9 zaB zcN zlX zjB zlU zgB zd6 zjn zb3 zl8 zjx zjy zhD zjr zkb zaN zc1 zlV zkr zoa zjj zjl zei zoc zd7 zgC zjz zjf zgA").mapM fun i=>`(tacticSeq|apply $i)
 let b<-(g "zjh VG vY zaD zfk zaA zcR zjV zjv zeo Zm zaC zfj zjw zaB zcN zgB zd6 zb3 zjx zjy zjr zc1 zjl zd7 zgC zjz zgA").mapM fun i=>`(tacticSeq|exact $i)
 let d<-(g "d7 aU aD aH aG aZ bg ax ak cH aS").mapM fun i=>`(tacticSeq|exact (‹Tx _ _›).$i)
 let c<-(g "YM zgL zaw zaN zjj zei").mapM fun i=>`(tacticSeq|apply $i)
 `(tactic|repeat first|(with_reducible first $[| $a]*)|exact rfl $[| $d]*|exact Nat.le_of_ble_eq_true rfl $[| $b]* $[| $c]*)
set_option hygiene false in
local macro_rules|`($s ^^^ ($i,$o,$e))=>`(@zim _ _ $i _ _ _ _ ($s).nd rfl $o $e (by rfl) (by walk_at "q1"))|`($i ^^^ $e)=>`(@zim _ _ $i _ _ _ _ nd rfl (by walk_at "q1") $e (by rfl) (by walk_at "q1"))
variable(T:Tx K mg)
def va(fu:Nat):TwS:=(zm (zu (za 1) (gN 3)) (zm (zu (eOp vP (za 0) (za 1)) (gN 4)) (zm (zu (si 0) (gN 5)) (zm (zu (si 1) (gN 6)) (zm (sWh fu (bE (eOp dGt (za 4) (za 2))) (zm (zu (eOp YO (za 3) (za 4)) (gN 7)) (zm (zu (eOp Zy (za 3) (eOp yk (za 7) (za 4))) (gN 8)) (zm (zu (za 4) (gN 3)) (zm (zu (za 8) (gN 4)) (zm (zu (eOp Zy (za 5) (eOp yk (za 7) (za 6))) (gN 9)) (zm (zu (za 6) (gN 5)) (zu (za 9) (gN 6))))))))) (zW (Zq [za 4,za 6])))))))
def xD(fu:Nat):TwF:=zR 3 7 (va fu)
def ZK:T.aP.Ok P w base 33 3 (xD fu):=
 T.aP<$>(VY,va,(3^^^pv 1)<|>(4^^^zq xu (pv 0) (pv 1))<|>(5^^^zg)<|>(6^^^zg)<|>Xz PassesOwn.leaving (zI (Zo (pv 4) (pv 2))) ((7^^^zq (XQ hr) (pv 3) (pv 4))<|>(8^^^zq wv (pv 3) (zq zT (pv 7) (pv 4)))<|>(3^^^pv 4)<|>(4^^^pv 8)<|>(9^^^zq wv (pv 5) (zq zT (pv 7) (pv 6)))<|>(5^^^pv 6)<|>¬(6^^^pv 9))<|>¬(!(~~~(pv 4::pv 6::ze))))
def ZU(fu:Nat):TwS:=(zm (zu (zB (xD fu) [za 0,za 1,si 1]) (gN 2)) (zW (eIf (bE (eOp zbh (eOp yM (za 2) (si 0)) (si 1))) (eOp vP (eOp yM (za 2) (si 1)) (za 1)) (eC .non))))
def ZV(fu:Nat):TwF:=zR 2 1 (ZU fu)
def zbt:T.bJ.Ok P w base 34 2 (ZV fu):=
 T.bJ<$>(zbn,ZU,(2^^^(ZK<*>(pv 0::pv 1::zg::ze)))<|>¬(!Zp (zI (Xx (pv 2%zg) zg)) (zq xu (pv 2%zg) (pv 1)) YA))
def wC(fu:Nat):TwS:=(zm (zu (zB (xD fu) [za 0,za 1,za 2]) (gN 3)) (zm (sIf (bE (eOp dGt (eFn zcS [eOp yM (za 3) (si 1)]) (za 2))) (zW (eC .non)) ye) (zW (eIf (bE (eOp dGt (eOp yM (za 3) (si 1)) (si 0))) (za 3) (Zq [eUn Tv (eOp yM (za 3) (si 0)),eUn Tv (eOp yM (za 3) (si 1))])))))
def wD(fu:Nat):TwF:=zR 3 1 (wC fu)
def Vj:T.aJ.Ok P w base 34 3 (wD fu):=
 T.aJ<$>(Vg,wC,(3^^^(ZK<*>(pv 0::pv 1::pv 2::ze)))<|>yo (zI (Zo (zY Yg rfl T.dh boot_abs ((pv 3%zg)::ze)) (pv 2))) (¬(!YA)) zH<|>¬(!Zp (zI (Zo (pv 3%zg) zg)) (pv 3) (~~~(zbH Uo (pv 3%zg)::zbH Uo (pv 3%zg)::ze))))
def vc(fu:Nat):TwS:=(zm (zu (eOp vP (za 0) (za 1)) (gN 2)) (zW (eIf (bE (eOp dLt (eOp zbg (si 2) (za 2)) (za 1))) (za 2) (eOp Zy (za 2) (za 1)))))
def ve(fu:Nat):TwF:=zR 2 1 (vc fu)
def Ub:T.aQ.Ok P w base 1 2 (ve fu):=
 T.aQ<$>(VZ,vc,(2^^^zq xu (pv 0) (pv 1))<|>¬(!Zp (zI (zga (zq zct zg (pv 2)) (pv 1))) (pv 2) (zq wv (pv 2) (pv 1))))
def wc(fu:Nat):TwS:=(zm (zu (XF []) (gN 3)) (zm (zu (si 1) (gN 4)) (zm (Zr (iL (za 0)) (gN 5) (zm (zu (zB (ve fu) [eOp yk (za 5) (za 4),za 1]) (gN 6)) (zm (sIf (bE (eOp dGt (eFn zcS [za 6]) (za 2))) (zm (zu (zB (wD fu) [za 6,za 1,za 2]) (gN 7)) (zm (sIf (bOr (bE (eUn zav (za 7))) (bE (eOp dGt (eOp yk (za 4) (eOp yM (za 7) (si 1))) (za 2)))) (zW (eC .non)) ye) (zm (zu (yq [fC,dB 7] (iL (za 3)) (gN 0) yH (eOp yk (za 0) (eOp yM (za 1) (si 1)))) (gN 3)) (zm (zu (eOp yk (za 4) (eOp yM (za 7) (si 1))) (gN 4)) (zu (eOp yM (za 7) (si 0)) (gN 6)))))) ye) (Yo (eMt xb (za 3) [za 6]))))) (zW (Zq [za 3,za 4])))))
def xc(fu:Nat):TwF:=zR 3 5 (wc fu)
def WI:T.aE.Ok P w base 35 3 (xc fu):=
 T.aE<$>(WH,wc,(3^^^@wx _ _ _ _ ze)<|>(4^^^zg)<|>((pv 0*0)>>=(↑5,(6^^^(Ub<*>(zq zT (pv 5) (pv 4)::pv 1::ze)))<|>yo (zI (Zo (zY Yg rfl T.dh boot_abs (pv 6::ze)) (pv 2))) ((7^^^(Vj<*>(pv 6::pv 1::pv 2::ze)))<|>yo (PW.pt (Ye (zI (Xy (pv 7))) (ZN (zI (Zo (zq zT (pv 4) (pv 7%zg)) (pv 2)))))) (¬(!YA)) zH<|>(3∘xo∘(["one","found"],zD (7::zO),pv 3*0,↑0,zV,zq zT (pv 0) (pv 1%zg)))<|>(4^^^zq zT (pv 4) (pv 7%zg))<|>¬(6^^^(pv 7%zg))) zH<|>¬Zh (Vz BZ C4 C5 xt (pv 3) (pv 6::ze))))<|>¬(!(~~~(pv 3::pv 4::ze))))
def vC(fu:Nat):TwS:=(zm (VO "Step" "row" (za 0) (za 1)) (zm (VO "Step" "column" (za 0) (za 2)) (zm (VO "Step" "inverse" (za 0) (za 3)) (zm (VO "Step" "factors" (za 0) (za 4)) (VO "Step" "parts" (za 0) (za 5))))))
def vD(fu:Nat):TwF:=zR 6 0 (vC fu)
def UE:T.ay.Ok P w mg base 1 6 (vD fu):=
 T.ay<$>(UA,vC,WV (pv 0) (pv 1) rfl<|>WV (pv 0) (pv 2) rfl<|>WV (pv 0) (pv 3) rfl<|>WV (pv 0) (pv 4) rfl<|>¬WV (pv 0) (pv 5) rfl)
def vE(fu:Nat):TwS:=(zm (zu zcU (gN 1)) (zm (Zr (iL (za 0)) (gN 2) (Zr (iL (vR "WholeRow" "parts" (za 2))) (gT 2 (zM (gN 3) (zM (gN 4) xW))) (Uu (za 1) (za 3) (eOp vw (zaH (za 1) (za 3) (si 0)) (si 1))))) (zW (za 1))))
def vF(fu:Nat):TwF:=zR 1 4 (vE fu)
def UF:T.aY.Ok P w base 1 1 (vF fu):=
 T.aY<$>(UB,vE,(1^^^zdO)<|>((pv 0*0)>>=(↑2,¬((wP (pv 2) rfl*0)>>=(xa (K:=K) (n:=2) rfl (zF (↑3) (zF (↑4) yZ)),¬zcC (zbU hr) (pv 1) (pv 3) (zq xF (zdP (zbU hr) (pv 1) (pv 3) zg ⟨rfl,rfl,rfl,rfl⟩) zg) rfl))))<|>¬(!pv 1))
def We(fu:Nat):TwS:=(zm (zu (XF []) (gN 3)) (zm (Zr (iEn (za 1)) (gT 2 (zM (gN 4) (zM (gN 5) xW))) (zm (zu (eOp vP (zfA (za 0) (vR "Step" "column" (za 5)) (si 0)) (za 2)) (gN 6)) (sIf (bE (eOp WE (za 6) (si 0))) (zm (Yo (eMt xb (za 3) [Zq [za 4,za 6]])) (Zr (iL (vR "Step" "parts" (za 5))) (gT 2 (zM (gN 7) (zM (gN 8) xW))) (Uu (za 0) (za 7) (eOp Zy (zaH (za 0) (za 7) (si 0)) (eOp yk (za 6) (za 8)))))) ye))) (zW (za 3))))
def Wf(fu:Nat):TwF:=zR 3 6 (We fu)
def zeC:T.cB.Ok P w base 1 3 (Wf fu):=
 T.cB<$>(zew,We,(3^^^@wx _ _ _ _ ze)<|>zgt (K:=K) rfl T.bU (pv 1::ze)>>=(xa (K:=K) (n:=2) rfl (zF (↑4) (zF (↑5) yZ)),(6^^^zq xu (ziP (pv 0) (wP (pv 5) rfl) zg ⟨rfl,rfl,rfl,rfl⟩) (pv 2))<|>¬yo (zI (vV (pv 6) zg)) (Zh (Vz BZ C4 C5 xt (pv 3) ((~~~(pv 4::pv 6::ze))::ze))<|>¬((wP (pv 5) rfl*0)>>=(xa (K:=K) (n:=2) rfl (zF (↑7) (zF (↑8) yZ)),¬zcC (zbU hr) (pv 0) (pv 7) (zq wv (zdP (zbU hr) (pv 0) (pv 7) zg ⟨rfl,rfl,rfl,rfl⟩) (zq zT (pv 6) (pv 8))) rfl))) zH)<|>¬(!pv 3))
def vG(fu:Nat):TwS:=(zm (zu zcU (gN 2)) (zm (Zr (iIt (za 0)) (gT 2 (zM (gN 3) (zM (gN 4) xW))) (sIf (bE (eOp WE (eOp vP (za 4) (za 1)) (si 0))) (Uu (za 2) (za 3) (eOp vP (za 4) (za 1))) ye)) (zW (za 2))))
def vH(fu:Nat):TwF:=zR 2 3 (vG fu)
def UG:T.aX.Ok P w base 1 2 (vH fu):=
 T.aX<$>(UC,vG,(2^^^zdO)<|>zee (ze5 Dc Ej FU zed (pv 0))>>=(xa (K:=K) (n:=2) rfl (zF (↑3) (zF (↑4) yZ)),¬yo (zI (vV (zq xu (pv 4) (pv 1)) zg)) (¬zcC (zbU hr) (pv 2) (pv 3) (zq xu (pv 4) (pv 1)) rfl) zH)<|>¬(!pv 2))
def zqa(fu:Nat):TwE:=(eFn xJ [vR "WholeRow" "parts" (eOp yY (za 1) (za 0))])
def zeD(fu:Nat):n8 Xv->TwF:=zhM 1 1 (zqa fu)
def zqb(T:Tx K mg):XN P w K mg base 1 Zg (zeD fu):=
 zj3 (ps:=["k"]) ⟨rfl,rfl,rfl, *...*, *...*, *...*, *...*⟩ rfl rfl (λ_ _ _ _=>at_ λ_=>at0 rfl) (λaC f c A outer s H hr=>⟨_,-wP (pv 1&&&pv 0) rfl,zb0 zaD (zC (YM T.aS T.aU T.ak (yG vY (zj 1) (zj 0))) ym)⟩)
def zqc(fu:Nat):TwE:=(Zq [zgD (za 1) (za 0),za 0])
def zce(fu:Nat):n8 Xv->TwF:=zhM 1 1 (zqc fu)
def zqd(T:Tx K mg):XN P w K mg base 1 zcd (zce fu):=
 zj3 (ps:=["k"]) ⟨rfl,rfl,rfl, *...*, *...*, *...*, *...*⟩ rfl rfl (λ_ _ _ _=>at_ λ_=>at0 rfl) (λaC f c A outer s H hr=>⟨_,~~~(zlD (zbU hr) (pv 1) (pv 0) (λ_ _=>rfl)::pv 0::ze),zff (zC (zlY (zj 1) (zj 0)) (zC (zj 0) ym))⟩)
def Wg(fu:Nat):TwS:=(zm (zu (zB (vF fu) [za 0]) (gN 2)) (zm (zu (XF []) (gN 3)) (zm (Zr (iL (zc4 [(Zg,zeD fu)] (eFn xJ [za 0]) (zhL Zg 1 [0]))) (gN 4) (zm (zu (eFn zc3 [vR "WholeRow" "parts" (eOp yY (za 0) (za 4))]) (gN 5)) (zm (zu (zay (Wf fu) [za 5,za 3,za 1]) (gN 6)) (zm (zu (zay (vH fu) [za 5,za 1]) (gN 7)) (sIf (bE (eOp dGt (eFn zd9 [za 7]) (si 0))) (zm (zu (zkm [(zcd,zce fu)] (za 7) (zhL zcd 1 [2])) (gN 8)) (zm (zu (zay (ZV fu) [zfz (za 7) (za 8),za 1]) (gN 9)) (zm (sIf (bE (eUn zav (za 9))) (zW (eC .non)) ye) (zm (zu (yq [fC,fC,dB 1,dB 9] (iIt (za 7)) (gT 2 (zM (gN 0) (zM (gN 1) xW))) yH (Zq [za 0,eOp vP (eOp yk (za 1) (za 3)) (za 2)])) (gN 10)) (Yo (eMt xb (za 3) [zaO "Step" (vD fu) [za 4,za 8,za 9,za 6,za 10]])))))) ye))))) (zW (za 3)))))
def ZL(fu:Nat):TwF:=zR 2 9 (Wg fu)
def Tk:T.bG.Ok P w base 35 2 (ZL fu):=by
 obtain⟨zc,zp,hz,hk⟩:=zj9 T.cS T.da;have nd:=Tj.nd;exact T.bG.F.okZ2 (fz:=["rows","counts"]) hz Tj (λvs H Q E h=>h.1) (λA outer s H vs Q E hr h=>⟨_,zep (2^^^(UF<*>(pv 0::ze))) (zep (3^^^@wx _ _ _ _ ze) (zoE (((zhQ (k:=1) (zgP (fns:=[(Zg,zeD fu)]) (zb9 (zqb (fu:=fu) T) ∅ zen)) (hr.mono ∅) rfl rfl T.eh rfl T.aF (-pv 0) (zgT (L:=Zg) (is:=[0]) (zgS (osc:=zh xK) (N:=["rows","modulus","counts","steps","place","entries","factors","left","column","inverse","parts"]) (fz:=["rows","counts"]) rfl rfl rfl rfl (*...*)) rfl rfl (VR hz).1)*0)>>=(↑4,(5^^^zbN (zfE rfl) rfl T.gD PyProof.Rows.Boot.«dict» (wP (pv 0&&&pv 4) rfl::ze))<|>(6^^^(zeC<*(pv 5::pv 3::pv 1::ze)))<|>(7^^^(UG<*(pv 5::pv 1::ze)))<|>¬yo (zI (Zo (zY zhu rfl T.fE boot_len (pv 7::ze)) zg)) ((8^^^zmj (K:=K) (k:=1) (zgP (fns:=[(zcd,zce fu)]) (zb9 (zqd (fu:=fu) T) ∅ zen)) (hr.mono ∅) rfl rfl T.iO (pv 7) (zgT (L:=zcd) (is:=[2]) (zgS (osc:=zh xK) (N:=["rows","modulus","counts","steps","place","entries","factors","left","column","inverse","parts"]) (fz:=["rows","counts"]) rfl rfl rfl rfl (*...*)) rfl rfl (VR hz).1))<|>(9^^^(zbt<*(ziO (pv 7) (pv 8) ⟨rfl,rfl,rfl,rfl⟩::pv 1::ze)))<|>yo (zI (Xy (pv 9))) (¬(!YA)) zH<|>(10∘xK∘(["k","number","modulus","inverse"],zD (zD (1::9::zO)),zee (ze5 Dc Ej FU zed (pv 7)),xa (K:=K) (n:=2) rfl (zF (↑0) (zF (↑1) yZ)),zV,~~~(pv 0::zq xu (zq zT (pv 1) (pv 3)) (pv 2)::ze)))<|>¬Zh (Vz BZ C4 C5 xt (pv 3) (zgl T.fF (UE (fu:=fu) T) (hr.mono ∅) rfl T.gF T.ay.b .nil znf (pv 4::pv 8::pv 9::pv 6::pv 10::ze)::ze))) zH))<|>¬(!pv 3)))),zno (n:=2) (k:=9) (b:=Wg fu) rfl (yv (wA (Wu (zC (zj 0) ym)) zP) (yv (wA (XG ym) zP) (yv (zjo (ZC (zhR (zb0 zaD (zC (zj 0) ym)) (zj2 hk))) zP (yv (wA (zb0 zkg (zC (YM T.aS T.aU T.ak (yG vY (zj 0) (zj 4))) ym)) zP) (yv (wA (zaz (zC (zj 5) (zC (zj 3) (zC (zj 1) ym)))) zP) (yv (wA (zaz (zC (zj 5) (zC (zj 1) ym))) zP) (zdX (zcM (zjs (zb0 zl1 (zC (zj 7) ym)) (xZ _))) (yv (wA (zmk (zj 7) (zj2 hk)) zP) (yv (wA (zaz (zC (zka (zj 7) (zj 8)) (zC (zj 1) ym))) zP) (yv (zdX (zcM (zjg (zj 9))) (WX zje) VE) (yv (xH (xQ (cap:=[fC,fC,dB 1,dB 9]) (zaN (zj 7)) (zcO (Zs zP (Zs zP TH))) wg (zff (zC (zj 0) (zC (yG zfk (yG VG (zj 1) (zj 3)) (zj 2)) ym))))) (VF (zaw Zm (zj 3) (zC (zhW T.cH (zC (zj 4) (zC (zj 8) (zC (zj 9) (zC (zj 6) (zC (zj 10) ym)))))) ym))))))) VE))))) (WX (zj 3))))) h⟩)
def xz(fu:Nat):TwS:=(zm (zu (XF []) (gN 4)) (zm (Zr (zbi (za 0) (za 1)) (gT 2 (zM (gN 5) (zM (gN 6) xW))) (zm (zu (eFn zd2 [yq [fC,fC,dB 4] (iL (vR "Step" "factors" (za 5))) (gT 2 (zM (gN 0) (zM (gN 1) xW))) yH (eOp yk (za 1) (eOp yY (za 2) (za 0)))]) (gN 7)) (Yo (eMt xb (za 4) [eOp vP (eOp yk (eOp Zy (eOp vP (za 6) (za 3)) (za 7)) (vR "Step" "inverse" (za 5))) (za 3)])))) (zm (zu (eOp zcc (XF [si 0]) (za 2)) (gN 8)) (zm (Zr (iRv (zfL [za 0,za 4])) (gT 2 (zM (gN 5) (zM (gN 9) xW))) (zm (zu (eFn zd2 [yq [fC,fC,dB 8] (iL (vR "Step" "parts" (za 5))) (gT 2 (zM (gN 0) (zM (gN 1) xW))) yH (eOp yk (za 1) (eOp yY (za 2) (za 0)))]) (gN 7)) (zu (eOp vP (eOp Zy (za 9) (za 7)) (za 3)) (XH (za 8) (vR "Step" "column" (za 5)))))) (zW (za 8))))))
def yL(fu:Nat):TwF:=zR 4 6 (xz fu)
def Xu:T.aB.Ok P w base 1 4 (yL fu):=
 T.aB<$>(Xt,xz,(4^^^@wx _ _ _ _ ze)<|>Wr (K:=K) rfl T.cT (pv 0::pv 1::ze)>>=(xa (K:=K) (n:=2) rfl (zF (↑5) (zF (↑6) yZ)),(7^^^zY (Us (K:=K) rfl) rfl T.fD PyProof.Rows.Boot.«sum» (zS (yC∘(["place","factor","values"],zD (zD (4::zO)),wP (pv 5) rfl*0,xa (K:=K) (n:=2) rfl (zF (↑0) (zF (↑1) yZ)),zV,zq zT (pv 1) (pv 2&&&pv 0))) ze))<|>¬Zh (Vz BZ C4 C5 xt (pv 4) (zq xu (zq zT (zq wv (zq xu (pv 6) (pv 3)) (pv 7)) (wP (pv 5) rfl)) (pv 3)::ze)))<|>(8^^^zq (zgu (K:=K)) (@wx _ _ _ _ (zg::ze)) (pv 2))<|>zn5 (K:=K) rfl T.df (zkq (K:=K) rfl rfl T.dJ rfl T.cT (pv 0::pv 4::ze)::ze)>>=(xa (K:=K) (n:=2) rfl (zF (↑5) (zF (↑9) yZ)),(7^^^zY (Us (K:=K) rfl) rfl T.fD PyProof.Rows.Boot.«sum» (zS (yC∘(["column","number","numbers"],zD (zD (8::zO)),wP (pv 5) rfl*0,xa (K:=K) (n:=2) rfl (zF (↑0) (zF (↑1) yZ)),zV,zq zT (pv 1) (pv 2&&&pv 0))) ze))<|>¬Ul (zq xu (zq wv (pv 9) (pv 7)) (pv 3)) (Uk (pv 8) (wP (pv 5) rfl) Yj))<|>¬(!pv 8))
def Wh(fu:Nat):TwS:=(zW (zjd (eUn (Tw "int") (za 0)) (eB (WD (bE (eUn (Tw "bool") (za 0)))))))
def ZM(fu:Nat):TwF:=zR 1 0 (Wh fu)
def Tl:T.cC.Ok P w base 1 1 (ZM fu):=
 T.cC<$>(zex,Wh,¬(!zeW (zY (wJ (K:=K)) rfl T.ai boot_isinstance (zS (pv 0) (zS (Zz (v:= .ty "int") rfl T.gC boot_int rfl) ze))) (zeV (znI (zY (wJ (K:=K)) rfl T.ai boot_isinstance (zS (pv 0) (zS (Zz (v:= .ty "bool") rfl T.eY boot_bool rfl) ze)))))))
def Zv(fu:Nat):TwS:=(zm (zu (eFn zcS [za 0]) (gN 0)) (zm (zu (eFn zcS [za 1]) (gN 1)) (zm (sWh fu (bE (eOp WE (za 1) (si 0))) (zm (zu (eOp vP (za 0) (za 1)) (gN 2)) (zm (zu (za 1) (gN 0)) (zu (za 2) (gN 1))))) (zW (za 0)))))
def vf(fu:Nat):TwF:=zR 2 1 (Zv fu)
def Wi:T.bz.Ok P w base 1 2 (vf fu):=
 T.bz<$>(zaU,Zv,(0^^^zY Yg rfl T.dh boot_abs (pv 0::ze))<|>(1^^^zY Yg rfl T.dh boot_abs (pv 1::ze))<|>Xz PassesOwn.leaving (zI (vV (pv 1) zg)) ((2^^^zq xu (pv 0) (pv 1))<|>(0^^^pv 1)<|>¬(1^^^pv 2))<|>¬(!pv 0))
def UH(fu:Nat):TwS:=(zm (zu (zB (vf fu) [za 0,za 1]) (gN 2)) (zm (sIf (bE (eOp dLt (za 1) (si 0))) (zu (eUn Tv (za 2)) (gN 2)) ye) (zW (Zq [eOp YO (za 0) (za 2),eOp YO (za 1) (za 2)]))))
def UI(fu:Nat):TwF:=zR 2 1 (UH fu)
def zh1:T.dy.Ok P w base 33 2 (UI fu):=
 T.dy<$>(zhX,UH,(2^^^(Wi<*>(pv 0::pv 1::ze)))<|>yo (zI (zga (pv 1) zg)) (¬(2^^^zbH Uo (pv 2))) zH<|>¬(!(~~~(zq (XQ hr) (pv 0) (pv 2)::zq (XQ hr) (pv 1) (pv 2)::ze))))
def Wj(fu:Nat):TwS:=(zm (sIf (bOr (WD (bE (zB (ZM fu) [za 0]))) (WD (bE (zB (ZM fu) [za 1])))) zfh ye) (zm (sIf (bE (eOp zbh (za 1) (si 0))) zfh ye) (zW (zB (UI fu) [za 0,za 1]))))
def Wk(fu:Nat):TwF:=zR 2 0 (Wj fu)
def zeE:T.cD.Ok P w base 34 2 (Wk fu):=
 T.cD<$>(zey,Wj,yo (PW.pt (Ye (vW (wu (Tl<*>(pv 0::ze)))) (ZN (vW (wu (Tl<*>(pv 1::ze))))))) (¬zg0) zH<|>yo (zI (Xx (pv 1) zg)) (¬zg0) zH<|>¬(!(zh1<*>(pv 0::pv 1::ze))))
def xL(fu:Nat):TwS:=(zm (VO "WholeRow" "parts" (za 0) (za 1)) (VO "WholeRow" "last" (za 0) (za 2)))
def xM(fu:Nat):TwF:=zR 3 0 (xL fu)
def Wm:T.ah.Ok P w mg base 1 3 (xM fu):=
 T.ah<$>(Wb,xL,WV (pv 0) (pv 1) rfl<|>¬WV (pv 0) (pv 2) rfl)
def vI(fu:Nat):TwS:=(zm (zu (si 1) (gN 1)) (zm (Zr (iL (za 0)) (gN 2) (sIf (bE (eOp WE (eOp vP (za 1) (eOp yM (za 2) (si 1))) (si 0))) (zu (eOp yk (eOp YJ (za 1) (zB (vf fu) [za 1,eOp yM (za 2) (si 1)])) (eOp yM (za 2) (si 1))) (gN 1)) ye)) (zW (za 1))))
def vJ(fu:Nat):TwF:=zR 1 2 (vI fu)
def UJ:T.aW.Ok P w base 2 1 (vJ fu):=
 T.aW<$>(UD,vI,(1^^^zg)<|>((pv 0*0)>>=(↑2,¬yo (zI (vV (zq xu (pv 1) (pv 2%zg)) zg)) (¬(1^^^zq zT (zq VB (pv 1) (Wi<*>(pv 1::(pv 2%zg)::ze))) (pv 2%zg))) zH))<|>¬(!pv 1))
def YT(fu:Nat):TwS:=(zW (yq [fC,dB 1] (iL (za 0)) (gN 0) yH (eOp yk (eOp yM (za 0) (si 0)) (eOp YJ (za 1) (eOp yM (za 0) (si 1))))))
def YU(fu:Nat):TwF:=zR 2 0 (YT fu)
def zdi:T.bW.Ok P w base 1 2 (YU fu):=
 T.bW<$>(zc8,YT,¬(!(ZH∘(["one","bottom"],zD (1::zO),pv 0*0,↑0,zV,zq zT (pv 0%zg) (zq VB (pv 1) (pv 0%zg))))))
def YV(fu:Nat):TwS:=(zm (zu (zB (YU fu) [za 0,zB (vJ fu) [za 0]]) (gN 1)) (zm (zu (eMt zjk (za 1) []) (gN 2)) (zW (zaO "WholeRow" (xM fu) [yq [fC,fC] (iEn (za 1)) (gT 2 (zM (gN 0) (zM (gN 1) xW))) (bE (eOp WE (za 1) (si 0))) (Zq [za 0,za 1]),za 2]))))
def YW(fu:Nat):TwF:=zR 1 2 (YV fu)
def zdj:T.bV.Ok P w base 3 1 (YW fu):=
 T.bV<$>(zc9,YV,(1^^^(zdi<*>(pv 0::(UJ<*>(pv 0::ze))::ze)))<|>(2^^^ze5 BZ PySem.F.slot_list_pop PySem.F.type_list_pop zn0 (pv 1))<|>¬(!zgl T.cU (Wm (fu:=fu) T) (hr.mono ∅) rfl T.di T.ah.b .nil zne (zS (ZI∘(["place","top"],zD (zD zO),zgt (K:=K) rfl T.bU (pv 1::ze),xa (K:=K) (n:=2) rfl (zF (↑0) (zF (↑1) yZ)),TD (zI (vV (pv 1) zg)),~~~(pv 0::pv 1::ze))) (pv 2::ze))))
def ZW(fu:Nat):TwS:=(zW (yq [fC] (iL (za 0)) (gN 0) yH (zB (YW fu) [za 0])))
def vM(fu:Nat):TwF:=zR 1 0 (ZW fu)
def WQ:T.bF.Ok P w base 4 1 (vM fu):=
 T.bF<$>(zbo,ZW,¬(!(Zj∘(["row"],zD zO,pv 0*0,↑0,zV,zdj<*(pv 0::ze)))))
def UK(fu:Nat):TwS:=(zW (eFn zd2 [yq [fC,fC,dB 1] (iL (vR "WholeRow" "parts" (za 0))) (gT 2 (zM (gN 0) (zM (gN 1) xW))) yH (eOp yk (za 1) (eOp yY (za 2) (za 0)))]))
def Ys(fu:Nat):TwF:=zR 2 0 (UK fu)
def zcf:T.dw.Ok P w base 1 2 (Ys fu):=
 T.dw<$>(zhY,UK,¬(!zY (Us (K:=K) rfl) rfl T.fD PyProof.Rows.Boot.«sum» (zS (VX∘(["place","number","numbers"],zD (zD (1::zO)),wP (pv 0) rfl*0,xa (K:=K) (n:=2) rfl (zF (↑0) (zF (↑1) yZ)),zV,zq zT (pv 1) (pv 2&&&pv 0))) ze)))
def Wn(fu:Nat):TwS:=(zm (Zr (iL (za 0)) (gN 3) (sIf (bE (eOp WE (zB (Ys fu) [za 3,za 1]) (eOp yk (vR "WholeRow" "last" (za 3)) (za 2)))) (zW (eC (.bl kb))) ye)) (zW (eC (.bl fN))))
def vT(fu:Nat):TwF:=zR 3 1 (Wn fu)
def Tn:T.cE.Ok P w base 2 3 (vT fu):=
 T.cE<$>(zez,Wn,((pv 0*0)>>=(↑3,¬yo (zI (vV (zcf<*>(pv 3::pv 1::ze)) (zq zT (wP (pv 3) rfl) (pv 2)))) (¬(!Xp)) zH))<|>¬(!Xp))
def zcg(fu:Nat):TwS:=(zm (zu (yq [fC,dB 0] (iL (za 1)) (gN 0) yH (eOp yY (za 1) (vR "Step" "row" (za 0)))) (gN 4)) (zm (zu (yq [fC] (iL (za 4)) (gN 0) yH (vR "WholeRow" "last" (za 0))) (gN 5)) (zm (zu (eOp zcc (XF [si 0]) (za 2)) (gN 6)) (zm (zu (XF [si 1]) (gN 7)) (zm (zu (si 3) (gN 8)) (sWh fu (bE (eC (.bl fN))) (zm (zu (zB (yL fu) [za 1,za 5,za 2,za 3]) (gN 9)) (zm (zu (yq [fC,fC,dB 7] (zbi (za 6) (za 9)) (gT 2 (zM (gN 0) (zM (gN 1) xW))) yH (eOp vw (za 0) (eOp yk (eOp yY (za 2) (eUn Tv (si 1))) (za 1)))) (gN 6)) (zm (zu (yq [fC,fC,dB 3,dB 9] (zbi (za 4) (za 5)) (gT 2 (zM (gN 0) (zM (gN 1) xW))) yH (eOp YJ (eOp Zy (za 1) (zB (Ys fu) [za 0,za 3])) (za 2))) (gN 5)) (zm (Yo (eMt xb (za 7) [eOp yk (eOp yY (za 7) (eUn Tv (si 1))) (za 3)])) (sIf (bE (eOp dGt (eFn xJ [za 7]) (za 8))) (zm (zu (zB (xc fu) [za 6,eOp yY (za 7) (eUn Tv (si 1)),eOp yY (za 7) (eOp Te (eOp Zy (za 8) (si 1)) (si 2))]) (gN 10)) (zm (sIf (zjc (bE (eUn zgx (za 10))) (bE (zB (vT fu) [za 4,eOp Ut (za 10) (si 0),eOp Ut (za 10) (si 1)]))) (zW (za 10)) ye) (zu (eOp vw (za 8) (eOp zbg (si 2) (eOp vw (eOp Te (za 8) (si 8)) (si 1)))) (gN 8)))) ye)))))))))))
def UL(fu:Nat):TwF:=zR 4 7 (zcg fu)
def zh2:T.dz.Ok P w base 36 4 (UL fu):=
 okS T.dz.F zhZ (λhr nd=>⟨_,((4∘Zu∘(["step","rows"],zD (0::zO),pv 1*0,↑0,zV,pv 1&&&wP (pv 0) rfl))<|>(5∘Zu∘(["row"],zD zO,pv 4*0,↑0,zV,wP (pv 0) rfl))<|>(6^^^zq (zgu (K:=K)) (@wx _ _ _ _ (zg::ze)) (pv 2))<|>(7^^^@wx _ _ _ _ (zg::ze))<|>(8^^^zg)<|>¬Xz PassesOwn.leaving (wu Xp) ((9^^^(Xu<*>(pv 1::pv 5::pv 2::pv 3::ze)))<|>(6∘Zu∘(["number","digit","powers"],zD (zD (7::zO)),Wr (K:=K) rfl T.cT (pv 6::pv 9::ze),xa (K:=K) (n:=2) rfl (zF (↑0) (zF (↑1) yZ)),zV,zq xF (pv 0) (zq zT (pv 2&&&zbH Uo zg) (pv 1))))<|>(5∘Zu∘(["row","last","modulus","digits"],zD (zD (3::9::zO)),Wr (K:=K) rfl T.cT (pv 4::pv 5::ze),xa (K:=K) (n:=2) rfl (zF (↑0) (zF (↑1) yZ)),zV,zq VB (zq wv (pv 1) (zcf<*(pv 0::pv 3::ze))) (pv 2)))<|>Zh (Vz BZ C4 C5 xt (pv 7) (zq zT (pv 7&&&zbH Uo zg) (pv 3)::ze))<|>¬yo (zI (Zo (-pv 7) (pv 8))) ((10^^^(WI<*>(pv 6::(pv 7&&&zbH Uo zg)::(pv 7&&&zq zge (zq wv (pv 8) zg) zg)::ze)))<|>yo (PW.pt (zij (zI (zln (pv 10))) (zgb (wu (Tn<*>(pv 4::(VP (K:=K)>>>(pv 10,zg))::(VP (K:=K)>>>(pv 10,zg))::ze)))))) (¬(!pv 10)) zH<|>¬(8^^^zq xF (pv 8) (zq zct zg (zq xF (zq zge (pv 8) zg) zg)))) zH)),yv (xH (xQ (cap:=[fC,dB 0]) (ZC (zj 1)) zP wg (yG vY (zj 1) (YM T.cH T.d7 T.bg (zj 0))))) (yv (xH (xQ (cap:=[fC]) (ZC (zj 4)) zP wg (YM T.aS T.aU T.ax (zj 0)))) (yv (wA (yG zc1 (XG (zC (xZ _) ym)) (zj 2)) zP) (yv (wA (XG (zC (xZ _) ym)) zP) (yv (wA (xZ _) zP) (zdY (zcM (znl _)) (yv (wA (Wu (zC (zj 1) (zC (zj 5) (zC (zj 2) (zC (zj 3) ym))))) zP) (yv (xH (xQ (cap:=[fC,fC,dB 7]) (zfn (zj 6) (zj 9)) (zcO (Zs zP (Zs zP TH))) wg (yG zaA (zj 0) (yG VG (yG vY (zj 2) (zgv zaC (xZ _))) (zj 1))))) (yv (xH (xQ (cap:=[fC,fC,dB 3,dB 9]) (zfn (zj 4) (zj 5)) (zcO (Zs zP (Zs zP TH))) wg (yG zaB (yG zcR (zj 1) (Wu (zC (zj 0) (zC (zj 3) ym)))) (zj 2)))) (yv (VF (zaw Zm (zj 7) (zC (yG VG (yG vY (zj 7) (zgv zaC (xZ _))) (zj 3)) ym))) (zdX (zcM (zjs (zb0 zaD (zC (zj 7) ym)) (zj 8))) (yv (wA (Wu (zC (zj 6) (zC (yG vY (zj 7) (zgv zaC (xZ _))) (zC (yG vY (zj 7) (yG zgz (yG zcR (zj 8) (xZ _)) (xZ _))) ym)))) zP) (yv (zdX (zjf (zcM (zlM (zj 10))) (zcM (Wu (zC (zj 4) (zC (yG zcN (zj 10) (xZ _)) (zC (yG zcN (zj 10) (xZ _)) ym)))))) (WX (zj 10)) VE) (wA (yG zaA (zj 8) (yG zfj (xZ _) (yG zaA (yG zgz (zj 8) (xZ _)) (xZ _)))) zP))) VE))))))))))⟩)
def WR(fu:Nat):TwS:=(zm (zu (yq [fC] (iL (za 0)) (gN 0) yH (vR "Step" "column" (za 0))) (gN 2)) (zW (eOp yY (yq [fC,dB 2] (iR1 (za 1)) (gN 0) (bE (eOp (dIn fN) (za 0) (za 1))) (za 0)) (si 0))))
def ZX(fu:Nat):TwF:=zR 2 1 (WR fu)
def zbu:T.bK.Ok P w base 1 2 (ZX fu):=
 okS T.bK.F zbp (λhr nd=>⟨_,((2^^^(wY∘(["step"],zD zO,pv 0*0,↑0,zV,wP (pv 0) rfl)))<|>¬(!((wY∘(["place","settled"],zD (2::zO),vt rfl T.aF (pv 1::ze),↑0,TD (ZB (zhz (K:=K)) (pv 0) (pv 1) (by rfl)),pv 0))&&&zg))),yv (wA (xQ (cap:=[fC]) (ZC (zj 0)) zP wg (YM T.cH T.d7 T.aD (zj 0))) zP) (WX (yG vY (xQ (cap:=[fC,dB 2]) (Ws (zj 1)) zP (zgw (yG zpR (zj 0) (zj 1))) (zj 0)) (xZ _)))⟩)
def Ze(fu:Nat):TwS:=(zm (zu (zB (UL fu) [za 0,za 1,za 2,za 3]) (gN 4)) (zm (sIf (WD (bE (zB (vT fu) [za 0,eOp yM (za 4) (si 0),eOp yM (za 4) (si 1)]))) (zW (eC .non)) ye) (zW (yq [fC,dB 4] (iL (eOp yM (za 4) (si 0))) (gN 0) yH (zB (Wk fu) [za 0,eOp yM (za 1) (si 1)])))))
def wk(fu:Nat):TwF:=zR 4 1 (Ze fu)
def Xq:T.bh.Ok P w base 37 4 (wk fu):=
 T.bh<$>(Tz,Ze,(4^^^(zh2<*>(pv 0::pv 1::pv 2::pv 3::ze)))<|>yo (vW (wu (Tn<*>(pv 0::(pv 4%zg)::(pv 4%zg)::ze)))) (¬(!YA)) zH<|>¬(!(wX∘(["top","found"],zD (4::zO),(pv 4%zg)*0,↑0,zV,zeE<*(pv 0::(pv 1%zg)::ze)))))
def WT(fu:Nat):TwS:=(zm (zu (yq [fC,dB 1] (iL (za 0)) (gN 0) yH (eOp Tf (eSl zfg (za 0) oNo (zji (za 1))) (XF [eC (.ct [.int 0,.int 1])]))) (gN 3)) (zm (Yo (eMt xb (za 3) [eOp Tf (yq [fC,dB 2] (iR1 (za 1)) (gN 0) yH (eIf (bE (eOp zbh (za 0) (za 1))) (eC (.ct [.int 1,.int 1])) (eC (.ct [.int 0,.int 1])))) (XF [eC (.ct [.int 1,.int 1])])])) (zW (za 3))))
def ZY(fu:Nat):TwF:=zR 3 1 (WT fu)
def zbv:T.bI.Ok P w base 1 3 (ZY fu):=
 okS T.bI.F zbq (λhr nd=>⟨_,((3∘wZ∘(["row","many"],zD (1::zO),pv 0*0,↑0,zV,zq (TF (K:=K)) (ziz (zi2 (K:=K)) (pv 0) zlv (zlw (pv 1))) (@wx _ _ _ _ (YB (v:= .ref T.aV) rfl T.cI rfl::ze))))<|>Zh (Vz BZ C4 C5 xt (pv 3) (zq (TF (K:=K)) (wZ∘(["place","free"],zD (2::zO),vt rfl T.aF (pv 1::ze),↑0,zV,Zp (zI (Xx (pv 0) (pv 1))) (YB (v:= .ref T.cV) rfl T.fG rfl) (YB (v:= .ref T.aV) rfl T.cI rfl))) (@wx _ _ _ _ (YB (v:= .ref T.cV) rfl T.fG rfl::ze))::ze))<|>¬(!pv 3)),yv (xH (xQ (cap:=[fC,dB 1]) (ZC (zj 0)) zP wg (yG TJ (zob (zj 0) zpM (zlN (zj 1))) (XG (zC (zbf λj H=> .ct (λH=>T.cK H) (.cons (.int _) (.cons (.int _) .nil))) ym))))) (yv (VF (zaw Zm (zj 3) (zC (yG TJ (xQ (cap:=[fC,dB 2]) (Ws (zj 1)) zP wg (znm (zcM (zjt (zj 0) (zj 1))) (zbf λj H=> .ct (λH=>T.fM H) (.cons (.int _) (.cons (.int _) .nil))) (zbf λj H=> .ct (λH=>T.cK H) (.cons (.int _) (.cons (.int _) .nil))))) (XG (zC (zbf λj H=> .ct (λH=>T.fM H) (.cons (.int _) (.cons (.int _) .nil))) ym))) ym))) (WX (zj 3)))⟩)
def Vk(fu:Nat):TwS:=(zm (zu (zB (vM fu) [za 0]) (gN 3)) (zm (zu (zB (ZL fu) [za 3,za 2]) (gN 4)) (zW (eIf (bE (eUn zav (za 4))) (eC .non) (zB (wk fu) [za 3,za 4,za 1,za 2])))))
def YX(fu:Nat):TwF:=zR 3 2 (Vk fu)
def zaV:T.cR.Ok P w base 38 3 (YX fu):=
 T.cR<$>(zfQ,Vk,(3^^^(WQ<*>(pv 0::ze)))<|>(4^^^(Tk<*>(pv 3::pv 2::ze)))<|>¬(!Zp (zI (Xy (pv 4))) YA (Xq<*>(pv 3::pv 4::pv 1::pv 2::ze))))
def Vl(fu:Nat):TwS:=(zm (zu (zB (YX fu) [zB (ZY fu) [za 0,za 1,za 3],za 1,za 4]) (gN 5)) (zW (eIf (bE (eUn zav (za 5))) (eC .non) (Zq [sv "many",za 2,za 5]))))
def Vm(fu:Nat):TwF:=zR 5 1 (Vl fu)
def zfT:T.cQ.Ok P w base 39 5 (Vm fu):=
 T.cQ<$>(zfP,Vl,(5^^^(zaV<*>((zbv<*>(pv 0::pv 1::pv 3::ze))::pv 1::pv 4::ze)))<|>¬(!Zp (zI (Xy (pv 5))) YA (~~~(Xw::pv 2::pv 5::ze))))
def zch(fu:Nat):TwS:=(zm (zu (yq [fC,dB 0] (iR1 (za 1)) (gN 0) yH (eOp Tf (yq [fC,dB 0] (iL (za 1)) (gN 0) yH (eOp yY (za 0) (za 1))) (XF [eC (.ct [.int 0,.int 1])]))) (gN 2)) (zm (Yo (eMt xb (za 2) [eOp Tf (yq [fC,dB 1] (iL (za 0)) (gN 0) yH (eOp yY (za 0) (za 1))) (XF [eC (.ct [.int 1,.int 1])])])) (zW (za 2))))
def UM(fu:Nat):TwF:=zR 2 1 (zch fu)
def zh3:T.du.Ok P w base 1 2 (UM fu):=
 okS T.du.F zh0 (λhr nd=>⟨_,((2∘XX∘(["place","rows"],zD (0::zO),vt rfl T.aF (pv 1::ze),↑0,zV,zq (TF (K:=K)) (zeu (N':=["row","place"]) rfl (zp6 (*...*)) (zD (0::zO)) (pv 1*0) (zbW rfl) (λC s₀ H₀ fp=>zgc (i:=0) (by walk_at "q4") rfl (Or.inl rfl)) (λC s₀ H₀ fp=>zV) (λC s₀ H₀ fp=>(pv 0&&&pv 1))) (@wx _ _ _ _ (YB (v:= .ref T.aV) rfl T.cI rfl::ze))))<|>Zh (Vz BZ C4 C5 xt (pv 2) (zq (TF (K:=K)) (XX∘(["row","many"],zD (1::zO),pv 0*0,↑0,zV,pv 0&&&pv 1)) (@wx _ _ _ _ (YB (v:= .ref T.cV) rfl T.fG rfl::ze))::ze))<|>¬(!pv 2)),yv (xH (xQ (cap:=[fC,dB 0]) (Ws (zj 1)) zP wg (yG TJ (xQ (cap:=[fC,dB 0]) (ZC (zj 1)) zP wg (yG vY (zj 0) (zj 1))) (XG (zC (zbf λj H=> .ct (λH=>T.cK H) (.cons (.int _) (.cons (.int _) .nil))) ym))))) (yv (VF (zaw Zm (zj 2) (zC (yG TJ (xQ (cap:=[fC,dB 1]) (ZC (zj 0)) zP wg (yG vY (zj 0) (zj 1))) (XG (zC (zbf λj H=> .ct (λH=>T.fM H) (.cons (.int _) (.cons (.int _) .nil))) ym))) ym))) (WX (zj 2)))⟩)
def Vn(fu:Nat):TwS:=(zm (zu (zB (YX fu) [zB (UM fu) [za 0,za 1],eFn xJ [za 0],za 2]) (gN 3)) (zW (eIf (bE (eUn zav (za 3))) (eC .non) (Zq [sv "none",za 3]))))
def Vo(fu:Nat):TwF:=zR 3 1 (Vn fu)
def zfU:T.cO.Ok P w base 39 3 (Vo fu):=
 T.cO<$>(zfO,Vn,(3^^^(zaV<*>((zh3<*>(pv 0::pv 1::ze))::(-pv 0)::pv 2::ze)))<|>¬(!Zp (zI (Xy (pv 3))) YA (~~~(Xw::pv 3::ze))))
def YY(fu:Nat):TwS:=(zm (zu (zB (vM fu) [za 0]) (gN 3)) (zm (zu (zB (ZL fu) [za 3,za 2]) (gN 4)) (zm (sIf (bE (eUn zav (za 4))) (zW (eC .non)) ye) (zm (zu (zB (wk fu) [za 3,za 4,za 1,za 2]) (gN 5)) (zm (sIf (bE (eUn zav (za 5))) (zW (zB (Vo fu) [za 0,za 1,za 2])) ye) (zm (sIf (bE (eOp zbh (eFn xJ [za 4]) (za 1))) (zW (Zq [sv "one",za 5])) ye) (zW (zB (Vm fu) [za 0,za 1,za 5,zB (ZX fu) [za 4,za 1],za 2]))))))))
def yU(fu:Nat):TwF:=zR 3 3 (YY fu)
def Uc:T.bY.Ok P w base 40 3 (yU fu):=
 T.bY<$>(zdb,YY,(3^^^(WQ<*>(pv 0::ze)))<|>(4^^^(Tk<*>(pv 3::pv 2::ze)))<|>yo (zI (Xy (pv 4))) (¬(!YA)) zH<|>(5^^^(Xq<*>(pv 3::pv 4::pv 1::pv 2::ze)))<|>yo (zI (Xy (pv 5))) (¬(!(zfU<*>(pv 0::pv 1::pv 2::ze)))) zH<|>yo (zI (Xx (-pv 4) (pv 1))) (¬(!(~~~(Xw::pv 5::ze)))) zH<|>¬(!(zfT<*>(pv 0::pv 1::pv 5::(zbu<*>(pv 4::pv 1::ze))::pv 2::ze))))
def YZ(fu:Nat):TwS:=(zm (zu (si 1000000000000000000000000000000000000000000009) (gN 2)) (zm (zu (zB (yU fu) [za 0,za 1,za 2]) (gN 3)) (zm (sWh fu (bE (eUn zav (za 3))) (zm (zu (eOp vw (za 2) (si 2)) (gN 2)) (zu (zB (yU fu) [za 0,za 1,za 2]) (gN 3)))) (zW (za 3)))))
def xp(fu:Nat):TwF:=zR 2 2 (YZ fu)
def zdk:T.bX.Ok P w base 41 2 (xp fu):=
 T.bX<$>(zda,YZ,(2^^^match T.bO with|⟨t,h⟩=>YB (v:= .int 1000000000000000000000000000000000000000000009) rfl h ⟨t,rfl⟩)<|>(3^^^(Uc<*>(pv 0::pv 1::pv 2::ze)))<|>Xz PassesOwn.leaving (zI (Xy (pv 3))) ((2^^^zq xF (pv 2) zg)<|>¬(3^^^(Uc<*>(pv 0::pv 1::pv 2::ze))))<|>¬(!pv 3))
def Xb(fu:Nat):TwS:=(zm (zu (si 0) (gN 4)) (zm (sIf (bE (eOp dGt (eFn xJ [za 0]) (si 0))) (zu (eOp yY (za 0) (eOp vP (za 1) (eFn xJ [za 0]))) (gN 4)) ye) (zW (eOp vP (eOp vP (eOp vw (eOp zbg (eOp vw (za 4) (eOp yk (za 1) (za 1))) (si 48271)) (si 11)) (za 2)) (za 3)))))
def yf(fu:Nat):TwF:=zR 4 1 (Xb fu)
def yA:T.ck.Ok P w base 1 4 (yf fu):=
 T.ck<$>(zdc,Xb,(4^^^zg)<|>yo (zI (Zo (-pv 0) zg)) (¬(4^^^(pv 0&&&zq xu (pv 1) (-pv 0)))) zH<|>¬(!zq xu (zq xu (zq xF (zq zct (zq xF (pv 4) (zq zT (pv 1) (pv 1))) zg) zg) (pv 2)) (pv 3)))
def Xc(fu:Nat):TwS:=(zm (sIf (bE (eOp dGt (eFn xJ [za 0]) (si 0))) (zW (eOp yY (za 0) (eOp vP (za 1) (eFn xJ [za 0])))) ye) (zW (si 0)))
def Xd(fu:Nat):TwF:=zR 2 0 (Xc fu)
def zdl:T.cu.Ok P w base 1 2 (Xd fu):=
 T.cu<$>(zdd,Xc,yo (zI (Zo (-pv 0) zg)) (¬(!pv 0&&&zq xu (pv 1) (-pv 0))) zH<|>¬(!zg))
def Zw(fu:Nat):TwS:=(zm (zu (eFn zcS [za 0]) (gN 2)) (zm (zu (eFn zcS [za 1]) (gN 3)) (zm (sWh fu (bE (eOp dGt (za 3) (si 0))) (zlP 2 3 [za 3,eOp vP (za 2) (za 3)])) (zW (Zq [eOp YO (za 0) (za 2),eOp YO (za 1) (za 2)])))))
def xN(fu:Nat):TwF:=zR 2 2 (Zw fu)
def Zx:T.bA.Ok P w base 33 2 (xN fu):=
 T.bA<$>(Wc,Zw,(2^^^zY Yg rfl T.dh boot_abs (pv 0::ze))<|>(3^^^zY Yg rfl T.dh boot_abs (pv 1::ze))<|>Xz PassesOwn.leaving (zI (Zo (pv 3) zg)) (¬znP (i:=2) (j:=3) rfl Wc.nd rfl rfl ∅ rfl rfl (pv 3::zq xu (pv 2) (pv 3)::ze) rfl)<|>¬(!(~~~(zq (XQ hr) (pv 0) (pv 2)::zq (XQ hr) (pv 1) (pv 2)::ze))))
def Wo(fu:Nat):TwS:=(zm (zu (si 0) (gN 2)) (zm (zu (si 1) (gN 3)) (zm (Zr (zbi (za 0) (za 1)) (gT 2 (zM (gN 4) (zM (gN 5) xW))) (zm (zu (eOp vw (eOp yk (eOp yk (za 2) (eOp yM (za 4) (si 1))) (eOp yM (za 5) (si 1))) (eOp yk (eOp yk (eOp yM (za 4) (si 0)) (eOp yM (za 5) (si 0))) (za 3))) (gN 2)) (zu (eOp yk (eOp yk (za 3) (eOp yM (za 4) (si 1))) (eOp yM (za 5) (si 1))) (gN 3)))) (zW (zB (xN fu) [za 2,za 3])))))
def yV(fu:Nat):TwF:=zR 2 4 (Wo fu)
def wL:T.cF.Ok P w base 34 2 (yV fu):=
 T.cF<$>(zeA,Wo,(2^^^zg)<|>(3^^^zg)<|>Wr (K:=K) rfl T.cT (pv 0::pv 1::ze)>>=(xa (K:=K) (n:=2) rfl (zF (↑4) (zF (↑5) yZ)),(2^^^zq xF (zq zT (zq zT (pv 2) (pv 4%zg)) (pv 5%zg)) (zq zT (zq zT (pv 4%zg) (pv 5%zg)) (pv 3)))<|>¬(3^^^zq zT (zq zT (pv 3) (pv 4%zg)) (pv 5%zg)))<|>¬(!(Zx<*>(pv 2::pv 3::ze))))
def ZZ(fu:Nat):TwS:=(zm (sIf (bOr (WD (bE (eUn (Tw "tuple") (za 0)))) (bE (eOp WE (eFn xJ [za 0]) (si 2)))) (zW (eC (.bl kb))) ye) (zm (Zr (iA (za 0)) (gN 1) (sIf (bOr (WD (bE (eUn (Tw "int") (za 1)))) (bE (eUn (Tw "bool") (za 1)))) (zW (eC (.bl kb))) ye)) (zW (zjd (eOp dGt (eOp Ut (za 0) (si 1)) (si 0)) (eOp (Uw kb) (zB (xN fu) [eOp Ut (za 0) (si 0),eOp Ut (za 0) (si 1)]) (za 0))))))
def Ya(fu:Nat):TwF:=zR 1 1 (ZZ fu)
def zbw:T.bL.Ok P w base 34 1 (Ya fu):=
 T.bL<$>(zbr,ZZ,yo (PW.pt (Ye (vW (wu (zY (wJ (K:=K)) rfl T.ai boot_isinstance (zS (pv 0) (zS (Zz (v:= .ty "tuple") rfl T.dI boot_tuple rfl) ze))))) (ZN (zI (vV (-pv 0) zg))))) (¬(!Xp)) zH<|>zgN (K:=K) (pv 0)>>=(↑1,¬yo (PW.pt (Ye (vW (wu (zY (wJ (K:=K)) rfl T.ai boot_isinstance (zS (pv 1) (zS (Zz (v:= .ty "int") rfl T.gC boot_int rfl) ze))))) (ZN (wu (zY (wJ (K:=K)) rfl T.ai boot_isinstance (zS (pv 1) (zS (Zz (v:= .ty "bool") rfl T.eY boot_bool rfl) ze))))))) (¬(!Xp)) zH)<|>¬(!zeW (zii (Zo (VP (K:=K)>>>(pv 0,zg)) zg)) (zeV (TC (zfo (K:=K) hr) (Zx<*>((VP (K:=K)>>>(pv 0,zg))::(VP (K:=K)>>>(pv 0,zg))::ze)) (pv 0) (by rfl)))))
def Xe(fu:Nat):TwS:=(zm (sIf (bOr (WD (bE (eUn (Tw "list") (za 0)))) (bE (eOp WE (eFn xJ [za 0]) (za 1)))) (zW (eC (.bl kb))) ye) (zW (eFn zhG [yq [fC] (iA (za 0)) (gN 0) yH (zB (Ya fu) [za 0])])))
def xV(fu:Nat):TwF:=zR 2 0 (Xe fu)
def Zk:T.cj.Ok P w base 35 2 (xV fu):=
 T.cj<$>(zde,Xe,yo (PW.pt (Ye (vW (wu (zY (wJ (K:=K)) rfl T.ai boot_isinstance (zS (pv 0) (zS (Zz (v:= .ty "list") rfl T.dJ boot_list rfl) ze))))) (ZN (zI (vV (-pv 0) (pv 1)))))) (¬(!Xp)) zH<|>¬(!zY (zbZ (K:=K) rfl) rfl T.gE PyProof.Rows.Boot.«all» (zS (ZJ∘(["_law_one"],zD zO,zgN (K:=K) (pv 0),↑0,zV,zbw<*(pv 0::ze))) ze)))
def wE(fu:Nat):TwS:=(zm (sIf (bOr (bE (eOp WE (eFn xJ [za 0]) (si 3))) (bOr (WD (bE (zB (xV fu) [eOp yM (za 0) (si 1),za 2]))) (WD (bE (zB (xV fu) [eOp yM (za 0) (si 2),za 2]))))) (zW (eC (.bl kb))) ye) (zm (Zr (iL (za 1)) (gN 3) (sIf (bOr (bE (eOp (Uw fN) (zB (yV fu) [za 3,eOp yM (za 0) (si 1)]) (eOp yY (za 3) (za 2)))) (bE (eOp (Uw fN) (zB (yV fu) [za 3,eOp yM (za 0) (si 2)]) (Zq [si 0,si 1])))) (zW (eC (.bl kb))) ye)) (zW (eOp dGt (eFn xJ [yq [fC] (iL (eOp yM (za 0) (si 2))) (gN 0) (bE (eOp (Uw fN) (za 0) (Zq [si 0,si 1]))) (za 0)]) (si 0)))))
def wF(fu:Nat):TwF:=zR 3 1 (wE fu)
def Vp:T.aL.Ok P w base 36 3 (wF fu):=
 T.aL<$>(Vh,wE,yo (PW.pt (Ye (zI (vV (-pv 0) zg)) (Ye (vW (wu (Zk<*>((pv 0%zg)::pv 2::ze)))) (ZN (vW (wu (Zk<*>((pv 0%zg)::pv 2::ze)))))))) (¬(!Xp)) zH<|>((pv 1*0)>>=(↑3,¬yo (PW.pt (Ye (ZB (zaJ (K:=K) hr) (wL<*>(pv 3::(pv 0%zg)::ze)) (pv 3&&&pv 2) (by rfl)) (ZN (ZB (zaJ (K:=K) hr) (wL<*>(pv 3::(pv 0%zg)::ze)) (~~~(zg::zg::ze)) (by rfl))))) (¬(!Xp)) zH))<|>¬(!zii (Zo (zY (zbX (K:=K)) rfl T.fE boot_len (zS (xC∘(["_law_one"],zD zO,(pv 0%zg)*0,↑0,TD (ZB (zaJ (K:=K) hr) (pv 0) (~~~(zg::zg::ze)) (by rfl)),pv 0)) ze)) zg)))
def wG(fu:Nat):TwS:=(zm (sIf (bOr (bE (eOp WE (eFn xJ [za 0]) (si 2))) (WD (bE (zB (xV fu) [eOp yM (za 0) (si 1),eFn xJ [za 1]])))) (zW (eC (.bl kb))) ye) (zm (Zr (iR1 (za 2)) (gN 3) (sIf (bE (eOp (Uw fN) (zB (yV fu) [yq [fC,dB 3] (iL (za 1)) (gN 0) yH (eOp yY (za 0) (za 1)),eOp yM (za 0) (si 1)]) (Zq [si 0,si 1]))) (zW (eC (.bl kb))) ye)) (zW (eOp (Uw fN) (zB (yV fu) [yq [fC,dB 2] (iL (za 1)) (gN 0) yH (eOp yY (za 0) (za 1)),eOp yM (za 0) (si 1)]) (Zq [si 0,si 1])))))
def wH(fu:Nat):TwF:=zR 3 1 (wG fu)
def Vq:T.aK.Ok P w base 36 3 (wH fu):=
 T.aK<$>(Vi,wG,yo (PW.pt (Ye (zI (vV (-pv 0) zg)) (ZN (vW (wu (Zk<*>((pv 0%zg)::(-pv 1)::ze))))))) (¬(!Xp)) zH<|>vt rfl T.aF (pv 2::ze)>>=(↑3,¬yo (ZB (zaJ (K:=K) hr) (wL<*>(zS (yT∘(["_law_row","_law_at"],zD (3::zO),pv 1*0,↑0,zV,pv 0&&&pv 1)) ((pv 0%zg)::ze))) (~~~(zg::zg::ze)) (by rfl)) (¬(!Xp)) zH)<|>¬(!TC (zaJ (K:=K) hr) (wL<*>(zS (yT∘(["_law_row","_law_many"],zD (2::zO),pv 1*0,↑0,zV,pv 0&&&pv 1)) ((pv 0%zg)::ze))) (~~~(zg::zg::ze)) (by rfl)))
def vg(fu:Nat):TwS:=(zm (sIf (bOr (bE (eOp WE (eFn xJ [za 0]) (si 2))) (WD (bE (zB (xV fu) [eOp yM (za 0) (si 1),za 2])))) (zW (eC (.bl kb))) ye) (zW (eFn zhG [yq [fC,dB 2,dB 0] (iL (za 1)) (gN 0) yH (eOp (Uw kb) (zB (yV fu) [za 0,eOp yM (za 2) (si 1)]) (eOp yY (za 0) (za 1)))])))
def vh(fu:Nat):TwF:=zR 3 0 (vg fu)
def Ud:T.aR.Ok P w base 36 3 (vh fu):=
 T.aR<$>(Ua,vg,yo (PW.pt (Ye (zI (vV (-pv 0) zg)) (ZN (vW (wu (Zk<*>((pv 0%zg)::pv 2::ze))))))) (¬(!Xp)) zH<|>¬(!zY (zbZ (K:=K) rfl) rfl T.gE PyProof.Rows.Boot.«all» (zS (xU∘(["_law_row","_law_many","_law_found"],zD (2::0::zO),pv 1*0,↑0,zV,TC (zfo (K:=K) hr) (wL<*(pv 0::(pv 2%zg)::ze)) (pv 0&&&pv 1) (by rfl))) ze)))
def Yb(fu:Nat):TwS:=(zm (sIf (bOr (WD (bE (eUn (Tw "tuple") (za 0)))) (bOr (bE (eOp dLt (eFn xJ [za 0]) (si 2))) (bOr (WD (bE (eUn (Tw "str") (eOp yM (za 0) (si 0))))) (bE (eOp (zd3 fN) (eOp yM (za 0) (si 0)) (za 1)))))) (zW (eC (.bl kb))) ye) (zm (sIf (bE (eOp (zd3 kb) (za 1) (sv "one"))) (zW (zB (vh fu) [za 0,za 2,za 3])) ye) (zm (sIf (bE (eOp (zd3 kb) (za 1) (sv "many"))) (zW (zB (wF fu) [za 0,za 2,za 3])) ye) (zW (zB (wH fu) [za 0,za 2,za 3])))))
def Yc(fu:Nat):TwF:=zR 4 0 (Yb fu)
def zbx:T.bM.Ok P w base 37 4 (Yc fu):=
 T.bM<$>(zbs,Yb,yo (PW.pt (Ye (vW (wu (zY (wJ (K:=K)) rfl T.ai boot_isinstance (zS (pv 0) (zS (Zz (v:= .ty "tuple") rfl T.dI boot_tuple rfl) ze))))) (Ye (zI (zga (-pv 0) zg)) (Ye (vW (wu (zY (wJ (K:=K)) rfl T.ai boot_isinstance (zS (pv 0%zg) (zS (Zz (v:= .ty "str") rfl T.iN boot_str rfl) ze))))) (ZN (ZB zpq (pv 0%zg) (pv 1) (by rfl))))))) (¬(!Xp)) zH<|>yo (ZB zm6 (pv 1) Xw (by rfl)) (¬(!(Ud<*>(pv 0::pv 2::pv 3::ze)))) zH<|>yo (ZB zm6 (pv 1) Xw (by rfl)) (¬(!(Vp<*>(pv 0::pv 2::pv 3::ze)))) zH<|>¬(!(Vq<*>(pv 0::pv 2::pv 3::ze))))
def Xg(fu:Nat):TwS:=(zm (zu (XF []) (gN 2)) (zm (Zr (iL (za 0)) (gN 3) (zm (zu (si 1) (gN 4)) (zm (Zr (iL (za 3)) (gN 5) (zu (eOp yk (za 4) (eOp yM (za 5) (si 1))) (gN 4))) (Yo (eMt xb (za 2) [yq [fC,dB 4] (iL (za 3)) (gN 0) yH (eOp yk (eOp yM (za 0) (si 0)) (eOp YJ (za 1) (eOp yM (za 0) (si 1))))]))))) (zm (zu (si 0) (gN 6)) (zm (Zr (iR1 (za 1)) (gN 7) (zm (zu (yq [fC,dB 7,dB 2] (iR2 (za 6) (eFn xJ [za 2])) (gN 0) (bE (eOp WE (eOp yY (eOp yY (za 2) (za 0)) (za 1)) (si 0))) (za 0)) (gN 8)) (sIf (bE (eOp dGt (eFn xJ [za 8]) (si 0))) (zm (zu (eOp yY (za 2) (eOp yY (za 8) (si 0))) (gN 9)) (zm (zu (eOp yY (za 2) (za 6)) (XH (za 2) (eOp yY (za 8) (si 0)))) (zm (zu (za 9) (XH (za 2) (za 6))) (zm (Zr (iR2 (eOp vw (za 6) (si 1)) (eFn xJ [za 2])) (gN 10) (zm (zu (eOp yY (za 2) (za 10)) (gN 3)) (zu (yq [fC,fC,dB 9,dB 7,dB 3] (zbi (za 9) (za 3)) (gT 2 (zM (gN 0) (zM (gN 1) xW))) yH (eOp Zy (eOp yk (eOp yY (za 2) (za 3)) (za 1)) (eOp yk (eOp yY (za 4) (za 3)) (za 0)))) (XH (za 2) (za 10))))) (zu (eOp vw (za 6) (si 1)) (gN 6)))))) ye))) (zW (za 6))))))
def Zl(fu:Nat):TwF:=zR 2 9 (Xg fu)
def Ue:T.c7.Ok P w base 1 2 (Zl fu):=
 T.c7<$>(zdf,Xg,(2^^^@wx _ _ _ _ ze)<|>((pv 0*0)>>=(↑3,(4^^^zg)<|>((pv 3*0)>>=(↑5,¬(4^^^zq zT (pv 4) (pv 5%zg))))<|>¬Zh (Vz BZ C4 C5 xt (pv 2) (zS (wK∘(["_law_part_here","_law_whole"],zD (4::zO),pv 3*0,↑0,zV,zq zT (pv 0%zg) (zq VB (pv 1) (pv 0%zg)))) ze))))<|>(6^^^zg)<|>vt rfl T.aF (pv 1::ze)>>=(↑7,(8∘wK∘(["_law_k","_law_at","_law_work"],zD (7::2::zO),zbG rfl T.aF (pv 6::(-pv 2)::ze),↑0,TD (zI (vV ((pv 2&&&pv 0)&&&pv 1) zg)),pv 0))<|>¬yo (zI (Zo (-pv 8) zg)) ((9^^^(pv 2&&&(pv 8&&&zg)))<|>Ul (pv 2&&&pv 6) (Uk (pv 2) (pv 8&&&zg) Yj)<|>Ul (pv 9) (Uk (pv 2) (pv 6) Yj)<|>zbG rfl T.aF (zq xF (pv 6) zg::(-pv 2)::ze)>>=(↑10,(3^^^(pv 2&&&pv 10))<|>¬Ul (wK∘(["_law_a","_law_b","_law_lead","_law_at","_law_row"],zD (zD (9::7::3::zO)),Wr (K:=K) rfl T.cT (pv 9::pv 3::ze),xa (K:=K) (n:=2) rfl (zF (↑0) (zF (↑1) yZ)),zV,zq wv (zq zT (pv 2&&&pv 3) (pv 1)) (zq zT (pv 4&&&pv 3) (pv 0)))) (Uk (pv 2) (pv 10) Yj))<|>¬(6^^^zq xF (pv 6) zg)) zH)<|>¬(!pv 6))
def Xh(fu:Nat):TwS:=(zm (sIf (bE (eOp zbh (za 2) (si 0))) (zW (Zq [eOp Zy (zB (yf fu) [za 0,za 1,si 10037,si 3]) (si 1),si 1])) ye) (zm (sIf (bE (eOp zbh (zB (yf fu) [za 0,za 1,si 10009,si 9]) (si 0))) (zW (Zq [eOp vw (eOp Zy (eOp vP (zB (Xd fu) [za 0,za 1]) (eOp Zy (eOp zbg (si 2) (eOp zjp (si 10) (si 9))) (si 1))) (eOp zjp (si 10) (si 9))) (si 1),si 1])) ye) (zW (zB (xN fu) [eOp Zy (zB (yf fu) [za 0,za 1,si 10061,si 7]) (si 3),eOp vw (si 1) (zB (yf fu) [za 0,za 1,si 10067,si 4])]))))
def Xj(fu:Nat):TwF:=zR 3 0 (Xh fu)
def zdm:T.c9.Ok P w base 34 3 (Xj fu):=
 T.c9<$>(zdg,Xh,yo (zI (Xx (pv 2) zg)) (¬(!(~~~(zq wv (yA<*>(pv 0::pv 1::zg::zg::ze)) zg::zg::ze)))) zH<|>yo (zI (Xx (yA<*>(pv 0::pv 1::zg::zg::ze)) zg)) (¬(!(~~~(zq xF (zq wv (zq xu (zdl<*>(pv 0::pv 1::ze)) (zq wv (zq zct zg (zq zir zg zg)) zg)) (zq zir zg zg)) zg::zg::ze)))) zH<|>¬(!(Zx<*>(zq wv (yA<*>(pv 0::pv 1::zg::zg::ze)) zg::zq xF zg (yA<*>(pv 0::pv 1::zg::zg::ze))::ze))))
def Xk(fu:Nat):TwS:=(zm (zu (zB (yf fu) [za 0,si 1,si 10007,si 2]) (gN 2)) (zm (zu (XF []) (gN 3)) (zm (Zr (iR1 (zB (yf fu) [za 0,si 2,si 10069,si 7])) (gN 4) (Yo (eMt xb (za 3) [yq [fC,dB 0,dB 2,dB 4,dB 1] (iR1 (eOp vw (za 1) (si 1))) (gN 0) yH (zB (Xj fu) [za 1,eOp vw (eOp vw (si 3) (eOp yk (za 3) (eOp vw (za 4) (si 1)))) (za 0),za 2])]))) (zm (zu (zB (yf fu) [za 0,si 46,si 10091,si 4]) (gN 5)) (zm (sIf (zjc (bE (eOp dGt (eFn xJ [za 3]) (si 0))) (bE (eOp dLt (za 5) (si 2)))) (zm (zu (eOp yY (za 3) (zB (yf fu) [za 0,si 47,si 10093,eFn xJ [za 3]])) (gN 6)) (zm (zu (eOp yY (za 3) (zB (yf fu) [za 0,si 48,si 10099,eFn xJ [za 3]])) (gN 7)) (zm (zu (eOp yY (eOp yY (za 3) (eOp Zy (eFn xJ [za 3]) (si 1))) (za 1)) (gN 8)) (zm (zu (yq [fC,fC] (zbi (za 6) (za 7)) (gT 2 (zM (gN 0) (zM (gN 1) xW))) yH (zB (yV fu) [XF [za 0,za 1],XF [Zq [si 1,si 1],Zq [si 1,si 1]]])) (gN 9)) (zm (sIf (bE (eOp zbh (za 5) (si 1))) (zu (za 8) (XH (za 9) (za 1))) ye) (zu (za 9) (XH (za 3) (eOp Zy (eFn xJ [za 3]) (si 1))))))))) ye) (zW (za 3)))))))
def Xl(fu:Nat):TwF:=zR 2 8 (Xk fu)
def zdn:T.bZ.Ok P w base 35 2 (Xl fu):=
 T.bZ<$>(zdh,Xk,(2^^^(yA<*>(pv 0::zg::zg::zg::ze)))<|>(3^^^@wx _ _ _ _ ze)<|>vt rfl T.aF ((yA<*>(pv 0::zg::zg::zg::ze))::ze)>>=(↑4,¬Zh (Vz BZ C4 C5 xt (pv 3) (zS (vS∘(["_law_k","_law_script","_law_way","_law_number","_law_many"],zD (0::2::4::1::zO),vt rfl T.aF (zq xF (pv 1) zg::ze),↑0,zV,zdm<*(pv 1::zq xF (zq xF zg (zq zT (pv 3) (zq xF (pv 4) zg))) (pv 0)::pv 2::ze))) ze)))<|>(5^^^(yA<*>(pv 0::zg::zg::zg::ze)))<|>yo (PW.pt (zij (zI (Zo (-pv 3) zg)) (zgb (zI (zga (pv 5) zg))))) ((6^^^(pv 3&&&(yA<*>(pv 0::zg::zg::(-pv 3)::ze))))<|>(7^^^(pv 3&&&(yA<*>(pv 0::zg::zg::(-pv 3)::ze))))<|>(8^^^((pv 3&&&zq wv (-pv 3) zg)&&&pv 1))<|>(9∘vS∘(["_law_a","_law_b"],zD (zD zO),Wr (K:=K) rfl T.cT (pv 6::pv 7::ze),xa (K:=K) (n:=2) rfl (zF (↑0) (zF (↑1) yZ)),zV,wL<*(@wx _ _ _ _ (pv 0::pv 1::ze)::@wx _ _ _ _ ((~~~(zg::zg::ze))::(~~~(zg::zg::ze))::ze)::ze)))<|>yo (zI (Xx (pv 5) zg)) (¬Ul (pv 8) (Uk (pv 9) (pv 1) Yj)) zH<|>¬Ul (pv 9) (Uk (pv 3) (zq wv (-pv 3) zg) Yj)) zH<|>¬(!pv 3))
def zfV(fu:Nat):TwS:=(zm (zu (zB (yf fu) [za 0,si 0,si 10039,si 6]) (gN 1)) (zm (zu (zB (Xl fu) [za 0,za 1]) (gN 2)) (zm (zu (zB (Zl fu) [za 2,za 1]) (gN 3)) (zm (zu (sv "many") (gN 4)) (zm (sIf (bE (eOp zbh (za 3) (za 1))) (zu (sv "one") (gN 4)) ye) (zm (sIf (bE (eOp dGt (zB (Zl fu) [za 2,eOp vw (za 1) (si 1)]) (za 3))) (zu (sv "none") (gN 4)) ye) (zm (zu (yq [fC] (iL (za 2)) (gN 0) yH (eFn zd0 [za 0])) (gN 5)) (zm (zu (zB (xp fu) [za 5,za 1]) (gN 6)) (zW (zjd (zB (Yc fu) [za 6,za 4,za 2,za 1]) (eOp (Uw kb) (za 5) (za 2))))))))))))
def zfW(fu:Nat):TwF:=zR 1 6 (zfV fu)
def zmu:T.dA.Ok P w base 42 1 (zfW fu):=
 T.dA<$>(zoJ,zfV,(1^^^(yA<*>(pv 0::zg::zg::zg::ze)))<|>(2^^^(zdn<*>(pv 0::pv 1::ze)))<|>(3^^^(Ue<*>(pv 2::pv 1::ze)))<|>(4^^^Xw)<|>yo (zI (Xx (pv 3) (pv 1))) (¬(4^^^Xw)) zH<|>yo (zI (Zo (Ue<*>(pv 2::zq xF (pv 1) zg::ze)) (pv 3))) (¬(4^^^Xw)) zH<|>(5∘zg1∘(["_law_row"],zD zO,pv 2*0,↑0,zV,zbN (zfb (K:=K)) rfl T.dJ boot_list (pv 0::ze)))<|>(6^^^(zdk<*>(pv 5::pv 1::ze)))<|>¬(!zeW (zbx<*>(pv 6::pv 4::pv 2::pv 1::ze)) (zeV (TC (zfo (K:=K) hr) (pv 5) (pv 2) (by rfl)))))
end
section
open Mth
def Big(fu:Nat):Prop:=2^9000<=fu
local macro_rules|`(tactic|walk_at "w1")=>do
 let g(s:String):=(s.splitOn " ").toArray.mapM fun n=>`(tacticSeq|apply $(Lean.mkIdent (.mkSimple n)))
 let a<-g "zfm zoi zN zl3 zJ"
 let b<-g "YK wB zjI wU zpS zjD zpT zog yK zjE zoh zaI zcW zjF zpU zjG zok zol zom zpV qf zpW qg zon zoo nk nq zor zos"
 `(tactic|first|with_reducible apply zqB|((with_reducible apply zjC); exact rfl)|(with_reducible first $[| $a]*)|((with_reducible apply wa); try dsimp only[BL])|(with_reducible first $[| $b]*)|((with_reducible apply zoq); exact⟨∅, by decide, by decide⟩)|((with_reducible apply zop); first | exact .inl ∅ | exact .inr ∅)|with_reducible refine Exists.intro _ (And.intro rfl ?_))
local macro_rules|`(tactic|walk_at "w")=>`(tactic|repeat walk_at "w1")|`(tactic|ext)=>`(tactic|walk_at "w")|`(tactic|walk_at "wr")=>`(tactic|(refine zoj rfl rfl ?_; dsimp only [List.map, HAppend.hAppend, Append.append, List.append, List.replicate]))
section
variable{S' S2:Sto}{x y:Xv}
def yp{c:Prop}[Decidable c]{A B:Prop}(h:c->A)(g:¬c->B):(decide c=fN->A)/\(decide c=kb->B):=⟨λe=>h (of_decide_eq_true e),λe=>g (of_decide_eq_false e)⟩
def Vr{c:Prop}[Decidable c]{A B:Prop}(h:¬c->A)(g:c->B):((!decide c)=fN->A)/\((!decide c)=kb->B):=⟨λe=>h (by simpa using e),λe=>g (by simpa using e)⟩
def Le(S S':Sto):Prop:=S.length<=S'.length/\∀(n:Nat) c,S[n]? =dB c->S'[n]? =dB c
def Le.refl:Le S S:=⟨B1 _,λ_ _ e=>e⟩
def Le.trans(a:Le S S')(b:Le S' S2):Le S S2:=⟨AZ a.1 b.1,λn c e=>b.2 n c (a.2 n c e)⟩
def Le.app(a:Le S S'):Le S (S'++T):=⟨by rw[Bz];have:=a.1;omega,λn c e=>by
 have:=a.2 n c e;rw[B2 (AQ.1 this).1]
 exact this⟩
def Le.set(a:Le S S')(h:S.length<=n):Le S (S'.set n c):=⟨by simpa using a.1,λm d e=>by
 rw[Bs,if_neg λq=>by have:=(AQ.1 e).1;omega]
 exact a.2 m d e⟩
def LeX(d:Nat)(S S':Sto):Prop:=S.length<=S'.length/\∀(n:Nat) c,n≠d->S[n]? =dB c->S'[n]? =dB c
def Le.toX(a:Le S S'):LeX d S S':=⟨a.1,λn c _ e=>a.2 n c e⟩
def LeX.trans(a:LeX d S S')(b:LeX d S' S2):LeX d S S2:=⟨AZ a.1 b.1,λn c h e=>b.2 n c h (a.2 n c h e)⟩
def LeX.set(a:LeX d S S'):LeX d S (S'.set d c):=⟨by simpa using a.1,λm e h q=>by
 rw[Bs,if_neg λz=>h z.symm]
 exact a.2 m e h q⟩
def LeX.set'(a:LeX d S S')(h:S.length<=n):LeX d S (S'.set n c):=⟨by simpa using a.1,λm e h' q=>by
 rw[Bs,if_neg λz=>by have:=(AQ.1 q).1;omega]
 exact a.2 m e h' q⟩
def LeX.le(a:LeX d S S')(h:S.length<=d):Le S S':=⟨a.1,λn c e=>a.2 n c (λz=>by have:=(AQ.1 e).1;omega) e⟩
def zx:(S++[c])[S.length]? =dB c:=by simp
def zr{n:Nat}{c d:Ce}(h:S[n]? =dB c):(S++[d])[n]? =dB c:=by rw[B2 (AQ.1 h).1];exact h
def yF(h:S[n]? =dB c):(S.set n c')[n]? =dB c':=by rw[Bs,if_pos rfl,if_pos (AQ.1 h).1]
def ya(h:S[m]? =dB c)(q:n≠m):(S.set n c')[m]? =dB c:=by rw[Bs,if_neg q];exact h
def vp(h:S[n]? =dB c):n<S.length:=(AQ.1 h).1
def yh(h:n<=20000):n<sizeLine:=Bp h ∅
def UN(k:P (.int (p.natAbs:Int)) S):WO (zcS [.int p] S) P:= .of (show zcS [.int p] S=dB (.int (if p<0 then -p else p),S) from rfl) (by
 rw[show(if p<0 then -p else p)=(p.natAbs:Int) by split<;>omega]
 exact k)
def zk(n:Nat)(p:Int):Prop:=p.natAbs<2^n
def zk.mono(h:zk n p)(hn:n<=m):zk m p:=B3 h (Ca ∅ hn)
def zk.le(h:zk n p):intBits p<=n:=EV.mpr h
def zk.of(h:intBits p<=n):zk n p:=EV.mp h
def zk.mul(h:zk n p)(g:zk m q):zk (n+m) (p*q):= .of (PySem.intBits_mul_le h.le g.le)
def zk.add(h:zk n p)(g:zk n q)(hm:n+1<=m):zk m (p+q):= .of (zms h.le g.le hm)
def zk.sub(h:zk n p)(g:zk n q)(hm:n+1<=m):zk m (p-q):= .of (zmt h.le g.le hm)
def zk.abs(h:zk n p)(hq:q.natAbs<=p.natAbs):zk n q:=Bp hq h
def zk.small(h:p.natAbs<1024)(hn:10<=n):zk n p:=zk.mono (n:=10) h hn
def zX(h:zk n p)(g:zk m q)(hn:n+m<=134217728)(k:P (.int (p*q)) S):WO (yk (.int p) (.int q) S) P:=zl4 (AZ (HX h.le g.le) hn) k
def zdo(h0:0<q)(h:zk 9000 q)(k:P (.int (p / q)) S):WO (YJ (.int p) (.int q) S) P:=zjL ⟨⋯,h.le⟩ (by rw[CY _ ⋯];exact k)
def zoK{N':Rho->Sto->Prop}{R':Xv->Sto->Prop}(h:WS r N R)(hn:∀ρ S,N ρ S->N' ρ S)(hr:∀x S,R x S->R' x S):WS r N' R':=by
 rcases h with⟨ρ,S,e,h⟩|⟨x,S,e,h⟩
 .exact .inl ⟨ρ,S,e,hn _ _ h⟩
 exact .inr ⟨x,S,e,hr _ _ h⟩
def Big.bits(hf:Big fu)(h:zk n p)(hn:n<=9000):p.natAbs<fu:=B3 h (AZ (Ca ∅ hn) hf)
def wd(k:P (.bl x.isNon) S):WO (zav x S) P:= .of rfl k
def zg2(k:P (.bl (!x.isNon)) S):WO (zgx x S) P:= .of rfl k
def zdp{α:Type}{l:n8 α}{a z:α}(e:(l++[a])[i]? =dB z):l[i]? =dB z\/(i=l.length/\a=z):=by
 by_cases h:i<l.length;rw[B2 h] at e;exact .inl e
 have:=(AQ.1 e).1;rw[Bz,DH] at this;obtain rfl:i=l.length:=by omega
 rw[B4 (B1 _),CP] at e;cases e;exact .inr ⟨rfl,rfl⟩
def zci{α:Type}{l:n8 α}{a z:α}(h:l.length=j)(e:(l++[a])[i]? =dB z):l[i]? =dB z\/(i=j/\a=z):=h ▸ zdp e
def zeF{α β:Type}{l:n8 α}{m:n8 β}{a z:α}{b w:β}(h:l.length=m.length)(e:(l++[a])[i]? =dB z)(g:(m++[b])[i]? =dB w):(l[i]? =dB z/\m[i]? =dB w)\/(i=l.length/\a=z/\b=w):=by
 rcases zdp e with e|⟨rfl,rfl⟩
 .rcases zdp g with g|⟨rfl,_⟩
  .exact .inl ⟨e,g⟩
  have:=(AQ.1 e).1;omega
 rcases zci h.symm g with g|⟨_,rfl⟩
 .have:=(AQ.1 g).1;omega
 exact .inr ⟨rfl,rfl,rfl⟩
end
def Pr(q:Nat):Prop:=1<q/\∀d,d∣q->d=1\/d=q
def php:∀(n k:Nat) (f:Nat->Nat),(∀i,i<k->f i<n)->(∀i j,i<j->j<k->f i≠f j)->k<=n:=by
 intro n
 induction n with
 |zero=>
  intro k f h _;cases k with
  |zero=>exact B1 _
  |succ k=>exact absurd (h 0 ⋯) ⋯
 |succ n ih=>
  intro k f h hi;cases k with
  |zero=>omega
  |succ k=>
   have:=ih k (λi=>if f i=n then f k else f i) (λi uk=>by
    have h1:=h i ⋯;have h2:=h k ⋯;have h3:=hi i k uk ⋯;split<;>omega) (λi j h9 hj=>by
    have h1:=hi i j h9 ⋯;have h2:=hi i k ⋯ ⋯;have h3:=hi j k ⋯ ⋯
    split<;>split<;>omega)
   omega
def zqe{P:Nat->Prop}:∀n,P n->∃d,P d/\∀j,j<d->¬P j:=by
 intro n
 induction n using Nat.strongRecOn with
 |ind n ih=>
  intro h;by_cases hx:∃j,j<n/\P j;obtain⟨j,h1,h2⟩:=hx;exact ih j h1 h2;exact⟨n,h,λj h1 h2=>hx ⟨j,h1,h2⟩⟩
def To(hr:1<r)(h:a^i % r=1):a^(i*j) % r=1:=by
 rw[Et,Nat.pow_mod,h,Nat.one_pow,EC hr]
def zoL{r a N:Nat}(hr:1<r)(hN:0<N)(h:a^N % r=1):∃d,d∣N/\d<r/\a^d % r=1:=by
 obtain⟨d,⟨h0,hd⟩,hm⟩:=zqe (P:=λd=>0<d/\a^d % r=1) N ⟨hN,h⟩;have dv:∀M,a^M % r=1->d∣M:=λM hM=>by
  have e1:a^M % r=a^(M % d) % r:=by
   conv=>lhs;rw[<-DV M d,F9,Fb,To hr hd,Nat.one_mul,Nat.mod_mod]
  rw[hM] at e1;by_cases hz:M % d=0;exact Nat.dvd_of_mod_eq_zero hz;exact absurd ⟨⋯,e1.symm⟩ (hm (M % d) (Fx _ h0))
 refine⟨d,dv N h,?_,hd⟩;have pos:∀i,i<d->0<a^i % r:=λi hi=>by
  apply Nat.pos_of_ne_zero;intro hz;have:a^d % r=0:=by
   rw[show d=i+(d-i) by omega,F9,Fb,hz,Nat.zero_mul,Nat.zero_mod]
  omega
 have:=php (r-1) d (λi=>a^i % r-1) (λi hi=>by
  have:=Fx (a^i) (show r>0 by omega);have:=pos i hi;omega) (λi j h9 hj=>by
  have p1:=pos i ⋯;have p2:=pos j hj;intro he;have he:a^i % r=a^j % r:=by omega
  have:a^(i+(d-j)) % r=1:=by
   rw[F9,Fb,he,<-Fb,<-F9,show j+(d-j)=d by omega,hd]
  exact hm (i+(d-j)) ⋯ ⟨⋯,this⟩)
 omega
def zqD(hp:1<p)(hF:p<F*F)(h1:a^(p-1) % p=1)(h:∀r d,1<r->r∣p->d∣p-1->a^d % r=1->F∣d):Pr p:=by
 have big:∀r,r∣p->1<r->F<r:=λr mI hr=>by
  have e1:a^(p-1) % r=1:=by
   rw[<-GZ _ mI,h1,EC hr]
  obtain⟨d,h2,h3,h4⟩:=zoL hr ⋯ e1;have:=GC (Nat.pos_of_dvd_of_pos h2 ⋯) (h r d hr mI h2 h4);omega
 refine⟨hp,λd hd=> ?_⟩;by_cases h1:d=1;exact .inl h1;by_cases h2:d=p;exact .inr h2
 exfalso;obtain⟨e,he⟩:=hd;have d0:d≠0:=λz=>by subst z;simp at he;omega
 have e0:e≠0:=λz=>by subst z;simp at he;omega
 have e1:e≠1:=λz=>by subst z;simp at he;omega
 have b1:=big d ⟨e,he⟩ ⋯;have b2:=big e ⟨d,by rw[he,DY]⟩ ⋯;have:=De (Ba b1) (Ba b2);omega
noncomputable def sqs(p:Nat):Nat->Nat->Nat
 |0,x=>x
 |j+1,x=>match x*x % p with
  |0=>0
  |y+1=>sqs p j (y+1)
set_option tactic.hygienic true in
def zoM:∀j x,sqs p j x % p=x^(2^j) % p:=by
 intro j
 induction j with
 |zero=>intro x;rw[sqs,FE,Nat.pow_one]
 |succ j ih=>
  intro x;rw[DL,DY,Et,Nat.pow_two,Nat.pow_mod,sqs];split;rename_i e;rw[e,Nat.zero_pow (Ew ∅)];rename_i y e;rw[e];exact ih (y+1)
def zqf(hp:p=k*2^(n+1)+1)(k0:0<k)(hk:k<2^(n+1))(h:sqs p n (a^k)=p-1):Pr p:=by
 have p2:p-1=k*2^n+k*2^n:=by rw[hp,Dh,DL,<-Ey,Nat.mul_two]
 have e0:0<k*2^n:=Nat.mul_pos k0 (Ew ∅);have he:a^(k*2^n) % p=p-1:=by
  rw[Et,<-zoM,h,EC ⋯]
 refine zqD (a:=a) (F:=2^(n+1)) ⋯ ?_ ?_ λr d hr mI hd h1=> ?_;have:=BR (2^(n+1)) (show k+1<=2^(n+1) from hk);rw[Hq,Nat.one_mul] at this;omega;rw[p2,F9,Fb,he];obtain⟨m,rfl⟩:∃m,p=m+2:=⟨p-2,⋯⟩;rw[show(m+2-1)*(m+2-1)=1+(m+2)*m by rw[show m+2-1=m+1 by omega];grind,Nat.add_mul_mod_self_left];exact EC ⋯
 apply Bv;intro hF;obtain⟨e,hG⟩:=hd;have pj:d∣k*2^n:=by
  by_cases h2:e % 2=0
  .refine⟨e / 2,?_⟩;have:d*e=2*(d*(e / 2)):=by rw[Nat.mul_left_comm,show 2*(e / 2)=e by omega]
   omega
  refine absurd (Nat.Coprime.dvd_of_dvd_mul_right (k:=2^(n+1)) (n:=e) (m:=d) (Nat.Coprime.pow_left _ ?_) ⟨k,?_⟩) hF
  .have:CJ 2 e∣2:=Hy ..;have h3:=GC ∅ this;have h4:CJ 2 e∣e:=Hm ..;have h5:0<CJ 2 e:=Nat.gcd_pos_of_pos_left _ ∅;apply Bv;intro h6;have:CJ 2 e=2:=by unfold Hr at h6;omega
   rw[this] at h4;omega
  rw[<-hG,hp,Dh,DY]
 obtain⟨j,hj⟩:=pj;have h3:a^(k*2^n) % r=1:=by rw[hj];exact To hr h1
 obtain⟨u,hu⟩:=mI;rw[<-GZ _ ⟨u,hu⟩,he] at h3;have h4:r∣p-2:=by
  have:=DV (p-1) r;rw[h3] at this;exact⟨(p-1) / r,⋯⟩
 have h5:=Nat.dvd_sub ⟨u,hu⟩ h4;rw[show p-(p-2)=2 by omega] at h5;have h6:=GC ∅ h5;obtain rfl:r=2:=by omega
 omega
noncomputable abbrev pN:Nat:=1000000000000000000000000000000000000000000009
noncomputable abbrev pB:Nat:=249*2^5394+1
def zmv:Pr pB:=zqf (a:=5) (k:=249) (n:=5393) rfl ∅ (*...*) (*...*)
def zfX:2^5390<=pB/\pB<2^5500/\pB % 2=1:=by decide+kernel
structure Eu(M N bf rs fb f:Int):Prop where
 pos:0<=rs/\rs<bf
 cg:∃k,f*N=rs+M*k
 cb:∃k,fb*N=bf+M*k
 dv:∀g:Int,g∣bf->g∣rs->g∣M/\g∣N
 sg:(fb<=0/\0<f/\f*bf-fb*rs=M)\/(0<=fb/\f<0/\fb*rs-f*bf=M)
 gen:∀x d k:Int,d*N=x+M*k->∃a b,x=a*bf+b*rs/\d=a*fb+b*f
def Eu.start{M N:Int}(hM:0<M):Eu M N M (N % M) 0 1:=by
 have e:=DM N M;refine⟨⟨C6 _ ⋯,BK _ hM⟩,⟨N / M,⋯⟩,⟨-1,⋯⟩,λg h1 h2=>⟨h1,?_⟩,.inl ⟨⋯,⋯,⋯⟩,λx d k h=>⟨d*(N / M)-k,d,?_,⋯⟩⟩;rw[<-e];exact Int.dvd_add (Fo h1 (Int.dvd_mul_right _ _)) h2;grind
def Eu.turn{M N bf rs fb f:Int}(h:Eu M N bf rs fb f)(hr:0<rs):Eu M N rs (bf-bf / rs*rs) f (fb-bf / rs*f):=by
 have e:=DM bf rs;have e1:bf-bf / rs*rs=bf % rs:=by rw[C9];omega
 have q1:1<=bf / rs:=by
  have:=h.pos.2;exact(Int.le_ediv_iff_mul_le hr).2 ⋯
 obtain⟨k,hk⟩:=h.cg;obtain⟨k2,fY⟩:=h.cb;refine⟨?_,⟨k2-bf / rs*k,by grind⟩,⟨k,hk⟩,λg h1 h2=>h.dv g ?_ h1,?_,λx d k hx=> ?_⟩;rw[e1];exact⟨C6 _ ⋯,BK _ hr⟩;have:=Int.dvd_add h2 (show g∣bf / rs*rs from Int.dvd_mul_of_dvd_right h1);rwa [Ha] at this
 .rcases h.sg with⟨s1,s2,s3⟩|⟨s1,s2,s3⟩
  .have:f<=bf / rs*f:=by
    have:=BH q1 (CQ s2);omega
   exact .inr ⟨⋯,⋯,by grind⟩
  have:bf / rs*f<=f:=by
   have:=BH q1 (show 0<= -f by omega);rw[DT,DT] at this;omega
  exact .inl ⟨⋯,⋯,by grind⟩
 obtain⟨a,b,h1,h2⟩:=h.gen x d k hx;exact⟨b+a*(bf / rs),a,by grind,by grind⟩
def TQ{bf rs fb f B M x d a b:Int}(hf:0<f)(uy:fb<=0)(hM:f*bf-fb*rs=M)(h0:0<=rs)(hr:rs<=B)(hB:B<bf)(hx: -B<=x/\x<=B)(hd: -B<=d/\d<=B)(h2:2*(B*B)<M)(ex:x=a*bf+b*rs)(ed:d=a*fb+b*f):¬1<=a:=by
 intro ha;have p1:bf<=a*bf:=by
  have:=BH ha (show 0<=bf by omega);omega
 by_cases hb:0<=b;have:=Df hb h0;omega
 have p2:a*fb<=0:=Int.mul_nonpos_of_nonneg_of_nonpos ⋯ uy;have p3:b*f<= -f:=by
  have:=BH (show b<= -1 by omega) (CQ hf);omega
 have uA:f<=B:=by omega
 have p4:x*f-d*rs=a*M:=by rw[<-hM];grind
 have p5:x*f<=B*B:=D4 (BH hx.2 (CQ hf)) (Bg uA ⋯);have p6: -d*rs<=B*B:=D4 (BH (show -d<=B by omega) h0) (Bg hr ⋯);have p7:M<=a*M:=by
  have:0<=B*B:=Df ⋯ ⋯;have:=BH ha (show 0<=M by omega);omega
 rw[Fe] at p6;omega
def Eu.rat{M N bf rs fb f B x d k:Int}(h:Eu M N bf rs fb f)(hr:rs<=B)(hB:B<bf)(hx: -B<=x/\x<=B)(hd: -B<=d/\d<=B)(h2:2*(B*B)<M)(e:d*N=x+M*k):∃b,x=b*rs/\d=b*f:=by
 obtain⟨a,b,e1,e2⟩:=h.gen x d k e;have h0:=h.pos.1;have:a=0:=by
  rcases h.sg with⟨s1,s2,s3⟩|⟨s1,s2,s3⟩
  .have n1:=TQ s2 s1 s3 h0 hr hB hx hd h2 e1 e2;have n2:=TQ (x:= -x) (d:= -d) (a:= -a) (b:= -b) s2 s1 s3 h0 hr hB ⋯ ⋯ h2 (by grind) (by grind);omega
  have qd: -f*bf - -fb*rs=M:=by grind
  have n1:=TQ (f:= -f) (fb:= -fb) (d:= -d) (a:=a) (b:=b) ⋯ ⋯ qd h0 hr hB hx ⋯ h2 e1 (by grind);have n2:=TQ (f:= -f) (fb:= -fb) (x:= -x) (a:= -a) (b:= -b) ⋯ ⋯ qd h0 hr hB ⋯ hd h2 (by grind) (by grind);omega
 subst this;exact⟨b,⋯,⋯⟩
def Cg(m a b:Int):Prop:=∃k,a=b+m*k
def Cg.refl:Cg m a a:=⟨0,⋯⟩
def Cg.symm(h:Cg m a b):Cg m b a:=by
 obtain⟨k,e⟩:=h;exact⟨-k,by grind⟩
def Cg.trans(h:Cg m a b)(g:Cg m b c):Cg m a c:=by
 obtain⟨k,e⟩:=h;obtain⟨l,f⟩:=g;exact⟨k+l,by grind⟩
def Cg.add(h:Cg m a b)(g:Cg m c d):Cg m (a+c) (b+d):=by
 obtain⟨k,e⟩:=h;obtain⟨l,f⟩:=g;exact⟨k+l,by grind⟩
def Cg.sub(h:Cg m a b)(g:Cg m c d):Cg m (a-c) (b-d):=by
 obtain⟨k,e⟩:=h;obtain⟨l,f⟩:=g;exact⟨k-l,by grind⟩
def Cg.mul(h:Cg m a b)(g:Cg m c d):Cg m (a*c) (b*d):=by
 obtain⟨k,e⟩:=h;obtain⟨l,f⟩:=g;exact⟨k*d+b*l+m*k*l,by grind⟩
def Cg.mod(m a:Int):Cg m (a % m) a:=⟨-(a / m),by have:=DM a m;grind⟩
def Cg.dvd:Cg m a 0↔m∣a:=⟨λ⟨k,e⟩=>⟨k,⋯⟩,λ⟨k,e⟩=>⟨k,⋯⟩⟩
def Cg.small(h:Cg m a b)(h1:a-b<m)(h2:b-a<m):a=b:=by
 obtain⟨k,e⟩:=h;by_cases h0:k=0;subst h0;omega;by_cases hk:1<=k;have:=Bg hk (show 0<=m by omega);omega;have:=Bg (show 1<= -k by omega) (show 0<=m by omega);rw[DT] at this;omega
noncomputable def zy(ps:n8 (Nat×Int))(x:Nat->Int):Int:=(ps.map λp=>p.2*x p.1).sum
def TR{x:Nat->Int}:zy [] x=0:=rfl
def zU{x:Nat->Int}:zy (p::ps) x=p.2*x p.1+zy ps x:=by simp[zy]
def TU{x:Nat->Int}:zy (ps++qs) x=zy ps x+zy qs x:=by simp[zy]
def TV{x:Nat->Int}:zy [p] x=p.2*x p.1:=by simp[zy]
def yQ{x y:Nat->Int}(h:∀p∈ps,x p.1=y p.1):zy ps x=zy ps y:=by
 unfold zy;rw[Du λp hp=>by rw[h p hp]]
def zdq{x y:Nat->Int}(h:∀p∈ps,Cg m (x p.1) (y p.1)):Cg m (zy ps x) (zy ps y):=by
 induction ps with
 |nil=>exact .refl
 |cons p r ih=>
  rw[zU,zU];exact(Cg.mul .refl (h p (.head _))).add (ih λq hq=>h q (.tail _ hq))
def Yt:zy ps (λ_=>0)=0:=by
 induction ps with
 |nil=>rfl
 |cons p r ih=>rw[zU,ih];simp
def Xm{x y:Nat->Int}:zy ps (λc=>a*x c+b*y c)=a*zy ps x+b*zy ps y:=by
 induction ps with
 |nil=>simp[zy]
 |cons p r ih=>rw[zU,zU,zU,ih];grind
def UO{x:Nat->Int}:zy ps (λc=>a*x c)=a*zy ps x:=by
 induction ps with
 |nil=>simp[zy]
 |cons p r ih=>rw[zU,zU,ih];grind
def zkv{x:Nat->Int}:Cg m (zy (ps.map λp=>(p.1,p.2*v % m)) x) (v*zy ps x):=by
 induction ps with
 |nil=>exact⟨0,by simp[zy]⟩
 |cons p r ih=>
  rw[Be,zU,zU];have h:Cg m (p.2*v % m*x p.1) (p.2*v*x p.1):=(Cg.mod m _).mul .refl;have:=h.add ih;rwa [show p.2*v*x p.1+v*zy r x=v*(p.2*x p.1+zy r x) by grind] at this
structure Stp where
 row:Nat
 col:Nat
 inv:Int
 fac:n8 (Nat×Int)
 par:n8 (Nat×Int)
noncomputable def Stp.at(s:Stp)(x:Nat->Int):Int:=x s.col+zy s.par x
noncomputable def ats(ss:n8 Stp)(x:Nat->Int)(j:Nat):Int:=((ss[j]?).map λs=>s.at x).getD 0
noncomputable def zQ(ss:n8 Stp):n8 Nat:=ss.map (·.col)
def Spn(m:Int)(ss:n8 Stp)(ps:n8 (Nat×Int)):Prop:=∃fs:n8 (Nat×Int),(∀f∈fs,f.1<ss.length)/\∀x,Cg m (zy ps x) (zy fs (ats ss x))
structure zkw(m:Int)(many:Nat)(rows:n8 (n8 (Nat×Int)×Int))(ss:n8 Stp)(s:Stp):Prop where
 col:s.col<many/\s.col∉zQ ss
 par:∀p∈s.par,p.1<many/\p.1≠s.col/\p.1∉zQ ss
 fac:∀p∈s.fac,p.1<ss.length
 eq:∃ps l u,rows[s.row]? =dB (ps,l)/\Cg m (u*s.inv) 1/\∀x,Cg m (zy ps x) (zy s.fac (ats ss x)+u*s.at x)
inductive Sts(m:Int)(many:Nat)(rows:List (List (Nat×Int)×Int)):List Stp->Prop where
 |nil:Sts m many rows []
 |snoc {ss:List Stp} {s:Stp}:Sts m many rows ss->zkw m many rows ss s->Sts m many rows (ss++[s])
def TW{x:Nat->Int}(h:j<ss.length):ats (ss++ts) x j=ats ss x j:=by
 unfold ats;rw[B2 h]
def zaW{s:Stp}{x:Nat->Int}:ats (ss++[s]) x ss.length=s.at x:=by
 unfold ats;rw[B4 (B1 _)];simp
def Spn.app(h:Spn m ss ps):Spn m (ss++ts) ps:=by
 obtain⟨fs,h1,h2⟩:=h;refine⟨fs,λf hf=>by have:=h1 f hf;rw[Bz];omega,λx=> ?_⟩;rw[yQ (y:=ats ss x) λp hp=>TW (h1 p hp)];exact h2 x
def Sts.at(h:Sts m many rows ss):∀i s,ss[i]? =dB s->zkw m many rows (ss.take i) s:=by
 induction h with
 |nil=>intro i s e;simp at e
 | @snoc ss s h hs ih=>
  intro i t e;by_cases hi:i<ss.length;rw[B2 hi] at e;rw[F6 (Ba hi)];exact ih i t e
  have um:i=ss.length:=by
   have:=(AQ.1 e).1;rw[Bz] at this;simp at this;omega
  subst um;rw[B4 (B1 _)] at e;simp at e;subst e;rw[F6 (B1 _),Bx];exact hs
def Sts.ats0{x:Nat->Int}(h:Sts m many rows ss):(∀s∈ss,∀ps l,rows[s.row]? =dB (ps,l)->Cg m (zy ps x) 0)->∀j,j<ss.length->Cg m (ats ss x j) 0:=by
 induction h with
 |nil=>intro _ j hj;simp at hj
 | @snoc ss s h hs ih=>
  intro hx j hj;have ih:=ih λt ht=>hx t (Dl _ ht);by_cases mO:j<ss.length;rw[TW mO];exact ih j mO
  obtain rfl:j=ss.length:=by rw[Bz] at hj;simp at hj;omega
  rw[zaW];obtain⟨ps,l,u,e1,e2,e3⟩:=hs.eq;have h1:=hx s (by simp) ps l e1;have h2:Cg m (zy s.fac (ats ss x)) 0:=by
   have:=zdq (m:=m) (ps:=s.fac) (x:=ats ss x) (y:=λ_=>0) λp hp=>ih p.1 (hs.fac p hp);rwa [Yt] at this
  have h3:=(e3 x).symm.trans h1;obtain⟨k1,f1⟩:=h2;obtain⟨k2,f2⟩:=h3;obtain⟨k3,f3⟩:=e2;exact⟨s.inv*(k2-k1)-k3*s.at x,by grind⟩
def UP{s:Stp}:c∉zQ (ss++[s])↔c∉zQ ss/\c≠s.col:=by
 unfold zQ;rw[Ci,Bf,not_or,Dz,B5]
def Sts.zero{x:Nat->Int}(h:Sts m many rows ss):(∀c,c∉zQ ss->Cg m (x c) 0)->(∀j,j<ss.length->Cg m (ats ss x j) 0)->∀c,Cg m (x c) 0:=by
 induction h with
 |nil=>intro h1 _ c;exact h1 c (by simp[zQ])
 | @snoc ss s h hs ih=>
  intro h1 h2;have n5:=h2 ss.length (by simp);rw[zaW] at n5;have hp:∀p∈s.par,Cg m (x p.1) 0:=λp hp=>by
   obtain⟨_,e1,e2⟩:=hs.par p hp;exact h1 p.1 (UP.2 ⟨e2,e1⟩)
  have hd:Cg m (zy s.par x) 0:=by
   have:=zdq (m:=m) (ps:=s.par) (x:=x) (y:=λ_=>0) hp;rwa [Yt] at this
  have hc:Cg m (x s.col) 0:=by
   have:=n5.sub hd;unfold Stp.at at this;rwa [show x s.col+zy s.par x-zy s.par x=x s.col by omega,Hb] at this
  refine ih (λc eK=> ?_) λj hj=> ?_;by_cases e:c=s.col;rw[e];exact hc;exact h1 c (UP.2 ⟨eK,e⟩);have:=h2 j (by rw[Bz];omega);rwa [TW hj] at this
def Sts.pow(h:Sts m many rows ss)(hm:m≠0):∀(k:Nat) (x:Nat->Int),(∀c,c∉zQ ss->x c=0)->(∀s∈ss,∀ps l,rows[s.row]? =dB (ps,l)->m^k∣zy ps x)->∀c,m^k∣x c:=by
 intro k
 induction k with
 |zero=>intro x _ _ c;rw[F0];exact⟨x c,⋯⟩
 |succ k ih=>
  intro x h1 h2;have z:=h.zero (x:=x) (λc hc=>by rw[h1 c hc];exact .refl) (h.ats0 λs hs ps l e=>Cg.dvd.2 (Fo ⟨m^k,by rw[D5,C9]⟩ (h2 s hs ps l e)));have hy:∀c,x c=m*(x c / m):=λc=>(Gv (Cg.dvd.1 (z c))).symm;have:=ih (λc=>x c / m) (λc hc=>by rw[h1 c hc];exact Int.zero_ediv m) λs hs ps l e=>by
   have h3:=h2 s hs ps l e;rw[yQ (y:=λc=>m*(x c / m)) λp _=>hy p.1,UO,D5,C9] at h3;exact Int.dvd_of_mul_dvd_mul_left hm h3
  intro c;rw[hy c,D5,C9];exact Int.mul_dvd_mul (Hc m) (this c)
def Sts.only(h:Sts m many rows ss)(hm:2<=m){x:Nat->Int}(h1:∀c,c∉zQ ss->x c=0)(h2:∀s∈ss,∀ps l,rows[s.row]? =dB (ps,l)->zy ps x=0)(c:Nat):x c=0:=by
 have h3:=h.pow ⋯ (x c).natAbs x h1 (λs hs ps l e=>by rw[h2 s hs ps l e];exact Int.dvd_zero _) c;have h4:∀n:Nat,(n:Int)<m^n:=λn=>by
  induction n with
  |zero=>simp
  |succ n ih=>
   rw[D5];have:=Bg hm (show 0<=m^n by omega);omega
 have h5:=h4 (x c).natAbs;obtain⟨k,e⟩:=h3;by_cases hk:k=0;rw[e,hk,BU]
 exfalso;have:m^(x c).natAbs<=(m^(x c).natAbs*k).natAbs:=by
  rw[BV];have:=Cp (m^(x c).natAbs).natAbs (show 1<=k.natAbs by omega);omega
 rw[<-e] at this;omega
def Sts.solve{x vs lasts:Nat->Int}(h:Sts m many rows ss)(hv:∀i s,ss[i]? =dB s->Cg m (vs i) ((lasts i-zy s.fac vs)*s.inv))(hx:∀i,i<ss.length->Cg m (ats ss x i) (vs i)){i:Nat}{s:Stp}(e:ss[i]? =dB s)(hr:rows[s.row]? =dB (ps,l)):Cg m (zy ps x) (lasts i):=by
 have hi:=(AQ.1 e).1;have so:=h.at i s e;obtain⟨ps',l',u,e1,e2,e3⟩:=so.eq;rw[hr] at e1;cases e1;have h1:Cg m (zy s.fac (ats (ss.take i) x)) (zy s.fac vs):=zdq λp hp=>by
  have jE:=so.fac p hp;rw[BI] at jE;have:=hx p.1 ⋯;rwa [show ats ss x p.1=ats (ss.take i) x p.1 by unfold ats;rw[CN ⋯]] at this
 have h2:Cg m (s.at x) (vs i):=by
  have:=hx i hi;rwa [show ats ss x i=s.at x by unfold ats;rw[e];rfl] at this
 have h3:=(e3 x).trans (h1.add ((Cg.refl (a:=u)).mul (h2.trans (hv i s e))));obtain⟨k1,f1⟩:=h3;obtain⟨k2,f2⟩:=e2;exact⟨k1+k2*(lasts i-zy s.fac vs),by grind⟩
noncomputable def zby(x:Nat->Int)(c:Nat)(v:Int):Nat->Int:=λd=>if d=c then v else x d
def Bk(m:Int)(ss:n8 Stp)(vs:Nat->Int)(k:Nat)(x:Nat->Int):Prop:=(∀j,k<=j->j<ss.length->Cg m (ats ss x j) (vs j))/\∀c,c∉zQ (ss.drop k)->x c=0
def Sts.back{x vs:Nat->Int}{s:Stp}(h:Sts m many rows ss)(e:ss[k]? =dB s)(b:Bk m ss vs (k+1) x)(hv:Cg m v (vs k-zy s.par x)):Bk m ss vs k (zby x s.col v):=by
 have hk:=(AQ.1 e).1;have hd:ss.drop k=s::ss.drop (k+1):=by
  rw[Ft hk,(AQ.1 e).2]
 refine⟨λj hj iZ=> ?_,λc hc=> ?_⟩
 .by_cases ug:j=k
  .subst ug;have e2:ats ss (zby x s.col v) j=s.at (zby x s.col v):=by unfold ats;rw[e];rfl
   rw[e2];unfold Stp.at;rw[yQ (y:=x) λp hp=>if_neg ((h.at j s e).par p hp).2.1];have:zby x s.col v s.col=v:=if_pos rfl;rw[this];have:=hv.add (Cg.refl (a:=zy s.par x));rwa [Ha] at this
  have e3:=AK iZ;have so:=h.at j _ e3;have oT:s.col∈zQ (ss.take j):=Bq.2 ⟨s,AX (i:=k) (by rw[CN ⋯];exact e),rfl⟩;have:=b.1 j ⋯ iZ;have e4:∀y,ats ss y j=(ss[j]).at y:=λy=>by unfold ats;rw[e3];rfl
  rw[e4] at this ⊢;unfold Stp.at at this ⊢;rw[yQ (y:=x) λp hp=>if_neg λz:p.1=s.col=>(so.par p hp).2.2 (z ▸ oT),show zby x s.col v (ss[j]).col=x (ss[j]).col from if_neg λz:(ss[j]).col=s.col=>so.col.2 (z ▸ oT)];exact this
 rw[hd] at hc;have hc:c≠s.col/\c∉zQ (ss.drop (k+1)):=by
  unfold zQ at hc ⊢;rw[Be,Bi,not_or] at hc;exact hc
 show zby x s.col v c=0;unfold zby;rw[if_neg hc.1];exact b.2 c hc.2
def Sts.nodup(h:Sts m many rows ss):(zQ ss).Nodup/\∀c∈zQ ss,c<many:=by
 induction h with
 |nil=>exact⟨Gk,λc hc=>nomatch hc⟩
 | @snoc ss s h hs ih=>
  unfold zQ at ih ⊢;rw[Ci,Dz];refine⟨Hn.2 ⟨ih.1,(by simp),λa ha b hb=> ?_⟩,λc hc=> ?_⟩;rw[B5.1 hb];intro z;exact hs.col.2 (by unfold zQ;rw[<-z];exact ha);rcases Bf.1 hc with hc|hc;exact ih.2 c hc;rw[B5.1 hc];exact hs.col.1
def Sts.le(h:Sts m many rows ss):ss.length<=many:=by
 obtain⟨n1,n2⟩:=h.nodup;have hl:(zQ ss).length=ss.length:=AV ..;have e:∀i,i<ss.length->∃hi:i<(zQ ss).length,((zQ ss)[i]?).getD 0=(zQ ss)[i]:=λi hi=>⟨⋯,by rw[AK ⋯];rfl⟩;refine php many ss.length (λi=>((zQ ss)[i]?).getD 0) (λi hi=> ?_) λi j h9 hj=> ?_;obtain⟨iw,e1⟩:=e i hi;rw[e1];exact n2 _ (C8 _)
 obtain⟨iw,e1⟩:=e i ⋯;obtain⟨gm,e2⟩:=e j hj;rw[e1,e2];exact λz=>by have:=(CK n1).1 z;omega
noncomputable def yt(es:n8 (Nat×Int))(c:Nat):pU Int:=(es.find? λp=>decide (p.1=c)).map (·.2)
noncomputable def UQ(es:n8 (Nat×Int))(c:Nat)(v:Int):n8 (Nat×Int):=if (es.any λp=>decide (p.1=c))=fN then es.map (λp=>if p.1=c then (p.1,v) else p) else es++[(c,v)]
noncomputable def xE(es:n8 (Nat×Int))(c:Nat):n8 (Nat×Int):=es.filter λp=>decide (p.1≠c)
def NdE(es:n8 (Nat×Int)):Prop:=(es.map (·.1)).Nodup
def zfY(h:∀p∈es,p.1≠c):yt es c=fC:=by
 unfold yt;rw[GY.2 λp hp=>by simpa using h p hp];rfl
def zcj(h:∀p∈es,p.1≠c):xE es c=es:=List.filter_eq_self.2 λp hp=>by simpa using h p hp
def Vs:yt (p::es) c=if p.1=c then dB p.2 else yt es c:=by
 unfold yt;rw[Ct];by_cases h:p.1=c;rw[if_pos h,decide_eq_true h];rfl;rw[if_neg h,decide_eq_false h]
def zh4:xE (p::es) c=if p.1=c then xE es c else p::xE es c:=by
 unfold xE;rw[Dp];by_cases h:p.1=c;rw[if_pos h,if_neg (by simpa using h)];rw[if_neg h,if_pos (by simpa using h)]
def NdE.tail(h:NdE (p::es)):NdE es/\∀q∈es,q.1≠p.1:=by
 unfold NdE at h ⊢;rw[Be,Cb] at h;exact⟨h.2,λq hq e=>h.1 (Bq.2 ⟨q,hq,e⟩)⟩
def zg3{x:Nat->Int}(h:NdE es):zy es x=(yt es c).getD 0*x c+zy (xE es c) x:=by
 induction es with
 |nil=>simp[yt,xE,zy]
 |cons p r ih=>
  obtain⟨h1,h2⟩:=h.tail;rw[zU,Vs,zh4];by_cases e:p.1=c;rw[if_pos e,if_pos e,zcj λq hq=>e ▸ h2 q hq,e];rfl;rw[if_neg e,if_neg e,zU,ih h1];omega
def zg4(h:NdE es):NdE (xE es c):=(GK.map _).nodup h
def Wp(h:p∈xE es c):p∈es/\p.1≠c:=by
 unfold xE at h;rw[Dv] at h;exact⟨h.1,by simpa using h.2⟩
def zeG(h:p∈UQ es c v):(p.1=c/\p.2=v)\/p∈es:=by
 unfold UQ at h;split at h;obtain⟨q,hq,rfl⟩:=Bq.1 h;by_cases e:q.1=c;rw[if_pos e];exact .inl ⟨e,rfl⟩;rw[if_neg e];exact .inr hq;rcases Bf.1 h with h|h;exact .inr h;left;rw[B5.1 h];exact⟨rfl,rfl⟩
set_option tactic.hygienic true in
def zmw(h:NdE es):NdE (UQ es c v):=by
 unfold UQ;split
 .have:(es.map λp=>if p.1=c then (p.1,v) else p).map (·.1)=es.map (·.1):=by
   rw[Ec];refine Du λp _=> ?_;simp only[GD];split<;>rfl
  unfold NdE;rw[this];exact h
 rename_i hn;unfold NdE;rw[Ci,Hn];refine⟨h,by simp,λa ha b hb e=> ?_⟩;obtain⟨p,hp,rfl⟩:=Bq.1 ha;have hb:b=c:=by simpa using hb
 exact hn (Dq.2 ⟨p,hp,by simpa using e.trans hb⟩)
def zkx:(UQ es c v).length<=es.length+1:=by
 unfold UQ;split<;>simp
set_option tactic.hygienic true in
def zmx{x:Nat->Int}(h:NdE es):zy (UQ es c v) x=zy es x+(v-(yt es c).getD 0)*x c:=by
 unfold UQ;split
 .rename_i ha
  induction es with
  |nil=>simp at ha
  |cons p r ih=>
   obtain⟨h1,h2⟩:=h.tail;rw[Be,zU,zU,Vs];by_cases e:p.1=c
   .have hr:(r.map λp=>if p.1=c then (p.1,v) else p)=r:=by
     conv=>rhs;rw[<-List.map_id r]
     exact Du λq hq=>if_neg λz:q.1=c=>h2 q hq (z.trans e.symm)
    rw[if_pos e,if_pos e,hr,<-e];show v*x p.1+zy r x=p.2*x p.1+zy r x+(v-p.2)*x p.1;grind
   rw[if_neg e,if_neg e,ih h1 (by simpa [e] using ha)];omega
 rename_i hn;rw[TU,TV,zfY λp hp e=>hn (Dq.2 ⟨p,hp,by simpa using e⟩)];show _+v*x c=_+(v-0)*x c;rw[Hb]
def UR(h:NdE es)(hp:p∈es):yt es p.1=dB p.2:=by
 induction es with
 |nil=>cases hp
 |cons q r ih=>
  obtain⟨h1,h2⟩:=h.tail;rw[Vs];rcases Bi.1 hp with rfl|hp;rw[if_pos rfl];rw[if_neg λz=>h2 p hp z.symm];exact ih h1 hp
def zmy{x:Nat->Int}:Cg m (zy ((es.filter λp=>decide (p.2 % m≠0)).map λp=>(p.1,p.2 % m)) x) (zy es x):=by
 induction es with
 |nil=>exact .refl
 |cons p r ih=>
  rw[Dp];by_cases e:p.2 % m≠0;rw[if_pos (decide_eq_true e),Be,zU,zU];exact((Cg.mod m p.2).mul .refl).add ih
  rw[if_neg (by simpa using e),zU];have e:p.2 % m=0:=by simpa using e
  have h0:Cg m 0 p.2:=by have:=Cg.mod m p.2;rwa [e] at this
  have:=(h0.mul (Cg.refl (a:=x p.1))).add ih;rwa [CW,Di] at this
noncomputable def yX:Nat->(Nat->Int)->Int
 |0,_=>0
 |n+1,f=>yX n f+f n
def xO{f g:Nat->Int}:∀n,(∀j,j<n->f j=g j)->yX n f=yX n g:=by
 intro n
 induction n with
 |zero=>intro _;rfl
 |succ n ih=>intro h;rw[yX,yX,ih λj hj=>h j ⋯,h n ⋯]
def zaX{f g:Nat->Int}:∀n,yX n (λj=>f j-g j)=yX n f-yX n g:=by
 intro n
 induction n with
 |zero=>rfl
 |succ n ih=>rw[yX,yX,yX,ih];omega
def zmz{f:Nat->Int}:∀n,(∀j,j<n->(f j).natAbs<=B)->(yX n f).natAbs<=n*B:=by
 intro n
 induction n with
 |zero=>intro _;simp[yX]
 |succ n ih=>
  intro h;have h1:=ih λj hj=>h j ⋯;have h2:=h n ⋯;rw[yX,GU];omega
noncomputable def yO:Nat->(Nat->Nat)->Nat
 |0,_=>1
 |n+1,f=>yO n f*f n
def zky{f g:Nat->Nat}:∀n,(∀j,j<n->f j<=g j)->yO n f<=yO n g:=by
 intro n
 induction n with
 |zero=>intro _;exact B1 _
 |succ n ih=>intro h;exact De (ih λj hj=>h j ⋯) (h n ⋯)
def zh5{f:Nat->Nat}:∀n,yO n (λj=>f j*c)=yO n f*c^n:=by
 intro n
 induction n with
 |zero=>simp[yO]
 |succ n ih=>rw[yO,yO,ih,DL];grind
noncomputable def TB(w g:Nat->Nat):Nat->Nat
 |0=>0
 |k+1=>TB w g k+g k*yO k w
def zdr{w g:Nat->Nat}:∀k,(∀i,i<k->g i<w i)->TB w g k<yO k w:=by
 intro k
 induction k with
 |zero=>intro _;exact Nat.one_pos
 |succ k ih=>
  intro h;have h1:=ih λi hi=>h i ⋯;have h2:=h k ⋯;rw[TB,yO];have:=Cp (yO k w) (show g k+1<=w k from h2);rw[Nat.mul_succ,DY (yO k w) (g k)] at this;omega
def zkz{w g h:Nat->Nat}:∀k,(∀i,i<k->g i<w i)->(∀i,i<k->h i<w i)->TB w g k=TB w h k->∀i,i<k->g i=h i:=by
 intro k
 induction k with
 |zero=>intro _ _ _ i hi;omega
 |succ k ih=>
  intro h1 h2 e i hi;have g1:=zdr k λi hi=>h1 i ⋯;have g2:=zdr k λi hi=>h2 i ⋯;rw[TB,TB] at e;have p0:0<yO k w:=by omega
  have e1:g k=h k:=by
   have a1:(TB w g k+g k*yO k w) / yO k w=g k:=by rw[Gn _ _ p0,Hz g1,E8]
   have a2:(TB w h k+h k*yO k w) / yO k w=h k:=by rw[Gn _ _ p0,Hz g2,E8]
   rw[<-a1,<-a2,e]
  by_cases hk:i=k;rw[hk];exact e1;rw[e1] at e;exact ih (λi hi=>h1 i ⋯) (λi hi=>h2 i ⋯) ⋯ i ⋯
def zmA(hb:0<b):∀(n m m':Nat),m<b^n->m'<b^n->(∀j,j<n->m / b^j % b=m' / b^j % b)->m=m':=by
 intro n
 induction n with
 |zero=>intro m m' h1 h2 _;rw[FE] at h1 h2;omega
 |succ n ih=>
  intro m m' h1 h2 h;have h0:=h 0 ⋯;rw[FE,Nat.div_one,Nat.div_one] at h0;have e:m / b=m' / b:=ih _ _ (Gw (by rw[<-GF];exact h1)) (Gw (by rw[<-GF];exact h2)) λj hj=>by
   have:=h (j+1) ⋯;rwa [GF,<-Gb,<-Gb] at this
  rw[<-DV m b,<-DV m' b,e,h0]
def zoN(hn:n=k+1)(A:Nat->Nat->Int)(B:Nat->Nat)(hA:∀i,i<k->∀j,j<n->(A i j).natAbs<=B i):∃x:Nat->Int,(∃j,j<n/\x j≠0)/\(∀j,n<=j->x j=0)/\(∀j,(x j).natAbs<=yO k λi=>2*n*B i+1)/\∀i,i<k->yX n (λj=>A i j*x j)=0:=by
 obtain⟨H,hH⟩:∃H,H=yO k λi=>2*n*B i+1:=⟨_,rfl⟩;rw[<-hH];let dg:Nat->Nat->Nat:=λm j=>m / (H+1)^j % (H+1);let val:Nat->Nat->Int:=λm i=>yX n λj=>A i j*(dg m j:Int);let w:Nat->Nat:=λi=>2*n*B i*H+1;let g:Nat->Nat->Nat:=λm i=>(val m i+(n*(B i*H):Nat)).toNat;have dl:∀m j,dg m j<=H:=λm j=>Ho (Fx _ ⋯);have vb:∀m i,i<k->(val m i).natAbs<=n*(B i*H):=λm i hi=>zmz n λj hj=>by
  rw[BV,Ed];exact De (hA i hi j hj) (dl m j)
 have gl:∀m i,i<k->g m i<w i:=λm i hi=>by
  have:=vb m i hi;show(val m i+(n*(B i*H):Nat)).toNat<2*n*B i*H+1;rw[show 2*n*B i*H=n*(B i*H)+n*(B i*H) by rw[Ey,Ey,Hs,<-Hq,<-Hs]];omega
 have cJ:yO k w<(H+1)^n:=by
  have h1:yO k w<=yO k λi=>(2*n*B i+1)*(H+1):=zky k λi _=>by
   show 2*n*B i*H+1<=(2*n*B i+1)*(H+1);rw[Hq,Nat.mul_add];omega
  rw[zh5,<-hH] at h1;rw[hn,DL,DY];have h2:0<(H+1)^k:=Ew ⋯;have h3:H*(H+1)^k<(H+1)*(H+1)^k:=Nat.mul_lt_mul_of_pos_right ⋯ h2;omega
 have hex:∃m m',m<m'/\m'<(H+1)^n/\TB w (g m) k=TB w (g m') k:=by
  apply Bv;intro dO;have:=php (yO k w) ((H+1)^n) (λm=>TB w (g m) k) (λm _=>zdr k λi hi=>gl m i hi) λm m' h1 h2 e=>dO ⟨m,m',h1,h2,e⟩;omega
 obtain⟨m,m',h1,h2,e⟩:=hex;have ev:=zkz k (λi hi=>gl m i hi) (λi hi=>gl m' i hi) e;refine⟨λj=>if j<n then (dg m j:Int)-(dg m' j:Int) else 0,?_,λj hj=>if_neg ⋯,λj=> ?_,λi hi=> ?_⟩
 .apply Bv;intro dO;have:m=m':=zmA (b:=H+1) ⋯ n m m' ⋯ h2 λj hj=>by
   apply Bv;intro cx;refine dO ⟨j,hj,?_⟩;dsimp only;rw[if_pos hj];show((m / (H+1)^j % (H+1):Nat):Int)-((m' / (H+1)^j % (H+1):Nat):Int)≠0;omega
  omega
 .dsimp only;have a1:=dl m j;have a2:=dl m' j;split<;>omega
 have e1:=ev i hi;have b1:=vb m i hi;have b2:=vb m' i hi;have e2:val m i=val m' i:=by
  have:(val m i+(n*(B i*H):Nat)).toNat=(val m' i+(n*(B i*H):Nat)).toNat:=e1;omega
 have e3:yX n (λj=>A i j*(if j<n then (dg m j:Int)-(dg m' j:Int) else 0))=yX n (λj=>A i j*(dg m j:Int)-A i j*(dg m' j:Int)):=xO n λj hj=>by rw[if_pos hj,Gc]
 rw[e3,zaX];show val m i-val m' i=0;omega
def Gst:Nat->Nat->Nat->Prop
 |0,_,_=>False
 |n+1,a,b=>b=0\/Gst n b (a % b)
def zoO:∀(n k1 k2 a b:Nat),b<=a->a<2^k1->b<2^k2->k1+k2<n->Gst n a b:=by
 intro n
 induction n with
 |zero=>intro k1 k2 a b _ _ _ h;omega
 |succ n ih=>
  intro k1 k2 a b gu h1 h2 h;rcases Hd b with z|z;exact .inl z
  refine .inr ?_;cases k1 with
  |zero=>rw[FE] at h1;omega
  |succ k1=>
   have hr:=Fx a z;have hq:b+a % b<=a:=by
    have e:=DV a b;have:b*1<=b*(a / b):=Cp _ (Nat.div_pos gu z);omega
   rw[DL] at h1;exact ih k2 k1 b (a % b) ⋯ h2 ⋯ ⋯
def zoP(hb:b<2^k)(h:2*k+1<n):Gst n a b:=by
 obtain⟨n,rfl⟩:∃m,n=m+1:=⟨n-1,⋯⟩;rcases Hd b with z|z;exact .inl z;have hr:=Fx a z;exact .inr (zoO n k k b (a % b) ⋯ hb ⋯ ⋯)
def zk.fuel{n:Nat}{p t:Int}(hb:Big fu)(h:zk n p)(hn:n<=1000000):Gst fu t.natAbs p.natAbs:=by
 apply zoP h;have h2:2^25<=fu:=AZ (Ca ∅ ∅) hb;have h1:2^25=33554432:=by decide
 omega
section
variable{M N B:Int}
def Eu.fle{bf rs fb f:Int}(h:Eu M N bf rs fb f):(f.natAbs:Int)<=M/\(fb.natAbs:Int)*rs<=M/\f≠0:=by
 have p:=h.pos;rcases h.sg with⟨s1,s2,s3⟩|⟨s1,s2,s3⟩
 .have h1:0<= -fb*rs:=Df ⋯ p.1;have h2:f<=f*bf:=by
   have:=Bg (show 1<=bf by omega) (CQ s2);omega
  have h3:0<=f*bf:=Df ⋯ ⋯;rw[Fe] at h1;refine⟨⋯,?_,⋯⟩;rw[show((fb.natAbs:Int))= -fb by omega,Fe];omega
 have h1:0<=fb*rs:=Df s1 p.1;have h2: -f<= -f*bf:=by
  have:=Bg (show 1<=bf by omega) (show 0<= -f by omega);omega
 have h3:0<= -f*bf:=Df ⋯ ⋯;rw[Fe] at h2 h3;refine⟨⋯,?_,⋯⟩;rw[show((fb.natAbs:Int))=fb by omega];omega
def zfZ(hM:0<M/\zk 50000 M)(hb:0<=B):∀(n:Nat) (bf rs fb f:Int) (a7 a8 a9:pU Xv),Eu M N bf rs fb f->B<bf->bf<=M->Gst n bf.natAbs rs.natAbs->
  WS (YI (bE (eOp dGt (za 4) (za 2))) (zm (zu (eOp YO (za 3) (za 4)) (gN 7)) (zm (zu (eOp Zy (za 3) (eOp yk (za 7) (za 4))) (gN 8)) (zm (zu (za 4) (gN 3)) (zm (zu (za 8) (gN 4)) (zm (zu (eOp Zy (za 5) (eOp yk (za 7) (za 6))) (gN 9)) (zm (zu (za 6) (gN 5)) (zu (za 9) (gN 6)))))))) n [dB a,dB b,dB (.int B),dB (.int bf),dB (.int rs),dB (.int fb),dB (.int f),a7,a8,a9] S)
   (λρ S'=>S=S'/\∃bf rs fb f a7 a8 a9,ρ=[dB a,dB b,dB (.int B),dB (.int bf),dB (.int rs),dB (.int fb),dB (.int f),a7,a8,a9]/\Eu M N bf rs fb f/\rs<=B/\B<bf/\bf<=M) (λ_ _=>False):=by
 intro n
 induction n with
 |zero=>intro bf rs fb f a7 a8 a9 _ _ _ h;exact h.elim
 |succ n ih=>
  intro bf rs fb f a7 a8 a9 eu hB uO hn;apply YL;ext;refine yp (λh=> ?_) (λh=> ?_)
  .have p:=eu.pos;have hr:0<rs:=by omega
   have t:=eu.turn hr;have b1:∀z:Int,(z.natAbs:Int)<=M->zk 50000 z:=λz hz=>hM.2.abs ⋯;have q0:0<=bf / rs:=Int.ediv_nonneg ⋯ ⋯;have q1:bf / rs<=bf:=HA _ ⋯;ext;apply XR ⋯;rw[CY _ ⋯];ext;apply zX (b1 (bf / rs) ⋯) (b1 rs ⋯) ∅;ext;apply zX (b1 (bf / rs) ⋯) (b1 f eu.fle.1) ∅;ext;have em:bf-bf / rs*rs=bf % rs:=by have:=DM bf rs;rw[C9] at this;omega
   exact ih _ _ _ _ _ _ _ t ⋯ ⋯ (by rw[em,Int.natAbs_emod_of_nonneg ⋯];exact hn.resolve_left ⋯)
  exact⟨rfl,bf,rs,fb,f,_,_,_,rfl,eu,⋯,hB,uO⟩
def zg5(hf:Big fu)(hM:0<M/\zk 50000 M)(hb:0<=B)(pL:B<M):W (xD fu [.int N,.int M,.int B] S) λv S'=>S=S'/\∃bf rs fb f,v= .tup [.int rs,.int f]/\Eu M N bf rs fb f/\rs<=B/\B<bf:=by
 walk_at "wr";unfold va;ext;apply xy hM.1;ext;refine vZ (λρ S'=>S=S'/\∃bf rs fb f a7 a8 a9,ρ=[dB (.int N),dB (.int M),dB (.int B),dB (.int bf),dB (.int rs),dB (.int fb),dB (.int f),a7,a8,a9]/\Eu M N bf rs fb f/\rs<=B/\B<bf/\bf<=M) (zoK (zfZ hM hb fu _ _ _ _ _ _ _ (Eu.start hM.1) pL (Es _) ?_) (λ_ _ h=>h) (λ_ _ z=>z.elim)) ?_;have h1:=BK N hM.1;have h2:=C6 N (show M≠0 by omega);exact zk.fuel hf (hM.2.abs ⋯) ∅;rintro _ _ ⟨rfl,bf,rs,fb,f,a7,a8,a9,rfl,eu,h1,h2,h3⟩;ext;exact⟨rfl,bf,rs,fb,f,rfl,eu,h1,h2⟩
def zh6(hf:Big fu){q:Nat}(q1:1<q)(hb:zk 50000 (q:Int)){r:Int}(h0:0<r)(h1:r<q):W (ZV fu [.int r,.int (q:Int)] S) λv S'=>S=S'/\((v= .non/\¬Pr q)\/∃i:Int,v= .int i/\0<=i/\i<q/\Cg (q:Int) (r*i) 1):=by
 walk_at "wr";unfold ZU;ext;refine(zg5 hf ⟨⋯,hb⟩ ∅ ⋯).imp ?_;rintro _ _ ⟨rfl,bf,rs,fb,f,rfl,eu,h2,h3⟩;have p:=eu.pos;ext;apply ZR;ext;refine yp (λe=> ?_) (λz=> ?_);subst e;ext;apply xy ⋯;refine⟨rfl,.inr ⟨f % (q:Int),rfl,C6 _ ⋯,BK _ ⋯,?_⟩⟩;obtain⟨k,hk⟩:=eu.cg;have:=(Cg.refl (m:=(q:Int)) (a:=r)).mul (Cg.mod (q:Int) f);exact this.trans ⟨k,by rw[C9];exact hk⟩
 ext;refine⟨rfl,.inl ⟨rfl,λhq=> ?_⟩⟩;have z:rs=0:=by omega
 obtain⟨d1,d2⟩:=eu.dv bf (Hc _) (by rw[z];exact Int.dvd_zero _);have d1:bf.natAbs∣q:=by
  have:=EH.2 d1;simpa using this
 rcases hq.2 _ d1 with e|e;omega;have:bf<=r:=Int.le_of_dvd h0 d2;omega
def Ra(M B N X D:Int):Prop:= -B<=X/\X<=B/\0<D/\D<=B/\∃k,D*N=X+M*k
def zoQ(hf:Big fu)(hM:0<M/\zk 50000 M)(hb:0<=B)(h2:2*(B*B)<M):W (wD fu [.int N,.int M,.int B] S) λv S'=>S=S'/\((v= .non/\∀X D,¬Ra M B N X D)\/∃t b,v= .tup [.int t,.int b]/\0<b/\b<=B/\ -B<=t/\t<=B/\∀X D,Ra M B N X D->∃e,X=e*t/\D=e*b):=by
 have pL:B<M:=by
  have:B<=B*B\/B=0:=by
   by_cases z:B=0;exact .inr z;left;have:=Bg (show 1<=B by omega) hb;omega
  omega
 walk_at "wr";unfold wC;ext;refine(zg5 hf hM hb pL).imp ?_;rintro _ _ ⟨rfl,bf,rs,fb,f,rfl,eu,h3,h4⟩;have rat:∀X D,Ra M B N X D->∃e,X=e*rs/\D=e*f:=λX D ⟨a1,a2,a3,a4,k,a5⟩=>eu.rat h3 h4 ⟨a1,a2⟩ ⟨⋯,a4⟩ h2 a5;have p:=eu.pos;have f0:=eu.fle.2.2;ext;apply yc;ext;apply UN;ext;refine yp (λh=> ?_) (λh=> ?_)
 .ext;refine⟨rfl,.inl ⟨rfl,λX D hr=> ?_⟩⟩;obtain⟨e,_,e2⟩:=rat X D hr;obtain⟨_,_,a3,a4,_⟩:=hr;have e0:e≠0:=λz=>by rw[z,CW] at e2;omega
  have:f.natAbs<=D.natAbs:=by
   rw[e2,BV];exact Ge _ ⋯
  omega
 ext;apply ZR;ext;refine yp (λh5=> ?_) (λh5=> ?_);ext;exact⟨rfl,.inr ⟨rs,f,rfl,h5,⋯,⋯,h3,rat⟩⟩;ext;refine⟨rfl,.inr ⟨-rs, -f,rfl,⋯,⋯,⋯,⋯,λX D hr=> ?_⟩⟩;obtain⟨e,e1,e2⟩:=rat X D hr;exact⟨-e,by rw[HN];exact e1,by rw[HN];exact e2⟩
def zoR(hM:0<M):W (ve fu [.int N,.int M] S) λv S'=>S=S'/\∃t:Int,v= .int t/\Cg M t N/\(t.natAbs:Int)<=M:=by
 walk_at "wr";unfold vc;ext;apply xy hM;have h1:=BK N hM;have h2:=C6 N (show M≠0 by omega);ext;apply ZR;ext;refine yp (λ_=> ?_) (λ_=> ?_);ext;exact⟨rfl,_,rfl,Cg.mod M N,⋯⟩;ext;refine⟨rfl,_,rfl,(Cg.mod M N).trans .refl|>λh=> ?_,⋯⟩;obtain⟨k,e⟩:=h;exact⟨k-1,by rw[e,Gc];omega⟩
def RaL(M B:Int)(Ns:n8 Int)(X:Nat->Int)(D:Int):Prop:=0<D/\D<=B/\∀(i:Nat) N,Ns[i]? =dB N-> -B<=X i/\X i<=B/\∃k,D*N=X i+M*k
def QuP(M B:Int)(Ns:n8 Int)(ts:n8 Int)(b:Int):Prop:=0<b/\b<=B/\(∀t∈ts,zk 2200000 t)/\∀X D,RaL M B Ns X D->∃e,D=e*b/\∀(i:Nat) t,ts[i]? =dB t->X i=e*t
def QuR(M B:Int)(Ns:n8 Int)(S:Sto)(v:Xv)(S':Sto):Prop:=Le S S'/\((v= .non/\∀X D,¬RaL M B Ns X D)\/∃(tn:Nat) (ts:n8 Int) (b:Int),v= .tup [.ref tn,.int b]/\S'[tn]? =dB (.lst (ts.map .int))/\ts.length=Ns.length/\QuP M B Ns ts b)
def QuI(M B:Int)(Ns:n8 Int)(nn:Nat)(S:Sto)(i:Nat)(ρ:Rho)(S':Sto):Prop:=∃(tn:Nat) (ts:n8 Int) (b:Int) (a5 a6 a7:pU Xv),ρ=[dB (.ref nn),dB (.int M),dB (.int B),dB (.ref tn),dB (.int b),a5,a6,a7]/\Le S S'/\S.length<=tn/\S'[tn]? =dB (.lst (ts.map .int))/\ts.length=i/\0<b/\b<=B/\(∀t∈ts,zk (50000+i*50000) t)/\∀X D,RaL M B Ns X D->∃e,D=e*b/\∀(j:Nat) t,ts[j]? =dB t->X j=e*t
def zmB(hf:Big fu)(hM:0<M/\zk 50000 M)(hb:1<=B)(h2:2*(B*B)<M)(hn:S[nn]? =dB (.lst (Ns.map .int)))(hl:Ns.length<=40)(hN:∀N∈Ns,zk 50000 N):
  W (xc fu [.ref nn,.int M,.int B] S) (QuR M B Ns S):=by
 have hB:zk 50000 B:=hM.2.abs (by
  have:B*1<=B*B:=Bg hb ⋯
  omega)
 walk_at "wr";unfold wc;ext;refine xg (xB ?_);ext;refine⟨_,zb (zr hn),_,zb (zr hn),?_⟩;refine yE (xs:=Ns.map .int) (QuI M B Ns nn S) ?_ ?_ ?_ ?_;rintro i ρ S' _ ⟨tn,ts,b,a5,a6,a7,rfl,le,_⟩;exact zb (le.2 _ _ hn)
 .rintro i x ρ S' hx ⟨tn,ts,b,a5,a6,a7,rfl,le,qQ,eF,gg,b0,bB,lR,lg⟩;rw[AW,AY] at hx;obtain⟨N,hx,rfl⟩:=hx;have uT:=hN N (AX hx);have cL:i<100:=by have:=(AQ.1 hx).1;omega
  have jb:zk 50000 b:=hB.abs ⋯;ext;refine .of rfl ?_;dsimp only[BL];ext;refine zX uT jb ∅ ?_;ext;refine(zoR hM.1).imp ?_;rintro _ _ ⟨rfl,t,rfl,oh,jv⟩;have og:zk 50000 t:=hM.2.abs ⋯;ext;have fin:∀(S1:Sto) (tn':Nat) (ts':n8 Int) (b' t':Int) (a7:pU Xv),Le S S1->S.length<=tn'->S1[tn']? =dB (.lst (ts'.map .int))->ts'.length=i->0<b'->b'<=B->(∀t∈ts',zk (50000+(i+1)*50000) t)->zk 50000 t'->(∀X D,RaL M B Ns X D->∃e,D=e*b'/\(∀(j:Nat) t,ts'[j]? =dB t->X j=e*t)/\X i=e*t')->
    W (eMt xb (za 3) [za 6] [dB (.ref nn),dB (.int M),dB (.int B),dB (.ref tn'),dB (.int b'),dB (.int N),dB (.int t'),a7] S1) λ_ S2=>QuI M B Ns nn S (i+1) [dB (.ref nn),dB (.int M),dB (.int B),dB (.ref tn'),dB (.int b'),dB (.int N),dB (.int t'),a7] S2:=by
   intro S1 tn' ts' b' t' a7 gf kW ju kY z5 z4 pC oe ot;refine WN ?_;ext;refine⟨⟨_,zb ju⟩,?_⟩;ext;refine xT (yR ju) (by rw[AV];exact yh ⋯) ?_;refine⟨tn',ts'++[t'],b',_,_,_,rfl,gf.set kW,kW,by rw[yF ju];simp,by simp[kY],z5,z4,λt ht=> ?_,λX D hr=> ?_⟩;rcases Bf.1 ht with ht|ht;exact pC t ht;rw[B5.1 ht];exact oe.mono ⋯;obtain⟨e,e1,e2,e3⟩:=ot X D hr;refine⟨e,e1,λj t hj=> ?_⟩;by_cases iZ:j<ts'.length;rw[B2 iZ] at hj;exact e2 j t hj
   rw[B4 ⋯] at hj;have:j=i:=by
    have:=(AQ.1 hj).1;simp at this;omega
   subst this;rw[kY,CP] at hj;cases hj;exact e3
  have pair:∀X D,RaL M B Ns X D->∃e,D=e*b/\(∀(j:Nat) t,ts[j]? =dB t->X j=e*t)/\0<e/\Ra M B t (X i) e:=λX D hr=>by
   obtain⟨e,e1,e2⟩:=lg X D hr;obtain⟨d0,d1,d2⟩:=id hr;obtain⟨c1,c2,k,c3⟩:=d2 i N hx;have e0:0<e:=by
    apply ED;intro z;have:=Eo z (show -b<=0 by omega);rw[DT] at this;omega
   have eB:e<=B:=by
    have:=Bg (show 1<=b by omega) (CQ e0);omega
   obtain⟨k2,c4⟩:=oh;exact⟨e,e1,e2,e0,c1,c2,e0,eB,k+e*k2,by rw[c4];grind⟩
  refine yc ?_;ext;refine UN ?_;ext;refine yp (λfZ=> ?_) (λfZ=> ?_)
  .ext;refine(zoQ hf hM ⋯ h2).imp ?_;rintro _ _ ⟨rfl,⟨rfl,dO⟩|⟨t1,b1,rfl,f1,f2,f3,f4,f5⟩⟩;ext;refine yc (ZE ?_);ext;refine wd ?_;ext;refine⟨λ_=> ?_,nofun⟩;refine⟨λ_=> ?_,nofun⟩;ext;refine⟨le,.inl ⟨rfl,λX D hr=> ?_⟩⟩;obtain⟨e,_,_,_,jz⟩:=pair X D hr;exact dO _ _ jz;have mV:zk 50000 b1:=hB.abs ⋯;ext;refine yc (ZE ?_);ext;refine wd ?_;ext;refine⟨nofun,λ_=> ?_⟩;ext;refine zX jb mV ∅ ?_;ext;refine yp (λuq=> ?_) (λuq=> ?_)
   .ext;refine⟨le,.inl ⟨rfl,λX D hr=> ?_⟩⟩;obtain⟨e,e1,_,e0,jz⟩:=pair X D hr;obtain⟨e',g1,g2⟩:=f5 _ _ jz;have AA:0<e':=by
     apply ED;intro z;have:=Eo z (show -b1<=0 by omega);rw[DT] at this;omega
    have:b*b1<=D:=by
     rw[e1,g2];have:=Bg (show 1<=e' by omega) (CQ (DU b0 f1));rw[show e'*b1*b=b*b1*e' by grind];omega
    have:=hr.2.1;omega
   ext;refine yd (xB ?_);ext;refine⟨_,zb eF,_,zb eF,?_⟩;refine zZ (xs:=ts.map .int) (by rw[AV];exact Ba (yh ⋯)) (λj es S1=>S'=S1/\es=((ts.take j).map (· *b1)).map .int) ?_ ?_ ?_ ?_;rintro j es S1 _ ⟨rfl,_⟩;exact zb eF;rintro j x es S1 fc bD ⟨rfl,rfl⟩;rw[AW,AY] at fc;obtain⟨tj,fc,rfl⟩:=fc;have uM:=lR tj (AX fc);refine .of rfl ?_;ext;refine⟨rfl,?_⟩;ext;refine zX uM mV ⋯ ?_;refine⟨rfl,?_⟩;rw[Bt,fc];simp;exact⟨rfl,by simp⟩;rintro es S1 bD ⟨rfl,rfl⟩;rw[AV,Bx];ext;refine zX jb mV ∅ ?_;ext;refine fin _ _ (ts.map (· *b1)) (b*b1) t1 _ le.app (AZ le.1 (B1 _)) zx (by simp[gg]) (DU b0 f1) ⋯ (λt ht=> ?_) (hB.abs ⋯) λX D hr=> ?_;obtain⟨t',tE,rfl⟩:=Bq.1 ht;exact((lR t' tE).mul mV).mono ⋯;obtain⟨e,e1,e2,e0,jz⟩:=pair X D hr;obtain⟨e',g1,g2⟩:=f5 _ _ jz;refine⟨e',by rw[e1,g2];grind,λj t hj=> ?_,g1⟩;rw[AW,AY] at hj;obtain⟨t',hj,rfl⟩:=hj;rw[e2 j t' hj,g2];grind
  ext;refine fin S' tn ts b t _ le qQ eF gg b0 bB (λt ht=>(lR t ht).mono ⋯) og λX D hr=> ?_;obtain⟨e,e1,e2,e0,c1,c2,_,c4,k,c5⟩:=pair X D hr;refine⟨e,e1,e2,?_⟩;have s1:(e*t).natAbs<=(B*B).natAbs:=by
   rw[BV,BV];exact De ⋯ ⋯
  have s2:B<=B*B:=by
   have:=Bg hb (show 0<=B by omega);omega
  exact(Cg.small (m:=M) ⟨k,c5⟩ ⋯ ⋯).symm
 .exact⟨_,[],1,_,_,_,rfl,Le.refl.app,B1 _,zx,rfl,∅,hb,(λt ht=>by cases ht),λX D hr=>⟨D,⋯,λj t hj=>by simp at hj⟩⟩
 rintro ρ S' ⟨tn,ts,b,a5,a6,a7,rfl,le,qQ,eF,gg,b0,bB,lR,lg⟩;ext;refine⟨le,.inr ⟨tn,ts,b,rfl,eF,by rw[gg,AV],b0,bB,λt ht=>(lR t ht).mono ?_,lg⟩⟩;rw[AV];omega
end
section
noncomputable def prt(p:Nat×Int):Xv:= .tup [.int p.1,.int p.2]
noncomputable def vec(vs:n8 Int)(i:Nat):Int:=vs.getD i 0
def zaY(h:i<vs.length):vs[i]? =dB (vec vs i):=by unfold vec;rw[AU,AK h];rfl
def zkA(bs:n8 Int):XI (bs.map Xv.int)=dB bs:=zhF bs
def zoS(h:zA S x=dB l)(h2:XI l=dB bs)(k:P (.int bs.sum) S):WO (zd2 [x] S) P:= .of (by unfold zd2;dsimp only;rw[h,B7,h2];rfl) k
structure Tp(S:Sto)(n:Nat)(r:n8 (Nat×Int)×Int):Prop where
 ex:∃pn,S[n]? =dB (.ins "WholeRow" [("parts",.ref pn),("last",.int r.2)])/\S[pn]? =dB (.lst (r.1.map prt))
def Tp.le(h:Tp S n r)(l:Le S S'):Tp S' n r:=by
 obtain⟨pn,h1,h2⟩:=h.ex;exact⟨pn,l.2 _ _ h1,l.2 _ _ h2⟩
structure Xr(many:Nat)(r:n8 (Nat×Int)×Int):Prop where
 nd:NdE r.1
 lt:∀p∈r.1,p.1<many/\zk 2000 p.2
 last:zk 2000 r.2
def NdE.len(h:NdE es)(hl:∀p∈es,p.1<many):es.length<=many:=by
 have e:∀i,i<es.length->((es.map (·.1))[i]?).getD 0=(es.map (·.1)).getD i 0:=λi hi=>by rw[AU]
 refine php many es.length (λi=>((es.map (·.1))[i]?).getD 0) (λi hi=> ?_) λi j h9 hj z=> ?_;rw[AW,AK hi];exact hl _ (C8 hi)
 have h1:i<(es.map (·.1)).length:=by rw[AV];omega
 have h2:j<(es.map (·.1)).length:=by rw[AV];omega
 rw[AK h1,AK h2] at z;have:=(CK h).1 z;omega
def zkB(he:W (e ρ S) λy S1=>y= .ref pn/\S=S1)(hk:(ρ[k]?).join=dB (.ref vn))(hp:S[pn]? =dB (.lst (ps.map prt)))(hv:S[vn]? =dB (.lst (vs.map .int)))(hl:ps.length<=20000)(cJ:∀p∈ps,p.1<vs.length/\zk n p.2)(hb:∀v∈vs,zk m v)(hn:n+m<=134217728)(q:∀T,P (.int (zy ps (vec vs))) (S++[T])):
  W (eFn zd2 [yq [fC,fC,dB k] (iL e) (gT 2 (zM (gN 0) (zM (gN 1) xW))) yH (eOp yk (za 1) (eOp yY (za 2) (za 0)))] ρ S) P:=by
 refine zaI (yK (yd (xB (he.imp ?_))));rintro _ _ ⟨rfl,rfl⟩;refine⟨_,zb hp,_,zb hp,?_⟩;have hc:zax [fC,fC,dB k] ρ=[fC,fC,dB (.ref vn)]:=by
  simp only[zax,List.map,HB,B7,hk]
 rw[hc];refine zZ (xs:=ps.map prt) (by rw[AV];exact Ba (yh hl)) (λj es S1=>S=S1/\es=((ps.take j).map λp=>p.2*vec vs p.1).map .int) ?_ ?_ ?_ ?_;rintro j es S1 _ ⟨rfl,_⟩;exact zb hp;rintro j y es S1 hy bD ⟨rfl,rfl⟩;rw[AW,AY] at hy;obtain⟨p,hy,rfl⟩:=hy;obtain⟨l1,l2⟩:=cJ p (AX hy);refine .of rfl ?_;ext;refine⟨rfl,?_⟩;ext;refine yy (zb hv) (yP (z:= .int (vec vs p.1)) ⋯ (by rw[AW,B9,zaY l1];rfl)) ?_;apply zX l2 (hb _ (AX (zaY l1))) hn;refine⟨rfl,?_⟩;rw[Bt,hy];simp;exact⟨rfl,by simp⟩;rintro es S1 bD ⟨rfl,rfl⟩;rw[AV,Bx];refine zfm (zoS (zb zx) (zkA _) ?_);exact q _
def zeH(cJ:∀p∈ps,p.1<vs.length/\zk n p.2)(hb:∀v∈vs,zk m v)(hl:ps.length<=k):zk (n+m+k) (zy ps (vec vs)):=by
 induction ps generalizing k with
 |nil=>unfold zk;rw[TR];exact Ew ∅
 |cons p r ih=>
  obtain⟨k,rfl⟩:∃k',k=k'+1:=⟨k-1,by simp at hl;omega⟩;obtain⟨l1,l2⟩:=cJ p (.head _);rw[zU];exact zk.add (n:=n+m+k) ((l2.mul (hb _ (AX (zaY l1)))).mono ⋯) (ih (λq hq=>cJ q (.tail _ hq)) (by simp at hl;omega)) ⋯
def zg6(h:Tp S rn r)(ok:Xr many r)(hv:S[vn]? =dB (.lst (vs.map .int)))(hl:vs.length=many)(hm:many<=100)(hb:∀v∈vs,zk m v)(iW:m<=10000000):
  W (Ys fu [.ref rn,.ref vn] S) λv S'=>v= .int (zy r.1 (vec vs))/\Le S S':=by
 obtain⟨pn,h1,h2⟩:=h.ex;have hlen:=ok.nd.len λp hp=>(ok.lt p hp).1;walk_at "wr";unfold UK;refine wB (zkB (pn:=pn) (vn:=vn) (n:=2000) (m:=m) (ps:=r.1) (vs:=vs) (wV ?_) rfl h2 hv ⋯ (λp hp=>⟨by rw[hl];exact(ok.lt p hp).1,(ok.lt p hp).2⟩) hb ⋯ λT=>⟨rfl,Le.refl.app⟩);ext;exact⟨rn,_,.ref pn,rfl,h1,rfl,rfl,rfl⟩
def wI(S:Sto)(n:Nat)(rs:n8 (n8 (Nat×Int)×Int)):Prop:=∃ms:n8 Nat,S[n]? =dB (.lst (ms.map .ref))/\ms.length=rs.length/\∀(i m:Nat) r,ms[i]? =dB m->rs[i]? =dB r->Tp S m r
def wI.le(h:wI S n rs)(l:Le S S'):wI S' n rs:=by
 obtain⟨ms,h1,h2,h3⟩:=h;exact⟨ms,l.2 _ _ h1,h2,λi m r e1 e2=>(h3 i m r e1 e2).le l⟩
def zck(h:wI S rn rs)(ok:∀r∈rs,Xr many r)(hv:S[vn]? =dB (.lst (vs.map .int)))(hl:vs.length=many)(hm:many<=100)(hb:∀v∈vs,zk m v)(iW:m<=10000000)(jb:zk 50000 b):
  W (vT fu [.ref rn,.ref vn,.int b] S) λv S'=>v= .bl (decide (∀r∈rs,zy r.1 (vec vs)=r.2*b))/\Le S S':=by
 obtain⟨ms,h1,h2,h3⟩:=id h;walk_at "wr";unfold Wn;ext;refine xg (xB ?_);ext;refine⟨_,zb h1,_,zb h1,?_⟩;refine yE (xs:=ms.map .ref) (λi ρ S'=>∃a3,ρ=[dB (.ref rn),dB (.ref vn),dB (.int b),a3]/\Le S S'/\∀r∈rs.take i,zy r.1 (vec vs)=r.2*b) ?_ ?_ ?_ ?_;rintro i ρ S' _ ⟨a3,rfl,le,_⟩;exact zb (le.2 _ _ h1)
 .rintro i y ρ S' hy ⟨a3,rfl,le,cN⟩;rw[AW,AY] at hy;obtain⟨mi,hy,rfl⟩:=hy;have hi:i<rs.length:=by rw[<-h2];exact(AQ.1 hy).1
  have er:rs[i]? =dB rs[i]:=AK hi;generalize rs[i]=r at er;have hr:=AX er;have ra:=(h3 i mi r hy er).le le;refine .of rfl ?_;dsimp only[BL];apply yc;ext;refine(zg6 ra (ok r hr) (le.2 _ _ hv) hl hm hb iW).imp ?_;rintro _ S1 ⟨rfl,gf⟩;obtain⟨pn,g1,g2⟩:=(ra.le gf).ex;refine wU (wV ?_);ext;refine⟨mi,_,.int r.2,rfl,g1,rfl,?_⟩;ext;apply zX (ok r hr).last jb ∅;ext;refine Vr (λcx=> ?_) (λhe=> ?_);ext;refine⟨?_,le.trans gf⟩;rw[decide_eq_false λz=>cx (z r hr)];ext;refine⟨le.trans gf,λr' dM=> ?_⟩;rw[Bt,er] at dM;rcases Bf.1 dM with dM|dM;exact cN r' dM;rw[show r'=r by simpa using dM];exact he
 .exact⟨_,rfl,Le.refl,λr hr=>by simp at hr⟩
 rintro ρ S' ⟨a3,rfl,le,cN⟩;ext;rw[AV,h2,Bx] at cN;exact⟨by rw[decide_eq_true cN],le⟩
noncomputable def dkE(es:n8 (Nat×Int)):n8 (Key×Xv):=es.map λp=>((.inl (p.1:Int):Key),Xv.int p.2)
def Vt{a b:Nat}:((.inl (a:Int):Key)= .inl (b:Int))↔a=b:=by
 constructor;intro h;injection h with h;omega;intro h;rw[h]
def Wx{c:Nat}:vj (dkE es) (.inl (c:Int))=(yt es c).map .int:=by
 unfold vj yt dkE
 induction es with
 |nil=>rfl
 |cons p r ih=>
  rw[Be,Ct,Ct];by_cases e:p.1=c;rw[decide_eq_true (Vt.2 e),decide_eq_true e];rfl;rw[decide_eq_false (λz=>e (Vt.1 z)),decide_eq_false e];exact ih
def zds{c:Nat}{v:Int}:zhI (dkE es) (.inl (c:Int)) (.int v)=dkE (UQ es c v):=by
 unfold zhI UQ;have h1:((dkE es).any λkv=>decide (kv.1=(.inl (c:Int):Key)))=es.any λp=>decide (p.1=c):=by
  unfold dkE;rw[Iv]
  congr 1
  funext p;exact decide_eq_decide.2 Vt
 rw[h1];split;unfold dkE;rw[Ec,Ec];refine Du λp _=> ?_;simp only[GD];by_cases e:p.1=c;rw[if_pos (Vt.2 e),if_pos e];rw[if_neg (λz=>e (Vt.1 z)),if_neg e];unfold dkE;simp
def zg7{c:Nat}:zeq (dkE es) (.inl (c:Int))=dkE (xE es c):=by
 unfold zeq xE dkE;rw[List.filter_map]
 congr 1
 refine List.filter_congr λp _=> ?_;simp only[GD];exact decide_eq_decide.2 (not_congr Vt)
def vU{c:Nat}:VH (.int (c:Int))=dB (.inl (c:Int)):=rfl
structure zeI(S:Sto)(n:Nat)(s:Stp):Prop where
 ex:∃fn pn,S[n]? =dB (.ins "Step" [("row",.int s.row),("column",.int s.col),("inverse",.int s.inv),("factors",.ref fn),("parts",.ref pn)])/\S[fn]? =dB (.lst (s.fac.map prt))/\S[pn]? =dB (.lst (s.par.map prt))
def zeI.le{s:Stp}(h:zeI S n s)(l:Le S S'):zeI S' n s:=by
 obtain⟨fn,pn,h1,h2,h3⟩:=h.ex;exact⟨fn,pn,l.2 _ _ h1,l.2 _ _ h2,l.2 _ _ h3⟩
structure zbz(s:Stp):Prop where
 inv:zk 5500 s.inv
 fac:s.fac.length<=100/\∀p∈s.fac,zk 5500 p.2
 par:s.par.length<=100/\∀p∈s.par,zk 5500 p.2
def xA(S:Sto)(n:Nat)(ss:n8 Stp):Prop:=∃ms:n8 Nat,S[n]? =dB (.lst (ms.map .ref))/\ms.length=ss.length/\∀(i m:Nat) s,ms[i]? =dB m->ss[i]? =dB s->zeI S m s
def xA.le(h:xA S n ss)(l:Le S S'):xA S' n ss:=by
 obtain⟨ms,h1,h2,h3⟩:=h;exact⟨ms,l.2 _ _ h1,h2,λi m r e1 e2=>(h3 i m r e1 e2).le l⟩
structure znu(S:Sto)(d n:Nat)(ss:n8 Stp):Prop where
 ex:∃ms:n8 Nat,n≠d/\S[n]? =dB (.lst (ms.map .ref))/\ms.length=ss.length/\∀(i m:Nat) s,ms[i]? =dB m->ss[i]? =dB s->m≠d/\∃fn pn,fn≠d/\pn≠d/\S[m]? =dB (.ins "Step" [("row",.int s.row),("column",.int s.col),("inverse",.int s.inv),("factors",.ref fn),("parts",.ref pn)])/\S[fn]? =dB (.lst (s.fac.map prt))/\S[pn]? =dB (.lst (s.par.map prt))
def xA.toX(h:xA S n ss)(hd:S[d]? =dB (.dk c)):znu S d n ss:=by
 obtain⟨ms,h1,h2,h3⟩:=h;refine⟨ms,(λz=>by rw[z,hd] at h1;cases h1),h1,h2,λi m s e1 e2=> ?_⟩;obtain⟨fn,pn,g1,g2,g3⟩:=(h3 i m s e1 e2).ex;exact⟨(λz=>by rw[z,hd] at g1;cases g1),fn,pn,(λz=>by rw[z,hd] at g2;cases g2),(λz=>by rw[z,hd] at g3;cases g3),g1,g2,g3⟩
structure TkI(C:Nat->Prop)(m:Int)(many:Nat)(ss:n8 Stp)(es0:n8 (Nat×Int))(i:Nat)(es fs:n8 (Nat×Int)):Prop where
 nd:NdE es
 col:∀p∈es,p.1<many/\p.1∉zQ (ss.take i)/\zk (11001+i*100) p.2
 cc:∀p∈es,C p.1
 fl:fs.length<=i
 fac:∀f∈fs,f.1<i/\zk 5500 f.2
 eq:∀x,Cg m (zy es0 x) (zy fs (ats ss x)+zy es x)
def zh7{C:Nat->Prop}(hm:0<m/\zk 5500 m)(hd:S[dn]? =dB (.dk (dkE es0)))(hs:znu S dn sn ss)(dW:Sts m many rows ss)(gK:∀s∈ss,zbz s)(nd:NdE es0)(hc:∀p∈es0,p.1<many/\zk 5500 p.2)(fJ:many<=100)(uY:∀p∈es0,C p.1)(uW:∀s∈ss,∀p∈s.par,C p.1):
  W (Wf fu [.ref dn,.ref sn,.int m] S) λv S'=>LeX dn S S'/\∃fn es fs,v= .ref fn/\S.length<=fn/\S'[fn]? =dB (.lst (fs.map prt))/\S'[dn]? =dB (.dk (dkE es))/\TkI C m many ss es0 ss.length es fs:=by
 obtain⟨ms,h0,h1,h2,h3⟩:=hs.ex;have oj:ss.length<=100:=AZ dW.le fJ;walk_at "wr";unfold We;ext;refine xg (zjK ?_);ext;refine⟨_,zb (zr h1),_,congrArg (F1 Zf) (zb (zr h1)),?_⟩;have bD:(Zf (ms.map .ref)).length=ss.length:=by rw[zb4,AV,h2]
 refine yE (xs:=Zf (ms.map .ref)) (λi ρ S'=>∃fn es fs a4 a5 a6 a7 a8,ρ=[dB (.ref dn),dB (.ref sn),dB (.int m),dB (.ref fn),a4,a5,a6,a7,a8]/\LeX dn S S'/\S.length<=fn/\S'[fn]? =dB (.lst (fs.map prt))/\S'[dn]? =dB (.dk (dkE es))/\TkI C m many ss es0 i es fs) ?_ ?_ ?_ ?_;rintro i ρ S' _ ⟨fn,es,fs,a4,a5,a6,a7,a8,rfl,le,_⟩;exact congrArg (F1 Zf) (zb (le.2 _ _ h0 h1))
 .rintro i y ρ S' hy ⟨fn,es,fs,a4,a5,a6,a7,a8,rfl,le,gP,hf,hG,tk⟩;obtain⟨y',mG,rfl⟩:=zd8 hy;clear hy;rw[AW,AY] at mG;obtain⟨mi,hy,rfl⟩:=mG;have hi:i<ss.length:=by rw[<-h2];exact(AQ.1 hy).1
  have er:ss[i]? =dB ss[i]:=AK hi;generalize ss[i]=s at er;have so:=dW.at i s er;have sb:=gK s (AX er);obtain⟨g0,fn',pn,g1,g2,g3,g4,g5⟩:=h3 i mi s hy er;have q3:=le.2 _ _ g0 g3;have q5:=le.2 _ _ g2 g5;have uQ:∀x,ats ss x i=s.at x:=λx=>by unfold ats;rw[er];rfl
  have htk:∀c,c∉zQ (ss.take i)->c≠s.col->c∉zQ (ss.take (i+1)):=λc a b=>by
   rw[Bt,er];exact UP.2 ⟨a,b⟩
  have e1:∀p∈xE es s.col,p.1<many/\p.1∉zQ (ss.take (i+1))/\zk (11001+i*100) p.2:=λp hp=>by
   obtain⟨a,b⟩:=Wp hp;obtain⟨c1,c2,c3⟩:=tk.col p a;exact⟨c1,htk _ c2 b,c3⟩
  refine .of rfl ?_;dsimp only[BL];refine zJ (wa (wU (zkd ?_)));ext;refine⟨⟨_,yS hG⟩,wV ?_⟩;ext;refine⟨mi,_,.int (s.col:Int),rfl,q3,rfl,?_⟩;ext;have go:∀(S1:Sto) (e:Int),Le (S.set dn (.lst [])) (S.set dn (.lst []))->LeX dn S' S1->S1[dn]? =dB (.dk (dkE (xE es s.col)))->S1[fn]? =dB (.lst (fs.map prt))->(∀x,zy es x=e*x s.col+zy (xE es s.col) x)->
    W (za 2 [dB (.ref dn),dB (.ref sn),dB (.int m),dB (.ref fn),dB (.int (i:Int)),dB (.ref mi),a6,a7,a8] S1) λy S2=>WO (vP (.int e) y S2) λd S3=>WS (sIf (bE (eOp WE (za 6) (si 0))) (zm (Yo (eMt xb (za 3) [Zq [za 4,za 6]])) (Zr (iL (vR "Step" "parts" (za 5))) (gT 2 (zM (gN 7) (zM (gN 8) xW))) (Uu (za 0) (za 7) (eOp Zy (zaH (za 0) (za 7) (si 0)) (eOp yk (za 6) (za 8)))))) ye ([dB (.ref dn),dB (.ref sn),dB (.int m),dB (.ref fn),dB (.int (i:Int)),dB (.ref mi),a6,a7,a8].set 6 (dB d)) S3)
     (λρ S'=>∃fn es fs a4 a5 a6 a7 a8,ρ=[dB (.ref dn),dB (.ref sn),dB (.int m),dB (.ref fn),a4,a5,a6,a7,a8]/\LeX dn S S'/\S.length<=fn/\S'[fn]? =dB (.lst (fs.map prt))/\S'[dn]? =dB (.dk (dkE es))/\TkI C m many ss es0 (i+1) es fs) (λv S'=>LeX dn S S'/\∃fn es fs,v= .ref fn/\S.length<=fn/\S'[fn]? =dB (.lst (fs.map prt))/\S'[dn]? =dB (.dk (dkE es))/\TkI C m many ss es0 ss.length es fs):=by
   intro S1 e _ l1 d1 f1 lO;have rF:fn≠dn:=λz=>by rw[z,d1] at f1;cases f1
   ext;refine xy hm.1 ?_;dsimp only[BL];have pd:Cg m (e % m) e:=Cg.mod m e;have pf:zk 5500 (e % m):=hm.2.abs (by have:=BK e hm.1;have:=C6 e (show m≠0 by omega);omega);refine yc ?_;ext;refine Vr (λcx=> ?_) (λhz=> ?_)
   .
    refine zJ (YK (WN ?_));ext;refine⟨⟨_,zb f1⟩,?_⟩;ext;refine xT (yR f1) (by rw[AV];exact yh (by have:=tk.fl;omega)) ?_;have f2:(S1.set fn (.lst (fs.map prt++[.tup [.int (i:Int),.int (e % m)]])))[fn]? =dB (.lst ((fs++[(i,e % m)]).map prt)):=by rw[yF f1];simp[prt]
    have d2:(S1.set fn (.lst (fs.map prt++[.tup [.int (i:Int),.int (e % m)]])))[dn]? =dB (.dk (dkE (xE es s.col))):=ya d1 rF;have l2:LeX dn S (S1.set fn (.lst (fs.map prt++[.tup [.int (i:Int),.int (e % m)]]))):=(le.trans l1).set' gP;have mh:(S1.set fn (.lst (fs.map prt++[.tup [.int (i:Int),.int (e % m)]])))[pn]? =dB (.lst (s.par.map prt)):=l2.2 _ _ g2 g5;have qe:=l2.2 _ _ g0 g3;generalize (S1.set fn (.lst (fs.map prt++[.tup [.int (i:Int),.int (e % m)]])))=S2 at f2 d2 l2 mh qe;refine xg (xB (wV ?_));ext;refine⟨mi,_,.ref pn,rfl,qe,rfl,_,zb mh,_,zb mh,?_⟩;refine yE (xs:=s.par.map prt) (λk ρ S3=>∃es' a7 a8,ρ=[dB (.ref dn),dB (.ref sn),dB (.int m),dB (.ref fn),dB (.int (i:Int)),dB (.ref mi),dB (.int (e % m)),a7,a8]/\LeX dn S2 S3/\S3[dn]? =dB (.dk (dkE es'))/\NdE es'/\(∀p∈es',p.1<many/\p.1∉zQ (ss.take (i+1))/\zk (11001+i*100+k) p.2)/\(∀p∈es',C p.1)/\∀x,zy es' x=zy (xE es s.col) x-(e % m)*zy (s.par.take k) x) ?_ ?_ ?_ ?_;rintro k ρ S3 _ ⟨es',b7,b8,rfl,l3,_⟩;exact zb (l3.2 _ _ g2 mh)
    .rintro k z ρ S3 hz ⟨es',b7,b8,rfl,l3,d3,kG,c3,pT,t3⟩;rw[AW,AY] at hz;obtain⟨p,hz,rfl⟩:=hz;have oy:=AX hz;obtain⟨p1,p2,p3⟩:=so.par p oy;have pb:=sb.par.2 p oy;have cG:k<100:=B3 (AQ.1 hz).1 sb.par.1;have uD:es'.length<=100:=AZ (kG.len λp hp=>(c3 p hp).1) fJ;have gb:zk (11001+i*100+k) ((yt es' p.1).getD 0):=by
      cases mM:yt es' p.1 with
      |none=>exact zk.small ∅ ⋯
      |some v=>
       unfold yt at mM;rw[AY] at mM;obtain⟨q,tO,rfl⟩:=mM;exact(c3 q (List.mem_of_find?_eq_some tO)).2.2
     refine .of rfl ?_;dsimp only[BL];refine zcX (wU (zea ?_));ext;refine⟨⟨_,yS d3⟩,?_⟩;ext;refine⟨dn,_,_,yS d3,vU,?_⟩;rw[Wx,show(F1 Xv.int (yt es' p.1)).getD (.int 0)= .int ((yt es' p.1).getD 0) by cases yt es' p.1<;>rfl];ext;refine zX pf pb ∅ ?_;ext;refine⟨dn,_,_,yS d3,vU,by unfold dkE;rw[AV];exact yh ⋯,?_⟩;rw[zds];refine⟨_,_,_,rfl,l3.set,yF d3,zmw kG,λq hq=> ?_,λq hq=> ?_,λx=> ?_⟩;rcases zeG hq with⟨z1,z2⟩|hq;rw[z1,z2];exact⟨p1,htk _ p3 p2,zk.sub (n:=11001+i*100+k) gb ((pf.mul pb).mono ⋯) ⋯⟩;obtain⟨a,b,c⟩:=c3 q hq;exact⟨a,b,c.mono ⋯⟩;rcases zeG hq with⟨z1,_⟩|hq;rw[z1];exact uW s (AX er) p oy;exact pT q hq;rw[zmx kG,t3 x,Bt,hz,TU];show _=_-(e % m)*(_+zy [p] x);rw[TV];grind
    .exact⟨_,_,_,rfl,Le.refl.toX,d2,zg4 tk.nd,λp hp=>e1 p hp,λp hp=>tk.cc p (Wp hp).1,λx=>by rw[HW,TR];omega⟩
    rintro ρ S3 ⟨es',b7,b8,rfl,l3,d3,kG,c3,pT,t3⟩;rw[AV] at c3 t3;rw[Bx] at t3;have oX:fn≠dn:=rF;refine⟨fn,es',fs++[(i,e % m)],_,_,_,_,_,rfl,l2.trans l3,gP,l3.2 _ _ oX f2,d3,kG,λp hp=> ?_,pT,by have:=tk.fl;simp;omega,λf hf=> ?_,λx=> ?_⟩;obtain⟨a,b,c⟩:=c3 p hp;exact⟨a,b,c.mono (by have:=sb.par.1;omega)⟩;rcases Bf.1 hf with hf|hf;have:=tk.fac f hf;exact⟨⋯,this.2⟩;rw[B5.1 hf];exact⟨by show i<i+1;omega,pf⟩;have h5:=tk.eq x;rw[lO x] at h5;rw[TU,TV,uQ x,t3 x];unfold Stp.at;obtain⟨k1,h5⟩:=h5;obtain⟨k2,h6⟩:=pd;exact⟨k1-k2*x s.col,by dsimp only;grind⟩
   ext;refine⟨fn,xE es s.col,fs,_,_,_,_,_,rfl,le.trans l1,gP,f1,d1,zg4 tk.nd,λp hp=> ?_,λp hp=>tk.cc p (Wp hp).1,by have:=tk.fl;omega,λf hf=> ?_,λx=> ?_⟩;obtain⟨a,b,c⟩:=e1 p hp;exact⟨a,b,c.mono ⋯⟩;have:=tk.fac f hf;exact⟨⋯,this.2⟩;have h5:=tk.eq x;rw[lO x] at h5;rw[hz] at pd;obtain⟨k1,h5⟩:=h5;obtain⟨k2,h6⟩:=pd;exact⟨k1-k2*x s.col,by grind⟩
  refine⟨dn,_,_,yS hG,vU,λv hv=> ?_,λhv=> ?_⟩;rw[Wx,AY] at hv;obtain⟨e,hv,rfl⟩:=hv;rw[zg7];refine go _ e Le.refl (Le.refl.toX).set (yF hG) (ya hf (λz=>by rw[z,hf] at hG;cases hG)) λx=> ?_;rw[zg3 (c:=s.col) tk.nd,hv];rfl
  rw[Wx,Option.map_eq_none_iff] at hv;have dO:∀p∈es,p.1≠s.col:=λp hp z=>by
   have:=UR tk.nd hp;rw[z,hv] at this;cases this
  have ho:=zcj dO;refine go _ 0 Le.refl Le.refl.toX (by rw[ho];exact hG) hf λx=> ?_;rw[ho];omega
 .refine⟨_,es0,[],_,_,_,_,_,rfl,Le.refl.app.toX,B1 _,zx,zr hd,nd,λp hp=>⟨(hc p hp).1,by simp[zQ],(hc p hp).2.mono ⋯⟩,uY,B1 _,(λf hf=>by cases hf),λx=>⟨0,by rw[TR];omega⟩⟩
 rintro ρ S' ⟨fn,es,fs,a4,a5,a6,a7,a8,rfl,le,gP,hf,hG,tk⟩;rw[bD] at tk;ext;exact⟨le,fn,es,fs,rfl,gP,hf,hG,tk⟩
def zkC(h:∀p∈es,p.1≠c):UQ es c v=es++[(c,v)]:=if_neg λz=>by
 obtain⟨p,hp,e⟩:=Dq.1 z;exact h p hp (of_decide_eq_true e)
noncomputable def vk(m:Int)(es:n8 (Nat×Int)):n8 (Nat×Int):=(es.filter λp=>decide (p.2 % m≠0)).map λp=>(p.1,p.2 % m)
def zeJ(h:p∈vk m es):∃q∈es,q.1=p.1/\q.2 % m=p.2/\p.2≠0:=by
 unfold vk at h;obtain⟨q,hq,rfl⟩:=Bq.1 h;rw[Dv] at hq;exact⟨q,hq.1,rfl,rfl,of_decide_eq_true hq.2⟩
def zmC(h:NdE es):NdE (vk m es):=by
 unfold NdE vk;rw[Ec];exact(GK.map _).nodup h
def zcl:zaL (dkE es)=es.map prt:=by
 unfold zaL dkE;rw[Ec];rfl
def zmD(hm:0<m)(hd:S[dn]? =dB (.dk (dkE es)))(nd:NdE es)(hl:es.length<=100):
  W (vH fu [.ref dn,.int m] S) λv S'=>LeX dn S S'/\∃rn,v= .ref rn/\S.length<=rn/\S'[rn]? =dB (.dk (dkE (vk m es))):=by
 walk_at "wr";unfold vG;ext;refine xg (zjY ?_);ext;have gq:(S++[.dk []])[dn]? =dB (.dk (dkE es)):=zr hd;have f0:((S++[Ce.dk []]).set dn (.fdk (dkE es)))[dn]? =dB (.fdk (dkE es)):=yF gq;have fa:∀{S1:Sto},S1[dn]? =dB (.fdk (dkE es))->zaM dn S1=dB (es.map prt):=λ{S1} h=>by unfold zaM;rw[h];exact congrArg dB zcl
 have cx:dn≠S.length:=Bj (vp hd);refine⟨dn,_,yS gq,_,fa f0,?_⟩;refine yE (xs:=es.map prt) (λi ρ S'=>∃a3 a4,ρ=[dB (.ref dn),dB (.int m),dB (.ref S.length),a3,a4]/\LeX dn S S'/\S'[dn]? =dB (.fdk (dkE es))/\S'[S.length]? =dB (.dk (dkE (vk m (es.take i))))) ?_ ?_ ?_ ?_;rintro i ρ S' _ ⟨a3,a4,rfl,_,h,_⟩;exact fa h
 .rintro i y ρ S' hy ⟨a3,a4,rfl,le,hf,hr⟩;rw[AW,AY] at hy;obtain⟨p,hy,rfl⟩:=hy;refine .of rfl ?_;dsimp only[BL];have cL:=(AQ.1 hy).1;have eI:∀q∈vk m (es.take i),q.1≠p.1:=λq hq=>by
   obtain⟨q',bP,e,_⟩:=zeJ hq;rw[<-e];obtain⟨j,hj,rfl⟩:=EY.1 bP;rw[BI] at hj;rw[Hk];intro z;have:=(CK (xs:=es.map λq:Nat×Int=>q.1) (i:=j) (j:=i) (h₀:=by rw[AV];omega) (h₁:=by rw[AV];omega) nd).1 (by rw[Ez,Ez,z,(AQ.1 hy).2]);omega
  apply yc;ext;apply xy hm;ext;refine Vr (λhz=> ?_) (λhz=> ?_)
  .apply zcX;ext;apply xy hm;ext
   refine⟨S.length,_,_,yS hr,vU,by
    unfold dkE vk;rw[AV,AV]
    exact yh (AZ (EE _ _) (by rw[BI];omega)),?_⟩
   rw[zds,zkC eI];refine⟨_,_,rfl,le.set' (B1 _),ya hf cx.symm,?_⟩;rw[yF hr]
   congr 2
   congr 1
   unfold vk;rw[Bt,hy,Ee,Ci]
   congr 1
   simp[hz]
  ext;refine⟨_,_,rfl,le,hf,?_⟩;rw[hr]
  congr 2
  congr 1
  unfold vk;rw[Bt,hy,Ee,Ci];simp[hz]
 .exact⟨_,_,rfl,(Le.refl.app).toX.set,f0,ya zx cx⟩
 rintro ρ S' ⟨a3,a4,rfl,le,hf,hr⟩;ext;rw[AV,Bx] at hr;exact⟨le,_,rfl,B1 _,hr⟩
set_option tactic.hygienic true in
def US:(yt es d).isSome=fN\/d=c->(yt (UQ es c v) d).isSome=fN:=by
 intro h;have key:∀l:n8 (Nat×Int),(yt l d).isSome=fN↔∃p∈l,p.1=d:=λl=>by
  unfold yt;rw[Hi,List.find?_isSome];simp
 rw[key] at h ⊢;unfold UQ;split
 .rename_i ha;rcases h with⟨p,hp,rfl⟩|rfl
  .refine⟨_,Bq.2 ⟨p,hp,rfl⟩,?_⟩;split<;>rfl
  obtain⟨p,hp,e⟩:=Dq.1 ha;refine⟨_,Bq.2 ⟨p,hp,rfl⟩,?_⟩;have e:=of_decide_eq_true e;rw[if_pos e];exact e
 rcases h with⟨p,hp,rfl⟩|rfl;exact⟨p,Dl _ hp,rfl⟩;exact⟨_,Bn _ (B5.2 rfl),rfl⟩
def zkD(h:wI S rn rs)(ok:∀r∈rs,Xr many r)(hm:many<=100)(hl:rs.length<=100):
  W (vF fu [.ref rn] S) λv S'=>Le S S'/\∃cn cs,v= .ref cn/\S.length<=cn/\S'[cn]? =dB (.dk (dkE cs))/\∀r∈rs,∀p∈r.1,(yt cs p.1).isSome=fN:=by
 obtain⟨ms,h1,h2,h3⟩:=id h;walk_at "wr";unfold vE;ext;refine xg (xB ?_);ext;refine⟨_,zb (zr h1),_,zb (zr h1),?_⟩;refine yE (xs:=ms.map .ref) (λi ρ S'=>∃cs a2 a3 a4,ρ=[dB (.ref rn),dB (.ref S.length),a2,a3,a4]/\Le S S'/\S'[S.length]? =dB (.dk (dkE cs))/\cs.length<=i*100/\∀r∈rs.take i,∀p∈r.1,(yt cs p.1).isSome=fN) ?_ ?_ ?_ ?_;rintro i ρ S' _ ⟨cs,a2,a3,a4,rfl,le,_⟩;exact zb (le.2 _ _ h1)
 .rintro i y ρ S' hy ⟨cs,a2,a3,a4,rfl,le,hc,dF,cN⟩;rw[AW,AY] at hy;obtain⟨mi,hy,rfl⟩:=hy;have hi:i<rs.length:=by rw[<-h2];exact(AQ.1 hy).1
  have er:rs[i]? =dB rs[i]:=AK hi;generalize rs[i]=r at er;obtain⟨pn,g1,g2⟩:=((h3 i mi r hy er).le le).ex;have eT:=ok r (AX er);have fg:r.1.length<=100:=AZ (eT.nd.len λp hp=>(eT.lt p hp).1) hm;refine .of rfl ?_;dsimp only[BL];refine xg (xB (wV ?_));ext;refine⟨mi,_,.ref pn,rfl,g1,rfl,_,zb g2,_,zb g2,?_⟩;have jI:S.length≠pn:=λz=>by rw[z,g2] at hc;cases hc
  refine yE (xs:=r.1.map prt) (λk ρ S1=>∃cs a3 a4,ρ=[dB (.ref rn),dB (.ref S.length),dB (.ref mi),a3,a4]/\Le S S1/\S1[pn]? =dB (.lst (r.1.map prt))/\S1[S.length]? =dB (.dk (dkE cs))/\cs.length<=i*100+k/\(∀r∈rs.take i,∀p∈r.1,(yt cs p.1).isSome=fN)/\∀p∈r.1.take k,(yt cs p.1).isSome=fN) ?_ ?_ ?_ ?_;rintro k ρ S1 _ ⟨cs,a3,a4,rfl,_,h,_⟩;exact zb h;rintro k z ρ S1 hz ⟨cs,a3,a4,rfl,l1,jE,c1,sj,all1,all2⟩;rw[AW,AY] at hz;obtain⟨p,hz,rfl⟩:=hz;have cG:=(AQ.1 hz).1;refine .of rfl ?_;dsimp only[BL];refine zcX (wU (zea ?_));ext;refine⟨⟨_,yS c1⟩,?_⟩;ext;refine⟨_,_,_,yS c1,vU,?_⟩;rw[Wx,show(F1 Xv.int (yt cs p.1)).getD (.int 0)= .int ((yt cs p.1).getD 0) by cases yt cs p.1<;>rfl];ext;refine⟨_,_,_,yS c1,vU,by unfold dkE;rw[AV];exact yh ⋯,?_⟩;rw[zds];refine⟨_,_,_,rfl,l1.set (B1 _),ya jE jI,yF c1,AZ zkx ⋯,λr' dM p' fh=>US (.inl (all1 r' dM p' fh)),λp' fh=> ?_⟩;rw[Bt,hz] at fh;rcases Bf.1 fh with fh|fh;exact US (.inl (all2 p' fh));rw[show p'=p by simpa using fh];exact US (.inr rfl);exact⟨cs,_,_,rfl,le,g2,hc,⋯,cN,λp hp=>by simp at hp⟩;rintro ρ S1 ⟨cs,a3,a4,rfl,l1,jE,c1,sj,all1,all2⟩;rw[AV] at sj all2;rw[Bx] at all2;refine⟨cs,_,_,_,rfl,l1,c1,⋯,λr' dM=> ?_⟩;rw[Bt,er] at dM;rcases Bf.1 dM with dM|dM;exact all1 r' dM;rw[show r'=r by simpa using dM];exact all2
 .exact⟨[],_,_,_,rfl,Le.refl.app,zx,B1 _,λr hr=>by simp at hr⟩
 rintro ρ S' ⟨cs,a2,a3,a4,rfl,le,hc,dF,cN⟩;ext;rw[AV,h2,Bx] at cN;exact⟨le,_,cs,rfl,B1 _,hc,cN⟩
def xP(h:l.length<=k):(zcZ f v l).length<=k+1:=by
 induction l generalizing k with
 |nil=>simp[zcZ]
 |cons p r ih=>
  obtain⟨g,y⟩:=p;unfold zcZ;simp at h;split;simp;omega;obtain⟨k,rfl⟩:∃k',k=k'+1:=⟨k-1,⋯⟩;have:=ih (k:=k) ⋯;simp;omega
def zf0(h:S[n]? =dB (.ins "Step" [])):W (vD fu [.ref n,a,b,c,d,e] S) λv S'=>v= .non/\S'=S.set n (.ins "Step" [("row",a),("column",b),("inverse",c),("factors",d),("parts",e)]):=by
 walk_at "wr";unfold vC;refine zJ (YN ?_);ext;refine⟨n,_,rfl,h,∅,zJ (YN ?_)⟩;ext;refine⟨n,_,rfl,yF h,Bp (xP (B1 0)) ∅,zJ (YN ?_)⟩;ext;rw[Ef];refine⟨n,_,rfl,yF h,Bp (xP (xP (B1 0))) ∅,zJ (YN ?_)⟩;ext;rw[Ef];refine⟨n,_,rfl,yF h,Bp (xP (xP (xP (B1 0)))) ∅,YN ?_⟩;ext;rw[Ef];refine⟨n,_,rfl,yF h,Bp (xP (xP (xP (xP (B1 0))))) ∅,?_⟩;rw[Ef];exact⟨rfl,rfl⟩
def zh8(h:S[n]? =dB (.ins "WholeRow" [])):W (xM fu [.ref n,a,b] S) λv S'=>v= .non/\S'=S.set n (.ins "WholeRow" [("parts",a),("last",b)]):=by
 walk_at "wr";unfold xL;refine zJ (YN ?_);ext;refine⟨n,_,rfl,h,∅,YN ?_⟩;ext;refine⟨n,_,rfl,yF h,Bp (xP (B1 0)) ∅,?_⟩;rw[Ef];exact⟨rfl,rfl⟩
def zoT{j:Nat}{r:n8 (Nat×Int)×Int}(h:wI S rn rs)(hj:rs[j]? =dB r):zeD fu [.ref rn] [.int (j:Int)] S=dB (.ok (.int (r.1.length:Int)) S):=by
 obtain⟨ms,h1,h2,h3⟩:=h;have iZ:j<ms.length:=by rw[h2];exact(AQ.1 hj).1
 have em:=AK iZ;generalize ms[j]=m at em;obtain⟨pn,g1,g2⟩:=(h3 j m r em hj).ex;have:W (zeD fu [.ref rn] [.int (j:Int)] S) λv S'=>v= .int (r.1.length:Int)/\S=S':=by
  apply zgQ rfl rfl;unfold zqa;refine zaI (yK (wV (wU ?_)));ext;refine yy (zb h1) (yP (z:= .ref m) ⋯ (by rw[AW,B9,em];rfl)) ?_;refine⟨m,_,.ref pn,rfl,g1,rfl,?_⟩;ext;apply yW (zb g2);rw[AV];exact⟨rfl,rfl⟩
 obtain⟨v,S1,e,rfl,rfl⟩:=this;exact e
def zoU(h:S[cn]? =dB (.dk (dkE cs)))(hc:(yt cs c).isSome=fN):zce fu [.ref cn] [.int (c:Int)] S=dB (.ok (.tup [.int ((yt cs c).getD 0),.int (c:Int)]) S):=by
 obtain⟨k,hk⟩:=CM.1 hc;have:W (zce fu [.ref cn] [.int (c:Int)] S) λv S'=>v= .tup [.int k,.int (c:Int)]/\S=S':=by
  apply zgQ rfl rfl;unfold zqc;refine zjE (yK (zl2 ?_));ext;refine⟨cn,_,_,.int k,yS h,vU,by rw[Wx,hk];rfl,?_⟩;ext;exact⟨rfl,rfl⟩
 obtain⟨v,S1,e,rfl,rfl⟩:=this;rw[hk];exact e
def xA.push{sn m:Nat}{ss:n8 Stp}{s:Stp}{ms:n8 Nat}(h1:S[sn]? =dB (.lst (ms.map .ref)))(h2:ms.length=ss.length)(h3:∀(i m:Nat) s,ms[i]? =dB m->ss[i]? =dB s->zeI S m s)(hs:∃fn pn,S[m]? =dB (.ins "Step" [("row",.int s.row),("column",.int s.col),("inverse",.int s.inv),("factors",.ref fn),("parts",.ref pn)])/\S[fn]? =dB (.lst (s.fac.map prt))/\S[pn]? =dB (.lst (s.par.map prt))/\fn≠sn/\pn≠sn):xA (S.set sn (.lst (ms.map .ref++[.ref m]))) sn (ss++[s]):=by
 refine⟨ms++[m],by rw[yF h1];simp,by simp[h2],λi m' s' e1 e2=> ?_⟩;by_cases hi:i<ms.length
 .rw[B2 hi] at e1;rw[B2 ⋯] at e2;obtain⟨fn,pn,g1,g2,g3⟩:=(h3 i m' s' e1 e2).ex;have cx:∀(n:Nat) (l:n8 (Nat×Int)),S[n]? =dB (.lst (l.map prt))->sn≠n:=λn l hn z=>by
   rw[<-z,h1] at hn;injection hn with hn;injection hn with hn
   cases ms with
   |nil=>simp at hi
   |cons a r=>
    cases l with
    |nil=>cases hn
    |cons b t=>rw[Be,Be] at hn;injection hn with hn;cases hn
  exact⟨fn,pn,ya g1 (λz=>by rw[<-z,h1] at g1;cases g1),ya g2 (cx _ _ g2),ya g3 (cx _ _ g3)⟩
 rw[B4 ⋯] at e1 e2;have:i-ms.length=0:=by
  have:=(AQ.1 e1).1;simp at this;omega
 rw[this] at e1;rw[show i-ss.length=0 by omega] at e2;cases e1;cases e2;obtain⟨fn,pn,g1,g2,g3,g4,g5⟩:=hs;exact⟨fn,pn,ya g1 (λz=>by rw[<-z,h1] at g1;cases g1),ya g2 (BM g4),ya g3 (BM g5)⟩
def znv(rs:n8 (n8 (Nat×Int)×Int))(c:Nat):Prop:=∃r∈rs,∃p∈r.1,p.1=c
structure SoI(q:Nat)(many:Nat)(rs:n8 (n8 (Nat×Int)×Int))(os:n8 Nat)(S:Sto)(rn cn sn i:Nat)(S':Sto):Prop where
 le:Le S S'
 k8:S.length<=sn
 cnt:∃cs,S'[cn]? =dB (.dk (dkE cs))/\∀r∈rs,∀p∈r.1,(yt cs p.1).isSome=fN
 st:∃ss,xA S' sn ss/\Sts (q:Int) many rs ss/\(∀s∈ss,zbz s)/\(∀s∈ss,∀p∈s.par,znv rs p.1)/\∀(k:Nat) o r,k<i->os[k]? =dB o->rs[o]? =dB r->Spn (q:Int) ss r.1
def zmE:∀ps:n8 (Nat×Int),zfF (ps.map prt)=dB (dkE ps):=by
 intro ps
 induction ps with
 |nil=>rfl
 |cons p r ih=>
  rw[Be];show(zfF (r.map prt)).map ((.inl (p.1:Int),.int p.2):: ·)=_;rw[ih];rfl
def zoV(h:NdE ps):((dkE ps).map (·.1)).Nodup:=by
 unfold dkE;rw[Ec];unfold NdE List.Nodup at*;rw[List.pairwise_map] at h ⊢;exact h.imp λh z=>h (Vt.1 z)
def zmF(h:S[n]? =dB (.dk kvs))(k:P (.int kvs.length) S):WO (zd9 [.ref n] S) P:= .of (by unfold zd9;dsimp only;rw[yS h];rfl) k
def zaZ(h:W (evL ms ρ S) λds S1=>W (tw ds S1) P):W (zay tw ms ρ S) P:=W.bind (h.imp λds S1 h=>by
 obtain⟨a,S2,e,k⟩:=h;rw[e]
 exact .of rfl k)
def Spn.of(h1:∀f∈fs,f.1<ss.length)(h:∀x,Cg m (zy ps x) (zy fs (ats ss x))):Spn m ss ps:=⟨fs,h1,h⟩
set_option tactic.hygienic true in
def zg8(hf:Big fu){q:Nat}(q1:1<q)(lh:zk 5500 (q:Int))(h:wI S rn rs)(ok:∀r∈rs,Xr many r)(hm:many<=60)(hl:rs.length<64)(aO:S[1]? =dB (.tab Zg.t)):
  W (ZL fu [.ref rn,.int (q:Int)] S) λv S'=>Le S S'/\((v= .non/\¬Pr q)\/∃sn ss,v= .ref sn/\S.length<=sn/\xA S' sn ss/\Sts (q:Int) many rs ss/\(∀s∈ss,zbz s)/\∀r∈rs,Spn (q:Int) ss r.1):=by
 walk_at "wr";unfold Wg;ext;refine(zkD h ok ⋯ ⋯).imp ?_;rintro _ S1 ⟨gf,cn,cs,rfl,dP,hc,j9⟩;ext;have mz:Le S (S1++[.lst []]):=gf.app;have h2:=h.le mz;obtain⟨ms,rh,tX,tU⟩:=id h2;have k8:(S1++[Ce.lst []])[S1.length]? =dB (.lst []):=zx;have dR:(S1++[Ce.lst []])[cn]? =dB (.dk (dkE cs)):=zr hc;have jv:=mz.2 _ _ aO;have mY:S.length<=S1.length:=gf.1;generalize rR:S1++[Ce.lst []]=S2 at mz h2 rh tU k8 dR jv;refine xg (xB (zhS ?_));ext;refine yW (zb rh) ?_;rw[AV,tX];ext;refine⟨⟨⋯,⋯⟩,?_⟩;refine zj4 jv rfl ?_;refine⟨_,_,_,_,_,rfl,zgO,zfH (g:=λj=>((rs[j]?).map λr=>(r.1.length:Int)).getD 0) _ _ λj _ hj=> ?_,?_⟩
 .have hj:j<rs.length:=by omega
  have er:rs[j]? =dB rs[j]:=AK hj;rw[zoT h2 er,er];rfl
 generalize r9:Xs _=os;have gL:os.Perm (BX rs.length):=by
  have:=Ww ((List.range' 0 (rs.length:Int).toNat).map λj=>((rs[j]?).map λr=>(r.1.length:Int)).getD 0) ({}:pX);rw[r9] at this;simpa using this
 have tR:os.length=rs.length:=by rw[gL.length_eq,Hl]
 refine⟨_,zb zx,_,zb zx,?_⟩;refine yE (xs:=os.map λi:Nat=>Xv.int (i:Int)) (λi ρ S'=>∃a4 a5 a6 a7 a8 a9 cw,ρ=[dB (.ref rn),dB (.int (q:Int)),dB (.ref cn),dB (.ref S1.length),a4,a5,a6,a7,a8,a9,cw]/\S'[S2.length]? =dB (.lst (os.map λi:Nat=>Xv.int (i:Int)))/\SoI q many rs os S rn cn S1.length i S') ?_ ?_ ?_ ?_;rintro i ρ S' _ ⟨a4,a5,a6,a7,a8,a9,cw,rfl,h,_⟩;exact zb h
 .rintro i y ρ S' hy ⟨a4,a5,a6,a7,a8,a9,cw,rfl,lB,so⟩;rw[AW,AY] at hy;obtain⟨o,hy,rfl⟩:=hy;have ho:o<rs.length:=Cw.1 (gL.mem_iff.1 (AX hy));have er:rs[o]? =dB rs[o]:=AK ho;generalize rs[o]=r at er;have hr:=AX er;have eT:=ok r hr;obtain⟨le,_,⟨cs',eK,jR⟩,ss,dW,aA,sb,nc,gU⟩:=so;obtain⟨ms',oH,tW,oI⟩:=h.le le;have em:ms'[o]? =dB ms'[o]:=AK ⋯;generalize ms'[o]=mi at em;obtain⟨pn,g1,g2⟩:=(oI o mi r em er).ex;have oi:∃jm:n8 Nat,S'[S1.length]? =dB (.lst (jm.map Xv.ref)):=by obtain⟨jm,e,_⟩:=id dW;exact⟨jm,e⟩
  refine .of rfl ?_;dsimp only[BL];refine zJ (wa (zaI (yK (wV (wU ?_)))));ext;refine yy (zb oH) (yP (z:= .ref mi) ⋯ (by rw[AW,B9,em];rfl)) ?_;refine⟨mi,_,.ref pn,rfl,g1,rfl,?_⟩;ext;refine zkh (yR g2) (zmE _) (zoV eT.nd) ?_;have l3:Le S' (S'++[.dk (dkE r.1)]):=Le.refl.app;have d3:(S'++[.dk (dkE r.1)])[S'.length]? =dB (.dk (dkE r.1)):=zx;refine zJ (wa (zaZ ?_));ext;refine(zh7 (C:=znv rs) (many:=many) (rows:=rs) (es0:=r.1) ⟨⋯,lh⟩ d3 ((dW.le l3).toX d3) aA sb eT.nd (λp hp=>⟨(eT.lt p hp).1,(eT.lt p hp).2.mono ∅⟩) ⋯ (λp hp=>⟨r,hr,p,hp,rfl⟩) nc).imp ?_;rintro _ S4 ⟨l4,fn,es,fs,rfl,gP,uB,d4,tk⟩;ext;refine zaZ ?_;ext;have bD:es.length<=many:=tk.nd.len λp hp=>(tk.col p hp).1;refine(zmD (m:=(q:Int)) ⋯ d4 tk.nd ⋯).imp ?_;rintro _ S5 ⟨l5,ln,rfl,Ak,d5⟩;have sM:LeX S'.length (S'++[.dk (dkE r.1)]) S5:=l4.trans l5;have jo:Le S' S5:=(l3.toX.trans sM).le (B1 _);have rE:(S'++[Ce.dk (dkE r.1)]).length=S'.length+1:=by rw[Bz,DH]
  have oY:fn≠S'.length:=by omega
  have rJ:=l5.2 _ _ oY uB;have tI:S1.length<S'.length:=by obtain⟨jm,e⟩:=oi;exact vp e
  have uI:cn<S'.length:=vp eK;have lE:S'.length<=ln:=by have:=l4.1;omega
  have uw:S'.length<fn:=by omega
  have my:=zmC (m:=(q:Int)) tk.nd;have fU:∀p∈vk (q:Int) es,p.1<many/\p.1∉zQ ss/\0<p.2/\p.2<q/\∃v,(p.1,v)∈es:=λp hp=>by
   obtain⟨q',bP,e1,e2,e3⟩:=zeJ hp;obtain⟨c1,c2,_⟩:=tk.col q' bP;rw[Bx] at c2;have b1:=BK q'.2 (show(0:Int)<q by omega);have b2:=C6 q'.2 (show(q:Int)≠0 by omega);exact⟨by rw[<-e1];exact c1,by rw[<-e1];exact c2,⋯,⋯,q'.2,by rw[<-e1];exact bP⟩
  have kM:∀x,Cg (q:Int) (zy r.1 x) (zy fs (ats ss x)+zy (vk (q:Int) es) x):=λx=>(tk.eq x).trans ((Cg.refl).add zmy.symm);have iF:∀f∈fs,f.1<ss.length:=λf hf=>(tk.fac f hf).1;ext;refine yc ?_;ext;refine zmF d5 ?_;ext;refine yp (λll=> ?_) (λhz=> ?_)
  .
   unfold dkE at ll;rw[AV] at ll;have nC:S5[1]? =dB (.tab zcd.t):=jo.2 _ _ (le.2 _ _ aO);have pq:S5[cn]? =dB (.dk (dkE cs')):=jo.2 _ _ eK;have dF:cn≠ln:=by omega
   refine zJ (wa (zml ?_));ext;refine⟨⟨_,yS d5⟩,zj4 nC rfl ?_⟩;have fK:Ti (zce fu [.ref cn]) (dkE (vk (q:Int) es)) (S5.set ln (.fdk (dkE (vk (q:Int) es))))=dB ((dkE (vk (q:Int) es)).map λp=>(match p.1 with| .inl c=>[(yt cs' c.toNat).getD 0,c]|_=>[]),S5.set ln (.fdk (dkE (vk (q:Int) es)))):=by
    refine zfJ (g:=λk=>match k with| .inl c=>[(yt cs' c.toNat).getD 0,c]|_=>[]) _ λp hp=> ?_;unfold dkE at hp;obtain⟨p',fh,rfl⟩:=Bq.1 hp;obtain⟨_,_,_,_,v,hv⟩:=fU p' fh;obtain⟨r',dM,p2,oA,e2⟩:=tk.cc _ hv;refine⟨_,zoU (ya pq (BM dF)) (by have:=jR r' dM p2 oA;rw[e2] at this;exact this),?_⟩;show dB _=dB _;simp
   have jT:yN ((dkE (vk (q:Int) es)).map λp=>(match p.1 with| .inl c=>[(yt cs' c.toNat).getD 0,c]|_=>[])) ((dkE (vk (q:Int) es)).length-1)<(vk (q:Int) es).length:=by
    have:=TN (λi j=>ltL (((dkE (vk (q:Int) es)).map λp=>(match p.1 with| .inl c=>[(yt cs' c.toNat).getD 0,c]|_=>[])).getD i []) (((dkE (vk (q:Int) es)).map λp=>(match p.1 with| .inl c=>[(yt cs' c.toNat).getD 0,c]|_=>[])).getD j [])) ((dkE (vk (q:Int) es)).length-1);have mS:(dkE (vk (q:Int) es)).length=(vk (q:Int) es).length:=AV ..;unfold yN;omega
   generalize uN:yN ((dkE (vk (q:Int) es)).map λp=>(match p.1 with| .inl c=>[(yt cs' c.toNat).getD 0,c]|_=>[])) ((dkE (vk (q:Int) es)).length-1)=bi at jT;generalize Al:vk (q:Int) es=lf at*;have e0:lf[bi]? =dB lf[bi]:=AK jT;generalize lf[bi]=p0 at e0;have p0m:=AX e0;obtain⟨p1,p2,p3,p4,_⟩:=fU p0 p0m;have x8:(dkE lf)[bi]? =dB ((.inl (p0.1:Int):Key),.int p0.2):=by unfold dkE;rw[AW,e0];rfl
   refine⟨_,_,_,_,_,_,_,((.inl (p0.1:Int):Key),.int p0.2),rfl,zgO,yS d5,fK,by rw[uN];exact x8,?_⟩;have lT:(S5.set ln (.fdk (dkE lf))).set ln (.dk (dkE lf))=S5:=by
    rw[Ef];apply Em;intro n;rw[Bs];split;rename_i z;subst z;rw[if_pos (vp d5),d5];rfl
   rw[lT];dsimp only[BL];refine zJ (wa (zaZ (yK (zkc ?_))));ext;refine⟨⟨_,yS d5⟩,?_⟩;ext;refine⟨ln,_,_,.int p0.2,yS d5,vU,by rw[Wx,UR my p0m];rfl,?_⟩;rw[zg7];ext;have d6:(S5.set ln (.dk (dkE (xE lf p0.1))))[ln]? =dB (.dk (dkE (xE lf p0.1))):=yF d5;have l6:Le S' (S5.set ln (.dk (dkE (xE lf p0.1)))):=jo.set lE;have p9:(S5.set ln (.dk (dkE (xE lf p0.1))))[fn]? =dB (.lst (fs.map prt)):=ya rJ (λz=>by rw[z,rJ] at d5;cases d5);generalize S5.set ln (.dk (dkE (xE lf p0.1)))=S6 at d6 l6 p9;refine(zh6 hf q1 (lh.mono ∅) p3 p4).imp ?_;rintro _ _ ⟨rfl,⟨rfl,jI⟩|⟨inv,rfl,i1,i2,i3⟩⟩;ext;refine yc ?_;ext;refine wd ?_;ext;refine⟨λ_=> ?_,nofun⟩;ext;exact⟨le.trans l6,.inl ⟨rfl,jI⟩⟩
   ext;refine yc ?_;ext;refine wd ?_;ext;refine⟨nofun,λ_=> ?_⟩;ext;have ib:zk 5500 inv:=lh.abs ⋯;refine yd (zjY ?_);ext;have f6:(S6.set ln (.fdk (dkE (xE lf p0.1))))[ln]? =dB (.fdk (dkE (xE lf p0.1))):=yF d6;have fa:zaM ln (S6.set ln (.fdk (dkE (xE lf p0.1))))=dB ((xE lf p0.1).map prt):=by unfold zaM;rw[f6];exact congrArg dB zcl
   have l7:Le S' (S6.set ln (.fdk (dkE (xE lf p0.1)))):=l6.set lE;have rH:(S6.set ln (.fdk (dkE (xE lf p0.1))))[fn]? =dB (.lst (fs.map prt)):=ya p9 (λz=>by rw[z,p9] at d6;cases d6);refine⟨ln,_,yS d6,_,fa,?_⟩;generalize S6.set ln (.fdk (dkE (xE lf p0.1)))=S7 at fa l7 rH;have sF:(xE lf p0.1).length<=60:=AZ (AZ (EE _ _) (my.len λp hp=>(fU p hp).1)) hm;refine zZ (xs:=(xE lf p0.1).map prt) (by rw[AV];exact Ba (yh ⋯)) (λj es S8=>S7=S8/\es=(((xE lf p0.1).take j).map λp=>(p.1,p.2*inv % (q:Int))).map prt) ?_ ?_ ?_ ?_;rintro j es S8 _ ⟨rfl,_⟩;exact fa;rintro j y es S8 eE bD ⟨rfl,rfl⟩;rw[AW,AY] at eE;obtain⟨p,eE,rfl⟩:=eE;have tP:=(Wp (AX eE)).1;obtain⟨_,_,b3,b4,_⟩:=fU p tP;refine .of rfl ?_;ext;refine⟨rfl,?_⟩;ext;refine zX (lh.abs ⋯) ib ∅ ?_;ext;refine xy ⋯ ?_;ext;refine⟨rfl,?_⟩;rw[Bt,eE];simp[prt];exact⟨rfl,by simp⟩
   rintro Ay S8 uC ⟨rfl,rfl⟩;rw[AV,Bx];generalize jD:(xE lf p0.1).map (λp=>(p.1,p.2*inv % (q:Int)))=par;have l8:Le S' (S7++[.lst (par.map prt)]):=l7.app;have r6:(S7++[Ce.lst (par.map prt)])[S7.length]? =dB (.lst (par.map prt)):=zx;have rG:(S7++[Ce.lst (par.map prt)])[fn]? =dB (.lst (fs.map prt)):=zr rH;have ou:S1.length≠S7.length:=by have:=l7.1;omega
   ext;generalize Ar:S7++[Ce.lst (par.map prt)]=S8 at l8 r6 rG;obtain⟨jm,m1,m2,m3⟩:=dW.le l8;refine WN ?_;ext;refine⟨⟨_,zb m1⟩,?_⟩;refine yK (zgM ?_);ext;refine(zf0 zx).imp ?_;rintro _ _ ⟨rfl,rfl⟩;refine⟨rfl,?_⟩;have fW:(S8++[Ce.ins "Step" []]).set S8.length (.ins "Step" [("row",.int (o:Int)),("column",.int (p0.1:Int)),("inverse",.int inv),("factors",.ref fn),("parts",.ref S7.length)])=S8++[.ins "Step" [("row",.int (o:Int)),("column",.int (p0.1:Int)),("inverse",.int inv),("factors",.ref fn),("parts",.ref S7.length)]]:=by simp
   rw[show kX (.inl (p0.1:Int))= .int (p0.1:Int) from rfl,fW];have A6:jm.length=ss.length:=m2;have ssl:ss.length<=many:=aA.le;refine zfm ?_;refine xT (yR (zr m1)) (by rw[AV];exact yh ⋯) ?_;have lj:=xA.push (S:=S8++[.ins "Step" [("row",.int (o:Int)),("column",.int (p0.1:Int)),("inverse",.int inv),("factors",.ref fn),("parts",.ref S7.length)]]) (m:=S8.length) (s:=⟨o,p0.1,inv,fs,par⟩) (zr m1) m2 (λi m s e1 e2=>(m3 i m s e1 e2).le Le.refl.app) ⟨fn,S7.length,zx,zr rG,zr r6,⋯,BM ou⟩;have kx:∀(n:Nat) c,n≠S1.length->S'[n]? =dB c->((S8++[Ce.ins "Step" [("row",.int (o:Int)),("column",.int (p0.1:Int)),("inverse",.int inv),("factors",.ref fn),("parts",.ref S7.length)]]).set S1.length (.lst (jm.map Xv.ref++[Xv.ref S8.length])))[n]? =dB c:=λn c hn e=>ya (zr (l8.2 _ _ e)) (BM hn);have ki:∀x,Cg (q:Int) (zy r.1 x) (zy fs (ats ss x)+p0.2*(⟨o,p0.1,inv,fs,par⟩:Stp).at x):=λx=>by
    have h5:=kM x;rw[zg3 (c:=p0.1) my,UR my p0m] at h5;have h6:Cg (q:Int) (zy par x) (inv*zy (xE lf p0.1) x):=by rw[<-jD];exact zkv
    unfold Stp.at;obtain⟨k1,h5⟩:=h5;obtain⟨k2,h6⟩:=h6;obtain⟨k3,i3⟩:=i3;exact⟨k1-p0.2*k2-k3*zy (xE lf p0.1) x,by dsimp only[Cu] at*;grind⟩
   have ji:∀p∈par,∃p'∈lf,p'.1=p.1/\p.1≠p0.1/\0<=p.2/\p.2<q:=λp hp=>by
    rw[<-jD] at hp;obtain⟨p',fh,rfl⟩:=Bq.1 hp;obtain⟨a,b⟩:=Wp fh;exact⟨p',a,rfl,b,C6 _ ⋯,BK _ ⋯⟩
   refine⟨_,_,_,_,_,_,_,rfl,kx _ _ (by rw[<-rR,Bz];simp) lB,⟨AZ le.1 (by simpa using AZ l8.1 (Cq _)),λn c e=>kx n c (by have:=vp e;omega) (le.2 _ _ e)⟩,mY,⟨cs',kx _ _ (λz=>by obtain⟨mm,e,_⟩:=id dW;rw[z,e] at eK;cases eK) eK,jR⟩,ss++[⟨o,p0.1,inv,fs,par⟩],lj,.snoc aA ⟨⟨p1,p2⟩,λp hp=> ?_,iF,r.1,r.2,p0.2,er,i3,ki⟩,λs hs=> ?_,λs hs p hp=> ?_,λk o' r' hk e1 e2=> ?_⟩;obtain⟨p',a,b,c,_⟩:=ji p hp;obtain⟨d1,d2,_⟩:=fU p' a;rw[b] at d1 d2;exact⟨d1,c,d2⟩;rcases Bf.1 hs with hs|hs;exact sb s hs;rw[B5.1 hs];refine⟨ib,⟨AZ tk.fl ⋯,λp hp=>(tk.fac p hp).2⟩,⟨by show par.length<=100;rw[<-jD,AV];omega,λp hp=> ?_⟩⟩;obtain⟨_,_,_,_,c1,c2⟩:=ji p hp;exact lh.abs ⋯;rcases Bf.1 hs with hs|hs;exact nc s hs p hp;rw[B5.1 hs] at hp;obtain⟨p',a,b,_⟩:=ji p hp;obtain⟨_,_,_,_,v,hv⟩:=fU p' a;have:=tk.cc _ hv;rw[b] at this;exact this;by_cases lI:k<i;exact (gU k o' r' lI e1 e2).app
   obtain rfl:k=i:=by omega
   rw[hy] at e1;cases e1;rw[er] at e2;cases e2;refine Spn.of (fs:=fs++[(ss.length,p0.2)]) (λf hf=> ?_) λx=> ?_;rw[Bz];rcases Bf.1 hf with hf|hf;have:=iF f hf;omega;rw[B5.1 hf];simp;rw[TU,TV,zaW,yQ (y:=ats ss x) λp hp=>TW (iF p hp)];exact ki x
  .
   have oF:vk (q:Int) es=[]:=by
    unfold dkE at hz;rw[AV] at hz;exact FV.1 ⋯
   ext;refine⟨_,_,_,_,_,_,_,rfl,jo.2 _ _ lB,le.trans jo,mY,⟨cs',jo.2 _ _ eK,jR⟩,ss,dW.le jo,aA,sb,nc,λk o' r' hk e1 e2=> ?_⟩;by_cases lI:k<i;exact gU k o' r' lI e1 e2
   obtain rfl:k=i:=by omega
   rw[hy] at e1;cases e1;rw[er] at e2;cases e2;refine Spn.of iF λx=> ?_;have:=kM x;rwa [oF,TR,FG] at this
 .refine⟨_,_,_,_,_,_,_,rfl,zx,mz.app,mY,⟨cs,zr dR,j9⟩,[],⟨[],zr k8,rfl,λi m s e=>by simp at e⟩,.nil,(λs hs=>by cases hs),(λs hs=>by cases hs),λk o r hk=>by omega⟩
 rintro ρ S' ⟨a4,a5,a6,a7,a8,a9,cw,rfl,_,le,_,_,ss,dW,aA,sb,_,gU⟩;ext;refine⟨le,.inr ⟨_,ss,rfl,mY,dW,aA,sb,λr hr=> ?_⟩⟩;obtain⟨o,ho⟩:=By hr;have mK:o∈os:=gL.mem_iff.2 (Cw.2 (AQ.1 ho).1);obtain⟨k,hk⟩:=By mK;exact gU k o r (by rw[AV];exact(AQ.1 hk).1) hk ho
def zoW{Q':(Sto->pU (n8 Xv))->Sto->Prop}(h:W (m ρ S) λx S1=>∃l,zA S1 x=dB l/\Q' (λS=>(zA S x).bind λl2=>if l2.length=l.length then dB l2.reverse else fC) S1):W (iRv m ρ S) Q':=W.bind (h.imp λx S1 h=>by
 obtain⟨l,e,k⟩:=h;rw[e]
 exact .of rfl k)
def ZF{l k:n8 Xv}{i:Nat}{y:Xv}(h:(Yr l k)[i]? =dB y):∃a b,l[i]? =dB a/\k[i]? =dB b/\y= .tup [a,b]:=by
 unfold Yr at h;rw[AW,AY] at h;obtain⟨⟨a,b⟩,h1,rfl⟩:=h;rw[CH] at h1;exact⟨a,b,h1.1,h1.2,rfl⟩
def vQ(h:l.length=k.length):(Yr l k).length=l.length:=by unfold Yr;rw[AV,G2,h,EZ]
def zkE(h:l.length=k.length):(zbm l k).length=l.length:=by unfold zbm;rw[AV,G2,h,EZ]
def zg9(h:i<vs.length):vec (vs++[v]) i=vec vs i:=by unfold vec;rw[AU,B2 h,AU]
def zkF:vec (vs++[v]) vs.length=v:=by unfold vec;rw[AU,B4 (B1 _),CP];rfl
def zmG(h:c<vs.length):vec (vs.set c v) d=zby (vec vs) c v d:=by
 unfold vec zby;rw[AU,Bs];by_cases e:d=c;subst e;rw[if_pos rfl,if_pos h,if_pos rfl];rfl;rw[if_neg (BM e),if_neg e];exact(AU ..).symm
def TX(h:vs.length<=c):vec vs c=0:=by unfold vec;rw[AU,Bu h];rfl
def zqg:∀n:Nat,(B6 n [Xv.int 0]).flatten=(B6 n (0:Int)).map .int:=by
 intro n
 induction n with
 |zero=>rfl
 |succ n ih=>rw[Ck,D7,Ck,Be,<-ih];rfl
def Wy(h:c<l):ixN l (c:Int)=dB c:=by
 unfold ixN;rw[if_pos ⋯,if_pos ⋯,B9]
def zh9(hm:0<m/\zk 5500 m)(hs:xA S sn ss)(aA:Sts m many rows ss)(sb:∀s∈ss,zbz s)(hl:S[ln]? =dB (.lst (ls.map .int)))(ka:ls.length=ss.length)(fJ:many<=60):
  W (yL fu [.ref sn,.ref ln,.int many,.int m] S) λv S'=>Le S S'/\∃nn ns,v= .ref nn/\S'[nn]? =dB (.lst (ns.map .int))/\ns.length=many/\(∀n∈ns,0<=n/\n<m)/\(∀c,c∉zQ ss->vec ns c=0)/\∀(i:Nat) s ps l,ss[i]? =dB s->rows[s.row]? =dB (ps,l)->Cg m (zy ps (vec ns)) (vec ls i):=by
 obtain⟨ms,h1,h2,h3⟩:=id hs;have oj:ss.length<=60:=AZ aA.le fJ;have mb:∀z:Int,0<=z->z<m->zk 5500 z:=λz a b=>hm.2.abs ⋯;walk_at "wr";unfold xz;ext;refine xg (Wv ?_);ext;refine⟨⟨_,zb (zr h1)⟩,⟨_,zb (zr hl)⟩,_,wj (zb (zr h1)) (zb (zr hl)),?_⟩;have fH:(Yr (ms.map Xv.ref) (ls.map Xv.int)).length=ss.length:=by rw[vQ (by simp[h2,ka]),AV,h2]
 refine vZ (λρ S'=>∃vs a5 a6 a7,ρ=[dB (.ref sn),dB (.ref ln),dB (.int many),dB (.int m),dB (.ref S.length),a5,a6,a7,fC,fC]/\Le S S'/\S'[S.length]? =dB (.lst (vs.map .int))/\vs.length=ss.length/\(∀v∈vs,0<=v/\v<m)/\∀(j:Nat) s,ss[j]? =dB s->Cg m (vec vs j) ((vec ls j-zy s.fac (vec vs))*s.inv)) ?_ ?_
 .refine yE (xs:=Yr (ms.map Xv.ref) (ls.map Xv.int)) (λi ρ S'=>∃vs a5 a6 a7,ρ=[dB (.ref sn),dB (.ref ln),dB (.int many),dB (.int m),dB (.ref S.length),a5,a6,a7,fC,fC]/\Le S S'/\S'[S.length]? =dB (.lst (vs.map .int))/\vs.length=i/\(∀v∈vs,0<=v/\v<m)/\∀(j:Nat) s,j<i->ss[j]? =dB s->Cg m (vec vs j) ((vec ls j-zy s.fac (vec vs))*s.inv)) ?_ ?_ ?_ ?_;rintro i ρ S' _ ⟨vs,a5,a6,a7,rfl,le,_⟩;exact wj (zb (le.2 _ _ h1)) (zb (le.2 _ _ hl))
  .rintro i y ρ S' hy ⟨vs,a5,a6,a7,rfl,le,hv,gI,k7,k6⟩;obtain⟨a,b,e1,e2,rfl⟩:=ZF hy;rw[AW,AY] at e1 e2;obtain⟨mi,e1,rfl⟩:=e1;obtain⟨l,e2,rfl⟩:=e2;have hi:i<ss.length:=by rw[<-h2];exact(AQ.1 e1).1
   have es:ss[i]? =dB ss[i]:=AK hi;generalize ss[i]=s at es;have so:=aA.at i s es;have sb':=sb s (AX es);obtain⟨fn,pn,g1,g2,g3⟩:=((h3 i mi s e1 es).le le).ex;have cJ:∀p∈s.fac,p.1<vs.length/\zk 5500 p.2:=λp hp=>⟨by have:=so.fac p hp;rw[BI] at this;omega,sb'.fac.2 p hp⟩;have kT:∀v∈vs,zk 5500 v:=λv hv=>mb v (k7 v hv).1 (k7 v hv).2;refine .of rfl ?_;dsimp only[BL];refine zJ (wa (zkB (pn:=fn) (vn:=S.length) (n:=5500) (m:=5500) (ps:=s.fac) (vs:=vs) (wV ?_) rfl g2 hv (by have:=sb'.fac.1;omega) cJ kT ∅ λT=> ?_));ext;exact⟨mi,_,.ref fn,rfl,g1,rfl,rfl,rfl⟩;dsimp only[BL];have iS:(S'++[T])[S.length]? =dB (.lst (vs.map .int)):=zr hv;refine YK (WN ?_);ext;refine⟨⟨_,zb iS⟩,?_⟩;refine yK (wU (wU (wU ?_)));ext;apply xy hm.1;ext;apply wV;ext;refine⟨mi,_,.int s.inv,rfl,zr g1,rfl,?_⟩;have b1:zk 5500 (l % m):=mb _ (C6 _ ⋯) (BK _ hm.1);have b2:zk 11100 (zy s.fac (vec vs)):=(zeH cJ kT sb'.fac.1).mono ∅;apply zX (n:=11101) (m:=5500) (zk.sub (n:=11100) (b1.mono ∅) b2 ∅) sb'.inv ∅;ext;apply xy hm.1;ext;apply xT (yR iS) (by rw[AV];exact yh ⋯);refine⟨vs++[(l % m-zy s.fac (vec vs))*s.inv % m],_,_,_,rfl,le.app.set (B1 _),by rw[yF iS];simp,by simp[gI],λv hv=> ?_,λj s' hj es'=> ?_⟩;rcases Bf.1 hv with hv|hv;exact k7 v hv;rw[B5.1 hv];exact⟨C6 _ ⋯,BK _ hm.1⟩
   have lM:∀p∈s'.fac,p.1<vs.length:=λp hp=>by
    have:=(aA.at j s' es').fac p hp;rw[BI] at this;omega
   rw[yQ (y:=vec vs) λp hp=>zg9 (lM p hp)];by_cases uh:j<i;rw[zg9 ⋯];exact k6 j s' uh es'
   obtain rfl:j=i:=by omega
   rw[es] at es';cases es';rw[show j=vs.length from gI.symm,zkF,gI];have hl2:vec ls j=l:=by unfold vec;rw[AU,e2];rfl
   rw[hl2];exact(Cg.mod m _).trans (((Cg.mod m l).sub .refl).mul .refl)
  .exact⟨[],_,_,_,rfl,Le.refl.app,zx,rfl,(λv hv=>by cases hv),λj s hj=>by omega⟩
  rintro ρ S' ⟨vs,a5,a6,a7,rfl,le,hv,gI,k7,k6⟩;rw[fH] at gI k6;exact⟨vs,a5,a6,a7,rfl,le,hv,gI,k7,λj s es=>k6 j s (AQ.1 es).1 es⟩
 rintro ρ S2 ⟨vs,a5,a6,a7,rfl,le,hv,gI,k7,k6⟩;ext;refine zgV (zb zx) ⟨⋯,⋯,by simp;exact Ba (yh ⋯)⟩ ?_;ext;have om:(B6 (many:Int).toNat [Xv.int 0]).flatten=(B6 many (0:Int)).map .int:=by rw[B9];exact zqg many
 rw[om];have l3:Le S (S2++[.lst [.int 0]]++[.lst ((B6 many (0:Int)).map .int)]):=le.app.app;have qN:(S2++[.lst [.int 0]]++[.lst ((B6 many (0:Int)).map .int)])[S.length]? =dB (.lst (vs.map .int)):=zr (zr hv);have mL:(S2++[.lst [.int 0]]++[.lst ((B6 many (0:Int)).map .int)])[(S2++[Ce.lst [.int 0]]).length]? =dB (.lst ((B6 many (0:Int)).map .int)):=zx;have fj:S.length<=(S2++[Ce.lst [.int 0]]).length:=le.app.1;generalize (S2++[Ce.lst [.int 0]]).length=nn at mL fj;generalize (S2++[.lst [.int 0]]++[.lst ((B6 many (0:Int)).map .int)])=S3 at l3 qN mL;refine xg (zoW (zks ?_));ext;have gW:(zbm (ms.map Xv.ref) (vs.map Xv.int)).length=ss.length:=by rw[zkE (by simp[h2,gI]),AV,h2]
 refine⟨_,_,_,_,rfl,zb (l3.2 _ _ h1),zb qN,by simp[h2,gI],_,zb zx,(zbm (ms.map Xv.ref) (vs.map Xv.int)).reverse,?_,?_⟩;dsimp only;rw[zb zx,B7,if_pos rfl];refine yE (xs:=(zbm (ms.map Xv.ref) (vs.map Xv.int)).reverse) (λi ρ S'=>∃ns a5 a7 a9,ρ=[dB (.ref sn),dB (.ref ln),dB (.int many),dB (.int m),dB (.ref S.length),a5,a6,a7,dB (.ref nn),a9]/\Le S S'/\S'[S3.length]? =dB (.lst (zbm (ms.map Xv.ref) (vs.map Xv.int)))/\S'[nn]? =dB (.lst (ns.map .int))/\ns.length=many/\(∀n∈ns,0<=n/\n<m)/\Bk m ss (vec vs) (ss.length-i) (vec ns)) ?_ ?_ ?_ ?_;rintro i ρ S' _ ⟨ns,a5,a7,a9,rfl,_,h,_⟩;rw[zb h,B7,if_pos rfl]
 .rintro i y ρ S' hy ⟨ns,b5,b7,b9,rfl,l4,mE,jK,fX,gZ,bk⟩;have hi:i<ss.length:=by have:=(AQ.1 hy).1;rw[GL,gW] at this;exact this
  rw[Gj (by rw[gW];exact hi),gW] at hy;generalize hk:ss.length-1-i=k at hy;have cG:k<ss.length:=by omega
  unfold zbm at hy;rw[AW,AY] at hy;obtain⟨⟨a,b⟩,hy,rfl⟩:=hy;rw[CH,AW,AW,AY,AY] at hy;obtain⟨⟨mi,e1,rfl⟩,v,e2,rfl⟩:=hy;have es:ss[k]? =dB ss[k]:=AK cG;generalize ss[k]=s at es;have so:=aA.at k s es;have sb':=sb s (AX es);obtain⟨fn,pn,g1,g2,g3⟩:=((h3 k mi s e1 es).le l4).ex;have cJ:∀p∈s.par,p.1<ns.length/\zk 5500 p.2:=λp hp=>⟨by rw[fX];exact(so.par p hp).1,sb'.par.2 p hp⟩;have oG:∀v∈ns,zk 5500 v:=λv hv=>mb v (gZ v hv).1 (gZ v hv).2;have dP:s.col<ns.length:=by rw[fX];exact so.col.1
  refine .of rfl ?_;dsimp only[BL];refine zJ (wa (zkB (pn:=pn) (vn:=nn) (n:=5500) (m:=5500) (ps:=s.par) (vs:=ns) (wV ?_) rfl g3 jK (by have:=sb'.par.1;omega) cJ oG ∅ λT=> ?_));ext;exact⟨mi,_,.ref pn,rfl,g1,rfl,rfl,rfl⟩
  dsimp only[BL];apply Yq;ext;apply xy hm.1;ext;apply wV;ext;refine⟨mi,_,.int (s.col:Int),rfl,zr g1,rfl,nn,_,_,s.col,yR (zr jK),rfl,by rw[AV];exact Wy dP,?_⟩;have cx:nn≠S3.length:=λz=>by
   have:=vp mL;omega
  refine⟨ns.set s.col ((v-zy s.par (vec ns)) % m),_,_,_,rfl,l4.app.set fj,ya (zr mE) cx,by rw[yF (zr jK),He],by rw[Dj];exact fX,λn hn=> ?_,?_⟩;rcases Dn hn with hn|rfl;exact gZ n hn;exact⟨C6 _ ⋯,BK _ hm.1⟩
  have t9:vec vs k=v:=by unfold vec;rw[AU,e2];rfl
  rw[show ss.length-(i+1)=k by omega,show vec (ns.set s.col ((v-zy s.par (vec ns)) % m))=zby (vec ns) s.col ((v-zy s.par (vec ns)) % m) from funext λd=>zmG dP];apply aA.back es (by rw[show k+1=ss.length-i by omega];exact bk);rw[t9];exact Cg.mod m _
 .refine⟨B6 many 0,_,_,_,rfl,l3.app,zx,zr mL,by simp,λn hn=> ?_,λj hj iZ=>by omega,λc _=> ?_⟩;rw[FH hn];exact⟨⋯,⋯⟩
  unfold vec;rw[AU,D9];split<;>rfl
 rintro ρ S' ⟨ns,b5,b7,b9,rfl,l4,mE,jK,fX,gZ,bk⟩;rw[GL,gW,CP] at bk;ext;refine⟨l4,nn,ns,rfl,jK,fX,gZ,λc hc=>bk.2 c (by rw[HY];exact hc),λi s ps l es er=> ?_⟩;exact aA.solve (vs:=vec vs) (lasts:=vec ls) k6 (λj hj=>bk.1 j (Cy _) hj) es er
noncomputable def chs(rows:n8 (n8 (Nat×Int)×Int))(ss:n8 Stp):n8 (n8 (Nat×Int)×Int):=ss.map λs=>(rows[s.row]?).getD ([],0)
def Xn{m:Int}{ss:n8 Stp}(aA:Sts m many rows ss){i:Nat}{s:Stp}(h:ss[i]? =dB s):∃r,rows[s.row]? =dB r/\(chs rows ss)[i]? =dB r:=by
 obtain⟨ps,l,u,e,_⟩:=(aA.at i s h).eq;refine⟨_,e,?_⟩;unfold chs;rw[AW,h];show dB ((rows[s.row]?).getD ([],0))=_;rw[e];rfl
def vN(aA:Sts m many rows ss)(h:r∈chs rows ss):r∈rows:=by
 unfold chs at h;obtain⟨s,hs,rfl⟩:=Bq.1 h;obtain⟨i,hi⟩:=By hs;obtain⟨ps,l,u,e,_⟩:=(aA.at i s hi).eq;rw[e];exact AX e
structure zf1(rows:n8 (n8 (Nat×Int)×Int))(ss:n8 Stp)(X:Nat->Int)(D H:Int):Prop where
 pos:0<D/\D<=H
 bd:∀c, -H<=X c/\X c<=H
 out:∀c,c∉zQ ss->X c=0
 eq:∀r∈chs rows ss,zy r.1 X=r.2*D
noncomputable def pws(m:Int)(k:Nat):n8 Int:=(BX (k+1)).map λi=>m^i
structure LfI(q many:Nat)(rows:n8 (n8 (Nat×Int)×Int))(ss:n8 Stp)(cn k:Nat)(S:Sto)(ln nn pn:Nat)(S':Sto):Prop where
 le:Le S S'
 ch:wI S' cn (chs rows ss)
 hp:S.length<=pn/\S'[pn]? =dB (.lst ((pws q k).map .int))
 ls:∃ls:n8 Int,S'[ln]? =dB (.lst (ls.map .int))/\ls.length=ss.length/\(∀l∈ls,zk (7700+k) l)/\
  ∃ns:n8 Int,S'[nn]? =dB (.lst (ns.map .int))/\ns.length=many/\(∀n∈ns,0<=n/\n<(q:Int)^k)/\(∀(i:Nat) r,(chs rows ss)[i]? =dB r->zy r.1 (vec ns)+(q:Int)^k*vec ls i=r.2)/\∀c,c∉zQ ss->vec ns c=0
def LfR(many:Nat)(rows:n8 (n8 (Nat×Int)×Int))(ss:n8 Stp)(S:Sto)(v:Xv)(S':Sto):Prop:=Le S S'/\∃(tn:Nat) (ts:n8 Int) (b:Int),v= .tup [.ref tn,.int b]/\S'[tn]? =dB (.lst (ts.map .int))/\ts.length=many/\0<b/\zk 50000 b/\(∀t∈ts,zk 2200000 t)/\∀r∈chs rows ss,zy r.1 (vec ts)=r.2*b
def TY:(pws m k).length=k+1:=by simp[pws]
def zkG(h:i<=k):(pws m k)[i]? =dB (m^i):=by
 unfold pws;rw[AW,Cm ⋯];rfl
def zkH{l:n8 Xv}{y:Xv}(h:l[l.length-1]? =dB y)(h0:0<l.length):atI l (-1)=dB y:=by
 unfold atI ixN;rw[if_neg ⋯,if_pos ⋯,B7,show((-1:Int)+(l.length:Int)).toNat=l.length-1 by omega];exact h
def zkI{q n:Nat}(hb:zk n (q:Int)):∀k:Nat,zk (n*k+1) ((q:Int)^k):=by
 intro k
 induction k with
 |zero=>rw[F0];unfold zk;rw[Nat.mul_zero];decide
 |succ k ih=>
  rw[D5];exact(ih.mul hb).mono (by rw[Nat.mul_succ];omega)
def za0{q:Nat}(h:1<q):∀k:Nat,0<(q:Int)^k:=λk=>Ht ⋯
def zha{q k:Nat}(h:2<q):2*((q:Int)^k*(q:Int)^k)<(q:Int)^(2*k+1):=by
 rw[D5,Hs,Int.pow_add];have h1:0<(q:Int)^k*(q:Int)^k:=DU (Ht ⋯) (Ht ⋯);have:=Int.mul_lt_mul_of_pos_left (show(2:Int)<q by omega) h1;rw[C9 2];exact this
def zmH{m H:Int}{ss:n8 Stp}{X:Nat->Int}{D:Int}(aA:Sts m many rows ss)(sol:zf1 rows ss X D H){ts:n8 Int}{b e:Int}(hl:ts.length=many)(h1:D=e*b)(h2:∀(i:Nat) t,ts[i]? =dB t->X i=e*t):∀r∈chs rows ss,zy r.1 (vec ts)=r.2*b:=by
 intro r hr;have h3:∀c,X c=e*vec ts c:=λc=>by
  by_cases hc:c<ts.length;exact h2 c _ (zaY hc);rw[sol.out c (λz=>by have:=aA.nodup.2 c z;omega),TX ⋯,BU]
 have h4:=sol.eq r hr;rw[yQ (y:=λc=>e*vec ts c) λp _=>h3 p.1,UO,h1,<-DS,C9 r.2,DS] at h4;have e0:e≠0:=λz=>by have:=sol.pos.1;rw[h1,z,CW] at this;omega
 exact DW e0 h4
def wI.set(h:wI S cn rs)(hp:S[pn]? =dB (.lst (.int a::l))):wI (S.set pn c) cn rs:=by
 obtain⟨ms,h1,h2,h3⟩:=h;refine⟨ms,ya h1 λz=> ?_,h2,λi m r e1 e2=> ?_⟩
 .rw[<-z,hp] at h1;cases ms<;>cases h1
 obtain⟨pn',g1,g2⟩:=(h3 i m r e1 e2).ex;refine⟨pn',ya g1 λz=> ?_,ya g2 λz=> ?_⟩;rw[<-z,hp] at g1;cases g1
 rw[<-z,hp] at g2;cases e:r.1 with
 |nil=>rw[e] at g2;cases g2
 |cons p t=>rw[e] at g2;cases g2
noncomputable def rng(n:Nat)(f:Nat->Int):n8 Int:=(BX n).map f
def TZ{f:Nat->Int}:(rng n f).length=n:=by simp[rng]
def za1{f:Nat->Int}:rng (n+1) f=rng n f++[f n]:=by simp[rng,DA]
def zf2{f:Nat->Int}(h:i<n):vec (rng n f) i=f i:=by
 unfold vec rng;rw[AU,AW,Cm h];rfl
def zdt{f:Nat->Int}(h:v∈rng n f):∃i,i<n/\v=f i:=by
 obtain⟨i,hi,rfl⟩:=Bq.1 h;exact⟨i,Cw.1 hi,rfl⟩
def zdu(h:i<vs.length):vec vs i∈vs:=AX (zaY h)
def zdv(h:vs[i]? =dB v):vec vs i=v:=by unfold vec;rw[AU,h];rfl
def zkJ:pws m (k+1)=pws m k++[m^(k+1)]:=by simp[pws,DA]
def za2:atI ((pws m k).map Xv.int) (-1)=dB (.int (m^k)):=by
 have hl:((pws m k).map Xv.int).length=k+1:=by rw[AV,TY]
 exact zkH (by rw[hl,Dh,AW,zkG (B1 _)];rfl) ⋯
def zkK:∃l,(pws m k).map Xv.int= .int 1::l:=by
 unfold pws;rw[G8,Be,Be,F0];exact⟨_,rfl⟩
abbrev lfA(fu:Nat)(rest:TwS):TwS:=(zm (zu (zB (yL fu) [za 1,za 5,za 2,za 3]) (gN 9)) (zm (zu (yq [fC,fC,dB 7] (zbi (za 6) (za 9)) (gT 2 (zM (gN 0) (zM (gN 1) xW))) yH (eOp vw (za 0) (eOp yk (eOp yY (za 2) (eUn Tv (si 1))) (za 1)))) (gN 6)) (zm (zu (yq [fC,fC,dB 3,dB 9] (zbi (za 4) (za 5)) (gT 2 (zM (gN 0) (zM (gN 1) xW))) yH (eOp YJ (eOp Zy (za 1) (zB (Ys fu) [za 0,za 3])) (za 2))) (gN 5)) (zm (Yo (eMt xb (za 7) [eOp yk (eOp yY (za 7) (eUn Tv (si 1))) (za 3)])) rest))))
abbrev lfB(fu:Nat):TwS:=(sIf (bE (eOp dGt (eFn xJ [za 7]) (za 8))) (zm (zu (zB (xc fu) [za 6,eOp yY (za 7) (eUn Tv (si 1)),eOp yY (za 7) (eOp Te (eOp Zy (za 8) (si 1)) (si 2))]) (gN 10)) (zm (sIf (zjc (bE (eUn zgx (za 10))) (bE (zB (vT fu) [za 4,eOp Ut (za 10) (si 0),eOp Ut (za 10) (si 1)]))) (zW (za 10)) ye) (zu (eOp vw (za 8) (eOp zbg (si 2) (eOp vw (eOp Te (za 8) (si 8)) (si 1)))) (gN 8)))) ye)
def zhb{q sn cn k ln nn pn:Nat}{ss:n8 Stp}{look:Xv}{a9 cw:pU Xv}{rest:TwS}(hq:2<q/\zk 5500 (q:Int))(mN:zk 50000 ((q:Int)^k))(hs:xA S sn ss)(aA:Sts (q:Int) many rows ss)(sb:∀s∈ss,zbz s)(ok:∀r∈rows,Xr many r)(hm:many<=40)(hk:k<=130)(I:LfI q many rows ss cn k S ln nn pn S')
  (next:∀ln nn a9 S',LfI q many rows ss cn (k+1) S ln nn pn S'->WS (rest [dB (.ref rn),dB (.ref sn),dB (.int many),dB (.int (q:Int)),dB (.ref cn),dB (.ref ln),dB (.ref nn),dB (.ref pn),dB look,a9,cw] S') N R):
  WS (lfA fu rest [dB (.ref rn),dB (.ref sn),dB (.int many),dB (.int (q:Int)),dB (.ref cn),dB (.ref ln),dB (.ref nn),dB (.ref pn),dB look,a9,cw] S') N R:=by
 obtain⟨le,ch,⟨jB,hp⟩,ls,iX,ka,oP,ns,dj,fX,gZ,heq,ig⟩:=I;have qW:(0:Int)<q:=by omega
 have nh:=hq.2;have oj:ss.length<=60:=AZ aA.le ⋯;unfold lfA;ext;refine(zh9 ⟨qW,nh⟩ (hs.le le) aA sb iX ka ⋯).imp ?_;rintro _ S1 ⟨gf,dn,ds,rfl,mR,mS,gn,uH,uF⟩;have gR:∀v∈ds,zk 5500 v:=λv hv=>nh.abs (by have:=gn v hv;omega);ext;refine yd (Wv ?_);ext;have jH:=gf.2 _ _ dj;have jE:=gf.2 _ _ hp;refine⟨⟨_,zb jH⟩,⟨_,zb mR⟩,_,wj (zb jH) (zb mR),?_⟩;have fH:(Yr (ns.map Xv.int) (ds.map Xv.int)).length=many:=by rw[vQ (by simp[fX,mS]),AV,fX]
 refine zZ (by rw[fH];exact Ba (yh ⋯)) (λj es S2=>S1=S2/\es=(rng j λi=>vec ns i+(q:Int)^k*vec ds i).map .int) ?_ ?_ ?_ ?_;rintro j es S2 _ ⟨rfl,_⟩;exact wj (zb jH) (zb mR);rintro j y es S2 hy bD ⟨rfl,rfl⟩;obtain⟨a,b,e1,e2,rfl⟩:=ZF hy;rw[AW,AY] at e1 e2;obtain⟨n,e1,rfl⟩:=e1;obtain⟨d,e2,rfl⟩:=e2;refine .of rfl ?_;ext;refine⟨rfl,?_⟩;ext;apply yy (zb jE) za2;ext;apply zX mN (gR d (AX e2)) ∅;ext;refine⟨rfl,?_⟩;rw[za1,zdv e1,zdv e2];simp;exact⟨rfl,rfl⟩
 rintro es S2 bD ⟨rfl,rfl⟩;rw[fH];generalize ip:(rng many λi=>vec ns i+(q:Int)^k*vec ds i)=ns';have iS:∀c,vec ns' c=vec ns c+(q:Int)^k*vec ds c:=λc=>by
  by_cases hc:c<many;rw[<-ip];exact zf2 hc;rw[TX (by rw[<-ip,TZ];omega),TX ⋯,TX ⋯];simp
 have oE:ns'.length=many:=by rw[<-ip,TZ]
 have jJ:(S1++[Ce.lst (ns'.map Xv.int)])[S1.length]? =dB (.lst (ns'.map .int)):=zx;have l2:Le S' (S1++[Ce.lst (ns'.map Xv.int)]):=gf.app;have hd2:(S1++[Ce.lst (ns'.map Xv.int)])[dn]? =dB (.lst (ds.map .int)):=zr mR;have oz:pn<S1.length:=vp jE;generalize S1.length=nn' at jJ oz ⊢;generalize S1++[Ce.lst (ns'.map Xv.int)]=S2 at l2 jJ hd2 ⊢;ext;refine yd (Wv ?_);ext;obtain⟨ms,c1,c2,c3⟩:=ch.le l2;have jM:=l2.2 _ _ iX;refine⟨⟨_,zb c1⟩,⟨_,zb jM⟩,_,wj (zb c1) (zb jM),?_⟩;have dF:(chs rows ss).length=ss.length:=by unfold chs;rw[AV]
 have kO:(Yr (ms.map Xv.ref) (ls.map Xv.int)).length=ss.length:=by rw[vQ (by simp[c2,ka,dF]),AV,c2,dF]
 refine zZ (by rw[kO];exact Ba (yh ⋯)) (λj es S3=>Le S2 S3/\es=(rng j λi=>(vec ls i-zy (((chs rows ss)[i]?).getD ([],0)).1 (vec ds)) / (q:Int)).map .int) ?_ ?_ ?_ ?_;rintro j es S3 _ ⟨i7,_⟩;exact wj (zb (i7.2 _ _ c1)) (zb (i7.2 _ _ jM))
 .rintro j y es S3 hy bD ⟨i7,rfl⟩;obtain⟨a,b,e1,e2,rfl⟩:=ZF hy;rw[AW,AY] at e1 e2;obtain⟨mi,e1,rfl⟩:=e1;obtain⟨l,e2,rfl⟩:=e2;have hj:j<(chs rows ss).length:=by rw[<-c2];exact(AQ.1 e1).1
  have er:(chs rows ss)[j]? =dB (chs rows ss)[j]:=AK hj;generalize (chs rows ss)[j]=r at er;refine .of rfl ?_;ext;refine⟨rfl,?_⟩;ext;refine(zg6 ((c3 j mi r e1 er).le i7) (ok r (vN aA (AX er))) (i7.2 _ _ hd2) mS ⋯ gR ∅).imp ?_;rintro _ S4 ⟨rfl,sL⟩;ext;apply zdo qW (hq.2.mono ∅);refine⟨i7.trans sL,?_⟩;rw[za1,zdv e2,er];simp
 .exact⟨.refl,rfl⟩
 rintro es S3 bD ⟨i7,rfl⟩;rw[kO];generalize jN:(rng ss.length λi=>(vec ls i-zy (((chs rows ss)[i]?).getD ([],0)).1 (vec ds)) / (q:Int))=ls';have oN:ls'.length=ss.length:=by rw[<-jN,TZ]
 have iq:(S3++[Ce.lst (ls'.map Xv.int)])[S3.length]? =dB (.lst (ls'.map .int)):=zx;have l4:Le S2 (S3++[Ce.lst (ls'.map Xv.int)]):=i7.app;have oM:pn<S3.length:=B3 (by have:=vp (l2.2 _ _ hp);omega) i7.1;generalize S3.length=ln' at iq oM ⊢;generalize S3++[Ce.lst (ls'.map Xv.int)]=S4 at l4 iq ⊢;have gH:=l2.trans l4;have lA:=gH.2 _ _ hp;ext;apply WN;ext;refine⟨⟨_,zb lA⟩,?_⟩;refine yK (wU ?_);ext;apply yy (zb lA) za2;ext;apply zX mN nh ∅;ext;apply xT (yR lA) (by rw[AV,TY];exact yh ⋯);obtain⟨pl,x5⟩:=zkK (m:=(q:Int)) (k:=k);refine next ln' nn' _ _ ⟨(le.trans gH).set jB,(ch.le gH).set (by rw[lA,x5]),⟨jB,?_⟩,ls',ya iq ⋯,oN,λl hl=> ?_,ns',ya (l4.2 _ _ jJ) ⋯,oE,λn hn=> ?_,λi r er=> ?_,λc hc=>by rw[iS,ig c hc,uH c hc];simp⟩
 .rw[yF lA,zkJ,Ci,D5];rfl
 .rw[<-jN] at hl;obtain⟨i,hi,rfl⟩:=zdt hl;have er:(chs rows ss)[i]? =dB (chs rows ss)[i]:=AK ⋯;rw[er];generalize (chs rows ss)[i]=r at er;have eT:=ok r (vN aA (AX er));have h1:zk (7700+k) (vec ls i):=oP _ (zdu ⋯);have h2:zk (7700+k) (zy r.1 (vec ds)):=(zeH (n:=2000) (m:=5500) (k:=60) (λp hp=>⟨by rw[mS];exact(eT.lt p hp).1,(eT.lt p hp).2⟩) gR (AZ (eT.nd.len λp hp=>(eT.lt p hp).1) (AZ hm ∅))).mono ⋯;exact(h1.sub h2 (B1 _)).abs (CI _ _)
 .rw[<-ip] at hn;obtain⟨i,hi,rfl⟩:=zdt hn;obtain⟨a1,a2⟩:=gZ _ (zdu (vs:=ns) (by omega:i<ns.length));obtain⟨b1,b2⟩:=gn _ (zdu (vs:=ds) (by omega:i<ds.length));have qZ:=za0 (q:=q) ⋯ k;have h1:=Df (CQ qZ) b1;have h2:=Bg (show vec ds i<=q-1 by omega) (CQ qZ);rw[D5];rw[Gc] at h2;exact⟨⋯,⋯⟩
 have hi:i<ss.length:=by rw[<-dF];exact(AQ.1 er).1
 have kU:zy r.1 (vec ns')=zy r.1 (vec ns)+(q:Int)^k*zy r.1 (vec ds):=by
  have:=Xm (ps:=r.1) (x:=vec ns) (y:=vec ds) (a:=1) (b:=(q:Int)^k);rw[Ff] at this;rw[<-this];exact yQ λp _=>by rw[iS,Ff]
 have hl1:vec ls' i=(vec ls i-zy r.1 (vec ds)) / (q:Int):=by rw[<-jN,zf2 hi,er];rfl
 have es:ss[i]? =dB ss[i]:=AK hi;obtain⟨r',g1,g2⟩:=Xn aA es;rw[er] at g2;cases g2;have kg:=uF i _ r.1 r.2 es g1;have pj:(q:Int)*vec ls' i=vec ls i-zy r.1 (vec ds):=by
  rw[hl1];obtain⟨t,ht⟩:=kg;exact Gv ⟨-t,by rw[ht,DT];omega⟩
 have:=heq i r er;rw[kU,D5,DS,pj,Gc];omega
def zkL(h:atI l i=dB z)(k:P z S):WO (Ut (.tup l) (.int i) S) P:= .of (show(atI l i).map (λz=>(z,S))=_ by rw[h];rfl) k
abbrev UT(fu:Nat):TwS:=lfA fu (lfB fu)
def zmI{q sn cn k ln nn pn n lk:Nat}{ss:n8 Stp}{a9 cw:pU Xv}(hq:2<q/\zk 5500 (q:Int))(hs:xA S sn ss)(aA:Sts (q:Int) many rows ss)(sb:∀s∈ss,zbz s)(ok:∀r∈rows,Xr many r)(hm:many<=40)(hk:k<=130)(mN:zk 50000 ((q:Int)^k))(mM:k+2<=lk)(I:LfI q many rows ss cn k S ln nn pn S')
  (next:∀ln nn a9 S',LfI q many rows ss cn (k+1) S ln nn pn S'->WS (YI (bE (eC (.bl fN))) (UT fu) n [dB (.ref rn),dB (.ref sn),dB (.int many),dB (.int (q:Int)),dB (.ref cn),dB (.ref ln),dB (.ref nn),dB (.ref pn),dB (.int (lk:Int)),a9,cw] S') N R):
  WS (YI (bE (eC (.bl fN))) (UT fu) (n+1) [dB (.ref rn),dB (.ref sn),dB (.int many),dB (.int (q:Int)),dB (.ref cn),dB (.ref ln),dB (.ref nn),dB (.ref pn),dB (.int (lk:Int)),a9,cw] S') N R:=by
 apply YL;ext;refine⟨λ_=> ?_,nofun⟩;refine zhb hq mN hs aA sb ok hm hk I λln nn a9 S' I=> ?_;unfold lfB;apply yc;ext;apply yW (zb I.hp.2);ext;rw[AV,TY];refine yp (λz=>by omega) (λ_=> ?_);ext;exact next _ _ _ _ I
def zmJ{q sn cn ln nn pn n h:Nat}{ss:n8 Stp}{a9 cw:pU Xv}(hf:Big fu)(hq:2<q/\zk 5500 (q:Int))(hs:xA S sn ss)(aA:Sts (q:Int) many rows ss)(sb:∀s∈ss,zbz s)(ok:∀r∈rows,Xr many r)(hm:many<=40)(hh:1<=h/\h<=63)(jA:∀k,k<=2*h+1->zk 50000 ((q:Int)^k)){X:Nat->Int}{D H:Int}(sol:zf1 rows ss X D H)(I:LfI q many rows ss cn (2*h) S ln nn pn S')
  (next:(q:Int)^h<H->∀ln nn a9 cw S',LfI q many rows ss cn (2*h+1) S ln nn pn S'->WS (YI (bE (eC (.bl fN))) (UT fu) n [dB (.ref rn),dB (.ref sn),dB (.int many),dB (.int (q:Int)),dB (.ref cn),dB (.ref ln),dB (.ref nn),dB (.ref pn),dB (.int ((2*(h+(2*h+1) / 8+1)+1:Nat):Int)),a9,cw] S') N (LfR many rows ss S)):
  WS (YI (bE (eC (.bl fN))) (UT fu) (n+1) [dB (.ref rn),dB (.ref sn),dB (.int many),dB (.int (q:Int)),dB (.ref cn),dB (.ref ln),dB (.ref nn),dB (.ref pn),dB (.int ((2*h+1:Nat):Int)),a9,cw] S') N (LfR many rows ss S):=by
 refine YL ?_;ext;refine⟨λ_=> ?_,nofun⟩;refine zhb hq (jA _ ⋯) hs aA sb ok hm ⋯ I λln nn a9 S' I=> ?_;obtain⟨le,ch,⟨jB,hp⟩,ls,iX,ka,oP,ns,dj,fX,gZ,heq,ig⟩:=id I;have uU:=za0 (q:=q) ⋯ (2*h+1);have pI:=jA (2*h+1) (B1 _);have uZ:=za0 (q:=q) ⋯ h;have kI:∀v∈ns,zk 50000 v:=λv hv=>pI.abs (by have:=gZ v hv;omega);have ra:H<=(q:Int)^h->RaL ((q:Int)^(2*h+1)) ((q:Int)^h) ns X D:=λhH=>by
  refine⟨sol.pos.1,D4 sol.pos.2 hH,λi N hN=>⟨by have:=(sol.bd i).1;omega,by have:=(sol.bd i).2;omega,?_⟩⟩
  have hz:=aA.pow ⋯ (2*h+1) (λc=>D*vec ns c+(-1)*X c) (λc hc=>by
   rw[ig c hc,sol.out c hc];simp) (λs tG ps l er=>by
   obtain⟨j,hj⟩:=By tG;obtain⟨r',g1,g2⟩:=Xn aA hj;rw[er] at g1;cases g1;have h1:=heq j _ g2;have h2:=sol.eq _ (AX g2);rw[Xm]
   exact⟨-(D*vec ls j),by dsimp only at h1 h2;rw[h2,<-h1];grind⟩) i
  obtain⟨t,ht⟩:=hz;rw[zdv hN] at ht;exact⟨t,⋯⟩
 unfold lfB;apply yc;ext;apply yW (zb hp);ext;rw[AV,TY];refine yp (λ_=> ?_) (λz=>by omega);ext;apply yy (zb hp) za2;ext;apply zgE ∅;refine yy (zb hp) (yP (z:=Xv.int ((q:Int)^h)) (k:=(((2*h+1:Nat):Int)-1) / 2) ⋯ (by rw[AW,show((((2*h+1:Nat):Int)-1) / 2).toNat=h by omega,zkG ⋯];rfl)) ?_;ext;refine(zmB hf ⟨uU,pI⟩ ⋯ (zha hq.1) dj ⋯ kI).imp ?_;have go:∀(cw:pU Xv) (S2:Sto),Le S' S2->(q:Int)^h<H->WS (zu (eOp vw (za 8) (eOp zbg (si 2) (eOp vw (eOp Te (za 8) (si 8)) (si 1)))) (gN 8) [dB (.ref rn),dB (.ref sn),dB (.int many),dB (.int (q:Int)),dB (.ref cn),dB (.ref ln),dB (.ref nn),dB (.ref pn),dB (.int ((2*h+1:Nat):Int)),a9,cw] S2) (λρ2 S2=>WS (YI (bE (eC (.bl fN))) (UT fu) n ρ2 S2) N (LfR many rows ss S)) (LfR many rows ss S):=by
  intro cw S2 l2 dO;ext;apply zgE ∅;ext;rw[show((2*h+1:Nat):Int)+2*(((2*h+1:Nat):Int) / 8+1)=((2*(h+(2*h+1) / 8+1)+1:Nat):Int) by omega];exact next dO _ _ _ _ _ ⟨le.trans l2,ch.le l2,⟨jB,l2.2 _ _ hp⟩,ls,l2.2 _ _ iX,ka,oP,ns,l2.2 _ _ dj,fX,gZ,heq,ig⟩
 rintro v S2 ⟨l2,⟨rfl,dO⟩|⟨tn,ts,b,rfl,eF,gg,b0,bB,tb,lg⟩⟩;ext;refine yc (zfl ?_);ext;apply zg2;ext;refine⟨nofun,λ_=> ?_⟩;refine⟨nofun,λ_=> ?_⟩;apply zN;exact go _ _ l2 (ED λz=>dO _ _ (ra z));ext;refine yc (zfl ?_);ext;apply zg2;ext;refine⟨λ_=> ?_,nofun⟩;ext
 have bb:zk 50000 b:=pI.abs (by
  have:=zha (q:=q) (k:=h) hq.1;have:=Bg (show 1<=(q:Int)^h by omega) (CQ uZ)
  omega)
 apply zkL zjM;ext;apply zkL (z:= .int b) rfl;ext;refine(zck (ch.le l2) (λr hr=>ok r (vN aA hr)) eF (gg.trans fX) ⋯ tb ∅ bb).imp ?_;rintro _ S3 ⟨rfl,l3⟩;ext;refine yp (λcN=> ?_) (λdO=> ?_);ext;exact⟨le.trans (l2.trans l3),tn,ts,b,rfl,l3.2 _ _ eF,gg.trans fX,b0,bb,tb,cN⟩;apply zN;refine go _ _ (l2.trans l3) (ED λz=>dO ?_);obtain⟨e,e1,e2⟩:=lg X D (ra z);exact zmH aA sol (gg.trans fX) e1 e2
def zkM{q a b:Nat}(h1:1<q)(h:a<=b):(q:Int)^a<=(q:Int)^b:=by
 rw[<-DB,<-DB];exact Ds.2 (Ca ⋯ h)
def zmK(hf:Big fu){q sn cn pn:Nat}{ss:n8 Stp}(hq:2<q/\zk 5500 (q:Int))(hs:xA S sn ss)(aA:Sts (q:Int) many rows ss)(sb:∀s∈ss,zbz s)(ok:∀r∈rows,Xr many r)(hm:many<=40){X:Nat->Int}{D H:Int}(sol:zf1 rows ss X D H){hT:Nat}(rQ:1<=hT/\hT<=31)(hH:H<=(q:Int)^hT)(jA:∀k,k<=4*hT+1->zk 50000 ((q:Int)^k)):
  ∀{j n k h ln nn:Nat} {a9 cw:pU Xv} {S':Sto},k+j=4*hT+3->k<=2*h->1<=h/\h<=2*hT->j<n->LfI q many rows ss cn k S ln nn pn S'->
  WS (YI (bE (eC (.bl fN))) (UT fu) n [dB (.ref rn),dB (.ref sn),dB (.int many),dB (.int (q:Int)),dB (.ref cn),dB (.ref ln),dB (.ref nn),dB (.ref pn),dB (.int ((2*h+1:Nat):Int)),a9,cw] S') N (LfR many rows ss S):=by
 intro j
 induction j with
 |zero=>intro n k h ln nn a9 cw S' h1 h2 h3 h4 I;omega
 |succ j ih=>
  intro n k h ln nn a9 cw S' h1 h2 h3 h4 I;obtain⟨n,rfl⟩:∃m,n=m+1:=⟨n-1,⋯⟩;by_cases hk:k=2*h
  .subst hk;refine zmJ hf hq hs aA sb ok hm ⟨h3.1,⋯⟩ (λk hk=>jA k ⋯) sol I λcJ ln nn a9 cw S' I=> ?_;have:h<hT:=by
    apply Nat.lt_of_not_le;intro z;have:=zkM (q:=q) ⋯ z;omega
   exact ih ⋯ ⋯ ⋯ ⋯ I
  exact zmI hq hs aA sb ok hm ⋯ (jA _ ⋯) ⋯ I λln nn a9 S' I=>ih ⋯ ⋯ h3 ⋯ I
noncomputable def bH:Int:=2^4614
def zqh(h1:pN<=q)(h2:zk 5500 (q:Int)):∃hT,(1<=hT/\hT<=31)/\bH<=(q:Int)^hT/\∀k,k<=4*hT+1->zk 50000 ((q:Int)^k):=by
 have q0:q≠0:=λz=>by rw[z] at h1;exact absurd h1 ∅
 have l1:=Nat.log2_self_le q0;have l2:=Nat.lt_log2_self (n:=q);generalize q.log2=β at l1 l2;have b1:149<=β:=Ho ((FI (by decide:1<2)).1 (Bp (AZ ∅ h1) l2));have b2:β<5500:=(FI (by decide:1<2)).1 (Bp l1 h2);have Av:4613 / β<=30:=AZ (Nat.div_le_div_left b1 ∅) ∅;have hm:=Nat.div_mul_le_self 4613 β;have cJ:=Nat.lt_mul_div_succ 4613 (show 0<β by omega);generalize 4613 / β=d at*;refine⟨d+1,⟨⋯,⋯⟩,?_,λk hk=>(zkI (n:=β+1) l2 k).mono ?_⟩;unfold bH;rw[<-DB];exact Ds.2 (AZ (Ca ∅ cJ) (by rw[Et];exact Nat.pow_le_pow_left l1 _))
 have h3:=Cp (β+1) hk;have h4:(β+1)*(4*(d+1)+1)=4*(d*β)+5*β+4*d+5:=by grind
 omega
def zkN(hf:Big fu)(hq:pN<=q/\zk 5500 (q:Int))(hr:wI S rn rows)(hs:xA S sn ss)(aA:Sts (q:Int) many rows ss)(sb:∀s∈ss,zbz s)(ok:∀r∈rows,Xr many r)(hm:many<=40){X:Nat->Int}{D H:Int}(sol:zf1 rows ss X D H)(hH:H<=bH):
  W (UL fu [.ref rn,.ref sn,.int many,.int (q:Int)] S) (LfR many rows ss S):=by
 have oj:ss.length<=60:=AZ aA.le ⋯;have dF:(chs rows ss).length=ss.length:=by unfold chs;rw[AV]
 obtain⟨ms,r1,r2,r3⟩:=id hr;obtain⟨st,s1,s2,s3⟩:=id hs;walk_at "wr";unfold zcg;refine zJ (wa (yd (xB ?_)));ext;refine⟨_,zb s1,_,zb s1,?_⟩;refine zZ (xs:=st.map .ref) (by rw[AV];exact Ba (yh ⋯)) (λj es S1=>S=S1/\∃cs:n8 Nat,es=cs.map .ref/\cs.length=j/\∀(i m:Nat) r,cs[i]? =dB m->(chs rows ss)[i]? =dB r->Tp S m r) ?_ ?_ ?_ ?_;rintro j es S1 _ ⟨rfl,_⟩;exact zb s1
 .rintro j y es S1 hy bD ⟨rfl,cs,rfl,iz,dR⟩;rw[AW,AY] at hy;obtain⟨mi,hy,rfl⟩:=hy;have hj:j<ss.length:=by rw[<-s2];exact(AQ.1 hy).1
  have es:ss[j]? =dB ss[j]:=AK hj;generalize ss[j]=s at es;obtain⟨r,g1,g2⟩:=Xn aA es;obtain⟨fn,pn,f1,f2,f3⟩:=(s3 j mi s hy es).ex;have jy:s.row<ms.length:=by rw[r2];exact(AQ.1 g1).1
  have em:ms[s.row]? =dB ms[s.row]:=AK jy;generalize ms[s.row]=ri at em;refine .of rfl ?_;ext;refine⟨rfl,?_⟩;apply wU;ext;apply wV;ext;refine⟨mi,_,.int (s.row:Int),rfl,f1,rfl,?_⟩;refine yy (zb r1) (yP (z:= .ref ri) ⋯ (by rw[AW,B9,em];rfl)) ?_;refine⟨rfl,cs++[ri],by simp,by simp[iz],λi m r' e1 e2=> ?_⟩;rcases zci iz e1 with e1|⟨rfl,rfl⟩
  .exact dR i m r' e1 e2
  rw[g2] at e2;cases e2;exact r3 _ _ _ em g1
 .exact⟨rfl,[],rfl,rfl,λi m r e=>by simp at e⟩
 rintro es S1 bD ⟨rfl,cs,rfl,iz,dR⟩;rw[AV,s2] at iz;have ch:wI (S++[.lst (cs.map .ref)]) S.length (chs rows ss):=⟨cs,zx,by rw[iz,dF],λi m r e1 e2=>(dR i m r e1 e2).le Le.refl.app⟩;have l1:Le S (S++[.lst (cs.map .ref)]):=Le.refl.app;generalize rR:S++[.lst (cs.map .ref)]=S2 at ch l1 ⊢;generalize S.length=cn at ch ⊢;dsimp only[BL];obtain⟨cs',k1,k2,k3⟩:=id ch;refine zJ (wa (yd (xB ?_)));ext;refine⟨_,zb k1,_,zb k1,?_⟩;refine zZ (xs:=cs'.map .ref) (by rw[AV];exact Ba (yh ⋯)) (λj es S1=>S2=S1/\es=(rng j λi=>(((chs rows ss)[i]?).getD ([],0)).2).map .int) ?_ ?_ ?_ ?_;rintro j es S1 _ ⟨rfl,_⟩;exact zb k1
 .rintro j y es S1 hy bD ⟨rfl,rfl⟩;rw[AW,AY] at hy;obtain⟨mi,hy,rfl⟩:=hy;have hj:j<(chs rows ss).length:=by rw[<-k2];exact(AQ.1 hy).1
  have er:(chs rows ss)[j]? =dB (chs rows ss)[j]:=AK hj;generalize (chs rows ss)[j]=r at er;obtain⟨pn,g1,g2⟩:=(k3 j mi r hy er).ex;refine .of rfl ?_;ext;refine⟨rfl,?_⟩;apply wV;ext;refine⟨mi,_,.int r.2,rfl,g1,rfl,?_⟩;refine⟨rfl,?_⟩;rw[za1,er];simp
 .exact⟨rfl,rfl⟩
 rintro es S1 bD ⟨rfl,rfl⟩;rw[AV,k2,dF];generalize iX:(rng ss.length λi=>(((chs rows ss)[i]?).getD ([],0)).2)=ls;have iq:(S2++[Ce.lst (ls.map Xv.int)])[S2.length]? =dB (.lst (ls.map .int)):=zx;have l3:Le S2 (S2++[Ce.lst (ls.map Xv.int)]):=Le.refl.app;generalize As:S2++[Ce.lst (ls.map Xv.int)]=S3 at iq l3 ⊢;generalize S2.length=ln at iq ⊢;ext;refine zgV (zb zx) ⟨⋯,⋯,by simp;exact Ba (yh ⋯)⟩ ?_;rw[show(B6 (many:Int).toNat [Xv.int 0]).flatten=(B6 many (0:Int)).map .int by rw[B9];exact zqg many];have l4:Le S3 (S3++[Ce.lst [.int 0]]++[Ce.lst ((B6 many (0:Int)).map .int)]):=Le.refl.app.app;have jJ:(S3++[Ce.lst [.int 0]]++[Ce.lst ((B6 many (0:Int)).map .int)])[(S3++[Ce.lst [.int 0]]).length]? =dB (.lst ((B6 many (0:Int)).map .int)):=zx;generalize (S3++[Ce.lst [.int 0]]).length=nn at jJ ⊢;generalize S3++[Ce.lst [.int 0]]++[Ce.lst ((B6 many (0:Int)).map .int)]=S4 at l4 jJ ⊢;have gH:Le S S4:=l1.trans (l3.trans l4);ext;have I0:LfI q many rows ss cn 0 S ln nn S4.length (S4++[Ce.lst [.int 1]]):=by
  refine⟨gH.app,(ch.le (l3.trans l4)).le Le.refl.app,⟨gH.1,zx⟩,ls,zr (l4.2 _ _ iq),by rw[<-iX,TZ],λl hl=> ?_,B6 many 0,zr jJ,by simp,λn hn=>by rw[FH hn,F0];decide,λi r er=> ?_,λc _=> ?_⟩;rw[<-iX] at hl;obtain⟨i,hi,rfl⟩:=zdt hl;have er:(chs rows ss)[i]? =dB (chs rows ss)[i]:=AK ⋯;rw[er];exact((ok _ (vN aA (C8 _))).last).mono ⋯
  .have hi:i<ss.length:=by rw[<-dF];exact(AQ.1 er).1
   rw[<-iX,zf2 hi,er,F0,yQ (y:=λ_=>0) λp _=>by
    unfold vec;rw[AU,D9]
    split<;>rfl]
   rw[Yt];simp
  unfold vec;rw[AU,D9];split<;>rfl
 refine vZ (λ_ _=>False) ?_ (λ_ _ z=>z.elim);have rC:200<fu:=by have:=hf.bits (n:=10) (p:=200) (by unfold zk;decide) ∅;omega
 generalize uJ:S4.length=pn at I0;obtain⟨hT,rQ,uP,jA⟩:=zqh hq.1 hq.2;exact zmK hf ⟨B3 ∅ hq.1,hq.2⟩ hs aA sb ok hm sol rQ (D4 hH uP) jA (j:=4*hT+3) (h:=1) ⋯ ⋯ ⋯ ⋯ I0
end
def zeK{f g:Nat->Int}:∀n,yX n (λj=>f j+g j)=yX n f+yX n g:=by
 intro n
 induction n with
 |zero=>rfl
 |succ n ih=>rw[yX,yX,yX,ih];omega
def vK{f:Nat->Int}:∀n,(∀j,j<n->f j=0)->yX n f=0:=by
 intro n
 induction n with
 |zero=>intro _;rfl
 |succ n ih=>intro h;rw[yX,ih λj hj=>h j ⋯,h n ⋯];rfl
def Uf{f:Nat->Int}:∀n,i<n->(∀j,j<n->j≠i->f j=0)->yX n f=f i:=by
 intro n
 induction n with
 |zero=>intro h;omega
 |succ n ih=>
  intro h1 h2;rw[yX];by_cases e:i=n;subst e;rw[vK i λj hj=>h2 j ⋯ ⋯];omega;rw[ih ⋯ λj hj cx=>h2 j ⋯ cx,h2 n ⋯ ⋯];omega
noncomputable def cf(ps:n8 (Nat×Int))(c:Nat):Int:=zy ps λd=>if d=c then 1 else 0
def zmL(h:∀p∈ps,p.1≠c):cf ps c=0:=by
 unfold cf;rw[yQ (y:=λ_=>0) λp hp=>if_neg (h p hp),Yt]
def znw:NdE ps->(∀p∈ps,p.2.natAbs<=B)->(cf ps c).natAbs<=B:=by
 induction ps with
 |nil=>intro _ _;simp[cf,zy]
 |cons p r ih=>
  intro nd hB;have nd':p.1∉r.map (·.1)/\NdE r:=Cb.1 nd;unfold cf;rw[zU];by_cases e:p.1=c;have:cf r c=0:=zmL λq hq z=>nd'.1 (Bq.2 ⟨q,hq,z.trans e.symm⟩);unfold cf at this;rw[this,if_pos e,DE,FG];exact hB p (.head _);rw[if_neg e,BU,Di];exact ih nd'.2 λq hq=>hB q (.tail _ hq)
noncomputable def onC(cs:n8 Nat)(x:Nat->Int)(c:Nat):Int:=if c∈cs then x (cs.idxOf c) else 0
def zkO(nd:cs.Nodup){x:Nat->Int}:∀ps:n8 (Nat×Int),zy ps (onC cs x)=yX cs.length λj=>cf ps (cs.getD j 0)*x j:=by
 intro ps
 induction ps with
 |nil=>rw[vK _ λj _=>by simp[cf,zy]];rfl
 |cons p r ih=>
  rw[zU,ih];have e:∀j,cf (p::r) (cs.getD j 0)*x j=p.2*(if p.1=cs.getD j 0 then 1 else 0)*x j+cf r (cs.getD j 0)*x j:=λj=>by
   unfold cf;rw[zU,Int.add_mul]
  rw[xO _ λj _=>e j,zeK]
  congr 1
  have gd:∀j (hj:j<cs.length),cs.getD j 0=cs[j]:=λj hj=>by rw[AU,AK hj];rfl
  by_cases hc:p.1∈cs;have hi:=CU hc;rw[Uf (i:=cs.idxOf p.1) _ hi λj hj cx=> ?_];unfold onC;rw[if_pos hc,gd _ hi,if_pos (DC hi).symm,DE];rw[if_neg λz=>cx ?_,BU,CW];rw[gd j hj] at z;exact(CK nd).1 ((z.symm).trans (DC hi).symm);rw[vK _ λj hj=> ?_];unfold onC;rw[if_neg hc,BU];rw[if_neg λz=>hc ?_,BU,CW];rw[z,gd j hj];exact C8 hj
def zkP(aA:Sts m many rows ss)(iW:2<=m)(mq:∀r∈rows,NdE r.1)(B:Nat->Nat)(hB:∀(i:Nat) r,(chs rows ss)[i]? =dB r->(∀p∈r.1,p.2.natAbs<=B i)/\r.2.natAbs<=B i):
  ∃X D,zf1 rows ss X D ((yO ss.length λi=>2*(ss.length+1)*B i+1:Nat):Int):=by
 have nd:=aA.nodup.1;have cl:(zQ ss).length=ss.length:=AV ..;have y7:(chs rows ss).length=ss.length:=AV ..;let rr:Nat->n8 (Nat×Int)×Int:=λi=>((chs rows ss)[i]?).getD ([],0);have rat:∀i,i<ss.length->(chs rows ss)[i]? =dB (rr i):=λi hi=>by
  show _=dB (((chs rows ss)[i]?).getD ([],0));rw[AK ⋯];rfl
 obtain⟨x,⟨j0,lJ,qL⟩,Ae,nZ,sZ⟩:=zoN (k:=ss.length) (n:=ss.length+1) rfl (λi j=>if j<ss.length then cf (rr i).1 ((zQ ss).getD j 0) else -(rr i).2) B λi hi j _=>by
  obtain⟨b1,b2⟩:=hB i _ (rat i hi);split;exact znw (mq _ (vN aA (AX (rat i hi)))) b1;rw[HZ];exact b2
 generalize yO ss.length (λi=>2*(ss.length+1)*B i+1)=H at nZ;have heq:∀r∈chs rows ss,zy r.1 (onC (zQ ss) x)=r.2*x ss.length:=λr hr=>by
  obtain⟨i,hi⟩:=By hr;have cL:i<ss.length:=by rw[<-y7];exact(AQ.1 hi).1
  have e:=sZ i cL;rw[rat i cL] at hi;cases hi;rw[yX,if_neg (Cv _),xO ss.length λj hj=>by rw[if_pos hj]] at e;rw[zkO nd,cl];rw[Fe] at e;omega
 have fi:∀c,c∉zQ ss->onC (zQ ss) x c=0:=λc hc=>if_neg hc;have rO:∀c, -(H:Int)<=onC (zQ ss) x c/\onC (zQ ss) x c<=(H:Int):=λc=>by
  unfold onC;split;have:=nZ ((zQ ss).idxOf c);omega;omega
 have hD:x ss.length≠0:=λz=>by
  have h0:=aA.only iW (x:=onC (zQ ss) x) fi λs hs ps l er=>by
   obtain⟨j,hj⟩:=By hs;obtain⟨r',g1,g2⟩:=Xn aA hj;rw[er] at g1;cases g1;have:=heq _ (AX g2);rw[z,BU] at this;exact this
  by_cases hj:j0<ss.length
  .have rm:j0<(zQ ss).length:=by omega
   have:=h0 (zQ ss)[j0];unfold onC at this;rw[if_pos (C8 rm)] at this;have e:(zQ ss).idxOf (zQ ss)[j0]=j0:=(CK nd).1 (DC (CU (C8 rm)));rw[e] at this;exact qL this
  obtain rfl:j0=ss.length:=by omega
  exact qL z
 have Au:=nZ ss.length;by_cases hp:0<x ss.length;exact⟨onC (zQ ss) x,x ss.length,⟨hp,⋯⟩,rO,fi,heq⟩;refine⟨λc=>(-1)*onC (zQ ss) x c, -x ss.length,⟨⋯,⋯⟩,λc=>by have:=rO c;omega,λc hc=>by rw[fi c hc];rfl,λr hr=> ?_⟩;rw[UO,heq r hr,DT,Int.neg_one_mul]
section
def Run(p many:Nat)(rows:n8 (n8 (Nat×Int)×Int))(ss:n8 Stp):Prop:=Sts (p:Int) many rows ss/\∀r∈rows,Spn (p:Int) ss r.1
def Sts.lasts(h:Sts p many rows ss)(g:n8 (Nat×Int)×Int->Int):Sts p many (rows.map λr=>(r.1,g r)) ss:=by
 induction h with
 |nil=>exact .nil
 |snoc h hs ih=>
  refine ih.snoc ⟨hs.col,hs.par,hs.fac,?_⟩;obtain⟨ps,l,u,e,k⟩:=hs.eq;exact⟨ps,g (ps,l),u,by rw[AW,e];rfl,k⟩
def zf(aA:Sts p many rows ss)(hm:2<=p)(mq:∀r∈rows,NdE r.1)(hf:f∉zQ ss)(B:Nat->Nat)(hB:∀(i:Nat) r,(chs rows ss)[i]? =dB r->∀p∈r.1,p.2.natAbs<=B i):
  ∃Z:Nat->Int,Z f≠0/\(∀c,c∉zQ ss->c≠f->Z c=0)/\(∀r∈chs rows ss,zy r.1 Z=0)/\∀c,(Z c).natAbs<=yO ss.length λi=>2*(ss.length+1)*B i+1:=by
 have sts':=aA.lasts λr=> -cf r.1 f;have sk:∀(i:Nat) r,(chs rows ss)[i]? =dB r->(chs (rows.map λr=>(r.1, -cf r.1 f)) ss)[i]? =dB (r.1, -cf r.1 f):=λi r hi=>by
  have cL:i<ss.length:=by have:=(AQ.1 hi).1;rwa [show(chs rows ss).length=ss.length from AV ..] at this
  obtain⟨r',g1,g2⟩:=Xn aA (AK cL);obtain⟨r2,g3,g4⟩:=Xn sts' (AK cL);rw[hi] at g2;cases g2;rw[AW,g1] at g3;cases g3;exact g4
 obtain⟨X,D,sol⟩:=zkP sts' hm (λr hr=>by obtain⟨r0,h0,rfl⟩:=Bq.1 hr;exact mq r0 h0) B λi r hi=>by
  have cL:i<ss.length:=by have:=(AQ.1 hi).1;rwa [show(chs _ ss).length=ss.length from AV ..] at this
  obtain⟨r',g1,g2⟩:=Xn aA (AK cL);have:=sk i r' g2;rw[hi] at this;cases this;exact⟨hB i r' g2,by rw[HZ];exact znw (mq r' (AX g1)) (hB i r' g2)⟩
 have xf:=sol.out f hf;refine⟨λc=>1*X c+D*if c=f then 1 else 0,?_,λc hc cx=>by dsimp only;rw[sol.out c hc,if_neg cx];simp,λr hr=> ?_,λc=> ?_⟩;dsimp only;rw[xf,if_pos rfl];have:=sol.pos.1;omega;obtain⟨i,hi⟩:=By hr;have:=sol.eq _ (AX (sk i r hi));rw[Xm,Ff,this];show -cf r.1 f*D+D*cf r.1 f=0;grind;have h1:=sol.bd c;have h2:=sol.pos;dsimp only;by_cases e:c=f;rw[e,xf,if_pos rfl];omega;rw[if_neg e];omega
def zqE(aA:Sts p many rows ss)(hm:2<=p)(lt:∀r∈rows,∀q∈r.1,q.1<many)(hz:∀f,f∉zQ ss->∃Z:Nat->Int,Z f≠0/\(∀c,c∉zQ ss->c≠f->Z c=0)/\∀r∈rows,zy r.1 Z=0){V:Nat->Int}(hV:∀r∈chs rows ss,zy r.1 V=0):∀r∈rows,zy r.1 V=0:=by
 have key:∀(n:Nat) (V:Nat->Int),(∀c,c∉zQ ss->n<=c->V c=0)->(∀r∈chs rows ss,zy r.1 V=0)->∀r∈rows,zy r.1 V=0:=by
  intro n
  induction n with
  |zero=>
   intro V h1 h2 r _;have:=aA.only hm (x:=V) (λc hc=>h1 c hc (Cy _)) λs hs ps l er=>by
    obtain⟨i,hi⟩:=By hs;obtain⟨r,g1,g2⟩:=Xn aA hi;rw[er] at g1;cases g1;exact h2 _ (AX g2)
   rw[yQ (y:=λ_=>0) λq _=>this q.1,Yt]
  |succ n ih=>
   intro V h1 h2 r hr;by_cases hn:n∈zQ ss;exact ih V (λc hc h=>h1 c hc (by have:c≠n:=λz=>hc (z ▸ hn);omega)) h2 r hr;obtain⟨Z,z0,z1,z2⟩:=hz n hn
   have:=ih (λc=>Z n*V c+ -V n*Z c) (λc hc h=>by
    by_cases e:c=n;rw[e];grind
    rw[h1 c hc ⋯,z1 c hc e];simp) (λr hr=>by rw[Xm,h2 r hr,z2 r (vN aA hr)];simp) r hr
   rw[Xm,z2 r hr,BU,FG] at this;exact(F4.1 this).resolve_left z0
 intro r hr;have cut:∀r∈rows,zy r.1 V=zy r.1 λc=>if c<many then V c else 0:=λr hr=>yQ λq hq=>by rw[if_pos (lt r hr q hq)]
 rw[cut r hr];exact key many _ (λc _ h=>if_neg ⋯) (λr hr=>by rw[<-cut r (vN aA hr)];exact hV r hr) r hr
def zoX{x:Nat->Int}{B H:Nat}(h1:∀q∈ps,q.2.natAbs<=B)(h2:∀c,(x c).natAbs<=H):(zy ps x).natAbs<=ps.length*(B*H):=by
 induction ps with
 |nil=>simp[zy]
 |cons q r ih=>
  rw[zU,Bo,GU];have a:=ih λz hz=>h1 z (.tail _ hz);have b:(q.2*x q.1).natAbs<=B*H:=by rw[BV];exact De (h1 q (.head _)) (h2 _)
  omega
end
section
variable{S':Sto}{x y:Xv}
abbrev Q2:=Int×Int
noncomputable def qv(q:Q2):Xv:= .tup [.int q.1,.int q.2]
noncomputable def vm(t b:Int):Q2:=(t / (C3 t b:Int),b / (C3 t b:Int))
def zkQ{t b:Int}(h0:0<b):((CJ t.natAbs b.natAbs:Nat):Int)≠0:=by
 have g0:0<CJ t.natAbs b.natAbs:=FJ _ ⋯;omega
def zeL:qv (vm t b)= .tup [.int (t.fdiv ((CJ t.natAbs b.natAbs:Nat):Int)),.int (b.fdiv ((CJ t.natAbs b.natAbs:Nat):Int))]:=by
 rw[CY _ ⋯,CY _ ⋯];rfl
def zia:∀(n:Nat) (one other:Nat) (a2:pU Xv),Gst n one other->
  WS (YI (bE (eOp WE (za 1) (si 0))) (zm (zu (eOp vP (za 0) (za 1)) (gN 2)) (zm (zu (za 1) (gN 0)) (zu (za 2) (gN 1)))) n [dB (.int one),dB (.int other),a2] S) (λρ S'=>∃a2,ρ=[dB (.int (CJ one other:Nat)),dB (.int 0),a2]/\S=S') (λ_ _=>False):=by
 intro n
 induction n with
 |zero=>intro one other a2 h;exact h.elim
 |succ n ih=>
  intro one other a2 hg;apply YL;ext;rw[show(!decide ((other:Int)=0))=decide (¬(other:Int)=0) by simp];refine yp (λh=> ?_) (λh=> ?_)
  .have h0:0<other:=by omega
   ext;apply xy ⋯;ext;have:=ih other (one % other) (dB (.int ((one % other:Nat):Int))) (hg.resolve_left ⋯);rw[show CJ other (one % other)=CJ one other by rw[FK other,<-Nat.gcd_rec,FK]] at this;rw[HC] at this;exact this
  have:other=0:=by omega
  subst this;exact⟨a2,by simp,rfl⟩
def zkR:∀(n:Nat) (t b:Xv) (one other:Nat),Gst n one other->
  WS (YI (bE (eOp dGt (za 3) (si 0))) (zlP 2 3 [za 3,eOp vP (za 2) (za 3)]) n [dB t,dB b,dB (.int one),dB (.int other)] S) (λρ S'=>ρ=[dB t,dB b,dB (.int (CJ one other:Nat)),dB (.int 0)]/\S=S') (λ_ _=>False):=by
 intro n
 induction n with
 |zero=>intro t b one other h;exact h.elim
 |succ n ih=>
  intro t b one other hg;apply YL;ext;refine yp (λh=> ?_) (λh=> ?_)
  .have h0:0<other:=by omega
   apply zjI;ext;apply xy ⋯;ext;refine⟨_,_,rfl,?_⟩;have:=ih t b other (one % other) (hg.resolve_left ⋯);rw[show CJ other (one % other)=CJ one other by rw[FK other,<-Nat.gcd_rec,FK]] at this;rw[HC] at this;exact this
  have:other=0:=by omega
  subst this;exact⟨by simp,rfl⟩
def zkS{t b:Int}{n:Nat}(h0:0<b)(hb:zk n b):zk n ((CJ t.natAbs b.natAbs:Nat):Int):=hb.abs (by rw[Ed];exact Nat.gcd_le_right _ ⋯)
def za3(aw:Big fu)(h0:0<b)(hb:zk 1000000 b):W (xN fu [.int t,.int b] S) λv S'=>v=qv (vm t b)/\S=S':=by
 have gb:=zkQ (t:=t) h0;walk_at "wr";unfold Zw;ext;apply UN;ext;apply UN;ext;apply zjJ;rcases zkR (S:=S) fu (.int t) (.int b) t.natAbs b.natAbs (zk.fuel aw hb ∅) with⟨ρ,S',e,rfl,rfl⟩|⟨_,_,_,z⟩
 rotate_left
 .exact z.elim
 refine .nx e ?_;ext;apply XR gb;ext;apply XR gb;ext;exact⟨zeL.symm,rfl⟩
def zkT(aw:Big fu)(hb:zk 50000 b):W (vf fu [.int t,.int b] S) λv S'=>v= .int (CJ t.natAbs b.natAbs:Nat)/\S=S':=by
 walk_at "wr";unfold Zv;ext;apply UN;ext;apply UN;ext;apply zjJ;rcases zia (S:=S) fu t.natAbs b.natAbs fC (zk.fuel aw hb ∅) with⟨ρ,S',e,a2,rfl,rfl⟩|⟨_,_,_,z⟩
 .refine .nx e ?_;ext;exact⟨rfl,rfl⟩
 exact z.elim
def zkU(aw:Big fu)(h0:0<b)(hb:zk 50000 b):W (UI fu [.int t,.int b] S) λv S'=>v=qv (vm t b)/\S=S':=by
 have gb:=zkQ (t:=t) h0;walk_at "wr";unfold UH;ext;refine(zkT aw hb).imp ?_;rintro _ _ ⟨rfl,rfl⟩;ext;apply yc;ext;refine yp (λh=>absurd h ⋯) (λ_=>zN ?_);ext;apply XR gb;ext;apply XR gb;ext;exact⟨zeL.symm,rfl⟩
def zhc:W (ZM fu [.int i] S) λv S'=>v= .bl fN/\S=S':=by
 walk_at "wr";unfold Wh;refine wB (zcV ?_);ext;apply XJ (v:=fN) rfl;refine⟨_,rfl,λ_=> ?_,λz=>(by cases z)⟩;ext;apply XJ (v:=kb) rfl;exact⟨_,rfl,rfl,rfl⟩
def zf3(aw:Big fu)(h0:0<b)(hb:zk 50000 b):W (Wk fu [.int t,.int b] S) λv S'=>v=qv (vm t b)/\S=S':=by
 walk_at "wr";unfold Wj;refine zJ (yc (ZE ?_));ext;apply zhc.imp;rintro _ _ ⟨rfl,rfl⟩;ext;refine⟨nofun,λ_=> ?_⟩;ext;apply zhc.imp;rintro _ _ ⟨rfl,rfl⟩;ext;refine⟨nofun,λ_=>zN ?_⟩;refine zJ (yc ?_);ext;refine yp (λh=>absurd h ⋯) (λ_=>zN ?_);ext;exact zkU aw h0 hb
structure IsL(t b:Int)(q:Q2):Prop where
 pos:0<q.2/\q.2<=b
 eq:q.1*b=t*q.2
 co:C3 q.1 q.2=1
 ab:q.1.natAbs<=t.natAbs
def UU(hb:0<b):IsL t b (vm t b):=by
 have g0:0<C3 t b:=Int.gcd_pos_of_ne_zero_right _ ⋯;obtain⟨t',et⟩:(C3 t b:Int)∣t:=Int.gcd_dvd_left ..;obtain⟨b',eb⟩:(C3 t b:Int)∣b:=Int.gcd_dvd_right ..;have gz:((C3 t b:Int))≠0:=by omega
 have gp:(0:Int)<(C3 t b:Int):=by omega
 have co:C3 t' b'=1:=by
  have h1:C3 t b=C3 t b*C3 t' b':=by
   have:=Int.gcd_mul_left (C3 t b:Int) t' b';rw[<-et,<-eb] at this;simpa using this
  exact Nat.eq_of_mul_eq_mul_left g0 (by rw[Nat.mul_one];exact h1.symm)
 unfold vm;rw[show t / (C3 t b:Int)=t' from Cz gz et,show b / (C3 t b:Int)=b' from Cz gz eb];generalize (C3 t b:Int)=g at*;have eL:0<b':=by
  rcases Int.lt_trichotomy b' 0 with h|h|h;have:=Int.mul_neg_of_pos_of_neg gp h;omega;subst h;simp at eb;omega;exact h
 refine⟨⟨eL,?_⟩,?_,co,?_⟩;have:=BH (show 1<=g by omega) (CQ eL);rw[eb];dsimp only;omega;rw[et,eb];dsimp only;grind;dsimp only;rw[et,BV];exact Ge _ ⋯
def za4(hb:0<b)(h0:0<q.2)(hc:C3 q.1 q.2=1)(e:t*q.2=b*q.1):vm t b=q:=by
 have l:=UU (t:=t) hb;generalize vm t b=r at l;obtain⟨⟨r0,_⟩,r1,r2,_⟩:=l;have x:r.1*q.2=q.1*r.2:=by
  have:b*(r.1*q.2)=b*(q.1*r.2):=by
   rw[show b*(r.1*q.2)=(r.1*b)*q.2 by grind,r1,show t*r.2*q.2=(t*q.2)*r.2 by grind,e];grind
  exact DW ⋯ this
 have d1:q.2.natAbs∣r.2.natAbs:=by
  have:q.2.natAbs∣q.1.natAbs*r.2.natAbs:=⟨r.1.natAbs,by rw[<-BV,<-BV,<-x,C9]⟩;exact(show Hr q.2.natAbs q.1.natAbs by rw[HD];exact hc).dvd_of_dvd_mul_left this
 have d2:r.2.natAbs∣q.2.natAbs:=by
  have:r.2.natAbs∣r.1.natAbs*q.2.natAbs:=⟨q.1.natAbs,by rw[<-BV,<-BV,x,C9]⟩;exact(show Hr r.2.natAbs r.1.natAbs by rw[HD];exact r2).dvd_of_dvd_mul_left this
 have e2:r.2=q.2:=by have:=Nat.dvd_antisymm d1 d2;omega
 have e1:r.1=q.1:=by rw[e2] at x;exact Int.eq_of_mul_eq_mul_right ⋯ x
 exact Prod.ext e1 e2
def WU(many:Nat)(rs:n8 (n8 (Nat×Int)×Int))(ss:n8 Stp)(S:Sto)(v:Xv)(S':Sto):Prop:=Le S S'/\∃(ts:n8 Int) (b:Int),ts.length=many/\(0<b/\zk 50000 b/\∀t∈ts,zk 2200000 t)/\(∀r∈chs rs ss,zy r.1 (vec ts)=r.2*b)/\
 ((v= .non/\¬∀r∈rs,zy r.1 (vec ts)=r.2*b)\/∃xn,v= .ref xn/\S.length<=xn/\S'[xn]? =dB (.lst ((ts.map (vm · b)).map qv))/\∀r∈rs,zy r.1 (vec ts)=r.2*b)
def zhd(aw:Big fu)(hq:pN<=q/\zk 5500 (q:Int))(hm:many<=40)(hr:wI S wn rs)(ok:∀r∈rs,Xr many r)(hs:xA S sn ss)(aA:Sts (q:Int) many rs ss)(sb:∀s∈ss,zbz s){X:Nat->Int}{D H:Int}(sol:zf1 rs ss X D H)(hH:H<=bH):
  W (wk fu [.ref wn,.ref sn,.int many,.int (q:Int)] S) (WU many rs ss S):=by
 walk_at "wr";unfold Ze;ext;refine(zkN aw hq hr hs aA sb ok hm sol hH).imp ?_;rintro _ S1 ⟨le,tn,ts,b,rfl,ht,gg,b0,bb,tb,heq⟩;ext;apply yc;ext;refine(zck (hr.le le) ok ht gg ⋯ tb ∅ bb).imp ?_;rintro _ S2 ⟨rfl,l2⟩;ext;refine Vr (λdO=> ?_) (λall=> ?_);ext;exact⟨le.trans l2,ts,b,gg,⟨b0,bb,tb⟩,heq,.inl ⟨rfl,dO⟩⟩;apply zN;refine wB (yd (xB ?_));ext;have jv:=l2.2 _ _ ht;refine⟨_,zb jv,_,zb jv,?_⟩;refine zZ (xs:=ts.map .int) (by rw[AV];exact Ba (yh ⋯)) (λj es S3=>S2=S3/\es=((ts.take j).map (vm · b)).map qv) ?_ ?_ ?_ ?_;rintro j es S3 _ ⟨rfl,_⟩;exact zb jv;rintro j y es S3 hy bD ⟨rfl,rfl⟩;rw[AW,AY] at hy;obtain⟨t,hy,rfl⟩:=hy;refine .of rfl ?_;ext;refine⟨rfl,?_⟩;ext;refine(zf3 aw b0 bb).imp ?_;rintro _ _ ⟨rfl,rfl⟩;refine⟨rfl,?_⟩;rw[Bt,hy];simp;exact⟨rfl,rfl⟩;rintro es S3 bD ⟨rfl,rfl⟩;rw[AV,Bx];exact⟨(le.trans l2).app,ts,b,gg,⟨b0,bb,tb⟩,heq,.inr ⟨_,rfl,AZ le.1 l2.1,zx,all⟩⟩
noncomputable def dv:n8 Int->(Nat->Int)->Int
 |[],_=>0
 |a::l,y=>a*y 0+dv l λi=>y (i+1)
theorem zkV:∀(l k:n8 Int) (y:Nat->Int),dv (l++k) y=dv l y+dv k λi=>y (i+l.length)
 |[],k,y=>by simp[dv]
 |a::l,k,y=>by
  rw[EA,dv,dv,zkV l k];simp only[Bo,GH,GV 1];omega
noncomputable def ptE:Nat->n8 Int->n8 (Nat×Int)
 |_,[]=>[]
 |k,t::r=>if t≠0 then (k,t)::ptE (k+1) r else ptE (k+1) r
theorem zkW:∀(ts:n8 Int) (k:Nat) (X:Nat->Int),zy (ptE k ts) X=dv ts λi=>X (i+k)
 |[],_,_=>rfl
 |t::r,k,X=>by
  have ih:=zkW r (k+1) X;rw[dv,ptE];have e:(λi=>X (i+(k+1)))=λi=>X (i+1+k):=funext λi=>by rw[GH,GV 1 k]
  rw[e] at ih;by_cases h:t=0;rw[if_neg (by simpa using h),ih,h];simp;rw[if_pos h,zU,ih];simp
theorem zkX:∀(l r:n8 Int) (k:Nat),ptE k (l++r)=ptE k l++ptE (k+l.length) r
 |[],r,k=>rfl
 |t::l,r,k=>by
  rw[EA,ptE,ptE,zkX l r,Bo,show k+1+l.length=k+(l.length+1) by omega];split<;>rfl
theorem zdw:∀(ts:n8 Int) (k:Nat) (p:Nat×Int),p∈ptE k ts->k<=p.1/\p.1<k+ts.length/\p.2∈ts
 |[],_,_,h=>nomatch h
 |t::r,k,p,h=>by
  rw[ptE] at h;have go:p∈ptE (k+1) r->k<=p.1/\p.1<k+(t::r).length/\p.2∈t::r:=λh=>by
   obtain⟨h1,h2,h3⟩:=zdw r (k+1) p h;rw[Bo];exact⟨⋯,⋯,.tail _ h3⟩
  split at h;rcases Bi.1 h with rfl|h;exact⟨B1 _,by simp,.head _⟩;exact go h;exact go h
theorem znx:∀(ts:n8 Int) (k:Nat),NdE (ptE k ts)
 |[],_=>Gk
 |t::r,k=>by
  have ih:=znx r (k+1);rw[ptE];split;refine Cb.2 ⟨λz=> ?_,ih⟩;obtain⟨p,hp,e⟩:=Bq.1 z;have:=(zdw r (k+1) p hp).1;dsimp only at e;omega;exact ih
noncomputable def zL:n8 Q2->Int
 |[]=>1
 |q::r=>q.2*zL r
theorem wM:∀(l r:n8 Q2),zL (l++r)=zL l*zL r
 |[],r=>by simp[zL]
 |q::l,r=>by rw[EA,zL,zL,wM l r,DS]
theorem wN:∀l:n8 Q2,(∀q∈l,0<q.2)->0<zL l
 |[],_=>by decide
 |q::l,h=>DU (h q (.head _)) (wN l λp hp=>h p (.tail _ hp))
theorem Ug:∀l:n8 Q2,(∀q∈l,0<q.2/\q.2<=m)->zL l<=m^l.length
 |[],_=>by simp[zL]
 |q::l,h=>by
  have h1:=h q (.head _);have h2:=Ug l λp hp=>h p (.tail _ hp);have h3:=wN l λp hp=>(h p (.tail _ hp)).1;rw[zL,Bo,D5,C9];exact Gp h2 h1.2 ⋯ ⋯
def QxL(xs:n8 Xv)(qs:n8 Q2):Prop:=xs.length=qs.length/\∀(i:Nat) x q,xs[i]? =dB x->qs[i]? =dB q->x.tupOf=dB [.int q.1,.int q.2]
def QxL.at{xs:n8 Xv}{qs:n8 Q2}(h:QxL xs qs){i:Nat}{y:Xv}(e:xs[i]? =dB y):∃q,qs[i]? =dB q/\y.tupOf=dB [.int q.1,.int q.2]:=by
 have hi:=(AQ.1 e).1;have eq:qs[i]? =dB (qs[i]'(by rw[<-h.1];exact hi)):=AK _;exact⟨_,eq,h.2 i y _ e eq⟩
def QxL.qv(qs:n8 Q2):QxL (qs.map qv) qs:=⟨AV ..,λi x q e1 e2=>by
 rw[AW,e2] at e1;cases e1
 rfl⟩
noncomputable def shS(b:Int)(q:Q2):Int:=if b % q.2≠0 then b / ((CJ b.natAbs q.2.natAbs:Nat):Int)*q.2 else b
noncomputable def shB(qs:n8 Q2):Int:=qs.foldl shS 1
def zkY(aw:Big fu)(hr:S[rn]? =dB (.lst xs))(hx:QxL xs qs)(hq:∀q∈qs,0<q.2/\zk 100 q.2)(hl:qs.length<=10):
  W (vJ fu [.ref rn] S) λv S'=>S=S'/\v= .int (shB qs)/\0<shB qs/\(∀q∈qs,q.2∣shB qs)/\shB qs<=zL qs/\zk 1001 (shB qs):=by
 walk_at "wr";unfold vI;ext;refine xg (xB ?_);ext;refine⟨_,zb hr,_,zb hr,?_⟩;refine yE (xs:=xs) (λi ρ S'=>∃(B:Int) (a2:pU Xv),ρ=[dB (.ref rn),dB (.int B),a2]/\S=S'/\B=shB (qs.take i)/\0<B/\zk (100*i+1) B/\(∀q∈qs.take i,q.2∣B)/\B<=zL (qs.take i)) ?_ ?_ ?_ ?_;rintro i ρ S' _ ⟨B,a2,rfl,rfl,_⟩;exact zb hr
 .rintro i y ρ S' hy ⟨B,a2,rfl,rfl,eB,B0,Bb,Bd,Bl⟩;obtain⟨q,hy,bP⟩:=hx.at hy;have hi:i<qs.length:=(AQ.1 hy).1;obtain⟨q0,qb⟩:=hq q (AX hy);have k8:∀B':Int,q.2∣B'->B∣B'->∀p∈qs.take (i+1),p.2∣B':=λB' h1 h2 p hp=>by
   rw[Bt,hy] at hp;rcases Bf.1 hp with hp|hp;exact Fo (Bd p hp) h2;rw[show p=q by simpa using hp];exact h1
  have kZ:shB (qs.take (i+1))=shS B q:=by
   unfold shB at eB ⊢;rw[Bt,hy,List.foldl_append,<-eB];rfl
  have qY:zL (qs.take (i+1))=zL (qs.take i)*q.2:=by
   rw[Bt,hy,wM];simp[zL]
  have k9:=Gp Bl (Es q.2) ⋯ ⋯;refine .of rfl ?_;dsimp only[BL];apply yc;ext;apply xm (z:= .int q.2) bP rfl;ext;apply xy q0;ext;refine Vr (λcx=> ?_) (λhe=> ?_)
  .rw[show shS B q=_ from if_pos cx] at kZ;ext;apply xm (z:= .int q.2) bP rfl;ext;refine(zkT aw (qb.mono ∅)).imp ?_;rintro _ _ ⟨rfl,rfl⟩;have g0:0<CJ B.natAbs q.2.natAbs:=FJ _ ⋯;have gB:=zkS (t:=B) q0 qb;have d1:((CJ B.natAbs q.2.natAbs:Nat):Int)∣B:=EH.1 (by rw[Ed];exact Hy _ _);have d2:((CJ B.natAbs q.2.natAbs:Nat):Int)∣q.2:=EH.1 (by rw[Ed];exact Hm _ _);generalize CJ B.natAbs q.2.natAbs=g at*;ext;apply zdo ⋯ (gB.mono ∅);ext;apply xm (z:= .int q.2) bP rfl;have b1:zk (100*i+1) (B / (g:Int)):=Bb.abs (CI _ _);apply zX b1 qb ⋯;obtain⟨u,hu⟩:=d1;obtain⟨w,hw⟩:=d2;have eu:B / (g:Int)=u:=Cz ⋯ hu;have u0:0<B / (g:Int):=Int.ediv_pos_of_pos_of_dvd B0 ⋯ ⟨u,hu⟩;have e1:B / (g:Int)*q.2=B*w:=by rw[eu,hu,hw];grind
   refine⟨_,_,rfl,rfl,kZ.symm,DU u0 q0,(b1.mul qb).mono ⋯,k8 _ ⟨B / (g:Int),C9 ..⟩ ⟨w,e1⟩,?_⟩;rw[qY];refine D4 (BH (HA _ ⋯) ⋯) k9
  apply zN;have dq:q.2∣B:=Int.dvd_of_emod_eq_zero he;refine⟨_,_,rfl,rfl,by rw[kZ];exact(if_neg (by simpa using he)).symm,B0,Bb.mono ⋯,k8 _ dq (Hc _),?_⟩;rw[qY];refine D4 ?_ k9;have:=Bg (show 1<=q.2 by omega) (CQ B0);omega
 .exact⟨1,_,rfl,rfl,rfl,∅,by unfold zk;decide,λq hq=>by simp at hq,by simp[zL]⟩
 rintro ρ S' ⟨B,a2,rfl,rfl,eB,B0,Bb,Bd,Bl⟩;ext;rw[hx.1] at Bb;rw[hx.1,Bx] at Bd Bl eB;subst eB;exact⟨rfl,rfl,B0,Bd,Bl,Bb.mono ⋯⟩
noncomputable def xq(qs:n8 Q2)(B:Int):n8 Int:=qs.map λq=>q.1*(B / q.2)
def zoY(hr:S[rn]? =dB (.lst xs))(hx:QxL xs qs)(hq:∀q∈qs,0<q.2/\zk 100 q.2/\zk 900 q.1)(hl:qs.length<=10)(hB:zk 1001 B):
  W (YU fu [.ref rn,.int B] S) λv S'=>v= .ref S.length/\S'=S++[.lst ((xq qs B).map .int)]:=by
 walk_at "wr";unfold YT;refine wB (yd (xB ?_));ext;refine⟨_,zb hr,_,zb hr,?_⟩;refine zZ (xs:=xs) (by rw[hx.1];exact Ba (yh ⋯)) (λj es S1=>S=S1/\es=(xq (qs.take j) B).map .int) ?_ ?_ ?_ ?_;rintro j es S1 _ ⟨rfl,_⟩;exact zb hr;rintro j y es S1 hy bD ⟨rfl,rfl⟩;obtain⟨q,hy,bP⟩:=hx.at hy;obtain⟨q0,qb,qt⟩:=hq q (AX hy);refine .of rfl ?_;ext;refine⟨rfl,?_⟩;ext;apply xm (z:= .int q.1) bP rfl;ext;apply xm (z:= .int q.2) bP rfl;apply zdo q0 (qb.mono ∅);apply zX qt (hB.abs (CI _ _)) ∅;refine⟨rfl,?_⟩;rw[Bt,hy];simp[xq];exact⟨rfl,rfl⟩;rintro es S1 bD ⟨rfl,rfl⟩;rw[hx.1,Bx];exact⟨rfl,rfl⟩
noncomputable def wR(many:Nat)(row:n8 Q2):n8 (Nat×Int)×Int:=(ptE 0 (xq (row.take many) (shB row)),(row.getD many (0,1)).1*(shB row / (row.getD many (0,1)).2))
structure Uh(many:Nat)(row:n8 Q2)(r:n8 (Nat×Int)×Int):Prop where
 ok:Xr many r
 eq:r=wR many row
 len:row.length=many+1
 pos:0<shB row/\shB row<=zL row
 dv:∀q∈row,0<q.2/\q.2∣shB row
structure zbA(many:Nat)(row:n8 Q2):Prop where
 len:row.length=many+1
 bit:∀q∈row,0<q.2/\zk 100 q.2/\zk 900 q.1
def zmM(aw:Big fu)(hm:many<=9)(hr:S[rn]? =dB (.lst xs))(hx:QxL xs row)(h:zbA many row):
  W (YW fu [.ref rn] S) λv S'=>Le S S'/\∃m r,v= .ref m/\Tp S' m r/\Uh many row r:=by
 have hl:row.length<=10:=by have:=h.len;omega
 walk_at "wr";unfold YV;ext;refine(zkY aw hr hx (λq hq=>⟨(h.bit q hq).1,(h.bit q hq).2.1⟩) hl).imp ?_;rintro _ _ ⟨rfl,rfl,B0,Bd,Bl,Bb⟩;ext;obtain⟨l,gM⟩:∃l,row=row.dropLast++[l]:=⟨row.getLast (λz=>by have:=h.len;rw[z] at this;simp at this),(List.dropLast_concat_getLast _).symm⟩;have ht:row.take many=row.dropLast:=by rw[EG,h.len,Dh]
 have hg:row.getD many (0,1)=l:=by
  have dl:row.dropLast.length=many:=by rw[Gq,h.len,Dh]
  rw[AU,gM,B4 ⋯,dl,CP];rfl
 have t8:wR many row=(ptE 0 (xq row.dropLast (shB row)),l.1*(shB row / l.2)):=by unfold wR;rw[ht,hg]
 have y4:∀q∈row,0<q.2/\q.2∣shB row:=λq hq=>⟨(h.bit q hq).1,Bd q hq⟩;generalize rX:shB row=B at*;have e1:xq row B=xq row.dropLast B++[l.1*(B / l.2)]:=by
  conv=>lhs;rw[gM]
  simp[xq]
 have e2:(xq row.dropLast B).length=many:=by simp[xq,h.len]
 have bd:∀z:Int,zk 1001 (B / z):=λz=>Bb.abs (CI _ _);have wo:Uh many row (ptE 0 (xq row.dropLast B),l.1*(B / l.2)):=by
  refine⟨⟨znx _ _,λp hp=> ?_,?_⟩,t8.symm,h.len,by rw[rX];exact⟨B0,Bl⟩,by rw[rX];exact y4⟩;obtain⟨_,h2,h3⟩:=zdw _ _ _ hp;refine⟨⋯,?_⟩;unfold xq at h3;obtain⟨q,hq,e⟩:=Bq.1 h3;rw[<-e];exact(((h.bit q ((List.dropLast_sublist row).subset hq)).2.2).mul (bd _)).mono ∅;have:=(h.bit l (by rw[gM];simp)).2.2;exact(this.mul (bd _)).mono ∅
 refine(zoY hr hx h.bit hl Bb).imp ?_;rintro _ _ ⟨rfl,rfl⟩;have eF:(S++[Ce.lst ((xq row B).map .int)])[S.length]? =dB (.lst ((xq row B).map .int)):=zx;ext;apply WN;ext;refine⟨⟨_,zb eF⟩,?_⟩;ext;generalize tq:xq row.dropLast B=ts at e1 e2 wo
 refine WO.of (show zjk (.ref S.length) [] (S ++ [Ce.lst ((xq row B).map .int)]) = dB (.int (l.1 * (B / l.2)), (S ++ [Ce.lst ((xq row B).map .int)]).set S.length (.lst (ts.map .int))) by
  unfold zjk;rw[yR eF];dsimp only;rw[e1,Ci,Bz,Dz,DH,Dh,B4 (B1 _),CP,List.dropLast_concat]
  rfl) ?_
 have l2:Le S ((S++[Ce.lst ((xq row B).map .int)]).set S.length (.lst (ts.map .int))):=Le.refl.app.set (B1 _);have ic:((S++[Ce.lst ((xq row B).map .int)]).set S.length (.lst (ts.map .int)))[S.length]? =dB (.lst (ts.map .int)):=yF eF;generalize (S++[Ce.lst ((xq row B).map .int)]).set S.length (.lst (ts.map .int))=S2 at l2 ic;ext;apply zgM;ext;refine yd (zjK ?_);ext;refine⟨_,zb ic,Zf (ts.map .int),congrArg (F1 Zf) (zb ic),?_⟩;have bD:(Zf (ts.map Xv.int)).length=many:=by simp[Zf,e2]
 refine VN (by rw[bD];exact Ba (yh ⋯)) (λj es S3=>S2=S3/\es=(ptE 0 (ts.take j)).map prt) ?_ ?_ ?_ ?_;rintro j es S3 _ ⟨rfl,_⟩;exact congrArg (F1 Zf) (zb ic)
 .rintro j y es S3 hy _ ⟨rfl,rfl⟩;unfold Zf at hy;rw[AW,AY] at hy;obtain⟨⟨v,k⟩,hy,rfl⟩:=hy;rw[Gr,AY] at hy;obtain⟨v',hy,e⟩:=hy;cases e;rw[AW,AY] at hy;obtain⟨t,hy,rfl⟩:=hy;have hj:=(AQ.1 hy).1;have qX:ptE 0 (ts.take (j+1))=ptE 0 (ts.take j)++if t≠0 then [(j,t)] else []:=by
   rw[Bt,hy,zkX,BI,HP (Ba hj),E8];rfl
  refine .of rfl ?_;ext;refine Vr (λcx=> ?_) (λhe=> ?_);ext;refine⟨rfl,?_⟩;rw[qX,if_pos cx,Ci,E8];rfl;refine⟨rfl,?_⟩;rw[qX,if_neg (by simpa using he),D2]
 .exact⟨rfl,rfl⟩
 rintro es S3 _ ⟨rfl,rfl⟩;rw[bD,DF ⋯];ext;refine(zh8 zx).imp ?_;rintro _ _ ⟨rfl,rfl⟩;refine⟨rfl,?_⟩;refine⟨l2.app.app.set (AZ l2.1 (by simp)),_,_,rfl,⟨S2.length,yF zx,ya (zr zx) (by simp)⟩,wo⟩
def vi(S:Sto)(n:Nat)(rws:n8 (n8 Q2)):Prop:=∃ms:n8 Nat,S[n]? =dB (.lst (ms.map .ref))/\ms.length=rws.length/\∀(i m:Nat) row,ms[i]? =dB m->rws[i]? =dB row->∃xs,S[m]? =dB (.lst xs)/\QxL xs row
def vi.le(h:vi S n rws)(l:Le S S'):vi S' n rws:=by
 obtain⟨ms,h1,h2,h3⟩:=h;refine⟨ms,l.2 _ _ h1,h2,λi m r e1 e2=> ?_⟩;obtain⟨xs,a,b⟩:=h3 i m r e1 e2;exact⟨xs,l.2 _ _ a,b⟩
def zeM(aw:Big fu)(hm:many<=9)(hl:rws.length<=20)(h:vi S rn rws)(hg:∀row∈rws,zbA many row):
  W (vM fu [.ref rn] S) λv S'=>Le S S'/\∃wn rs,v= .ref wn/\wI S' wn rs/\rs.length=rws.length/\∀(i:Nat) r row,rs[i]? =dB r->rws[i]? =dB row->Uh many row r:=by
 obtain⟨ms,h1,h2,h3⟩:=id h;walk_at "wr";unfold ZW;refine wB (yd (xB ?_));ext;refine⟨_,zb h1,_,zb h1,?_⟩;refine zZ (xs:=ms.map .ref) (by rw[AV];exact Ba (yh ⋯)) (λj es S1=>Le S S1/\∃(ks:n8 Nat) (rs:n8 (n8 (Nat×Int)×Int)),es=ks.map .ref/\ks.length=j/\rs.length=j/\(∀(i m:Nat) r,ks[i]? =dB m->rs[i]? =dB r->Tp S1 m r)/\∀(i:Nat) r row,rs[i]? =dB r->rws[i]? =dB row->Uh many row r) ?_ ?_ ?_ ?_;rintro j es S1 _ ⟨le,_⟩;exact zb (le.2 _ _ h1)
 .rintro j y es S1 hy bD ⟨le,ks,rs,rfl,kl,rl,kr,ko⟩;rw[AW,AY] at hy;obtain⟨m,hy,rfl⟩:=hy;have hj:j<rws.length:=by rw[<-h2];exact(AQ.1 hy).1
  have er:rws[j]? =dB rws[j]:=AK hj;generalize rws[j]=row at er;obtain⟨xs,kR,iV⟩:=h3 j m row hy er;refine .of rfl ?_;ext;refine⟨rfl,?_⟩;ext;refine(zmM aw hm (le.2 _ _ kR) iV (hg row (AX er))).imp ?_;rintro _ S2 ⟨l2,m2,r2,rfl,ra,wo⟩;refine⟨le.trans l2,ks++[m2],rs++[r2],by simp,by simp[kl],by simp[rl],λi m r e1 e2=> ?_,λi r a' e1 e2=> ?_⟩
  .rcases zeF (kl.trans rl.symm) e1 e2 with⟨e1,e2⟩|⟨rfl,rfl,rfl⟩
   .exact (kr i m r e1 e2).le l2
   exact ra
  rcases zci rl e1 with e1|⟨rfl,rfl⟩
  .exact ko i r a' e1 e2
  rw[er] at e2;cases e2;exact wo
 .exact⟨.refl,[],[],rfl,rfl,rfl,λi m r e=>by simp at e,λi r a e=>by simp at e⟩
 rintro es S1 bD ⟨le,ks,rs,rfl,kl,rl,kr,ko⟩;rw[AV,h2] at kl rl;exact⟨le.app,S1.length,rs,rfl,⟨ks,zx,⋯,λi m r e1 e2=>(kr i m r e1 e2).le Le.refl.app⟩,rl,ko⟩
def Yu(many:Nat)(rws:n8 (n8 Q2))(rs:n8 (n8 (Nat×Int)×Int)):Prop:=rs.length=rws.length/\∀(i:Nat) r row,rs[i]? =dB r->rws[i]? =dB row->Uh many row r
def Yu.ok(h:Yu many rws rs):∀r∈rs,Xr many r:=λr hr=>by
 obtain⟨i,hi⟩:=By hr;have e:rws[i]? =dB (rws[i]'(by have:=(AQ.1 hi).1;have:=h.1;omega)):=AK _;exact(h.2 i r _ hi e).ok
def za5(q many:Nat)(rws:n8 (n8 Q2)):Prop:=∀rs ss,Yu many rws rs->Sts (q:Int) many rs ss->∃X D H,zf1 rs ss X D H/\H<=bH
def ByR(q many:Nat)(rws:n8 (n8 Q2))(S:Sto)(v:Xv)(S':Sto):Prop:=Le S S'/\((v= .non/\¬Pr q)\/∃rs ss,Yu many rws rs/\Run q many rs ss/\WU many rs ss S v S')
def WU.from(l:Le S0 S)(h:WU many rs ss S v S1):WU many rs ss S0 v S1:=by
 obtain⟨le,ts,b,h1,h2,h3,h4⟩:=h;refine⟨l.trans le,ts,b,h1,h2,h3,h4.imp (λz=>z) ?_⟩;rintro⟨xn,e1,e2,e3,e4⟩;exact⟨xn,e1,AZ l.1 e2,e3,e4⟩
def zeN(aw:Big fu)(hq:pN<=q/\zk 5500 (q:Int))(hm:many<=9)(hl:rws.length<=20)(h:vi S rn rws)(hg:∀row∈rws,zbA many row)(jx:za5 q many rws)(aO:S[1]? =dB (.tab Zg.t)):
  W (YX fu [.ref rn,.int many,.int (q:Int)] S) (ByR q many rws S):=by
 walk_at "wr";unfold Vk;ext;refine(zeM aw hm hl h hg).imp ?_;rintro _ S1 ⟨l1,wn,rs,rfl,hr,rl,ro⟩;have wr:Yu many rws rs:=⟨rl,ro⟩;ext;refine(zg8 aw (B3 ∅ hq.1) hq.2 hr wr.ok ⋯ ⋯ (l1.2 _ _ aO)).imp ?_;rintro _ S2 ⟨l2,⟨rfl,jI⟩|⟨sn,ss,rfl,_,hs,aA,sb,gU⟩⟩;ext;apply ZR;ext;apply wd;ext;refine⟨λ_=> ?_,nofun⟩;ext;exact⟨l1.trans l2,.inl ⟨rfl,jI⟩⟩;ext;apply ZR;ext;apply wd;ext;refine⟨nofun,λ_=> ?_⟩;ext;obtain⟨X,D,H,sol,hH⟩:=jx rs ss wr aA;refine(zhd aw hq ⋯ (hr.le l2) wr.ok hs aA sb sol hH).imp ?_;intro v S3 mr;exact⟨(l1.trans l2).trans mr.1,.inr ⟨rs,ss,wr,⟨aA,gU⟩,mr.from (l1.trans l2)⟩⟩
def zaa(h1:zA S x=dB a)(h2:zA S y=dB b)(h:a.length+b.length<=20000)(k:P (.ref S.length) (S++[.lst (a++b)])):WO (Tf x y S) P:= .of (by unfold Tf;rw[h1,h2];exact if_pos (Ba (yh h))) k
def QxL.snoc{xs:n8 Xv}{qs:n8 Q2}(h:QxL xs qs){z:Xv}{q:Q2}(hz:z.tupOf=dB [.int q.1,.int q.2]):QxL (xs++[z]) (qs++[q]):=by
 refine⟨by simp[h.1],λi x p e1 e2=> ?_⟩;rcases zeF h.1 e1 e2 with⟨e1,e2⟩|⟨_,rfl,rfl⟩
 .exact h.2 i x p e1 e2
 exact hz
noncomputable def vL(rws:n8 (n8 Q2))(c:Nat):n8 Q2:=rws.map λrow=>row.getD c (0,1)
def zhe(hk:ρ[k]? =dB (dB (.ref rn)))(fY:(ρ[k2]?).join=dB (.int (c:Int)))(hr:vi S rn rws)(hl:rws.length<=20)(hc:∀row∈rws,c<row.length)(q:∀xs,QxL xs (vL rws c)->P (.ref S.length) (S++[.lst xs])):
  W (yq [fC,dB k2] (iL (za k)) (gN 0) yH (eOp yY (za 0) (za 1)) ρ S) P:=by
 obtain⟨ms,h1,h2,h3⟩:=id hr;refine yd (xB (zjC hk ?_));refine⟨_,zb h1,_,zb h1,?_⟩;have jS:zax [fC,dB k2] ρ=[fC,dB (.int (c:Int))]:=by
  simp only[zax,List.map,HB,B7,fY]
 rw[jS];refine zZ (xs:=ms.map .ref) (by rw[AV];exact Ba (yh ⋯)) (λj es S1=>S=S1/\QxL es (vL (rws.take j) c)) ?_ ?_ ?_ ?_;rintro j es S1 _ ⟨rfl,_⟩;exact zb h1
 .rintro j y es S1 hy bD ⟨rfl,hx⟩;rw[AW,AY] at hy;obtain⟨m,hy,rfl⟩:=hy;have hj:j<rws.length:=by rw[<-h2];exact(AQ.1 hy).1
  have er:rws[j]? =dB rws[j]:=AK hj;generalize rws[j]=row at er;obtain⟨xs,kR,iV⟩:=h3 j m row hy er;have dF:=hc row (AX er);have ex:xs[c]? =dB (xs[c]'(by rw[iV.1];exact dF)):=AK _;generalize xs[c]'(by rw[iV.1];exact dF)=z at ex;have eq:row[c]? =dB row[c]:=AK dF;refine .of rfl ?_;ext;refine⟨rfl,?_⟩;ext;apply yy (zb kR) (yP (z:=z) ⋯ (by rw[B9];exact ex));refine⟨rfl,?_⟩;have e:vL (rws.take (j+1)) c=vL (rws.take j) c++[row[c]]:=by
   unfold vL;rw[Bt,er,Ci];simp[AU,eq]
  rw[e];exact hx.snoc (iV.2 c z _ ex eq)
 .exact⟨rfl,rfl,λi x q e=>by simp at e⟩
 rintro es S1 bD ⟨rfl,hx⟩;rw[AV,h2,Bx] at hx;exact q es hx
noncomputable def xj(many:Nat)(rws:n8 (n8 Q2)):n8 (n8 Q2):=((BX many).map λc=>vL rws c++[(0,1)])++[vL rws many++[(1,1)]]
def zkZ(hm:many<=9)(hl:rws.length<=20)(h:vi S rn rws)(hg:∀row∈rws,row.length=many+1):
  W (UM fu [.ref rn,.int many] S) λv S'=>Le S S'/\∃cn,v= .ref cn/\S.length<=cn/\vi S' cn (xj many rws):=by
 walk_at "wr";unfold zch;refine zJ (wa (yd (WZ ?_)));ext;refine⟨⟨⋯,⋯⟩,yw 0 many,by rw[B9],?_⟩;refine zZ (xs:=yw 0 many) (by rw[yx];exact Ba (yh ⋯)) (λj es S1=>Le S S1/\∃ks:n8 Nat,es=ks.map .ref/\ks.length=j/\∀(i m:Nat),ks[i]? =dB m->S.length<=m/\∃xs,S1[m]? =dB (.lst xs)/\QxL xs (vL rws i++[(0,1)])) ?_ ?_ ?_ ?_;rintro j es S1 _ _;rw[B9]
 .rintro j y es S1 hy bD ⟨le,ks,rfl,kl,hk⟩;obtain⟨hj,rfl⟩:=xS hy;rw[Di];refine .of rfl ?_;ext;refine⟨rfl,wU (zhe (k:=1) (k2:=0) (rn:=rn) (c:=j) rfl rfl (h.le le) hl (λrow hr=>by rw[hg row hr];omega) λxs hx=> ?_)⟩;ext;apply zaa (zb (zr zx)) (zb zx) (by rw[hx.1];unfold vL;rw[AV];simp;omega);refine⟨le.app.app.app,ks++[(S1++[Ce.lst xs]++[Ce.lst [Xv.ct [.int 0,.int 1]]]).length],by simp,by simp[kl],λi m e=> ?_⟩;rcases zci kl e with e|⟨rfl,rfl⟩
  .obtain⟨a,xs',b,c⟩:=hk i m e;exact⟨a,xs',zr (zr (zr b)),c⟩
  exact⟨le.app.app.1,_,zx,hx.snoc rfl⟩
 .exact⟨.refl,[],rfl,rfl,λi m e=>by simp at e⟩
 rintro es S1 bD ⟨le,ks,rfl,kl,hk⟩;rw[yx] at kl;dsimp only[BL];have dP:(S1++[Ce.lst (ks.map .ref)])[S1.length]? =dB (.lst (ks.map .ref)):=zx;have l2:Le S (S1++[Ce.lst (ks.map .ref)]):=le.app;have fY:∀(i m:Nat),ks[i]? =dB m->m≠S1.length/\∃xs,(S1++[Ce.lst (ks.map .ref)])[m]? =dB (.lst xs)/\QxL xs (vL rws i++[(0,1)]):=λi m e=>by
  obtain⟨a,xs,b,c⟩:=hk i m e;exact⟨Bj (vp b),xs,zr b,c⟩
 have fj:S.length<=S1.length:=le.1;generalize S1.length=cn at dP fY fj ⊢;generalize S1++[Ce.lst (ks.map .ref)]=S2 at dP l2 fY ⊢;refine zJ (YK (WN ?_));ext;refine⟨⟨_,zb dP⟩,yK (wU (zhe (k:=0) (k2:=1) (rn:=rn) (c:=many) rfl rfl (h.le l2) hl (λrow hr=>by rw[hg row hr];omega) λxs hx=> ?_))⟩;ext;apply zaa (zb (zr zx)) (zb zx) (by rw[hx.1];unfold vL;rw[AV];simp;omega);ext;apply xT (yR (zr (zr (zr dP)))) (by rw[AV,kl];exact yh ⋯);ext;have cJ:=vp dP;refine⟨l2.app.app.app.set fj,cn,rfl,fj,ks++[(S2++[Ce.lst xs]++[Ce.lst [Xv.ct [.int 1,.int 1]]]).length],by rw[yF (zr (zr (zr dP)))];simp,by simp[xj,kl],λi m row e1 e2=> ?_⟩;rcases zeF (by simp[kl]) e1 e2 with⟨e1,e2⟩|⟨rfl,rfl,rfl⟩
 .rw[AW,Cm (kl ▸ (AQ.1 e1).1)] at e2;cases e2;obtain⟨a,xs',b,c⟩:=fY i m e1;exact⟨xs',ya (zr (zr (zr b))) (BM a),c⟩
 exact⟨_,ya zx (by simp;omega),hx.snoc rfl⟩
def zoZ{α:Type}(l:n8 α)(n:Nat):L2.zhC l fC (dB (n:Int))=l.take n:=by
 unfold L2.zhC;rw[HT.zlu,HT.ziy,HY,Nat.sub_zero,<-List.take_eq_take_min]
def QxL.take(h:QxL xs qs)(n:Nat):QxL (xs.take n) (qs.take n):=by
 refine⟨by rw[BI,BI,h.1],λi x q e1 e2=> ?_⟩;have hi:i<n:=by have:=(AQ.1 e1).1;rw[BI] at this;omega
 rw[CN hi] at e1 e2;exact h.2 i x q e1 e2
noncomputable def yD(many free:Nat)(rws:n8 (n8 Q2)):n8 (n8 Q2):=(rws.map λrow=>row.take many++[(0,1)])++[((BX many).map λc=>if c=free then ((1,1):Q2) else (0,1))++[(1,1)]]
def zmN{free:Nat}(hm:many<=9)(hl:rws.length<=20)(h:vi S rn rws)(hg:∀row∈rws,row.length=many+1):
  W (ZY fu [.ref rn,.int many,.int (free:Int)] S) λv S'=>Le S S'/\∃cn,v= .ref cn/\S.length<=cn/\vi S' cn (yD many free rws):=by
 obtain⟨ms,h1,h2,h3⟩:=id h;walk_at "wr";unfold WT;refine zJ (wa (yd (xB ?_)));ext;refine⟨_,zb h1,_,zb h1,?_⟩;refine zZ (xs:=ms.map .ref) (by rw[AV];exact Ba (yh ⋯)) (λj es S1=>Le S S1/\∃ks:n8 Nat,es=ks.map .ref/\ks.length=j/\∀(i m:Nat) row,ks[i]? =dB m->rws[i]? =dB row->S.length<=m/\∃xs,S1[m]? =dB (.lst xs)/\QxL xs (row.take many++[(0,1)])) ?_ ?_ ?_ ?_;rintro j es S1 _ ⟨le,_⟩;exact zb (le.2 _ _ h1)
 .rintro j y es S1 hy bD ⟨le,ks,rfl,kl,hk⟩;rw[AW,AY] at hy;obtain⟨m,hy,rfl⟩:=hy;have hj:j<rws.length:=by rw[<-h2];exact(AQ.1 hy).1
  have er:rws[j]? =dB rws[j]:=AK hj;generalize rws[j]=row at er;obtain⟨xs,kR,iV⟩:=h3 j m row hy er;have tJ:=hg row (AX er);refine .of rfl ?_;ext;refine⟨rfl,?_⟩;ext;apply zot (zb (le.2 _ _ kR));rw[zoZ];ext;apply zaa (zb (zr zx)) (zb zx) (by rw[BI,iV.1];simp;omega);refine⟨le.app.app.app,ks++[(S1++[Ce.lst (xs.take many)]++[Ce.lst [Xv.ct [.int 0,.int 1]]]).length],by simp,by simp[kl],λi m row' e e2=> ?_⟩;rcases zci kl e with e|⟨rfl,rfl⟩
  .obtain⟨a,xs',b,c⟩:=hk i m row' e e2;exact⟨a,xs',zr (zr (zr b)),c⟩
  rw[er] at e2;cases e2;exact⟨le.app.app.1,_,zx,(iV.take many).snoc rfl⟩
 .exact⟨.refl,[],rfl,rfl,λi m row e=>by simp at e⟩
 rintro es S1 bD ⟨le,ks,rfl,kl,hk⟩;rw[AV,h2] at kl;dsimp only[BL];have dP:(S1++[Ce.lst (ks.map .ref)])[S1.length]? =dB (.lst (ks.map .ref)):=zx;have l2:Le S (S1++[Ce.lst (ks.map .ref)]):=le.app;have fY:∀(i m:Nat) row,ks[i]? =dB m->rws[i]? =dB row->m≠S1.length/\∃xs,(S1++[Ce.lst (ks.map .ref)])[m]? =dB (.lst xs)/\QxL xs (row.take many++[(0,1)]):=λi m row e e2=>by
  obtain⟨a,xs,b,c⟩:=hk i m row e e2;exact⟨Bj (vp b),xs,zr b,c⟩
 have fj:S.length<=S1.length:=le.1;generalize S1.length=cn at dP fY fj ⊢;generalize S1++[Ce.lst (ks.map .ref)]=S2 at dP l2 fY ⊢;refine zJ (YK (WN ?_));ext;refine⟨⟨_,zb dP⟩,yK (wU (yd (WZ ?_)))⟩;ext;refine⟨⟨⋯,⋯⟩,yw 0 many,by rw[B9],?_⟩;refine zZ (xs:=yw 0 many) (by rw[yx];exact Ba (yh ⋯)) (λj es S3=>S2=S3/\QxL es ((BX j).map λc=>if c=free then ((1,1):Q2) else (0,1))) ?_ ?_ ?_ ?_;rintro j es S3 _ _;rw[B9];rintro j y es S3 hy g7 ⟨rfl,hx⟩;obtain⟨hj,rfl⟩:=xS hy;rw[Di];refine .of rfl ?_;ext;refine⟨rfl,ZR ?_⟩;ext;refine yp (λe=> ?_) (λe=> ?_);ext;refine⟨rfl,?_⟩;rw[DA,Ci,Dz,if_pos ⋯];exact hx.snoc rfl;ext;refine⟨rfl,?_⟩;rw[DA,Ci,Dz,if_neg ⋯];exact hx.snoc rfl;exact⟨rfl,rfl,λi x q e=>by simp at e⟩
 rintro xs S3 g7 ⟨rfl,hx⟩;rw[yx] at hx;ext;apply zaa (zb (zr zx)) (zb zx) (by rw[hx.1];simp;omega);ext;apply xT (yR (zr (zr (zr dP)))) (by rw[AV,kl];exact yh ⋯);ext;have cJ:=vp dP;refine⟨l2.app.app.app.set fj,cn,rfl,fj,ks++[(S2++[Ce.lst xs]++[Ce.lst [Xv.ct [.int 1,.int 1]]]).length],by rw[yF (zr (zr (zr dP)))];simp,by simp[yD,kl],λi m row e1 e2=> ?_⟩;rcases zeF (by simp[kl]) e1 e2 with⟨f1,f2⟩|⟨rfl,rfl,rfl⟩
 .rw[AW,AY] at f2;obtain⟨row',f2,rfl⟩:=f2;obtain⟨a,xs',b,c⟩:=fY i m row' f1 f2;exact⟨xs',ya (zr (zr (zr b))) (BM a),c⟩
 exact⟨_,ya zx (by simp;omega),hx.snoc rfl⟩
def zk0{cs:n8 Nat}{c:Nat}:((cs.map λc:Nat=>Xv.int (c:Int)).any λz=>zd4 z (.int (c:Int)))=decide (c∈cs):=by
 rw[Iv,Dw,Dq,decide_eq_true_eq];constructor
 .rintro⟨d,hd,e⟩;have e:decide ((d:Int)=(c:Int))=fN:=e
  have:=of_decide_eq_true e;rw[show c=d by omega];exact hd
 intro h;exact⟨c,h,decide_eq_true (rfl:(c:Int)=c)⟩
def zib{cs:n8 Nat}{c:Nat}:(ZD (.int (c:Int))&&(cs.map λc:Nat=>Xv.int (c:Int)).all ZD)=fN:=by
 rw[Ir,Cj,CO];exact⟨rfl,λd _=>rfl⟩
def zo0(hs:xA S sn ss)(hm:many<=60)(hl:ss.length<many):
  W (ZX fu [.ref sn,.int many] S) λv S'=>Le S S'/\∃free:Nat,v= .int (free:Int)/\free<many/\free∉zQ ss:=by
 obtain⟨st,s1,s2,s3⟩:=id hs;walk_at "wr";unfold WR;refine zJ (wa (yd (xB ?_)));ext;refine⟨_,zb s1,_,zb s1,?_⟩;refine zZ (xs:=st.map .ref) (by rw[AV];exact Ba (yh ⋯)) (λj es S1=>S=S1/\es=((zQ ss).take j).map λc:Nat=>Xv.int (c:Int)) ?_ ?_ ?_ ?_;rintro j es S1 _ ⟨rfl,_⟩;exact zb s1
 .rintro j y es S1 hy bD ⟨rfl,rfl⟩;rw[AW,AY] at hy;obtain⟨mi,hy,rfl⟩:=hy;have hj:j<ss.length:=by rw[<-s2];exact(AQ.1 hy).1
  have es:ss[j]? =dB ss[j]:=AK hj;generalize ss[j]=s at es;obtain⟨fn,pn,f1,f2,f3⟩:=(s3 j mi s hy es).ex;refine .of rfl ?_;ext;refine⟨rfl,wV ?_⟩;ext;refine⟨mi,_,.int (s.col:Int),rfl,f1,rfl,rfl,?_⟩;have:(zQ ss)[j]? =dB s.col:=by unfold zQ;rw[AW,es];rfl
  rw[Bt,this];simp
 .exact⟨rfl,by simp⟩
 rintro es S1 bD ⟨rfl,rfl⟩;have cl:(zQ ss).length=ss.length:=AV ..;rw[AV,s2,DF ⋯];dsimp only[BL];have hc:(S++[Ce.lst ((zQ ss).map λc:Nat=>Xv.int (c:Int))])[S.length]? =dB (.lst ((zQ ss).map λc:Nat=>Xv.int (c:Int))):=zx;have l1:Le S (S++[Ce.lst ((zQ ss).map λc:Nat=>Xv.int (c:Int))]):=Le.refl.app;generalize S.length=cn at hc ⊢;generalize S++[Ce.lst ((zQ ss).map λc:Nat=>Xv.int (c:Int))]=S1 at hc l1 ⊢;refine wB (wU (yd (WZ ?_)));ext;refine⟨⟨⋯,⋯⟩,yw 0 many,by rw[B9],?_⟩;refine VN (xs:=yw 0 many) (by rw[yx];exact Ba (yh ⋯)) (λj es S2=>S1=S2/\es=((BX j).filter λc=>decide (c∉zQ ss)).map λc:Nat=>Xv.int (c:Int)) ?_ ?_ ?_ ?_;rintro j es S2 _ _;rw[B9]
 .rintro j y es S2 hy _ ⟨rfl,rfl⟩;obtain⟨hj,rfl⟩:=xS hy;rw[Di];refine .of rfl ?_;ext;apply zpY (l:=(zQ ss).map λc:Nat=>Xv.int (c:Int)) (by unfold Yn;rw[show(Xv.ref cn).tupOf=fC from rfl];exact zb hc) zib;rw[zk0];refine⟨_,rfl,λe=> ?_,λe=> ?_⟩
  .ext;have:j∉zQ ss:=by simpa using e
   refine⟨rfl,?_⟩;rw[DA,Ee];simp[this]
  have:j∈zQ ss:=by simpa using e
  refine⟨rfl,?_⟩;rw[DA,Ee];simp[this]
 .exact⟨rfl,rfl⟩
 rintro es S2 _ ⟨rfl,rfl⟩;rw[yx];ext;obtain⟨c,iz,dR⟩:∃c,c<many/\c∉zQ ss:=by
  apply Bv;intro dO;have:=php ss.length many (λc=>(zQ ss).idxOf c) (λc hc=>by rw[<-cl];exact CU (Bv λz=>dO ⟨c,hc,z⟩)) λc d cZ hd=>by
   intro z;have e1:=DC (CU (l:=zQ ss) (a:=c) (Bv λz=>dO ⟨c,⋯,z⟩));have e2:=DC (CU (l:=zQ ss) (a:=d) (Bv λz=>dO ⟨d,hd,z⟩));have:=(e1.symm.trans (getElem_congr_idx z)).trans e2;omega
  omega
 cases e:(BX many).filter λc=>decide (c∉zQ ss) with
 |nil=>
  have:c∈(BX many).filter λc=>decide (c∉zQ ss):=Dv.2 ⟨Cw.2 iz,decide_eq_true dR⟩;rw[e] at this;cases this
 |cons f r=>
  have hf:f∈(BX many).filter λc=>decide (c∉zQ ss):=by rw[e];exact .head _
  obtain⟨f1,f2⟩:=Dv.1 hf;apply yy (zb zx) (z:= .int (f:Int)) zjM;exact⟨l1.app,f,rfl,Cw.1 f1,of_decide_eq_true f2⟩
def ByR.from(l:Le S0 S)(h:ByR q many rws S v S1):ByR q many rws S0 v S1:=by
 obtain⟨le,h⟩:=h;refine⟨l.trans le,h.imp (λz=>z) ?_⟩;rintro⟨rs,ss,a,b,c⟩;exact⟨rs,ss,a,b,c.from l⟩
def ByR.kind(h:ByR q many rws S v S'):v= .non\/∃n,v= .ref n:=by
 obtain⟨_,⟨rfl,_⟩|⟨rs,ss,_,_,_,ts,b,_,_,_,⟨rfl,_⟩|⟨xn,rfl,_⟩⟩⟩:=h;exact .inl rfl;exact .inl rfl;exact .inr ⟨xn,rfl⟩
def zk1(aw:Big fu)(hq:pN<=q/\zk 5500 (q:Int))(hm:many<=9)(hl:rws.length<=9)(h:vi S rn rws)(hg:∀row∈rws,row.length=many+1)(fZ:∀row∈xj many rws,zbA rws.length row)(jx:za5 q rws.length (xj many rws))(aO:S[1]? =dB (.tab Zg.t)):
  W (Vo fu [.ref rn,.int many,.int (q:Int)] S) λv S'=>∃w,ByR q rws.length (xj many rws) S w S'/\((w= .non/\v= .non)\/∃n,w= .ref n/\v= .tup [.str "none",.ref n]):=by
 walk_at "wr";unfold Vn;ext;refine(zkZ hm ⋯ h hg).imp ?_;rintro _ S1 ⟨l1,cn,rfl,_,hc⟩;obtain⟨ms,h1,h2,_⟩:=id (h.le l1);ext;apply yW (zb h1);rw[AV,h2];ext;refine(zeN aw hq hl (by simp[xj];omega) hc fZ jx (l1.2 _ _ aO)).imp ?_;intro w S2 hb;have jc:=hb.from l1
 rcases hb.kind with rfl|⟨n,rfl⟩
 .ext;apply ZR;ext;apply wd;ext;refine⟨λ_=> ?_,nofun⟩;ext;exact⟨_,jc,.inl ⟨rfl,rfl⟩⟩
 ext;apply ZR;ext;apply wd;ext;refine⟨nofun,λ_=> ?_⟩;ext;exact⟨_,jc,.inr ⟨n,rfl,rfl⟩⟩
def zk2(aw:Big fu)(hq:pN<=q/\zk 5500 (q:Int))(hm:many<=9)(hl:rws.length<=9)(h:vi S rn rws)(hg:∀row∈rws,row.length=many+1)(fZ:∀row∈yD many free rws,zbA many row)(jx:za5 q many (yD many free rws))(aO:S[1]? =dB (.tab Zg.t)):
  W (Vm fu [.ref rn,.int many,xv,.int (free:Int),.int (q:Int)] S) λv S'=>∃w,ByR q many (yD many free rws) S w S'/\((w= .non/\v= .non)\/∃n,w= .ref n/\v= .tup [.str "many",xv,.ref n]):=by
 walk_at "wr";unfold Vl;ext;refine(zmN hm ⋯ h hg).imp ?_;rintro _ S1 ⟨l1,cn,rfl,_,hc⟩;ext;refine(zeN aw hq hm (by simp[yD];omega) hc fZ jx (l1.2 _ _ aO)).imp ?_;intro w S2 hb;have jc:=hb.from l1
 rcases hb.kind with rfl|⟨n,rfl⟩
 .ext;apply ZR;ext;apply wd;ext;refine⟨λ_=> ?_,nofun⟩;ext;exact⟨_,jc,.inl ⟨rfl,rfl⟩⟩
 ext;apply ZR;ext;apply wd;ext;refine⟨nofun,λ_=> ?_⟩;ext;exact⟨_,jc,.inr ⟨n,rfl,rfl⟩⟩
def zeO(q many:Nat)(rws:n8 (n8 Q2))(S:Sto)(v:Xv)(S':Sto):Prop:=Le S S'/\((v= .non/\¬Pr q)\/∃rs ss w S1,Yu many rws rs/\Run q many rs ss/\WU many rs ss S w S1/\Le S1 S'/\
  ((w= .non/\∃u,ByR q rws.length (xj many rws) S u S'/\((u= .non/\v= .non)\/∃n,u= .ref n/\v= .tup [.str "none",.ref n]))\/
   (∃xn,w= .ref xn/\ss.length=many/\v= .tup [.str "one",.ref xn])\/
   ∃xn free u,w= .ref xn/\ss.length≠many/\free<many/\free∉zQ ss/\ByR q many (yD many free rws) S u S'/\((u= .non/\v= .non)\/∃n,u= .ref n/\v= .tup [.str "many",.ref xn,.ref n])))
def zqi(aw:Big fu)(hq:pN<=q/\zk 5500 (q:Int))(hm:many<=9)(hl:rws.length<=9)(h:vi S rn rws)(hg:∀row∈rws,zbA many row)(jx:za5 q many rws)(fZ:∀row∈xj many rws,zbA rws.length row)(dW:za5 q rws.length (xj many rws))(uo:∀free,free<many->(∀row∈yD many free rws,zbA many row)/\za5 q many (yD many free rws))(aO:S[1]? =dB (.tab Zg.t)):
  W (yU fu [.ref rn,.int many,.int (q:Int)] S) (zeO q many rws S):=by
 have lL:∀row∈rws,row.length=many+1:=λrow hr=>(hg row hr).len;walk_at "wr";unfold YY;ext;refine(zeM aw hm ⋯ h hg).imp ?_;rintro _ S1 ⟨l1,wn,rs,rfl,hr,rl,ro⟩;have wr:Yu many rws rs:=⟨rl,ro⟩;ext;refine(zg8 aw (B3 ∅ hq.1) hq.2 hr wr.ok ⋯ ⋯ (l1.2 _ _ aO)).imp ?_;rintro _ S2 ⟨l2,⟨rfl,jI⟩|⟨sn,ss,rfl,_,hs,aA,sb,gU⟩⟩;ext;apply yc;ext;apply wd;ext;refine⟨λ_=> ?_,nofun⟩;ext;exact⟨l1.trans l2,.inl ⟨rfl,jI⟩⟩;have qp:=l1.trans l2;ext;apply yc;ext;apply wd;ext;refine⟨nofun,λ_=>zN ?_⟩;ext;obtain⟨X,D,H,sol,hH⟩:=jx rs ss wr aA;refine(zhd aw hq ⋯ (hr.le l2) wr.ok hs aA sb sol hH).imp ?_;intro w S3 mr;have i9:=qp.trans mr.1;have nB:=mr.from qp
 have kind:w= .non\/∃n,w= .ref n:=by
  obtain⟨_,ts,b,_,_,_,⟨rfl,_⟩|⟨xn,rfl,_⟩⟩:=mr;exact .inl rfl;exact .inr ⟨xn,rfl⟩
 rcases kind with rfl|⟨xn,rfl⟩
 .ext;apply yc;ext;apply wd;ext;refine⟨λ_=> ?_,nofun⟩;ext;refine(zk1 aw hq hm hl (h.le i9) lL fZ dW (i9.2 _ _ aO)).imp ?_;rintro v S4 ⟨u,hb,hv⟩;exact⟨i9.trans hb.1,.inr ⟨rs,ss,_,S3,wr,⟨aA,gU⟩,nB,hb.1,.inl ⟨rfl,u,hb.from i9,hv⟩⟩⟩
 ext;apply yc;ext;apply wd;ext;refine⟨nofun,λ_=>zN ?_⟩;obtain⟨st,s1,s2,_⟩:=id (hs.le mr.1);refine zJ (yc ?_);ext;apply yW (zb s1);ext;rw[AV,s2];refine yp (λe=> ?_) (λe=>zN ?_);ext;exact⟨i9,.inr ⟨rs,ss,_,S3,wr,⟨aA,gU⟩,nB,.refl,.inr (.inl ⟨xn,rfl,⋯,rfl⟩)⟩⟩;ext;refine(zo0 (hs.le mr.1) ⋯ (by have:=aA.le;omega)).imp ?_;rintro _ S4 ⟨l4,free,rfl,f1,f2⟩;have gH:=i9.trans l4;obtain⟨g1,g2⟩:=uo free f1;ext;refine(zk2 aw hq hm hl (h.le gH) lL g1 g2 (gH.2 _ _ aO)).imp ?_;rintro v S5 ⟨u,hb,hv⟩;exact⟨gH.trans hb.1,.inr ⟨rs,ss,_,S3,wr,⟨aA,gU⟩,nB,l4.trans hb.1,.inr (.inr ⟨xn,free,u,rfl,⋯,f1,f2,hb.from gH,hv⟩)⟩⟩
end
noncomputable def rq(q:Q2):Rat:=(q.1:Rat) / (q.2:Rat)
noncomputable def yu:Nat->(Nat->Rat)->Rat
 |0,_=>0
 |n+1,f=>yu n f+f n
def yg{f g:Nat->Rat}:∀n,(∀j,j<n->f j=g j)->yu n f=yu n g:=by
 intro n
 induction n with
 |zero=>intro _;rfl
 |succ n ih=>intro h;rw[yu,yu,ih λj hj=>h j ⋯,h n ⋯]
def Yv{f:Nat->Rat}:∀n,yu n (λj=>a*f j)=a*yu n f:=by
 intro n
 induction n with
 |zero=>rw[yu,yu,FN]
 |succ n ih=>rw[yu,yu,ih,Rat.mul_add]
def zk3{f g:Nat->Rat}:∀n,yu n (λj=>f j+g j)=yu n f+yu n g:=by
 intro n
 induction n with
 |zero=>rw[yu,yu,yu,Hf]
 |succ n ih=>rw[yu,yu,yu,ih];grind
def UV{f:Nat->Rat}:∀n,(∀j,j<n->f j=0)->yu n f=0:=by
 intro n
 induction n with
 |zero=>intro _;rfl
 |succ n ih=>intro h;rw[yu,ih λj hj=>h j ⋯,h n ⋯,Hf]
def zic{f:Nat->Nat->Rat}:∀n,yu n (λi=>yu m λj=>f i j)=yu m λj=>yu n λi=>f i j:=by
 intro n
 induction n with
 |zero=>exact(UV m λ_ _=>rfl).symm
 |succ n ih=>rw[yu,ih,<-zk3];rfl
def zk4{f:Nat->Rat}:∀n,i<n->(∀j,j<n->j≠i->f j=0)->yu n f=f i:=by
 intro n
 induction n with
 |zero=>intro h;omega
 |succ n ih=>
  intro h1 h2;rw[yu];by_cases e:i=n;subst e;rw[UV i λj hj=>h2 j ⋯ ⋯,Rat.zero_add];rw[ih ⋯ λj hj cx=>h2 j ⋯ cx,h2 n ⋯ ⋯,Hf]
def UW{f:Nat->Int}:∀n,((yX n f:Int):Rat)=yu n λj=>(f j:Rat):=by
 intro n
 induction n with
 |zero=>rfl
 |succ n ih=>rw[yX,yu,<-ih,HQ]
def zo1{l:n8 Int}{X:Nat->Int}:∀k,k<=l.length->dv (l.take k) X=yX k λc=>l.getD c 0*X c:=by
 intro k
 induction k with
 |zero=>intro _;rfl
 |succ k ih=>
  intro h;have e:l[k]? =dB l[k]:=AK ⋯;rw[Bt,zkV,ih ⋯,e,yX,AU,e,BI,HP ⋯];simp[dv]
def Xo{a:Int}(h:a≠0):(a:Rat)≠0:=λz=>h (FW.1 z)
def zf4:rq (1,1)=1:=by unfold rq;simp;grind
def Vu:rq (0,1)=0:=by unfold rq;simp;grind
def Wq(h:0<q.2):rq q*q.2=q.1:=Rat.div_mul_cancel (Xo ⋯)
def zk5(hb:0<b):rq (vm t b)*b=t:=by
 have l:=UU (t:=t) hb;generalize vm t b=q at l;have h1:=Wq l.pos.1;have h2:(q.1:Rat)*b=t*q.2:=by rw[<-C1,<-C1,l.eq]
 have h3:=Xo (show q.2≠0 by have:=l.pos;omega);grind
noncomputable def el(rws:n8 (n8 Q2))(i c:Nat):Rat:=rq ((rws.getD i []).getD c (0,1))
def Yw(many:Nat)(rws:n8 (n8 Q2))(X:Nat->Int)(D:Int):Prop:=∀i,i<rws.length->yu many (λc=>el rws i c*(X c:Rat))=el rws i many*(D:Rat)
def Uh.val(h:Uh many row r)(X:Nat->Int):((zy r.1 X:Int):Rat)=(shB row:Rat)*yu many (λc=>rq (row.getD c (0,1))*(X c:Rat)):=by
 have hl:=h.len;have tl:(xq (row.take many) (shB row)).length=many:=by simp[xq];omega
 rw[h.eq];show((zy (ptE 0 _) X:Int):Rat)=_;rw[zkW,<-DF (CD tl),zo1 many ⋯,UW,<-Yv];refine yg _ λc hc=> ?_;have e:row[c]? =dB (row[c]'⋯):=AK _;generalize row[c]'⋯=q at e;obtain⟨q0,k,hk⟩:=h.dv q (AX e);have e2:(xq (row.take many) (shB row))[c]? =dB (q.1*k):=by
  unfold xq;rw[AW,CN hc,e,Cd,show shB row / q.2=k from Cz ⋯ hk]
 rw[AU,AU,e,e2,hk];simp only[Cu,Nat.add_zero,C1];have:=Wq q0;grind
def Uh.last(h:Uh many row r):(r.2:Rat)=shB row*rq (row.getD many (0,1)):=by
 have hl:=h.len;have e:row[many]? =dB (row[many]'⋯):=AK _;generalize row[many]'⋯=q at e;obtain⟨q0,k,hk⟩:=h.dv q (AX e);rw[h.eq];show(((row.getD many (0,1)).1*(shB row / (row.getD many (0,1)).2):Int):Rat)=_;rw[AU,e,Cu,show shB row / q.2=k from Cz ⋯ hk,hk,C1,C1];have:=Wq q0;grind
def Uh.sol{r:n8 (Nat×Int)×Int}(h:Uh many row r){X:Nat->Int}{D:Int}:zy r.1 X=r.2*D↔yu many (λc=>rq (row.getD c (0,1))*(X c:Rat))=rq (row.getD many (0,1))*(D:Rat):=by
 have hv:=h.val X;have hl:=h.last;have b0:=Xo (show shB row≠0 by have:=h.pos;omega);constructor;intro e;rw[e,C1,hl] at hv;grind;intro e;rw[e] at hv;refine G4.1 (hv.trans ?_);rw[C1,hl,Rat.mul_assoc]
def Yu.sol(h:Yu many rws rs){X:Nat->Int}{D:Int}:Yw many rws X D↔∀r∈rs,zy r.1 X=r.2*D:=by
 have g:∀i (hi:i<rws.length),∃r,rs[i]? =dB r/\rws.getD i []=rws[i]/\Uh many rws[i] r:=λi hi=>by
  have e:rs[i]? =dB (rs[i]'(by have:=h.1;omega)):=AK _;have e2:rws[i]? =dB rws[i]:=AK hi;exact⟨_,e,by rw[AU,e2];rfl,h.2 i _ _ e e2⟩
 constructor
 .intro hs r hr;obtain⟨i,hi⟩:=By hr;have cL:i<rws.length:=by have:=(AQ.1 hi).1;have:=h.1;omega
  obtain⟨r',e,e2,w⟩:=g i cL;rw[hi] at e;cases e;have:=hs i cL;unfold el at this;rw[e2] at this;exact w.sol.2 this
 intro hs i hi;obtain⟨r,e,e2,w⟩:=g i hi;unfold el;rw[e2];exact w.sol.1 (hs r (AX e))
def zqj{E:Nat->Nat->Rat}{L X Y:Nat->Rat}(hx:∀i,i<n->yu many (λc=>E i c*X c)=L i)(hy:∀c,c<many->yu n (λi=>E i c*Y i)=0):yu n (λi=>L i*Y i)=0:=by
 rw[yg (g:=λi=>yu many λc=>X c*(E i c*Y i)) n λi hi=> ?_,zic];refine UV _ λc hc=> ?_;rw[Yv,hy c hc,FN]
 rw[<-hx i hi,Rat.mul_comm,<-Yv];exact yg _ λc _=>by grind
def Wz(hc:c<=many):(∀i,i<rws.length->el (xj many rws) c i=el rws i c)/\el (xj many rws) c rws.length=if c=many then 1 else 0:=by
 have dF:(vL rws c).length=rws.length:=AV ..;have jy:(xj many rws).getD c []=vL rws c++[if c=many then (1,1) else (0,1)]:=by
  unfold xj;rw[AU];by_cases e:c=many;subst e;rw[B4 (by simp),if_pos rfl];simp;rw[B2 (by simp;omega),AW,Cm ⋯,if_neg e];rfl
 unfold el;rw[jy];refine⟨λi hi=> ?_,?_⟩
 .have pk:(vL rws c)[i]? =dB ((rws.getD i []).getD c (0,1)):=by
   unfold vL;rw[AW,AK hi,show rws.getD i []=rws[i] by rw[AU,AK hi];rfl];rfl
  rw[AU,B2 ⋯,pk];rfl
 rw[AU,B4 ⋯,dF,CP];split;exact zf4;exact Vu
def zeP:(xj many rws).length=many+1:=by simp[xj]
set_option tactic.hygienic true in
def zeQ{Y:Nat->Int}{E:Int}:Yw rws.length (xj many rws) Y E↔(∀c,c<many->yu rws.length (λi=>el rws i c*(Y i:Rat))=0)/\yu rws.length (λi=>el rws i many*(Y i:Rat))=E:=by
 have key:∀c,c<=many->(yu rws.length (λi=>el (xj many rws) c i*(Y i:Rat))=yu rws.length λi=>el rws i c*(Y i:Rat)):=λc hc=>yg _ λi hi=>by rw[(Wz hc).1 i hi]
 unfold Yw;rw[zeP];constructor;intro h;refine⟨λc hc=> ?_,?_⟩;have:=h c ⋯;rwa [key c ⋯,(Wz ⋯).2,if_neg ⋯,F5] at this;have:=h many ⋯;rwa [key many ⋯,(Wz ⋯).2,if_pos rfl,Fg] at this;rintro⟨h1,h2⟩ c hc;rw[key c ⋯,(Wz ⋯).2];split;rename_i e;rw[e,h2,Fg];rw[h1 c ⋯,F5]
def za6{X Y:Nat->Int}{D E:Int}(hD:D≠0)(hE:E≠0)(hx:Yw many rws X D)(hy:Yw rws.length (xj many rws) Y E):False:=by
 obtain⟨h1,h2⟩:=zeQ.1 hy;have:=zqj hx h1;rw[yg (g:=λi=>(D:Rat)*(el rws i many*(Y i:Rat))) _ λi _=>by grind,Yv,h2] at this;rcases HR.1 this with z|z;exact Xo hD z;exact Xo hE z
def zcm:(yD many free rws).length=rws.length+1:=by simp[yD]
def zeR(hl:∀row∈rws,row.length=many+1):(∀i,i<rws.length->(∀c,c<many->el (yD many free rws) i c=el rws i c)/\el (yD many free rws) i many=0)/\(∀c,c<many->el (yD many free rws) rws.length c=if c=free then 1 else 0)/\el (yD many free rws) rws.length many=1:=by
 refine⟨λi hi=> ?_,?_⟩
 .have e:rws[i]? =dB rws[i]:=AK hi;have tJ:=hl _ (AX e);have hr:(yD many free rws).getD i []=rws[i].take many++[(0,1)]:=by
   unfold yD;rw[AU,B2 (by simpa using hi),AW,e];rfl
  have jz:rws.getD i []=rws[i]:=by rw[AU,e];rfl
  unfold el;rw[hr,jz];refine⟨λc hc=> ?_,?_⟩;rw[AU,AU,B2 (by simp;omega),CN hc];rw[AU,B4 (by simp;omega)];simp[show many-min many rws[i].length=0 by omega,Vu]
 have hr:(yD many free rws).getD rws.length []=((BX many).map λc=>if c=free then ((1,1):Q2) else (0,1))++[(1,1)]:=by
  unfold yD;rw[AU,B4 (by simp)];simp
 unfold el;rw[hr];refine⟨λc hc=> ?_,?_⟩;rw[AU,B2 (by simpa using hc),AW,Cm hc];simp only[Cd,Cu];split;exact zf4;exact Vu;rw[AU,B4 (by simp)];simp[zf4]
def UX(hl:∀row∈rws,row.length=many+1)(hf:free<many){Z:Nat->Int}{E:Int}:Yw many (yD many free rws) Z E↔(∀i,i<rws.length->yu many (λc=>el rws i c*(Z c:Rat))=0)/\Z free=E:=by
 obtain⟨h1,h2,h3⟩:=zeR (free:=free) hl;have k1:∀i,i<rws.length->yu many (λc=>el (yD many free rws) i c*(Z c:Rat))=yu many λc=>el rws i c*(Z c:Rat):=λi hi=>yg _ λc hc=>by rw[(h1 i hi).1 c hc]
 have k2:yu many (λc=>el (yD many free rws) rws.length c*(Z c:Rat))=Z free:=by
  rw[zk4 (i:=free) _ hf λc hc cx=>by rw[h2 c hc,if_neg cx,F5],h2 free hf,if_pos rfl,Fg]
 unfold Yw;rw[zcm];constructor;intro h;refine⟨λi hi=> ?_,?_⟩;have:=h i ⋯;rwa [k1 i hi,(h1 i hi).2,F5] at this;have:=h rws.length ⋯;rw[k2,h3,Fg] at this;exact G4.1 this;rintro⟨a,b⟩ i hi;by_cases e:i<rws.length;rw[k1 i e,(h1 i e).2,F5,a i e]
 obtain rfl:i=rws.length:=by omega
 rw[k2,h3,Fg,b]
def Uh.bd(h:Uh many row r){V P:Nat}(hv:∀q∈row,q.1.natAbs<=V*q.2.natAbs)(hp:zL row<=(P:Int)):(∀p∈r.1,p.2.natAbs<=V*P)/\r.2.natAbs<=V*P:=by
 have key:∀q∈row,(q.1*(shB row / q.2)).natAbs<=V*P:=λq hq=>by
  obtain⟨q0,k,hk⟩:=h.dv q hq;rw[show shB row / q.2=k from Cz ⋯ hk,BV];have h1:=BR k.natAbs (hv q hq);rw[Ey,<-BV q.2 k,<-hk] at h1;exact AZ h1 (Cp _ (by have:=h.pos;omega))
 rw[h.eq];refine⟨λp hp=> ?_,?_⟩;obtain⟨_,_,h3⟩:=zdw _ _ _ hp;unfold xq at h3;obtain⟨q,hq,e⟩:=Bq.1 h3;rw[<-e];exact key q (DQ hq)
 have hl:=h.len;have e:row.getD many (0,1)=row[many]'⋯:=by rw[AU,AK];rfl
 show((row.getD many (0,1)).1*(shB row / (row.getD many (0,1)).2)).natAbs<=_;rw[e];exact key _ (C8 _)
def Sb(many:Nat)(rws:n8 (n8 Q2)):Prop:=∀row∈rws,zbA many row/\∃V P:Nat,(∀q∈row,q.1.natAbs<=V*q.2.natAbs)/\zL row<=(P:Int)/\V*P<=2^764
def Sb.at(h:Sb many rws)(wr:Yu many rws rs)(hr:r∈rs):(∀p∈r.1,p.2.natAbs<=2^764)/\r.2.natAbs<=2^764:=by
 obtain⟨i,e⟩:=By hr;have er:rws[i]? =dB (rws[i]'(by have:=(AQ.1 e).1;have:=wr.1;omega)):=AK _;obtain⟨_,V,P,hv,hp,qM⟩:=h _ (AX er);obtain⟨h1,h2⟩:=(wr.2 i r _ e er).bd hv hp;exact⟨λp hp=>AZ (h1 p hp) qM,AZ h2 qM⟩
def zcn{s:Nat}(hs:s<=6):(yO s λ_=>2*(s+1)*2^764+1)<=2^4614:=by
 have:∀n,n<=6->(yO n λ_=>2*(s+1)*2^764+1)<=(2^769)^n:=by
  intro n
  induction n with
  |zero=>intro _;exact B1 _
  |succ n ih=>
   intro hn;rw[yO,DL];refine De (ih ⋯) (AZ (Nat.add_le_add_right (BR _ (show 2*(s+1)<=14 by omega)) 1) (*...*))
 exact AZ (this s hs) (by rw[<-Et];exact Ca ∅ ⋯)
def Sb.small(h:Sb many rws)(hq:pN<=q)(hm:many<=6):za5 q many rws:=λrs ss wr aA=>by
 obtain⟨X,D,sol⟩:=zkP aA (Ds.2 (AZ ∅ hq)) (λr hr=>(wr.ok r hr).nd) (λ_=>2^764) λi r hi=>h.at wr (vN aA (AX hi));refine⟨X,D,_,sol,?_⟩;unfold bH;rw[show(2:Int)^4614=((2^4614:Nat):Int) from(DB 2 4614).symm];exact Ds.2 (zcn (AZ aA.le hm))
def Gd(q many:Nat)(rws:n8 (n8 Q2)):Prop:=Pr q/\∀rs ss,Yu many rws rs->Run q many rs ss->(∀V:Nat->Int,(∀r∈chs rs ss,zy r.1 V=0)->∀r∈rs,zy r.1 V=0)/\∀f,f∉zQ ss->∃Z:Nat->Int,Z f≠0/\∀r∈rs,zy r.1 Z=0
def Sb.gd(h:Sb many rws)(hm:many<=6):Gd pB many rws:=⟨zmv,λrs ss wr run=>by
 have big:=zfX.1;generalize pB=P at run big;have q2:(2:Int)<=(P:Int):=Ds.2 (AZ (*...*) big);have hz:∀f,f∉zQ ss->∃Z:Nat->Int,Z f≠0/\(∀c,c∉zQ ss->c≠f->Z c=0)/\∀r∈rs,zy r.1 Z=0:=λf hf=>by
  obtain⟨Z,z0,z1,z2,z3⟩:=zf run.1 q2 (λr hr=>(wr.ok r hr).nd) hf (λ_=>2^764) λi r hi=>(h.at wr (vN run.1 (AX hi))).1;refine⟨Z,z0,z1,λr hr=> ?_⟩;have eT:=wr.ok r hr;have h1:=zoX (h.at wr hr).1 λc=>AZ (z3 c) (zcn (AZ run.1.le hm));have h3:(zy r.1 Z).natAbs<P:=Bp (AZ h1 (BR _ (AZ (eT.nd.len λp hp=>(eT.lt p hp).1) hm))) (B3 (*...*) big);obtain⟨fs,f1,f2⟩:=run.2 r hr;have a0:=run.1.ats0 (x:=Z) λs hs ps l er=>by
   obtain⟨j,hj⟩:=By hs;obtain⟨r',g1,g2⟩:=Xn run.1 hj;rw[er] at g1;cases g1;rw[z2 _ (AX g2)];exact .refl
  have h4:=(f2 Z).trans (zdq (y:=λ_=>0) λq hq=>a0 q.1 (f1 q hq));rw[Yt] at h4;exact h4.small ⋯ ⋯
 refine⟨λV hV=>zqE run.1 q2 (λr hr p hp=>((wr.ok r hr).lt p hp).1) hz hV,λf hf=> ?_⟩;obtain⟨Z,z0,_,z2⟩:=hz f hf
 exact⟨Z,z0,z2⟩⟩
structure RB(many:Nat)(row:n8 Q2):Prop where
 len:row.length=many+1
 pos:∀q∈row,0<q.2
 par:∀(c:Nat) q,c<many->row[c]? =dB q->q.1.natAbs<=2^37*q.2.natAbs/\q.2.natAbs<=2^36
 las:∀q,row[many]? =dB q->q.1.natAbs<=2^236*q.2.natAbs/\q.2.natAbs<=2^88
 pro:zL row<=((2^144:Nat):Int)
structure RBs(many:Nat)(rws:n8 (n8 Q2)):Prop where
 m:many<=5
 n:rws.length<=6
 rb:∀row∈rws,RB many row
def RB.q(h:RB many row):∀q∈row,0<q.2/\q.2.natAbs<=2^88/\q.1.natAbs<=2^236*q.2.natAbs:=λq hq=>by
 obtain⟨c,hc⟩:=By hq;have hl:=h.len;have dF:=(AQ.1 hc).1;by_cases e1:c<many;obtain⟨h1,h2⟩:=h.par c q e1 hc;exact⟨h.pos q hq,AZ h2 ∅,AZ h1 (BR _ ∅)⟩
 obtain rfl:c=many:=by omega
 obtain⟨h1,h2⟩:=h.las q hc;exact⟨h.pos q hq,h2,h1⟩
def zab{q:Q2}(h:0<q.2/\q.2.natAbs<=2^88/\q.1.natAbs<=2^236*q.2.natAbs):0<q.2/\zk 100 q.2/\zk 900 q.1:=⟨h.1,Bp h.2.1 ∅,Bp (AZ h.2.2 (Cp _ h.2.1)) ∅⟩
def zhf{P:Nat}(hl:row.length=many+1)(h:∀q∈row,0<q.2/\q.2.natAbs<=2^88/\q.1.natAbs<=2^236*q.2.natAbs)(hp:zL row<=(P:Int))(hP:P<=2^528):zbA many row/\∃V P:Nat,(∀q∈row,q.1.natAbs<=V*q.2.natAbs)/\zL row<=(P:Int)/\V*P<=2^764:=
 ⟨⟨hl,λq hq=>zab (h q hq)⟩,2^236,P,λq hq=>(h q hq).2.2,hp,AZ (Cp _ hP) (*...*)⟩
def RBs.orig(h:RBs many rws):Sb many rws:=λrow hr=>zhf (h.rb row hr).len (h.rb row hr).q (h.rb row hr).pro (*...*)
def za7(h:∀q∈row,0<q.2)(k:Nat):zL (row.take k)<=zL row:=by
 have e:zL row=zL (row.take k)*zL (row.drop k):=by rw[<-wM,List.take_append_drop]
 have h1:=wN (row.take k) λq hq=>h q (DQ hq);have h2:=wN (row.drop k) λq hq=>h q (List.mem_of_mem_drop hq);have:=Bg (show 1<=zL (row.drop k) by omega) (CQ h1);omega
def zo2{q:Q2}(h:q.2=1/\q.1.natAbs<=1):0<q.2/\q.2.natAbs<=2^88/\q.1.natAbs<=2^236*q.2.natAbs:=by
 obtain⟨a,b⟩:=h;rw[a];exact⟨∅,∅,AZ b ∅⟩
def RBs.level(h:RBs many rws):Sb many (yD many free rws):=λrow hi=>by
 unfold yD at hi;rcases Bf.1 hi with hi|hi;obtain⟨ng,hr,rfl⟩:=Bq.1 hi;have r:=h.rb ng hr;refine zhf (P:=2^144) (by simp[r.len]) (λq hq=> ?_) ?_ (*...*);rcases Bf.1 hq with hq|hq;exact r.q q (DQ hq);rw[B5.1 hq];exact zo2 ⟨rfl,∅⟩;rw[wM,show zL [(0,1)]=1 from rfl,DE];exact D4 (za7 r.pos many) r.pro
 rw[B5.1 hi];have rq:∀q∈((BX many).map λc=>if c=free then ((1,1):Q2) else (0,1))++[(1,1)],q.2=1/\q.1.natAbs<=1:=λq hq=>by
  rcases Bf.1 hq with hq|hq
  .obtain⟨c,_,rfl⟩:=Bq.1 hq;split<;>simp
  rw[B5.1 hq];simp
 refine zhf (P:=1) (by simp) (λq hq=>zo2 (rq q hq)) ?_ (*...*);have:=Ug (m:=1) _ λq hq=>by
  rw[(rq q hq).1];exact⟨∅,∅⟩
 rwa [Int.one_pow] at this
def RBs.turn(h:RBs many rws):Sb rws.length (xj many rws):=λrow hi=>by
 obtain⟨c,z,hc,hz,rfl⟩:∃c z,c<=many/\(z=((0,1):Q2)\/z=(1,1))/\row=vL rws c++[z]:=by
  unfold xj at hi;rcases Bf.1 hi with hi|hi;obtain⟨c,hc,rfl⟩:=Bq.1 hi;exact⟨c,_,Ba (Cw.1 hc),.inl rfl,rfl⟩;exact⟨many,_,B1 _,.inr rfl,B5.1 hi⟩
 have z1:z.2=1/\z.1.natAbs<=1:=by rcases hz with rfl|rfl<;>simp
 have col:∀q∈vL rws c,0<q.2/\q.2.natAbs<=2^88/\q.1.natAbs<=2^236*q.2.natAbs:=λq hq=>by
  unfold vL at hq;obtain⟨row,hr,rfl⟩:=Bq.1 hq;have r:=h.rb row hr;have hl:=r.len;exact r.q _ (by rw[AU,AK ⋯];exact C8 _)
 refine zhf (P:=2^528) (by simp[vL]) (λq hq=> ?_) ?_ (B1 _);rcases Bf.1 hq with hq|hq;exact col q hq;rw[B5.1 hq];exact zo2 z1;rw[wM,show zL [z]=1 by simp[zL,z1.1],DE];have:=Ug (m:=((2^88:Nat):Int)) (vL rws c) λq hq=>⟨(col q hq).1,by have:=col q hq;omega⟩;apply D4 this;rw[<-DB,<-Et];exact Ds.2 (Ca ∅ (by have:=h.n;simp[vL];omega))
section
structure Fd(many:Nat)(rws:n8 (n8 Q2))(S:Sto)(n:Nat)(ts:n8 Int)(b:Int):Prop where
 cell:S[n]? =dB (.lst ((ts.map (vm · b)).map qv))
 len:ts.length=many
 pos:0<b/\zk 50000 b/\∀t∈ts,zk 2200000 t
 sol:Yw many rws (vec ts) b
def Fd.le(h:Fd many rws S n ts b)(l:Le S S'):Fd many rws S' n ts b:=⟨l.2 _ _ h.cell,h.len,h.pos,h.sol⟩
def WU.fd(wr:Yu many rws rs)(h:WU many rs ss S (.ref n) S'):∃ts b,Fd many rws S' n ts b:=by
 obtain⟨_,ts,b,h1,h2,_,⟨z,_⟩|⟨xn,e,_,h3,h4⟩⟩:=h;cases z;cases e;exact⟨ts,b,h3,h1,h2,wr.sol.2 h4⟩
def WU.hit{q:Nat}{ss:n8 Stp}(wr:Yu many rws rs)(run:Run q many rs ss)(h:WU many rs ss S .non S')(g:Gd q many rws){X:Nat->Int}{D:Int}(hD:D≠0)(hX:Yw many rws X D):False:=by
 obtain⟨_,ts,b,h1,h2,h3,⟨_,z⟩|⟨xn,e,_⟩⟩:=h;have hx:=wr.sol.1 hX;refine z λr hr=> ?_;have:=(g.2 rs ss wr run).1 (λc=>D*vec ts c+ -b*X c) (λr hr=>by rw[Xm,h3 r hr,hx r (vN run.1 hr)];grind) r hr;rw[Xm,hx r hr] at this;apply DW hD;grind;cases e
def ByR.fd(h:ByR q many rws S (.ref n) S'):∃ts b,Fd many rws S' n ts b:=by
 obtain⟨_,⟨z,_⟩|⟨rs,ss,wr,_,m⟩⟩:=h;cases z;exact m.fd wr
def ByR.hit{q:Nat}(h:ByR q many rws S .non S')(g:Gd q many rws){X:Nat->Int}{D:Int}(hD:D≠0)(hX:Yw many rws X D):False:=by
 obtain⟨_,⟨_,z⟩|⟨rs,ss,wr,run,m⟩⟩:=h;exact z g.1;exact m.hit wr run g hD hX
def zqk{l:n8 Nat}{n:Nat}(nd:l.Nodup)(h:∀x∈l,x<n):l.length<=n:=by
 have e:∀i (hi:i<l.length),l.getD i 0=l[i]:=λi hi=>by rw[AU,AK hi];rfl
 refine php n l.length (λi=>l.getD i 0) (λi hi=>by rw[e i hi];exact h _ (C8 _)) λi j h9 hj z=> ?_;rw[e i ⋯,e j hj] at z;have:=(CK nd).1 z;omega
def zk6(h:Sts m many rows ss)(e:ss.length=many)(hc:c<many):c∈zQ ss:=by
 apply Bv;intro hn;have cl:(zQ ss).length=ss.length:=AV ..;have:=zqk (Cb.2 ⟨hn,h.nodup.1⟩) (n:=many) λx hx=>by
  rcases Bi.1 hx with rfl|hx;exact hc;exact h.nodup.2 x hx
 rw[Bo] at this;omega
structure KnM(many:Nat)(rws:n8 (n8 Q2)):Prop where
 x:∃X D,D≠0/\Yw many rws X D
 z:∃Z:Nat->Int,(∃c,Z c≠0)/\(∀c,many<=c->Z c=0)/\Yw many rws Z 0
def zmO(many:Nat)(rws:n8 (n8 Q2))(v:Xv)(S':Sto):Prop:=∃xn zn ts b us e free,v= .tup [.str "many",.ref xn,.ref zn]/\Fd many rws S' xn ts b/\free<many/\Fd many (yD many free rws) S' zn us e
def zmP(many:Nat)(rws:n8 (n8 Q2))(v:Xv)(S':Sto):Prop:=∃n ts b,v= .tup [.str "none",.ref n]/\Fd rws.length (xj many rws) S' n ts b
def zeO.mny(h:zeO q many rws S v S')(hq:pN<=q)(kn:KnM many rws)(hl:∀row∈rws,row.length=many+1):(v= .non/\¬(Gd q many rws/\∀free,Gd q many (yD many free rws)))\/zmO many rws v S':=by
 obtain⟨X,D,hD,hX⟩:=kn.x;have q2:(2:Int)<=(q:Int):=Ds.2 (AZ ∅ hq);obtain⟨le,⟨rfl,hn⟩|⟨rs,ss,w,S1,wr,run,mr,l1,h⟩⟩:=h;exact .inl ⟨rfl,λg=>hn g.1.1⟩
 rcases h with⟨rfl,u,bu,⟨rfl,rfl⟩|⟨n,rfl,rfl⟩⟩|⟨xn,rfl,hs,rfl⟩|⟨xn,free,u,rfl,hs,hf,lM,bu,hv⟩
 .exact .inl ⟨rfl,λg=>mr.hit wr run g.1 hD hX⟩
 .obtain⟨ts,b,fd⟩:=bu.fd;exact(za6 hD (by have:=fd.pos.1;omega) hX fd.sol).elim
 .obtain⟨Z,⟨c,hc⟩,hz,hZ⟩:=kn.z;refine absurd (run.1.only q2 (x:=Z) (λc hc=>hz c (Hw λz=>hc (zk6 run.1 hs z))) (λs _ ps l er=> ?_) c) hc;have:=wr.sol.1 hZ _ (AX er);rwa [BU] at this
 rcases hv with⟨rfl,rfl⟩|⟨n,rfl,rfl⟩
 .refine .inl ⟨rfl,λg=> ?_⟩;obtain⟨Z,z2,z1⟩:=(g.1.2 rs ss wr run).2 free lM;refine bu.hit (g.2 free) z2 ((UX hl hf).2 ⟨λi hi=> ?_,rfl⟩);have:=(wr.sol (X:=Z) (D:=0)).2 (λr hr=>by rw[z1 r hr,BU]) i hi;rwa [show((0:Int):Rat)=0 from rfl,FN] at this
 obtain⟨ts,b,fd⟩:=mr.fd wr;obtain⟨us,e,fe⟩:=bu.fd;exact .inr ⟨xn,n,ts,b,us,e,free,rfl,fd.le l1,hf,fe⟩
def zeO.none(h:zeO q many rws S v S'){Y:Nat->Int}{E:Int}(hE:E≠0)(hY:Yw rws.length (xj many rws) Y E):(v= .non/\¬Gd q rws.length (xj many rws))\/zmP many rws v S':=by
 obtain⟨le,⟨rfl,hn⟩|⟨rs,ss,w,S1,wr,run,mr,l1,h⟩⟩:=h;exact .inl ⟨rfl,λg=>hn g.1⟩
 have bad:∀xn,w≠ .ref xn:=λxn e=>by
  subst e;obtain⟨ts,b,fd⟩:=mr.fd wr;exact za6 (by have:=fd.pos.1;omega) hE fd.sol hY
 rcases h with⟨rfl,u,bu,hv⟩|⟨xn,e,_⟩|⟨xn,free,u,e,_⟩
 .rcases hv with⟨rfl,rfl⟩|⟨n,rfl,rfl⟩
  .exact .inl ⟨rfl,λg=>bu.hit g hE hY⟩
  obtain⟨ts,b,fd⟩:=bu.fd;exact .inr ⟨n,ts,b,rfl,fd⟩
 .exact absurd e (bad xn)
 exact absurd e (bad xn)
def zk7(mU:∀q:Nat,pN<=q->q<=p->∀S1,Le S S1->W (yU fu [.ref rn,.int many,.int (q:Int)] S1) λv S2=>Le S1 S2/\((v= .non/\q≠p)\/((∃l,v= .tup l)/\P v S2))):∀(j n q:Nat) v S1,q+2*j=p->j<n->pN<=q->Le S S1->((v= .non/\q≠p)\/((∃l,v= .tup l)/\P v S1))->
  WS (YI (bE (eUn zav (za 3))) (zm (zu (eOp vw (za 2) (si 2)) (gN 2)) (zu (zB (yU fu) [za 0,za 1,za 2]) (gN 3))) n [dB (.ref rn),dB (.int many),dB (.int (q:Int)),dB v] S1) (λρ S'=>∃m v,ρ=[dB (.ref rn),dB (.int many),m,dB v]/\Le S S'/\P v S') (λ_ _=>False):=by
 intro j
 induction j with
 |zero=>
  intro n q v S1 e hn h1 l hv;obtain⟨n,rfl⟩:∃k,n=k+1:=⟨n-1,⋯⟩;obtain⟨⟨w,rfl⟩,hv⟩:=hv.resolve_left λz=>z.2 ⋯;apply YL;ext;apply wd;ext;refine⟨nofun,λ_=> ?_⟩;ext;exact⟨_,_,rfl,l,hv⟩
 |succ j ih=>
  intro n q v S1 e hn h1 l hv;obtain⟨n,rfl⟩:∃k,n=k+1:=⟨n-1,⋯⟩;apply YL;ext;apply wd;ext;rcases hv with⟨rfl,_⟩|⟨⟨w,rfl⟩,hv⟩
  .refine⟨λ_=> ?_,nofun⟩;ext;rw[show(q:Int)+2=((q+2:Nat):Int) by omega];refine(mU (q+2) ⋯ ⋯ S1 l).imp ?_;rintro v S2 ⟨l2,hv⟩;exact ih n (q+2) v S2 ⋯ ⋯ ⋯ (l.trans l2) hv
  refine⟨nofun,λ_=> ?_⟩;ext;exact⟨_,_,rfl,l,hv⟩
def zf5(aw:Big fu)(mU:∀q:Nat,pN<=q->q<=pB->∀S1,Le S S1->W (yU fu [.ref rn,.int many,.int (q:Int)] S1) λv S2=>Le S1 S2/\((v= .non/\q≠pB)\/((∃l,v= .tup l)/\P v S2))):
  W (xp fu [.ref rn,.int many] S) λv S'=>Le S S'/\P v S':=by
 obtain⟨p1,p2,p3⟩:=zfX;have p0:pN<=pB:=AZ (*...*) p1;generalize pB=p at*;walk_at "wr";unfold YZ;ext;rw[show(1000000000000000000000000000000000000000000009:Int)=((pN:Nat):Int) by decide];refine(mU pN (B1 _) p0 S .refl).imp ?_;rintro v S1 ⟨l1,hv⟩;ext;apply zjJ;have pe:pN % 2=1:=by decide
 have rC:(p-pN) / 2<fu:=B3 (Bp (AZ (Nat.div_le_self _ _) (Nat.sub_le _ _)) p2) (AZ (Ca ∅ ∅) aw);rcases zk7 (S:=S) mU ((p-pN) / 2) fu pN v S1 ⋯ rC (B1 _) l1 hv with⟨ρ,S2,e,m,v,rfl,l2,hv⟩|⟨_,_,_,z⟩
 .refine .nx e ?_;ext;exact⟨l2,hv⟩
 exact z.elim
def RBs.by(aw:Big fu)(B:RBs many rws)(hq:pN<=q/\q<=pB)(h:vi S rn rws)(aO:S[1]? =dB (.tab Zg.t)):W (yU fu [.ref rn,.int many,.int (q:Int)] S) (zeO q many rws S):=by
 have m6:many<=6:=by have:=B.m;omega
 have n6:=B.n;exact zqi aw ⟨hq.1,Bp hq.2 zfX.2.1⟩ ⋯ ⋯ h (λr hr=>(B.orig r hr).1) (B.orig.small hq.1 m6) (λr hr=>(B.turn r hr).1) (B.turn.small hq.1 n6) (λfree _=>⟨λr hr=>(B.level r hr).1,B.level.small hq.1 m6⟩) aO
def zo3(aw:Big fu)(B:RBs many rws)(kn:KnM many rws)(h:vi S rn rws)(aO:S[1]? =dB (.tab Zg.t)):W (xp fu [.ref rn,.int many] S) λv S'=>Le S S'/\zmO many rws v S':=by
 have m6:many<=6:=by have:=B.m;omega
 refine zf5 aw λq q1 q2 S1 l=>(B.by aw ⟨q1,q2⟩ (h.le l) (l.2 _ _ aO)).imp λv S2 ag=>⟨ag.1,?_⟩;rcases ag.mny q1 kn (λrow hr=>(B.rb row hr).len) with⟨e,z⟩|a;exact .inl ⟨e,λe=>z (e ▸ ⟨B.orig.gd m6,λfree=>B.level.gd m6⟩)⟩;refine .inr ⟨?_,a⟩;obtain⟨_,_,_,_,_,_,_,e,_⟩:=a;exact⟨_,e⟩
def zo4(aw:Big fu)(B:RBs many rws){Y:Nat->Int}(hF:F≠0)(hY:Yw rws.length (xj many rws) Y F)(h:vi S rn rws)(aO:S[1]? =dB (.tab Zg.t)):W (xp fu [.ref rn,.int many] S) λv S'=>Le S S'/\zmP many rws v S':=by
 refine zf5 aw λq q1 q2 S1 l=>(B.by aw ⟨q1,q2⟩ (h.le l) (l.2 _ _ aO)).imp λv S2 ag=>⟨ag.1,?_⟩;rcases ag.none hF hY with⟨e,z⟩|a;exact .inl ⟨e,λe=>z (e ▸ B.turn.gd B.n)⟩;refine .inr ⟨?_,a⟩;obtain⟨_,_,_,e,_⟩:=a;exact⟨_,e⟩
end
section
variable{S':Sto}{x y:Xv}
def Scr(ns:n8 Int)(S:Sto):Prop:=S[0]? =dB (.frz (ns.map .int))
def Scr.le(h:Scr ns S)(l:Le S S'):Scr ns S':=l.2 _ _ h
def Scr.lst(h:Scr ns S):zA S (.ref 0)=dB (ns.map .int):=by unfold Scr at h;simp[zA,h]
def zk8(hk:0<=k)(hn:0<ns.length):∃c,atI (ns.map Xv.int) (k % (ns.length:Int))=dB (.int c):=by
 have h1:=C6 k (show(ns.length:Int)≠0 by omega);have h2:=BK k (show(0:Int)<ns.length by omega);have hi:(k % (ns.length:Int)).toNat<ns.length:=by omega
 exact⟨_,yP h1 (by rw[AW,AK hi];rfl)⟩
def Yd(hs:Scr ns S)(hk:0<=k/\k<=500)(hp:0<p)(hm:0<m):W (yf fu [.ref 0,.int k,.int p,.int m] S) λv S'=>S=S'/\∃d,v= .int d/\0<=d/\d<m:=by
 have fin:∀c:Int,W (eOp vP (eOp vP (eOp vw (eOp zbg (eOp vw (za 4) (eOp yk (za 1) (za 1))) (si 48271)) (si 11)) (za 2)) (za 3) [dB (.ref 0),dB (.int k),dB (.int p),dB (.int m),dB (.int c)] S) λv S'=>S=S'/\∃d,v= .int d/\0<=d/\d<m:=λc=>by
  ext;apply zX (n:=10) (m:=10) (zk.small ⋯ ∅) (zk.small ⋯ ∅) ∅;ext;apply xy hp;ext;apply xy hm;exact⟨rfl,_,rfl,C6 _ ⋯,BK _ hm⟩
 walk_at "wr";unfold Xb;ext;apply yc;ext;apply yW hs.lst;rw[AV];ext;refine yp (λh=> ?_) (λh=> ?_);apply wa;ext;apply yW hs.lst;rw[AV];ext;apply xy ⋯;obtain⟨c,hc⟩:=zk8 (ns:=ns) hk.1 ⋯;apply yy hs.lst hc;apply wB;exact fin c;refine zN (wB ?_);exact fin 0
def zo5(hs:Scr ns S)(hk:0<=k):W (Xd fu [.ref 0,.int k] S) λv S'=>S=S'/\∃c,v= .int c:=by
 walk_at "wr";unfold Xc;refine zJ (yc ?_);ext;apply yW hs.lst;rw[AV];ext;refine yp (λh=> ?_) (λh=>zN ?_);ext;apply yW hs.lst;rw[AV];ext;apply xy ⋯;obtain⟨c,hc⟩:=zk8 (ns:=ns) hk ⋯;apply yy hs.lst hc;exact⟨rfl,c,rfl⟩;ext;exact⟨rfl,0,rfl⟩
def Fv(V b:Nat)(q:Q2):Prop:=0<q.2/\q.2.natAbs<=b/\q.1.natAbs<=V*q.2.natAbs
def Fv.low{V B:Nat}{t b:Int}(h0:0<b)(hb:b.natAbs<=B)(ht:t.natAbs<=V):Fv V B (vm t b):=by
 have l:=UU (t:=t) h0;refine⟨l.pos.1,by have:=l.pos;omega,AZ l.ab (AZ ht (Nat.le_mul_of_pos_right _ (by have:=l.pos;omega)))⟩
def zmQ(aw:Big fu)(hs:Scr ns S)(hk:0<=k/\k<=500):W (Xj fu [.ref 0,.int k,.int w] S) λv S'=>S=S'/\∃q,v=qv q/\Fv (2^30) 4 q/\C3 q.1 q.2=1:=by
 have one:∀t:Int,t.natAbs<=2^30->∃q,Xv.tup [.int t,.int 1]=qv q/\Fv (2^30) 4 q/\C3 q.1 q.2=1:=λt ht=>⟨(t,1),rfl,⟨Int.one_pos,(by decide:(1:Int).natAbs<=4),by show t.natAbs<=2^30*(1:Int).natAbs;omega⟩,Int.gcd_one⟩;walk_at "wr";unfold Xh;refine zJ (yc ?_);ext;refine yp (λ_=> ?_) (λ_=>zN ?_);ext;refine(Yd hs hk ∅ ∅).imp ?_;rintro _ _ ⟨rfl,d,rfl,d0,d9⟩;ext;exact⟨rfl,one _ (AZ (show _<=3 by omega) ∅)⟩;refine zJ (yc ?_);ext;refine(Yd hs hk ∅ ∅).imp ?_;rintro _ _ ⟨rfl,_,rfl,_⟩;ext;refine yp (λ_=> ?_) (λ_=>zN ?_)
 .ext;refine(zo5 hs hk.1).imp ?_;rintro _ _ ⟨rfl,c,rfl⟩;ext;apply xy ∅;ext;have h1:=C6 c (show(2*10^(9:Int).toNat-1:Int)≠0 by decide);have h2:=BK c (show(0:Int)<2*10^(9:Int).toNat-1 by decide);have h3:(10^(9:Int).toNat:Int)=1000000000:=by decide
  rw[h3] at h1 h2 ⊢;exact⟨rfl,one _ ⋯⟩
 ext;refine(Yd hs hk ∅ ∅).imp ?_;rintro _ _ ⟨rfl,d,rfl,d0,d9⟩;ext;refine(Yd hs hk ∅ ∅).imp ?_;rintro _ _ ⟨rfl,b,rfl,b0,b9⟩;ext;refine(za3 aw ⋯ (zk.small ⋯ ∅)).imp ?_;rintro _ _ ⟨rfl,rfl⟩;exact⟨rfl,_,rfl,.low ⋯ ⋯ (AZ (show _<=3 by omega) ∅),(UU ⋯).co⟩
structure zk9(a b:n8 Q2)(q:Q2):Prop where
 pos:0<q.2/\q.2<=zL (a.take b.length)*zL b
 co:C3 q.1 q.2=1
 val:rq q=yu b.length λc=>rq (a.getD c (0,1))*rq (b.getD c (0,1))
 bd:∀V V':Nat,(∀q∈a,q.1.natAbs<=V*q.2.natAbs)->(∀q∈b,q.1.natAbs<=V'*q.2.natAbs)->q.1.natAbs<=b.length*(V*V')*q.2.natAbs
def za8(aw:Big fu)(hr:S[rn]? =dB (.lst as))(qU:QxL as a)(hx:S[xn]? =dB (.lst (b.map qv)))(hl:b.length<=a.length/\a.length<=9)(ha:∀q∈a,0<q.2/\zk 50000 q.2/\zk 2200000 q.1)(hb:∀q∈b,0<q.2/\zk 50000 q.2/\zk 2200000 q.1):
  W (yV fu [.ref rn,.ref xn] S) λv S'=>S=S'/\∃q,v=qv q/\zk9 a b q:=by
 walk_at "wr";unfold Wo;ext;refine xg (Wv ?_);ext;refine⟨⟨_,zb hr⟩,⟨_,zb hx⟩,_,wj (zb hr) (zb hx),?_⟩;have fH:(Yr as (b.map qv)).length=b.length:=by rw[L2.vQ,qU.1,AV];omega
 refine yE (xs:=Yr as (b.map qv)) (λi ρ S'=>∃(top bot:Int) (a4 a5:pU Xv),ρ=[dB (.ref rn),dB (.ref xn),dB (.int top),dB (.int bot),a4,a5]/\S=S'/\0<bot/\bot=zL (a.take i)*zL (b.take i)/\zk (100000*i+1) bot/\zk (4500000+150000*i) top/\(top:Rat)=(yu i λc=>rq (a.getD c (0,1))*rq (b.getD c (0,1)))*bot/\∀V V':Nat,(∀q∈a,q.1.natAbs<=V*q.2.natAbs)->(∀q∈b,q.1.natAbs<=V'*q.2.natAbs)->top.natAbs<=i*(V*V')*bot.natAbs) ?_ ?_ ?_ ?_;rintro i ρ S' _ ⟨top,bot,a4,a5,rfl,rfl,_⟩;exact wj (zb hr) (zb hx)
 .rintro i y ρ S' hy ⟨top,bot,a4,a5,rfl,rfl,b0,be,bb,tb,eq,hv⟩;obtain⟨u,w,e1,e2,rfl⟩:=ZF hy;obtain⟨q,e1,bP⟩:=qU.at e1;rw[AW,AY] at e2;obtain⟨z,e2,rfl⟩:=e2;have hi:=(AQ.1 e2).1;obtain⟨q0,q2,q1⟩:=ha q (AX e1);obtain⟨z0,z2,z1⟩:=hb z (AX e2);refine .of rfl ?_;dsimp only[BL];ext;apply xm (z:= .int q.2) bP rfl;apply zX tb q2 ⋯;ext;apply xm (z:= .int z.2) rfl rfl;apply zX (tb.mul q2) z2 ⋯;ext;apply xm (z:= .int q.1) bP rfl;ext;apply xm (z:= .int z.1) rfl rfl;apply zX q1 z1 ⋯;ext;apply zX (q1.mul z1) bb ⋯;ext;apply xm (z:= .int q.2) bP rfl;apply zX bb q2 ⋯;ext;apply xm (z:= .int z.2) rfl rfl;apply zX (bb.mul q2) z2 ⋯;refine⟨_,_,_,_,rfl,rfl,DU (DU b0 q0) z0,?_,((bb.mul q2).mul z2).mono ⋯,zk.add (n:=4500000+150000*i+100000) (((tb.mul q2).mul z2).mono ⋯) (((q1.mul z1).mul bb).mono ⋯) ⋯,?_,λV V' h1 h2=> ?_⟩;rw[Bt,e1,Bt,e2,wM,wM,be];simp[zL];grind;rw[yu,AU,e1,AU,e2,HQ];simp only[C1,Cu];have g1:=Wq q0;have g2:=Wq z0;rw[eq,<-g1,<-g2];grind
  have k1:=hv V V' h1 h2;have k2:=h1 q (AX e1);have k3:=h2 z (AX e2);apply AZ (Int.natAbs_add_le _ _);simp only[BV];have m1:=BR (q.2.natAbs*z.2.natAbs) k1;have m2:=BR bot.natAbs (De k2 k3);have e3:(i+1)*(V*V')*(bot.natAbs*q.2.natAbs*z.2.natAbs)=i*(V*V')*bot.natAbs*(q.2.natAbs*z.2.natAbs)+V*q.2.natAbs*(V'*z.2.natAbs)*bot.natAbs:=by grind
  rw[e3,Ey top.natAbs];exact HX m1 m2
 .exact⟨0,1,_,_,rfl,rfl,∅,by simp[zL],by unfold zk;decide,by unfold zk;exact Ew ∅,by simp[yu],λV V' _ _=>by simp⟩
 rintro ρ S' ⟨top,bot,a4,a5,rfl,rfl,b0,be,bb,tb,eq,hv⟩;rw[fH] at be bb eq hv;rw[Bx] at be;ext;refine(za3 aw b0 (bb.mono ⋯)).imp ?_;rintro _ _ ⟨rfl,rfl⟩;have l:=UU (t:=top) b0;have r:=zk5 (t:=top) b0;generalize vm top bot=q at l r;refine⟨rfl,q,rfl,⟨l.pos.1,by rw[<-be];exact l.pos.2⟩,l.co,?_,λV V' h1 h2=> ?_⟩;rw[eq] at r;have:=Xo (show bot≠0 by omega);grind;have k:=hv V V' h1 h2;refine Nat.le_of_mul_le_mul_right (c:=bot.natAbs) ?_ ⋯;rw[<-BV,l.eq,BV];have:=BR q.2.natAbs k;refine AZ this (CD ?_);grind
def wO{α:Type}(f:α->Xv)(S:Sto)(n:Nat)(rws:n8 (n8 α)):Prop:=∃ms:n8 Nat,S[n]? =dB (.lst (ms.map .ref))/\ms.length=rws.length/\∀(i m:Nat) row,ms[i]? =dB m->rws[i]? =dB row->m≠n/\S[m]? =dB (.lst (row.map f))
noncomputable abbrev Yx(S:Sto)(n:Nat)(rws:n8 (n8 Q2)):Prop:=wO qv S n rws
section
variable{α:Type}{f:α->Xv}{R:n8 (n8 α)}{r:n8 α}
def wO.le(h:wO f S n R)(l:Le S S'):wO f S' n R:=by
 obtain⟨ms,h1,h2,h3⟩:=h;exact⟨ms,l.2 _ _ h1,h2,λi m r e1 e2=>⟨(h3 i m r e1 e2).1,l.2 _ _ (h3 i m r e1 e2).2⟩⟩
def wO.of{n:Nat}{ms:n8 Nat}(h:wO f S n R)(hm:S[n]? =dB (.lst (ms.map .ref))):ms.length=R.length/\∀(i m:Nat) row,ms[i]? =dB m->R[i]? =dB row->m≠n/\S[m]? =dB (.lst (row.map f)):=by
 obtain⟨ms',h1,h2⟩:=h;have:ms'=ms:=by
  rw[hm] at h1;simp only[BG,Ce.lst.injEq] at h1;exact((List.map_inj_right (λa b h=>by cases h;rfl)).1 h1).symm
 subst this;exact h2
def wO.at{n i:Nat}{ms:n8 Nat}(h:wO f S n R)(hm:S[n]? =dB (.lst (ms.map .ref)))(e:R[i]? =dB r):∃m,ms[i]? =dB m/\m≠n/\S[m]? =dB (.lst (r.map f)):=by
 obtain⟨h2,h3⟩:=h.of hm;have hi:=(AQ.1 e).1;have em:ms[i]? =dB (ms[i]'⋯):=AK _;exact⟨_,em,h3 i _ r em e⟩
def wO.push{n k:Nat}{ms:n8 Nat}(h:wO f S n R)(hm:S[n]? =dB (.lst (ms.map .ref)))(hk:k≠n)(hr:S[k]? =dB (.lst (r.map f))):wO f (S.set n (.lst (ms.map .ref++[.ref k]))) n (R++[r]):=by
 obtain⟨h2,h3⟩:=h.of hm;refine⟨ms++[k],by rw[yF hm];simp,by simp[h2],λi m r' e1 e2=> ?_⟩;rcases zeF h2 e1 e2 with⟨e1,e2⟩|⟨rfl,rfl,rfl⟩
 .obtain⟨a,b⟩:=h3 i m r' e1 e2;exact⟨a,ya b (BM a)⟩
 exact⟨hk,ya hr (BM hk)⟩
def wO.put{n k j:Nat}{ms:n8 Nat}(h:wO f S n R)(hm:S[n]? =dB (.lst (ms.map .ref)))(hk:k≠n)(hr:S[k]? =dB (.lst (r.map f))):wO f (S.set n (.lst ((ms.map Xv.ref).set j (.ref k)))) n (R.set j r):=by
 obtain⟨h2,h3⟩:=h.of hm;refine⟨ms.set j k,by rw[yF hm,He],by simp[h2],λi m r' e1 e2=> ?_⟩;rw[Bs] at e1 e2;by_cases c:j=i;subst c;rw[if_pos rfl] at e1 e2;split at e1;rw[if_pos ⋯] at e2;cases e1;cases e2;exact⟨hk,ya hr (BM hk)⟩;cases e1;rw[if_neg c] at e1 e2;obtain⟨a,b⟩:=h3 i m r' e1 e2;exact⟨a,ya b (BM a)⟩
end
def wO.toX(h:Yx S n rws):vi S n rws:=by
 obtain⟨ms,h1,h2,h3⟩:=h;exact⟨ms,h1,h2,λi m r e1 e2=>⟨_,(h3 i m r e1 e2).2,.qv r⟩⟩
def Fv.bits{V b n:Nat}{q:Q2}(h:Fv V b q)(hb:b<2^50000)(hv:V*b<2^n)(hn:n<=2200000):0<q.2/\zk 50000 q.2/\zk 2200000 q.1:=by
 obtain⟨h0,h1,h2⟩:=h;have h3:zk n q.1:=Bp (AZ h2 (Cp _ h1)) hv;exact⟨h0,Bp h1 hb,h3.mono hn⟩
def Fv.mono{V V' b b':Nat}{q:Q2}(h:Fv V b q)(hv:V<=V')(hb:b<=b'):Fv V' b' q:=⟨h.1,AZ h.2.1 hb,AZ h.2.2 (BR _ hv)⟩
structure LRw(many V b:Nat)(row:n8 Q2):Prop where
 len:row.length=many+1
 fv:∀q∈row,Fv V b q/\C3 q.1 q.2=1
def LRw.mono{V V' b b':Nat}(h:LRw many V b row)(hv:V<=V')(hb:b<=b'):LRw many V' b' row:=⟨h.len,λq hq=>⟨(h.fv q hq).1.mono hv hb,(h.fv q hq).2⟩⟩
def LRw.rb(hm:many<=5)(h:LRw many (2^32) 16 row):RB many row:=by
 have f:=λq hq=>(h.fv q hq).1;refine⟨h.len,λq hq=>(f q hq).1,λc q _ e=> ?_,λq e=> ?_,?_⟩;obtain⟨_,h1,h2⟩:=f q (AX e);exact⟨AZ h2 (BR _ ∅),AZ h1 ∅⟩;obtain⟨_,h1,h2⟩:=f q (AX e);exact⟨AZ h2 (BR _ ∅),AZ h1 ∅⟩;have:=Ug (m:=((16:Nat):Int)) row λq hq=>⟨(f q hq).1,by have:=f q hq;unfold Fv at this;omega⟩;refine D4 this ?_;rw[h.len,<-DB];exact Ds.2 (AZ (Ca ∅ (show many+1<=6 by omega)) ∅)
def zk9.two(s:zk9 [p,q] [p',q'] r):r.2<=p.2*q.2*(p'.2*q'.2):=by
 have:=s.pos.2;simpa [zL,DS] using this
def zk9.fv(s:zk9 [p,q] [(1,1),(1,1)] r)(hp:Fv (2^30) 4 p)(hq:Fv (2^30) 4 q):Fv (2^32) 16 r/\C3 r.1 r.2=1:=by
 refine⟨⟨s.pos.1,?_,?_⟩,s.co⟩;have h2:=s.two;rw[DE,DE] at h2;have h3:=De hp.2.1 hq.2.1;rw[<-BV] at h3;have:=s.pos.1;omega
 have:=s.bd (2^30) 1 (λz hz=>by rcases Bi.1 hz with rfl|hz;exact hp.2.2;rw[B5.1 hz];exact hq.2.2) (λz hz=>by
  have:z=(1,1):=by
   rcases Bi.1 hz with rfl|hz;rfl;exact B5.1 hz
  rw[this];decide)
 exact AZ this (BR _ ∅)
def zmR(aw:Big fu)(hs:Scr ns S)(hm:many<=5):
  W (Xl fu [.ref 0,.int many] S) λv S'=>Le S S'/\∃rn rws,v= .ref rn/\Yx S' rn rws/\rws.length<=6/\∀row∈rws,LRw many (2^32) 16 row:=by
 walk_at "wr";unfold Xk;ext;refine(Yd hs ⟨∅,∅⟩ ∅ ∅).imp ?_;rintro _ _ ⟨rfl,way,rfl,_⟩;ext;have kP:(S++[Ce.lst []])[S.length]? =dB (.lst []):=zx;have l0:Le S (S++[Ce.lst []]):=Le.refl.app;obtain⟨qn,tN⟩:∃qn,qn=S.length:=⟨_,rfl⟩;rw[<-tN] at kP ⊢;generalize S++[Ce.lst []]=S0 at kP l0 ⊢;refine vZ (λρ S5=>Le S S5/\∃(rws:n8 (n8 Q2)) (a4:pU Xv),ρ=[dB (.ref 0),dB (.int many),dB (.int way),dB (.ref qn),a4,fC,fC,fC,fC,fC]/\Yx S5 qn rws/\rws.length<=6/\∀row∈rws,LRw many (2^30) 4 row) (xg (WZ ?_)) ?_
 .ext;refine(Yd (hs.le l0) ⟨∅,∅⟩ ∅ ∅).imp ?_;rintro _ _ ⟨rfl,cn,rfl,AH,AG⟩;obtain⟨cn,rfl⟩:∃n:Nat,cn=n:=⟨cn.toNat,⋯⟩;refine⟨_,rfl,⟨⋯,⋯⟩,yw 0 cn,by rw[B9],?_⟩;refine yE (xs:=yw 0 cn) (λi ρ S5=>Le S S5/\∃(rws:n8 (n8 Q2)) (a4:pU Xv),ρ=[dB (.ref 0),dB (.int many),dB (.int way),dB (.ref qn),a4,fC,fC,fC,fC,fC]/\Yx S5 qn rws/\rws.length=i/\∀row∈rws,LRw many (2^30) 4 row) ?_ ?_ ?_ ?_;rintro i ρ S5 _ _;rw[B9]
  .rintro i y ρ S5 hy ⟨l5,rws,a4,rfl,hN,Nl,Nr⟩;obtain⟨hi,rfl⟩:=xS hy;rw[Di];refine .of rfl ?_;dsimp only[BL];obtain⟨ms,n1,n2,n3⟩:=id hN;refine YK (WN ?_);ext;refine⟨⟨_,zb n1⟩,?_⟩;refine yK (yd (WZ ?_));ext;refine⟨⟨⋯,⋯⟩,yw 0 (many+1),by rw[show((many:Int)+1).toNat=many+1 by omega],?_⟩;refine zZ (xs:=yw 0 (many+1)) (by rw[yx];exact Ba (yh ⋯)) (λj es S6=>S5=S6/\∃ps:n8 Q2,es=ps.map qv/\ps.length=j/\∀q∈ps,Fv (2^30) 4 q/\C3 q.1 q.2=1) ?_ ?_ ?_ ?_;rintro j es S6 _ _;rw[show((many:Int)+1).toNat=many+1 by omega]
   .rintro j y es S6 eE bD ⟨rfl,ps,rfl,pl,pp⟩;obtain⟨hj,rfl⟩:=xS eE;rw[Di];refine .of rfl ?_;ext;refine⟨rfl,?_⟩;ext;apply zX (n:=10) (m:=10) (zk.small ⋯ ∅) (zk.small ⋯ ∅) ∅;ext;have hb:(i:Int)*((many:Int)+1)<=36:=by
     have:=Gp (show(i:Int)<=6 by omega) (show(many:Int)+1<=6 by omega) ⋯ ∅;omega
    have jc:0<=(i:Int)*((many:Int)+1):=Df ⋯ ⋯;refine(zmQ aw (hs.le l5) ⟨⋯,⋯⟩).imp ?_;rintro _ _ ⟨rfl,q,rfl,fq⟩;refine⟨rfl,ps++[q],by simp,by simp[pl],λp hp=> ?_⟩;rcases Bf.1 hp with hp|hp;exact pp p hp;rw[B5.1 hp];exact fq
   .exact⟨rfl,[],rfl,rfl,(λq hq=>nomatch hq)⟩
   rintro es S6 g7 ⟨rfl,ps,rfl,pl,pp⟩;rw[yx] at pl;ext;apply xT (yR (zr n1)) (by rw[AV,n2,Nl];exact yh ⋯);have qV:=vp n1;refine⟨(l5.app).set ⋯,rws++[ps],_,rfl,(hN.le Le.refl.app).push (zr n1) ⋯ zx,by simp[Nl],λrow hr=> ?_⟩;rcases Bf.1 hr with hr|hr;exact Nr row hr;rw[B5.1 hr];exact⟨pl,pp⟩
  .exact⟨l0,[],_,rfl,⟨[],kP,rfl,λi m r e=>by simp at e⟩,rfl,(λq hq=>nomatch hq)⟩
  rintro ρ S5 ⟨l5,rws,a4,rfl,hN,Nl,Nr⟩;rw[yx] at Nl;exact⟨l5,rws,_,rfl,hN,⋯,Nr⟩
 rintro _ S5 ⟨l5,rws,z7,rfl,hN,Nl,Nr⟩;obtain⟨ms,r1,r2,r3⟩:=id hN;ext;refine(Yd (hs.le l5) ⟨∅,∅⟩ ∅ ∅).imp ?_;rintro _ _ ⟨rfl,turn,rfl,_⟩;have Nr':∀row∈rws,LRw many (2^32) 16 row:=λrow hr=>(Nr row hr).mono ∅ ∅;refine zJ (vZ (λρ S6=>Le S S6/\∃(rws:n8 (n8 Q2)) (a4 a6 a7 a8 a9:pU Xv),ρ=[dB (.ref 0),dB (.int many),dB (.int way),dB (.ref qn),a4,dB (.int turn),a6,a7,a8,a9]/\Yx S6 qn rws/\rws.length<=6/\∀row∈rws,LRw many (2^32) 16 row) (yc (zfl ?_)) ?_)
 .ext;apply yW (zb r1);ext;rw[AV,r2];refine yp (λhn=> ?_) (λhn=>⟨nofun,λ_=>zN ⟨l5,rws,_,_,_,_,_,rfl,hN,Nl,Nr'⟩⟩);ext;refine yp (λ_=> ?_) (λ_=>zN ⟨l5,rws,_,_,_,_,_,rfl,hN,Nl,Nr'⟩);ext;apply yW (zb r1);ext;rw[AV,r2];refine(Yd (hs.le l5) ⟨∅,∅⟩ ∅ ⋯).imp ?_;rintro _ _ ⟨rfl,i,rfl,i0,i1⟩;obtain⟨i,rfl⟩:∃n:Nat,i=n:=⟨i.toNat,⋯⟩;have ei:rws[i]? =dB (rws[i]'⋯):=AK _;generalize rws[i]'⋯=one at ei;obtain⟨mi,g1,_,g2⟩:=hN.at r1 ei;refine yy (zb r1) (yP (z:= .ref mi) ⋯ (by rw[AW,B9,g1];rfl)) ?_;ext;apply yW (zb r1);ext;rw[AV,r2];refine(Yd (hs.le l5) ⟨∅,∅⟩ ∅ ⋯).imp ?_;rintro _ _ ⟨rfl,j,rfl,j0,j1⟩;obtain⟨j,rfl⟩:∃n:Nat,j=n:=⟨j.toNat,⋯⟩;have ej:rws[j]? =dB (rws[j]'⋯):=AK _;generalize rws[j]'⋯=dU at ej;obtain⟨mj,g3,_,g4⟩:=hN.at r1 ej;refine yy (zb r1) (yP (z:= .ref mj) ⋯ (by rw[AW,B9,g3];rfl)) ?_;ext;apply yW (zb r1);ext;rw[AV,r2];have ek:rws[rws.length-1]? =dB (rws[rws.length-1]'⋯):=AK _;generalize rws[rws.length-1]'⋯=lst at ek;obtain⟨mk,g5,_,g6⟩:=hN.at r1 ek;refine yy (zb r1) (yP (z:= .ref mk) ⋯ (by rw[AW,show((rws.length:Int)-1).toNat=rws.length-1 by omega,g5];rfl)) ?_;ext;have lk:=Nr lst (AX ek);have A7:=lk.len;have el:lst[many]? =dB (lst[many]'⋯):=AK _;generalize lst[many]'⋯=lq at el;refine yy (zb g6) (yP (z:=qv lq) ⋯ (by rw[AW,B9,el];rfl)) ?_;ext;refine yd (Wv ?_);ext;refine⟨⟨_,zb g2⟩,⟨_,zb g4⟩,_,wj (zb g2) (zb g4),?_⟩;have r1o:=Nr one (AX ei);have r1t:=Nr dU (AX ej);have fH:(Yr (one.map qv) (dU.map qv)).length=many+1:=by rw[L2.vQ,AV,AV,r1o.len,r1t.len];omega
  refine zZ (by rw[fH];exact Ba (yh ⋯)) (λk es S2=>Le S5 S2/\∃qs:n8 Q2,es=qs.map qv/\qs.length=k/\∀q∈qs,Fv (2^32) 16 q/\C3 q.1 q.2=1) ?_ ?_ ?_ ?_;rintro k es S2 _ ⟨le,_⟩;exact wj (zb (le.2 _ _ g2)) (zb (le.2 _ _ g4))
  .rintro k y es S2 hy g7 ⟨le,qs,rfl,ql,hq⟩;obtain⟨u,w,e1,e2,rfl⟩:=ZF hy;rw[AW,AY] at e1 e2;obtain⟨p,e1,rfl⟩:=e1;obtain⟨q,e2,rfl⟩:=e2;have fp:=r1o.fv p (AX e1);have fq:=r1t.fv q (AX e2);refine .of rfl ?_;ext;refine⟨rfl,?_⟩;ext;refine(za8 aw (a:=[p,q]) (b:=[(1,1),(1,1)]) (zr zx) (.qv _) zx ⟨B1 _,by simp⟩ (λz hz=> ?_) (λz hz=> ?_)).imp ?_;rcases Bi.1 hz with rfl|hz;exact fp.1.bits (n:=100) (*...*) ∅ ∅;rw[B5.1 hz];exact fq.1.bits (n:=100) (*...*) ∅ ∅
   .have:z=(1,1):=by
     rcases Bi.1 hz with rfl|hz;rfl;exact B5.1 hz
    rw[this];exact⟨∅,zk.small ∅ ∅,zk.small ∅ ∅⟩
   rintro _ _ ⟨rfl,r,rfl,s⟩;refine⟨le.app.app,qs++[r],by simp,by simp[ql],λz hz=> ?_⟩;rcases Bf.1 hz with hz|hz;exact hq z hz;rw[B5.1 hz];exact s.fv fp.1 fq.1
  .exact⟨.refl,[],rfl,rfl,(λq hq=>nomatch hq)⟩
  rintro es S2 g7 ⟨le,qs,rfl,ql,hq⟩;rw[fH] at ql;have l6:Le S5 (S2++[Ce.lst (qs.map qv)]):=le.app;have lu:(S2++[Ce.lst (qs.map qv)])[S2.length]? =dB (.lst (qs.map qv)):=zx;have jB:=le.1;generalize S2.length=pn at lu jB ⊢;generalize S2++[Ce.lst (qs.map qv)]=S6 at l6 lu ⊢;have qV:=vp r1;have qm:=lk.fv lq (AX el);refine zJ (vZ (λρ S7=>Le S5 S7/\∃qs:n8 Q2,ρ=[dB (.ref 0),dB (.int many),dB (.int way),dB (.ref qn),z7,dB (.int turn),dB (.ref mi),dB (.ref mj),dB (qv lq),dB (.ref pn)]/\S7[pn]? =dB (.lst (qs.map qv))/\LRw many (2^32) 16 qs) (yc ?_) ?_);ext;refine yp (λ_=> ?_) (λ_=>zN ⟨l6,qs,rfl,lu,ql,hq⟩);refine Yq ?_;ext;refine⟨pn,_,_,many,yR lu,rfl,Wy (by rw[AV];omega),l6.set jB,qs.set many lq,rfl,by rw[yF lu,He],by rw[Dj,ql],λz hz=> ?_⟩;rcases Dn hz with hz|rfl;exact hq z hz;exact⟨qm.1.mono ∅ ∅,qm.2⟩;rintro _ S7 ⟨l7,qs,rfl,tQ,lr⟩;refine Yq ?_;ext;apply yW (zb (l7.2 _ _ r1));ext;rw[AV,r2];refine⟨qn,_,_,rws.length-1,yR (l7.2 _ _ r1),rfl,by rw[show(rws.length:Int)-1=((rws.length-1:Nat):Int) by omega];exact Wy (by rw[AV];omega),(l5.trans l7).set ⋯,rws.set (rws.length-1) qs,_,_,_,_,_,rfl,(hN.le l7).put (l7.2 _ _ r1) ⋯ tQ,by rw[Dj];exact Nl,λrow hr=> ?_⟩;rcases Dn hr with hr|rfl;exact Nr' row hr;exact lr
 rintro _ S6 ⟨l6,rws,a4,a6,a7,a8,a9,rfl,hN,Nl,Nr⟩;ext;exact⟨l6,qn,rws,rfl,hN,Nl,Nr⟩
end
def Yy{f:Nat->Int}:∀n,yX n (λj=>a*f j)=a*yX n f:=by
 intro n
 induction n with
 |zero=>simp[yX]
 |succ n ih=>rw[yX,yX,ih,Int.mul_add]
noncomputable def g0(r:n8 Int)(j:Nat):Int:=r.getD j 0
noncomputable def dt(w:Nat)(r:n8 Int)(X:Nat->Int):Int:=yX w λj=>g0 r j*X j
noncomputable def crs(c:Nat)(x y:n8 Int):n8 Int:=List.zipWith (λa b=>g0 x c*b-g0 y c*a) x y
noncomputable def rw0(W:n8 (n8 Int))(k:Nat):n8 Int:=W.getD k []
def zla:g0 [] j=0:=rfl
def zlb{X:Nat->Int}:dt w [] X=0:=vK _ λj _=>by rw[zla,CW]
def zf6(h:y.length=x.length\/y=[])(j:Nat):g0 (crs c x y) j=g0 x c*g0 y j-g0 y c*g0 x j:=by
 rcases h with h|rfl;have e:(crs c x y)[j]? =_:=EI;show(crs c x y).getD j 0=_*y.getD j 0-_*x.getD j 0;simp only[AU];rw[e];by_cases hj:j<x.length;rw[AK hj,AK (show j<y.length by omega)];rfl;rw[Bu ⋯,Bu (l:=y) ⋯];simp;simp[crs,zla]
def zlc(h:y.length=x.length\/y=[])(X:Nat->Int):dt w (crs c x y) X=g0 x c*dt w y X-g0 y c*dt w x X:=by
 unfold dt;rw[<-Yy,<-Yy,<-zaX];exact xO _ λj _=>by rw[zf6 h];grind
noncomputable def swp(r k:Nat)(W:n8 (n8 Int)):n8 (n8 Int):=(W.set k (rw0 W r)).set r (rw0 W k)
noncomputable def mix(c r:Nat)(x:n8 Int)(W:n8 (n8 Int))(n:Nat):n8 (n8 Int):=W.mapIdx λi y=>if r<i/\i<n then crs c x y else y
def zco(c:Nat)(W:n8 (n8 Int))(r:Nat)(W':n8 (n8 Int))(r':Nat):Prop:=((∀k,r<=k->g0 (rw0 W k) c=0)/\W'=W/\r'=r)\/∃k,r<=k/\k<W.length/\g0 (rw0 W k) c≠0/\(∀j,r<=j->j<k->g0 (rw0 W j) c=0)/\W'=mix c r (rw0 W k) (swp r k W) W.length/\r'=r+1
def za9(W0:n8 (n8 Int)):Nat->n8 (n8 Int)->Nat->Prop
 |0,W,r=>W=W0/\r=0
 |c+1,W,r=>∃W1 r1,za9 W0 c W1 r1/\zco c W1 r1 W r
def zco.det{c r r1 r2:Nat}{W W1 W2:n8 (n8 Int)}(h:zco c W r W1 r1)(g:zco c W r W2 r2):W1=W2/\r1=r2:=by
 rcases h with⟨z,rfl,rfl⟩|⟨k,k1,k2,k3,k4,rfl,rfl⟩<;>rcases g with⟨z',rfl,rfl⟩|⟨l,l1,l2,l3,l4,rfl,rfl⟩
 .exact⟨rfl,rfl⟩
 .exact absurd (z l l1) l3
 .exact absurd (z' k k1) k3
 have:k=l:=by
  rcases Nat.lt_trichotomy k l with h|h|h;exact absurd (l4 k k1 h) k3;exact h;exact absurd (k4 l l1 h) l3
 subst this;exact⟨rfl,rfl⟩
def za9.det:∀{W W':n8 (n8 Int)} {r r':Nat},za9 W0 c W r->za9 W0 c W' r'->W=W'/\r=r':=by
 induction c with
 |zero=>rintro W W' r r' ⟨rfl,rfl⟩ ⟨rfl,rfl⟩;exact⟨rfl,rfl⟩
 |succ c ih=>
  rintro W W' r r' ⟨W1,r1,h1,s1⟩ ⟨W2,r2,h2,s2⟩;obtain⟨rfl,rfl⟩:=ih h1 h2;exact s1.det s2
def zhg{W:n8 (n8 Int)}{k i:Nat}{a:n8 Int}(hk:k<W.length):rw0 (W.set k a) i=if i=k then a else rw0 W i:=by
 unfold rw0;rw[AU,AU,Bs];by_cases e:i=k;subst e;rw[if_pos rfl,if_pos hk,if_pos rfl];rfl;rw[if_neg (BM e),if_neg e]
def zhh{W:n8 (n8 Int)}{c r i n:Nat}{x:n8 Int}(hn:W.length<=n):rw0 (mix c r x W n) i=if r<i then crs c x (rw0 W i) else rw0 W i:=by
 unfold rw0 mix;rw[AU,AU,D6];by_cases h:i<W.length;rw[AK h];simp only[Cd,Cu];by_cases e:r<i;rw[if_pos e,if_pos ⟨e,⋯⟩];rw[if_neg e,if_neg (λz=>e z.1)];rw[Bu ⋯];simp[crs]
def zmS{c r k:Nat}{W:n8 (n8 Int)}(hr:r<=k)(hk:k<W.length):∃p:Nat->Nat,p r=k/\(∀i,r<=i->r<=p i)/\(∀i,p (p i)=i)/\(∀i,i<=r->rw0 (mix c r (rw0 W k) (swp r k W) W.length) i=rw0 W (p i))/\∀i,r<i->rw0 (mix c r (rw0 W k) (swp r k W) W.length) i=crs c (rw0 W k) (rw0 W (p i)):=by
 have hs:∀i,rw0 (swp r k W) i=rw0 W (if i=r then k else if i=k then r else i):=λi=>by
  unfold swp;rw[zhg (by rw[Dj];omega),zhg hk];split;rfl
  split<;>rfl
 have hl:(swp r k W).length<=W.length:=by simp[swp]
 refine⟨λi=>if i=r then k else if i=k then r else i,if_pos rfl,λi hi=> ?_,λi=> ?_,λi hi=> ?_,λi hi=> ?_⟩
 .dsimp only;split;exact hr;split<;>omega
 .dsimp only;by_cases e:i=r;subst e;rw[if_pos rfl];by_cases e2:k=i;rw[if_pos e2,e2];rw[if_neg e2,if_pos rfl];rw[if_neg e];by_cases e2:i=k;rw[if_pos e2,if_pos rfl,e2];rw[if_neg e2,if_neg e,if_neg e2]
 .rw[zhh hl,if_neg ⋯,hs]
 rw[zhh hl,if_pos hi,hs]
structure Fct(w c r:Nat)(W0 W:n8 (n8 Int)):Prop where
 le:r<=c/\W.length=W0.length
 len:∀k,(rw0 W k).length=w\/rw0 W k=[]
 z:∀k j,r<=k->j<c->g0 (rw0 W k) j=0
 cer:∀k,∃Y:Nat->Int,∀X,dt w (rw0 W k) X=yX W0.length λi=>Y i*dt w (rw0 W0 i) X
 back:∀X,(∀k,r<=k->dt w (rw0 W k) X=0)->∃(l:Int) (X':Nat->Int),l≠0/\(∀j,c<=j->X' j=l*X j)/\∀i,dt w (rw0 W0 i) X'=0
 triv:r=c->∀X:Nat->Int,(∀j,c<=j->X j=0)->(∀i,dt w (rw0 W0 i) X=0)->∀j,X j=0
 ker:r<c->∃X:Nat->Int,(∀j,c<=j->X j=0)/\(∃j,X j≠0)/\∀i,dt w (rw0 W0 i) X=0
def Fct.fwd{w c r:Nat}{W0 W:n8 (n8 Int)}(h:Fct w c r W0 W){X:Nat->Int}(hX:∀i,dt w (rw0 W0 i) X=0)(k:Nat):dt w (rw0 W k) X=0:=by
 obtain⟨Y,hY⟩:=h.cer k;rw[hY];exact vK _ λi _=>by rw[hX i,BU]
def zld(hl:∀a∈W0,a.length=w):Fct w 0 0 W0 W0:=by
 refine⟨⟨B1 _,rfl⟩,λk=> ?_,λk j _ h=>by omega,λk=> ?_,λX hX=>⟨1,X,∅,λj _=>(Ff _).symm,λi=>hX i (Cy _)⟩,λ_ X hX _ j=>hX j (Cy _),λh=>by omega⟩
 .unfold rw0;rw[AU];cases e:W0[k]? with
  |none=>exact .inr rfl
  |some a=>exact .inl (hl a (AX e))
 by_cases hk:k<W0.length;refine⟨λi=>if i=k then 1 else 0,λX=> ?_⟩;rw[Uf (i:=k) _ hk λj _ hj=>by dsimp only;rw[if_neg hj,CW]];dsimp only;rw[if_pos rfl,Ff];refine⟨λ_=>0,λX=> ?_⟩;rw[vK _ λj _=>CW _];unfold rw0;rw[AU,Bu ⋯];exact zlb
def zf7{X:Nat->Int}(hc:c<w)(h:∀j,j≠c->g0 a j*X j=0):dt w a X=g0 a c*X c:=Uf _ hc λj _ hj=>h j hj
def Fct.step{w c r r':Nat}{W0 W W':n8 (n8 Int)}(hc:c<w)(h:Fct w c r W0 W)(s:zco c W r W' r'):Fct w (c+1) r' W0 W':=by
 have hle:=h.le;rcases s with⟨z,rfl,rfl⟩|⟨k,k1,k2,k3,_,rfl,rfl⟩
 .refine⟨⋯,h.len,λk j hk hj=> ?_,h.cer,λX hX=> ?_,λe=>by omega,λhr=> ?_⟩;by_cases e:j=c;rw[e];exact z k hk;exact h.z k j hk ⋯;obtain⟨l,X',l0,h1,h2⟩:=h.back X hX;exact⟨l,X',l0,λj hj=>h1 j ⋯,h2⟩
  obtain⟨l,X',l0,h1,h2⟩:=h.back (λj=>if j=c then 1 else 0) λk hk=>by
   rw[zf7 hc λj hj=>by rw[if_neg hj,BU],z k hk,CW]
  refine⟨X',λj hj=> ?_,⟨c,?_⟩,h2⟩;rw[h1 j ⋯,if_neg ⋯,BU];rw[h1 c (B1 _),if_pos rfl,DE];exact l0
 obtain⟨p,p1,p2,p3,p4,p5⟩:=zmS (c:=c) k1 k2;have hz:=h.z k;have xl:=h.len k;have pz:=h.cer k;have uv:=λX hX=>h.fwd (X:=X) hX k;have Ao:∀X,(∀k,r<=k->dt w (rw0 W k) X=0)->dt w (rw0 W k) X=0:=λX hX=>hX k k1;generalize sY:rw0 W k=x at*;have xw:x.length=w:=xl.resolve_right λe=>k3 (by rw[e];rfl);have ok:∀i,(rw0 W i).length=x.length\/rw0 W i=[]:=λi=>by rw[xw];exact h.len i
 have L:(mix c r x (swp r k W) W.length).length=W.length:=by simp[mix,swp]
 refine⟨⋯,λi=> ?_,λi j hi hj=> ?_,λi=> ?_,λX hX=> ?_,λe X hX h0=> ?_,λhr=> ?_⟩;by_cases e:i<=r;rw[p4 i e];exact h.len _;rw[p5 i ⋯];rcases ok (p i) with g|g;exact .inl (by unfold crs;rw[F7,g];omega);exact .inr (by rw[g];simp[crs]);rw[p5 i ⋯,zf6 (ok _)];by_cases e:j=c;rw[e,C9,Int.sub_self];rw[h.z _ j (p2 i ⋯) ⋯,hz j k1 ⋯];simp
 .by_cases e:i<=r;rw[p4 i e];exact h.cer _
  rw[p5 i ⋯];obtain⟨Y,hY⟩:=h.cer (p i);obtain⟨Z,hZ⟩:=pz;refine⟨λj=>g0 x c*Y j-g0 (rw0 W (p i)) c*Z j,λX=> ?_⟩;rw[zlc (ok _),hY,hZ,<-Yy,<-Yy,<-zaX];exact xO _ λj _=>by grind
 .let T:Int:=yX w λj=>if j=c then 0 else g0 x j*(if j<c then 0 else X j);let X1:Nat->Int:=λj=>if j=c then -T else if j<c then 0 else g0 x c*X j
  have hx:dt w x X1=0:=by
   have e:dt w x X1=yX w λj=>(if j=c then g0 x c* -T else 0)+g0 x c*(if j=c then 0 else g0 x j*(if j<c then 0 else X j)):=xO _ λj _=>by
    show g0 x j*(if j=c then -T else if j<c then 0 else g0 x c*X j)=_;by_cases e1:j=c;rw[if_pos e1,if_pos e1,if_pos e1,e1,BU,FG];rw[if_neg e1,if_neg e1,if_neg e1];split;simp;grind
   rw[e,zeK,Yy,Uf (i:=c) _ hc λj _ hj=>if_neg hj,if_pos rfl];show g0 x c* -T+g0 x c*T=0;grind
  obtain⟨l,X',l0,h1,h2⟩:=h.back X1 λi hi=>by
   rw[<-p3 i];generalize hj:p i=j;have tK:r<=j:=by rw[<-hj];exact p2 i hi
   by_cases e:j=r;rw[e,p1,sY];exact hx
   have h3:=hX j ⋯;rw[p5 j ⋯] at h3;have h4:dt w (crs c x (rw0 W (p j))) X1=g0 x c*dt w (crs c x (rw0 W (p j))) X:=by
    unfold dt;rw[<-Yy];refine xO _ λq _=> ?_;by_cases e1:q<=c
    .have:g0 (crs c x (rw0 W (p j))) q=0:=by
      rw[zf6 (ok _)];by_cases e2:q=c;rw[e2,C9,Int.sub_self];rw[h.z _ q (p2 j tK) ⋯,hz q k1 ⋯];simp
     rw[this];simp
    show g0 _ q*(if q=c then -T else if q<c then 0 else g0 x c*X q)=_;rw[if_neg ⋯,if_neg ⋯];grind
   rw[h3,zlc (ok _),hx,BU,BU,Hb] at h4;exact(F4.1 h4).resolve_left k3
  refine⟨l*g0 x c,X',λz=> ?_,λj hj=> ?_,h2⟩;rcases F4.1 z with z|z;exact l0 z;exact k3 z;rw[h1 j ⋯,DS];show l*(if j=c then -T else if j<c then 0 else g0 x c*X j)=_;rw[if_neg ⋯,if_neg ⋯]
 .have h3:=uv X h0
  rw[zf7 hc λj hj=>by
   by_cases e1:j<c;rw[hz j k1 e1,CW]
   rw[hX j ⋯,BU]] at h3
  have h4:=(F4.1 h3).resolve_left k3
  exact h.triv ⋯ X (λj hj=>by
   by_cases e1:j=c;rw[e1];exact h4
   exact hX j ⋯) h0
 obtain⟨X,h1,h2⟩:=h.ker ⋯;exact⟨X,λj hj=>h1 j ⋯,h2⟩
def za9.fct(hl:∀a∈W0,a.length=w):∀{W:n8 (n8 Int)} {r:Nat},c<=w->za9 W0 c W r->Fct w c r W0 W:=by
 induction c with
 |zero=>
  rintro W r _ ⟨rfl,rfl⟩;exact zld hl
 |succ c ih=>
  rintro W r hc ⟨W1,r1,h,s⟩;exact(ih ⋯ h).step ⋯ s
section
noncomputable def Xi(xs:n8 Q2)(c:Nat):Int:=(xs.getD c (0,1)).1*(zL xs / (xs.getD c (0,1)).2)
def zid:q∈l->q.2∣zL l:=by
 induction l with
 |nil=>intro h;cases h
 |cons z l ih=>
  intro h;rw[zL];rcases Bi.1 h with rfl|h;exact⟨_,rfl⟩;exact Fo (ih h) ⟨z.2,C9 ..⟩
def zql(hp:∀q∈xs,0<q.2)(c:Nat):((Xi xs c:Int):Rat)=rq (xs.getD c (0,1))*zL xs:=by
 have h:0<(xs.getD c (0,1)).2/\(xs.getD c (0,1)).2∣zL xs:=by
  rw[AU];cases e:xs[c]? with
  |none=>exact⟨Int.one_pos,Int.one_dvd _⟩
  |some q=>exact⟨hp q (AX e),zid (AX e)⟩
 unfold Xi;generalize xs.getD c (0,1)=q at h;obtain⟨h0,k,hk⟩:=h;rw[hk,show q.2*k / q.2=k from Int.mul_ediv_cancel_left _ ⋯,C1,C1];have:=Wq h0;grind
def zdx(hi:i<rws.length):∃row∈rws,rws[i]? =dB row/\∀c,el rws i c=rq (row.getD c (0,1)):=by
 have e:rws[i]? =dB rws[i]:=AK hi;refine⟨_,AX e,e,λc=> ?_⟩;unfold el;rw[show rws.getD i []=rws[i] by rw[AU,e];rfl]
noncomputable def wh(row:n8 Q2):n8 Int:=row.map λq=>q.1*(zL row / q.2)
def zqm(h:c<row.length):g0 (wh row) c=Xi row c:=by
 have e:row[c]? =dB row[c]:=AK h;show(wh row).getD c 0=_;unfold Xi wh;rw[AU,AW,AU,e];rfl
variable{r r2:Nat}{W W2:n8 (n8 Int)}
def zny(B:RBs many rws)(hi:i<rws.length)(hc:c<=many):((g0 (rw0 (rws.map wh) i) c:Int):Rat)=el rws i c*((zL (rws.getD i []):Int):Rat):=by
 obtain⟨row,hr,e,ee⟩:=zdx hi;have b:=B.rb row hr;rw[show rw0 (rws.map wh) i=wh row by unfold rw0;rw[AU,AW,e];rfl,zqm (by have:=b.len;omega),zql b.pos,ee,AU (l:=rws),e];rfl
def znz(B:RBs many rws)(hi:i<rws.length)(X:Nat->Int):((dt (many+1) (rw0 (rws.map wh) i) X:Int):Rat)=((zL (rws.getD i []):Int):Rat)*(yu many (λc=>el rws i c*(X c:Rat))+el rws i many*(X many:Rat)):=by
 unfold dt;rw[UW,yg (g:=λc=>((zL (rws.getD i []):Int):Rat)*(el rws i c*(X c:Rat))) _ λc hc=>by rw[C1,zny B hi ⋯];grind,Yv,yu]
def zle(B:RBs many rws)(hi:i<rws.length):zL (rws.getD i [])≠0:=by
 obtain⟨row,hr,e,_⟩:=zdx hi;rw[AU,e];have:=wN row (B.rb row hr).pos;show zL row≠0;omega
def zf8(B:RBs many rws){X:Nat->Int}{D:Int}(hD:X many= -D):Yw many rws X D↔∀i,dt (many+1) (rw0 (rws.map wh) i) X=0:=by
 constructor;intro h i;by_cases hi:i<rws.length;apply FW.1;rw[znz B hi,h i hi,hD,HS];grind;unfold rw0;rw[AU,Bu (by simpa using hi)];exact zlb;intro h i hi;have h1:=znz B hi X;rw[h i] at h1;have h2:=(HR.1 h1.symm).resolve_left (Xo (zle B hi));rw[hD,HS] at h2;grind
structure KnO(many:Nat)(rws:n8 (n8 Q2)):Prop where
 x:∃X D,D≠0/\Yw many rws X D
 u:∀Z:Nat->Int,(∀c,many<=c->Z c=0)->Yw many rws Z 0->∀c,Z c=0
def zmT(B:RBs many rws)(e1:za9 (rws.map wh) many W r)(e2:za9 (rws.map wh) (many+1) W2 r2):(r<r2->∃(Y:Nat->Int) (F:Int),F≠0/\Yw rws.length (xj many rws) Y F)/\(¬r<r2->(r=many->KnO many rws)/\(r≠many->KnM many rws)):=by
 have hl:∀a∈rws.map wh,a.length=many+1:=λa ha=>by
  obtain⟨row,hr,rfl⟩:=Bq.1 ha;unfold wh;rw[AV,(B.rb row hr).len]
 have F:=e1.fct hl ⋯;obtain⟨W1,r1,y3,s⟩:=e2;obtain⟨rfl,rfl⟩:=e1.det y3;rcases s with⟨z,rfl,rfl⟩|⟨k,k1,k2,k3,_,rfl,rfl⟩
 .refine⟨λh=>by omega,λ_=> ?_⟩;have hx:∃X D,D≠0/\Yw many rws X D:=by
   obtain⟨l,X,l0,h1,h2⟩:=F.back (λj=>if j=many then 1 else 0) λk hk=>vK _ λj hj=>by
    by_cases e:j=many;rw[e,z k hk,CW];dsimp only;rw[if_neg e,BU]
   have h3:=h1 many (B1 _);rw[if_pos rfl] at h3;exact⟨X, -l,⋯,(zf8 B ⋯).2 h2⟩
  refine⟨λe=>⟨hx,λZ hZ h=>F.triv e Z hZ ((zf8 B (by rw[hZ many (B1 _)];rfl)).1 h)⟩,λe=>⟨hx,?_⟩⟩;obtain⟨X,h1,h2,h3⟩:=F.ker (by have:=F.le.1;omega);exact⟨X,h2,h1,(zf8 B (by rw[h1 many (B1 _)];rfl)).2 h3⟩
 refine⟨λ_=> ?_,λh=>by omega⟩;obtain⟨Y,hY⟩:=F.cer k;have key:∀c,c<=many->yu rws.length (λi=>el rws i c*((Y i*zL (rws.getD i []):Int):Rat))=((g0 (rw0 W k) c:Int):Rat):=λc hc=>by
  have h1:=hY λj=>if j=c then 1 else 0
  have one:∀a,dt (many+1) a (λj=>if j=c then 1 else 0)=g0 a c:=λa=>by
   rw[zf7 (show c<many+1 by omega) λj hj=>by rw[if_neg hj,BU]];simp
  rw[one,xO (g:=λi=>Y i*g0 (rw0 (rws.map wh) i) c) _ λi _=>by rw[one]] at h1;rw[h1,AV,UW];exact yg _ λi hi=>by rw[C1,C1,zny B hi hc];grind
 refine⟨λi=>Y i*zL (rws.getD i []),_,k3,zeQ.2 ⟨λc hc=> ?_,key many (B1 _)⟩⟩;rw[key c ⋯,F.z k c k1 hc];rfl
end
section
variable{S':Sto}{x y:Xv}
def zlf{Q':(Sto->pU (n8 Xv))->Sto->Prop}(h:W (m ρ S) λx S1=>W (n ρ S1) λy S2=>∃i j:Int,x= .int i/\y= .int j/\(-(2^62)<=i/\i<2^62/\ -(2^62)<=j/\j<2^62)/\Q' (λ_=>dB (yw i (j-i).toNat)) S2):W (iR2 m n ρ S) Q':=W.bind (h.imp λx S1 h=>W.bind (h.imp λy S2 h=>by
 obtain⟨i,j,rfl,rfl,hk,q⟩:=h;dsimp only;rw[if_pos hk]
 exact .of rfl q))
def BW(w N:Nat)(W:n8 (n8 Int)):Prop:=∀a∈W,a.length=w/\∀v∈a,zk N v
def zlg{a:n8 Int}{c:Nat}(h:c<a.length):(a.map Xv.int)[c]? =dB (.int (g0 a c)):=by
 have e:a[c]? =dB a[c]:=AK h;unfold g0;rw[AW,AU,e];rfl
def zdy{W:n8 (n8 Int)}{k:Nat}(h:k<W.length):W[k]? =dB (rw0 W k):=by
 unfold rw0;rw[AU,AK h];rfl
def zac{W:n8 (n8 Int)}{k:Nat}(h:k<W.length):rw0 W k∈W:=AX (zdy h)
def BW.set{w N k:Nat}{W:n8 (n8 Int)}{a:n8 Int}(h:BW w N W)(ha:a.length=w/\∀v∈a,zk N v):BW w N (W.set k a):=λb hb=>by
 rcases Dn hb with hb|rfl;exact h b hb;exact ha
def BW.mono{w N N':Nat}{W:n8 (n8 Int)}(h:BW w N W)(hn:N<=N'):BW w N' W:=λa ha=>⟨(h a ha).1,λv hv=>((h a ha).2 v hv).mono hn⟩
def zmU{c r n:Nat}{x:n8 Int}{W:n8 (n8 Int)}(hr:r<n)(hn:n<W.length):(mix c r x W n).set n (crs c x (rw0 W n))=mix c r x W (n+1):=by
 refine Em λi=> ?_;unfold mix;rw[Bs,D6,D6,List.length_mapIdx];by_cases e:n=i;subst e;rw[if_pos rfl,if_pos hn,zdy hn];simp[hr];rw[if_neg e]
 congr 1
 funext y;by_cases g:r<i/\i<n;rw[if_pos g,if_pos ⟨g.1,⋯⟩];rw[if_neg g,if_neg (λz=>g ⟨z.1,⋯⟩)]
def zlh{c r n:Nat}{x:n8 Int}{W:n8 (n8 Int)}(hn:n<W.length):(mix c r x W n)[n]? =dB (rw0 W n):=by
 unfold mix;rw[D6,zdy hn];simp
def zli{c r n:Nat}{x:n8 Int}{W:n8 (n8 Int)}(hn:n<=r+1):mix c r x W n=W:=by
 refine Em λi=> ?_;unfold mix;rw[D6];cases W[i]? with
 |none=>rfl
 |some a=>rw[Cd,if_neg ⋯]
def zo6{c r n w N:Nat}{x:n8 Int}{W:n8 (n8 Int)}(h:BW w N W)(hx:x.length=w/\∀v∈x,zk N v)(hc:c<w):BW w (2*N+1) (mix c r x W n):=λa ha=>by
 obtain⟨i,hi⟩:=By ha;unfold mix at hi;rw[D6,AY] at hi;obtain⟨y,hy,rfl⟩:=hi;obtain⟨yl,yb⟩:=h y (AX hy)
 have gb:∀a:n8 Int,a.length=w->(∀v∈a,zk N v)->zk N (g0 a c):=λa al ab=>ab _ (by
  unfold g0;rw[AU,AK ⋯]
  exact C8 _)
 split
 .refine⟨by unfold crs;rw[F7,hx.1,yl,EZ],λv hv=> ?_⟩;unfold crs at hv;rw[List.mem_iff_getElem?] at hv;obtain⟨j,hj⟩:=hv;rw[EI] at hj;cases e1:x[j]? with
  |none=>rw[e1] at hj;cases hj
  |some u=>cases e2:y[j]? with
   |none=>rw[e1,e2] at hj;cases hj
   |some v'=>
    rw[e1,e2] at hj;cases hj;exact(((gb x hx.1 hx.2).mul (yb _ (AX e2))).mono ⋯).sub (n:=2*N) (((gb y yl yb).mul (hx.2 _ (AX e1))).mono ⋯) (B1 _)
 exact⟨yl,λv hv=>(yb v hv).mono ⋯⟩
def zhi(b:RB many row):(∀v∈wh row,zk 600 v)/\zk 200 (zL row):=by
 have p:=b.pro;have p0:=wN row b.pos;have pb:zk 200 (zL row):=Bp (show(zL row).natAbs<=2^144 by omega) ∅;refine⟨λv hv=> ?_,pb⟩;obtain⟨q,hq,rfl⟩:=Bq.1 hv;have g:=zab (b.q q hq);refine zk.mono (n:=400+200) (zk.mul (Bp (AZ (b.q q hq).2.2 (Cp _ (b.q q hq).2.1)) (*...*)) (pb.abs ?_)) ⋯;exact CI _ _
def zhj(B:RBs many rws)(h:Yx S rn rws)(hn:n<=many+1):W (Zl fu [.ref rn,.int n] S) λv S'=>Le S S'/\∃W r,v= .int (r:Nat)/\za9 (rws.map wh) n W r:=by
 have mb:=B.m;have nb:=B.n;have hl:∀a∈rws.map wh,a.length=many+1:=λa ha=>by
  obtain⟨row,hr,rfl⟩:=Bq.1 ha;unfold wh;rw[AV,(B.rb row hr).len]
 walk_at "wr";unfold Xg;ext;have o5:(S++[Ce.lst []])[S.length]? =dB (.lst []):=zx;have l0:Le S (S++[Ce.lst []]):=Le.refl.app;obtain⟨wn,t7⟩:∃wn,wn=S.length:=⟨_,rfl⟩;rw[<-t7] at o5 ⊢;generalize S++[Ce.lst []]=S0 at o5 l0 ⊢;obtain⟨ms,r1,r2,r3⟩:=id h;refine vZ (λρ S1=>Le S S1/\∃a3 a4 a5:pU Xv,ρ=[dB (.ref rn),dB (.int n),dB (.ref wn),a3,a4,a5,fC,fC,fC,fC,fC]/\wO Xv.int S1 wn (rws.map wh)) (xg (xB ?_)) ?_
 .ext;refine⟨_,zb (l0.2 _ _ r1),_,zb (l0.2 _ _ r1),?_⟩;refine yE (xs:=ms.map .ref) (λi ρ S1=>Le S S1/\∃a3 a4 a5:pU Xv,ρ=[dB (.ref rn),dB (.int n),dB (.ref wn),a3,a4,a5,fC,fC,fC,fC,fC]/\wO Xv.int S1 wn ((rws.take i).map wh)) ?_ ?_ ?_ ?_;rintro i ρ S1 _ ⟨l,_⟩;exact zb (l.2 _ _ r1)
  .rintro i y ρ S1 hy ⟨l1,a3,a4,a5,rfl,hW⟩;rw[AW,AY] at hy;obtain⟨m,hy,rfl⟩:=hy;have hi:i<rws.length:=by rw[<-r2];exact(AQ.1 hy).1
   have er:rws[i]? =dB rws[i]:=AK hi;generalize rws[i]=row at er;have hm:=l1.2 _ _ (r3 i m row hy er).2;have b:=B.rb row (AX er);have bl:=b.len;obtain⟨_,pb⟩:=zhi b;have A3:=wN row b.pos;refine .of rfl ?_;dsimp only[BL];ext;refine vZ (λρ S2=>S1=S2/\∃a5:pU Xv,ρ=[dB (.ref rn),dB (.int n),dB (.ref wn),dB (.ref m),dB (.int (zL row)),a5,fC,fC,fC,fC,fC]) (xg (xB ?_)) ?_;ext;refine⟨_,zb hm,_,zb hm,?_⟩;refine yE (xs:=row.map qv) (λk ρ S2=>S1=S2/\∃a5:pU Xv,ρ=[dB (.ref rn),dB (.int n),dB (.ref wn),dB (.ref m),dB (.int (zL (row.take k))),a5,fC,fC,fC,fC,fC]) ?_ ?_ ?_ ?_;rintro k ρ S2 _ ⟨rfl,_⟩;exact zb hm;rintro k y ρ S2 eE ⟨rfl,a5,rfl⟩;rw[AW,AY] at eE;obtain⟨q,hq,rfl⟩:=eE;refine .of rfl ?_;dsimp only[BL];ext;apply xm (z:= .int q.2) rfl rfl;have pt:=za7 b.pos k;have A2:=wN (row.take k) λq hq=>b.pos q (DQ hq);apply zX (n:=200) (m:=100) (pb.abs ⋯) (zab (b.q q (AX hq))).2.1 ∅;refine⟨rfl,dB (qv q),?_⟩;rw[Bt,hq,wM];simp[zL];exact⟨rfl,_,rfl⟩;rintro ρ S2 ⟨rfl,a5,rfl⟩;rw[AV,Bx];exact⟨rfl,_,rfl⟩;rintro _ S2 ⟨rfl,AI,rfl⟩;obtain⟨ms',w1,w2,w3⟩:=id hW;refine YK (WN ?_);ext;refine⟨⟨_,zb w1⟩,?_⟩;refine yK (yd (xB ?_));ext;refine⟨_,zb hm,_,zb hm,?_⟩;refine zZ (xs:=row.map qv) (by rw[AV];exact Ba (yh ⋯)) (λk es S3=>S1=S3/\es=(row.take k).map λq=>Xv.int (q.1*(zL row / q.2))) ?_ ?_ ?_ ?_;rintro k es S3 _ ⟨rfl,_⟩;exact zb hm;rintro k y es S3 eE bD ⟨rfl,rfl⟩;rw[AW,AY] at eE;obtain⟨q,hq,rfl⟩:=eE;have g:=zab (b.q q (AX hq));refine .of rfl ?_;ext;refine⟨rfl,?_⟩;ext;apply xm (z:= .int q.1) rfl rfl;ext;apply xm (z:= .int q.2) rfl rfl;apply zdo g.1 (g.2.1.mono ∅);apply zX g.2.2 (pb.abs (CI _ _)) ∅;refine⟨rfl,?_⟩;rw[Bt,hq];simp;exact⟨rfl,rfl⟩;rintro es S3 bD ⟨rfl,rfl⟩;rw[AV,Bx];ext;apply xT (yR (zr w1)) (by rw[AV,w2,AV,BI];exact yh ⋯);have qV:=vp w1;refine⟨l1.app.set ⋯,_,_,_,rfl,?_⟩;have:=(hW.le Le.refl.app).push (r:=wh row) (zr w1) (k:=S1.length) ⋯ (show(S1++[Ce.lst (row.map λq=>Xv.int (q.1*(zL row / q.2)))])[S1.length]? =_ by rw[zx];simp[wh]);rw[Bt,er,Ci];exact this
  .exact⟨l0,_,_,_,rfl,[],o5,rfl,λi m r e=>by simp at e⟩
  rintro ρ S1 ⟨l1,a3,a4,a5,rfl,hW⟩;rw[AV,r2,Bx] at hW;exact⟨l1,_,_,_,rfl,hW⟩
 rintro _ S1 ⟨l1,a3,a4,a5,rfl,hW⟩
 have sq:BW (many+1) 1000 (rws.map wh):=λa ha=>⟨hl a ha,by
  obtain⟨row,hr,rfl⟩:=Bq.1 ha
  exact λv hv=>((zhi (B.rb row hr)).1 v hv).mono ∅⟩
 ext;refine vZ (λρ S2=>Le S S2/\∃(W:n8 (n8 Int)) (r:Nat) (a3 a4 a5 a7 a8 a9 cw:pU Xv),ρ=[dB (.ref rn),dB (.int n),dB (.ref wn),a3,a4,a5,dB (.int r),a7,a8,a9,cw]/\za9 (rws.map wh) n W r) (xg (WZ ?_)) ?_
 .ext;refine⟨⟨⋯,⋯⟩,yw 0 n,by rw[B9],?_⟩;refine yE (xs:=yw 0 n) (λc ρ S2=>Le S S2/\∃(W:n8 (n8 Int)) (r:Nat) (a3 a4 a5 a7 a8 a9 cw:pU Xv),ρ=[dB (.ref rn),dB (.int n),dB (.ref wn),a3,a4,a5,dB (.int r),a7,a8,a9,cw]/\za9 (rws.map wh) c W r/\wO Xv.int S2 wn W/\BW (many+1) (1000*3^c) W) ?_ ?_ ?_ ?_;rintro i ρ S2 _ _;rw[B9]
  .clear hW sq;rintro c y ρ S2 hy ⟨l2,W,r,a3,a4,a5,a7,a8,a9,cw,rfl,el,hW,bw⟩;obtain⟨hc,rfl⟩:=xS hy;rw[Di];have Fc:=el.fct hl ⋯;have Wl:=Fc.le.2;rw[AV] at Wl;have N6:1000*3^c<=1000*3^6:=Cp _ (Ca ∅ ⋯);have Ns:1000*3^(c+1)=3*(1000*3^c):=by rw[DL];omega
   have N0:0<1000*3^c:=Nat.mul_pos ∅ (Ew ∅);generalize 1000*3^(c+1)=N' at Ns;generalize 1000*3^c=N at bw N6 Ns N0;refine .of rfl ?_;dsimp only[BL];obtain⟨ms',w1,w2,w3⟩:=id hW;have gx:∀k (hk:k<W.length),∃m,ms'[k]? =dB m/\m≠wn/\S2[m]? =dB (.lst ((rw0 W k).map .int)):=λk hk=>hW.at w1 (zdy hk);refine zJ (wa (yd (zlf ?_)));ext;apply yW (zb w1);rw[AV,w2];have A1:=Fc.le.1;refine⟨_,_,rfl,rfl,⟨⋯,⋯,⋯,⋯⟩,_,rfl,?_⟩;refine VN (xs:=yw r ((W.length:Int)-r).toNat) (by rw[yx];exact Ba (yh ⋯)) (λj es S3=>S2=S3/\((es=[]/\∀k,r<=k->k<r+j->g0 (rw0 W k) c=0)\/∃(k:Nat) (es':n8 Xv),es= .int k::es'/\r<=k/\k<W.length/\g0 (rw0 W k) c≠0/\∀j,r<=j->j<k->g0 (rw0 W j) c=0)) ?_ ?_ ?_ ?_;rintro j es S3 _ _;rfl
   .rintro j y es S3 hy _ ⟨rfl,dE⟩;obtain⟨hj,rfl⟩:=xS hy;obtain⟨m,g1,_,g2⟩:=gx (r+j) ⋯;have gl:=(bw _ (zac (W:=W) (k:=r+j) ⋯)).1;refine .of rfl ?_;ext;refine yy (zb w1) (yP (z:= .ref m) ⋯ (by rw[AW,show((r:Int)+j).toNat=r+j by omega,g1];rfl)) ?_;ext;refine yy (zb g2) (yP (z:= .int (g0 (rw0 W (r+j)) c)) ⋯ (by rw[B9];exact zlg ⋯)) ?_;ext;refine Vr (λhz=> ?_) (λhz=>⟨rfl,?_⟩)
    .ext;refine⟨rfl,.inr ?_⟩;rcases dE with⟨rfl,dE⟩|⟨k,es',rfl,dE⟩
     .exact⟨r+j,[],by simp,⋯,⋯,hz,λj' h1 h2=>dE j' h1 h2⟩
     exact⟨k,es'++[.int ((r:Int)+j)],by simp,dE⟩
    refine dE.imp (λ⟨e,dE⟩=>⟨e,λk h1 h2=> ?_⟩) (λz=>z);by_cases e:k=r+j;rw[e];exact hz;exact dE k h1 ⋯
   .exact⟨rfl,.inl ⟨rfl,λk h1 h2=>by omega⟩⟩
   rintro es S3 _ ⟨rfl,dE⟩;rw[yx] at dE;have l3:Le S2 (S2++[Ce.lst es]):=Le.refl.app;have lN:(S2++[Ce.lst es])[S2.length]? =dB (.lst es):=zx;have fw:S2.length≠wn:=by have:=vp w1;omega
   generalize S2.length=fn at lN fw ⊢;generalize S2++[Ce.lst es]=S3 at lN l3 ⊢;have rP:=hW.le l3;dsimp only[BL];refine yc ?_;ext;apply yW (zb lN);ext;rcases dE with⟨rfl,hz⟩|⟨k,es',rfl,k1,k2,k3,k4⟩
   .refine yp (λz=>absurd z ∅) (λ_=>zN ?_);refine⟨l2.trans l3,W,r,_,_,_,_,_,_,_,rfl,⟨W,r,el,.inl ⟨λk h1=> ?_,rfl,rfl⟩⟩,rP,bw.mono ⋯⟩;by_cases e:k<W.length;exact hz k h1 ⋯;unfold rw0;rw[AU,Bu ⋯];rfl
   refine yp (λ_=> ?_) (λz=>absurd z (by simp));obtain⟨mk,g1,gk,g2⟩:=gx k k2;obtain⟨mr,g3,gr,g4⟩:=gx r ⋯;have w3:=l3.2 _ _ w1;have g2:=l3.2 _ _ g2;have g4:=l3.2 _ _ g4;ext;refine yy (zb lN) (yP (z:= .int (k:Int)) (Es 0) rfl) ?_;refine yy (zb w3) (yP (z:= .ref mk) ⋯ (by rw[AW,B9,g1];rfl)) ?_;refine zJ (Yq ?_);ext;refine yy (zb w3) (yP (z:= .ref mr) ⋯ (by rw[AW,B9,g3];rfl)) ?_;ext;refine yy (zb lN) (yP (z:= .int (k:Int)) (Es 0) rfl) ?_;refine⟨wn,_,_,k,yR w3,rfl,Wy (by rw[AV,w2];exact k2),?_⟩;have hS:S.length<=wn:=by omega
   have pG:=rP.put (j:=k) w3 gr g4;have l4:Le S (S3.set wn (.lst ((ms'.map .ref).set k (.ref mr)))):=(l2.trans l3).set hS;have g2:=ya (c':= .lst ((ms'.map .ref).set k (.ref mr))) g2 (BM gk);generalize S3.set wn (.lst ((ms'.map .ref).set k (.ref mr)))=S4 at pG l4 g2 ⊢;refine zJ (Yq ?_);ext;obtain⟨nA,w4,w5,_⟩:=id pG;rw[Dj] at w5;refine⟨wn,_,_,r,yR w4,rfl,Wy (by rw[AV,w5];omega),?_⟩;have kh:=pG.put (j:=r) w4 gk g2;have l5:Le S (S4.set wn (.lst ((nA.map .ref).set r (.ref mk)))):=l4.set hS;have g2:=ya (c':= .lst ((nA.map .ref).set r (.ref mk))) g2 (BM gk);generalize S4.set wn (.lst ((nA.map .ref).set r (.ref mk)))=S5 at kh l5 g2 ⊢;have bx:=bw _ (zac k2);have bs:BW (many+1) N (swp r k W):=(bw.set (bw _ (zac ⋯))).set bx;have sl:(swp r k W).length=W.length:=by simp[swp]
   have sr:=zli (c:=c) (r:=r) (n:=r+1) (x:=rw0 W k) (W:=swp r k W) (B1 _);rw[show(W.set k (rw0 W r)).set r (rw0 W k)=swp r k W from rfl,<-sr] at kh;have fin:zco c W r (mix c r (rw0 W k) (swp r k W) W.length) (r+1):= .inr ⟨k,k1,k2,k3,k4,rfl,rfl⟩;generalize rw0 W k=x at g2 bx sr kh fin;generalize swp r k W=sw at bs sl kh fin;refine zJ (vZ (λρ S6=>Le S S6/\∃a3 cw:pU Xv,ρ=[dB (.ref rn),dB (.int n),dB (.ref wn),a3,a4,a5,dB (.int r),dB (.int c),dB (.ref fn),dB (.ref mk),cw]/\wO Xv.int S6 wn (mix c r x sw W.length)) (xg (zlf ?_)) ?_)
   .ext;obtain⟨A5,w6,w7,_⟩:=id kh;apply yW (zb w6);rw[AV,w7];have ml:∀n,(mix c r x sw n).length=W.length:=λn=>by simp[mix,sl]
    rw[ml];refine⟨_,_,rfl,rfl,⟨⋯,⋯,⋯,⋯⟩,_,rfl,?_⟩;refine yE (xs:=yw ((r:Int)+1) ((W.length:Int)-((r:Int)+1)).toNat) (λj ρ S6=>Le S S6/\S6[mk]? =dB (.lst (x.map .int))/\∃a3 cw:pU Xv,ρ=[dB (.ref rn),dB (.int n),dB (.ref wn),a3,a4,a5,dB (.int r),dB (.int c),dB (.ref fn),dB (.ref mk),cw]/\wO Xv.int S6 wn (mix c r x sw (r+1+j))) ?_ ?_ ?_ ?_;rintro j ρ S6 _ _;rfl
    .rintro j y ρ S6 hy ⟨l6,g6,a3,cw,rfl,jd⟩;obtain⟨hj,rfl⟩:=xS hy;have tM:r+1+j<W.length:=by omega
     obtain⟨A4,w8,w9,_⟩:=id jd;rw[ml] at w9;have ey:=zlh (c:=c) (r:=r) (x:=x) (W:=sw) (n:=r+1+j) ⋯;obtain⟨m,q1,q2,q3⟩:=jd.at w8 ey;have by':=bs _ (zac (show r+1+j<sw.length by omega))
     have fW:=zmU (c:=c) (r:=r) (n:=r+1+j) (x:=x) (W:=sw) ⋯ ⋯;generalize rw0 sw (r+1+j)=z at ey q3 by' fW
     refine .of rfl ?_;dsimp only[BL];ext;refine yy (zb w8) (yP (z:= .ref m) ⋯ (by rw[AW,show((r:Int)+1+j).toNat=r+1+j by omega,q1];rfl)) ?_;refine Yq (yd (Wv ?_));ext;refine⟨⟨_,zb g6⟩,⟨_,zb q3⟩,_,wj (zb g6) (zb q3),?_⟩;have fH:(Yr (x.map Xv.int) (z.map Xv.int)).length=many+1:=by rw[L2.vQ,AV,AV,bx.1,by'.1];omega
     refine zZ (by rw[fH];exact Ba (yh ⋯)) (λk es S7=>S6=S7/\es=((crs c x z).take k).map Xv.int) ?_ ?_ ?_ ?_;rintro k es S7 _ ⟨rfl,_⟩;exact wj (zb g6) (zb q3)
     .rintro k y es S7 hy g7 ⟨rfl,rfl⟩;obtain⟨u,w,e1,e2,rfl⟩:=ZF hy;rw[AW,AY] at e1 e2;obtain⟨p,e1,rfl⟩:=e1;obtain⟨q,e2,rfl⟩:=e2
      have gb:∀a:n8 Int,a.length=many+1->(∀v∈a,zk N v)->zk N (g0 a c):=λa al ab=>ab _ (by
       unfold g0;rw[AU,AK ⋯]
       exact C8 _)
      refine .of rfl ?_;ext;refine⟨rfl,?_⟩;ext;refine yy (zb g6) (yP (z:= .int (g0 x c)) ⋯ (by rw[B9];exact zlg (by have:=bx.1;omega))) ?_;ext;apply zX (gb x bx.1 bx.2) (by'.2 q (AX e2)) ⋯;ext;refine yy (zb q3) (yP (z:= .int (g0 z c)) ⋯ (by rw[B9];exact zlg (by have:=by'.1;omega))) ?_;ext;apply zX (gb z by'.1 by'.2) (bx.2 p (AX e1)) ⋯;ext;refine⟨rfl,?_⟩;rw[Bt,Ci,show(crs c x z)[k]? =dB (g0 x c*q-g0 z c*p) by unfold crs;rw[EI,e1,e2]];rfl
     .exact⟨rfl,rfl⟩
     rintro es S7 g7 ⟨rfl,rfl⟩;rw[fH,DF (by unfold crs;rw[F7,bx.1,by'.1];omega)];ext;refine⟨wn,_,_,r+1+j,yR (zr w8),rfl,by rw[show(r:Int)+1+j=((r+1+j:Nat):Int) by omega];exact Wy (by rw[AV,w9];exact tM),?_⟩;have Ah:=vp w8;refine⟨l6.app.set hS,ya (zr g6) (BM gk),_,_,rfl,?_⟩;rw[<-GH,<-fW];exact(jd.le Le.refl.app).put (zr w8) ⋯ zx
    .exact⟨l5,g2,_,_,rfl,kh⟩
    rintro ρ S6 ⟨l6,_,a3,cw,rfl,jd⟩;rw[yx,show r+1+((W.length:Int)-((r:Int)+1)).toNat=W.length by omega] at jd;exact⟨l6,_,_,rfl,jd⟩
   rintro _ S6 ⟨l6,AJ,z8,rfl,jd⟩;ext;exact⟨l6,_,r+1,_,_,_,_,_,_,_,rfl,⟨W,r,el,fin⟩,jd,(zo6 bs bx ⋯).mono ⋯⟩
  .exact⟨l1,_,0,_,_,_,_,_,_,_,rfl,⟨rfl,rfl⟩,hW,sq⟩
  rintro ρ S2 ⟨l2,W,r,a3,a4,a5,a7,a8,a9,cw,rfl,el,_⟩;rw[yx] at el;exact⟨l2,W,r,_,_,_,_,_,_,_,rfl,el⟩
 rintro _ S2 ⟨l2,W,r,a3,a4,a5,a7,a8,a9,cw,rfl,el⟩;ext;exact⟨l2,W,r,rfl,el⟩
end
section
variable{S':Sto}{x y:Xv}
def zmV(many:Nat)(rws:n8 (n8 Q2))(v:Xv)(S':Sto):Prop:=∃xn ts b,v= .tup [.str "one",.ref xn]/\Fd many rws S' xn ts b
def zeO.one(h:zeO q many rws S v S')(kn:KnO many rws)(hl:∀row∈rws,row.length=many+1):(v= .non/\¬Gd q many rws)\/zmV many rws v S':=by
 obtain⟨X,D,hD,hX⟩:=kn.x;obtain⟨le,⟨rfl,hn⟩|⟨rs,ss,w,S1,wr,run,mr,l1,h⟩⟩:=h;exact .inl ⟨rfl,λg=>hn g.1⟩
 rcases h with⟨rfl,u,bu,⟨rfl,rfl⟩|⟨n,rfl,rfl⟩⟩|⟨xn,rfl,hs,rfl⟩|⟨xn,free,u,rfl,hs,hf,lM,bu,hv⟩
 .exact .inl ⟨rfl,λg=>mr.hit wr run g hD hX⟩
 .obtain⟨ts,b,fd⟩:=bu.fd;exact(za6 hD (by have:=fd.pos.1;omega) hX fd.sol).elim
 .obtain⟨ts,b,fd⟩:=mr.fd wr;exact .inr ⟨xn,ts,b,rfl,fd.le l1⟩
 rcases hv with⟨rfl,rfl⟩|⟨n,rfl,rfl⟩
 .refine .inl ⟨rfl,λg=> ?_⟩;obtain⟨Z,z2,z1⟩:=(g.2 rs ss wr run).2 free lM;refine z2 ?_;have:=kn.u (λc=>if c<many then Z c else 0) (λc hc=>if_neg ⋯) (λi hi=> ?_) free;rwa [if_pos hf] at this
  rw[<-(wr.sol (X:=Z) (D:=0)).2 (λr hr=>by rw[z1 r hr,BU]) i hi];exact yg _ λc hc=>by dsimp only;rw[if_pos hc]
 obtain⟨us,e,fe⟩:=bu.fd;obtain⟨g1,g2⟩:=(UX hl hf).1 fe.sol;have:=kn.u (vec us) (λc hc=>by unfold vec;rw[AU,Bu (by rw[fe.len];exact hc)];rfl) (λi hi=>by rw[g1 i hi];exact(FN _).symm) free;rw[g2] at this;have:=fe.pos.1;omega
def zo7(aw:Big fu)(B:RBs many rws)(kn:KnO many rws)(h:vi S rn rws)(aO:S[1]? =dB (.tab Zg.t)):W (xp fu [.ref rn,.int many] S) λv S'=>Le S S'/\zmV many rws v S':=by
 have m6:many<=6:=by have:=B.m;omega
 refine zf5 aw λq q1 q2 S1 l=>(B.by aw ⟨q1,q2⟩ (h.le l) (l.2 _ _ aO)).imp λv S2 ag=>⟨ag.1,?_⟩;rcases ag.one kn (λrow hr=>(B.rb row hr).len) with⟨e,z⟩|a;exact .inl ⟨e,λe=>z (e ▸ B.orig.gd m6)⟩;refine .inr ⟨?_,a⟩;obtain⟨_,_,_,e,_⟩:=a;exact⟨_,e⟩
end
section
variable{S':Sto}{x y:Xv}
noncomputable def qD(q:Q2):D:= .tup [.int q.1,.int q.2]
def zf9(q:Q2):wf S (n+2) (qv q)=dB (qD q):=by
 show(vo (wf S (n+1)) [.int q.1,.int q.2]).map D.tup=_;rfl
def zqn(p q:Q2):eqG (n+2) (qD p) (qD q)=dB (decide (p=q)):=by
 show(XL (eqG (n+1)) [.int p.1,.int p.2] [.int q.1,.int q.2]).map (· &&(([D.int p.1,.int p.2]:n8 D).length==([D.int q.1,.int q.2]:n8 D).length))=_;have e1:∀a b:Int,eqG (n+1) (.int a) (.int b)=dB (a==b):=λa b=>rfl;by_cases h1:p.1=q.1<;>by_cases h2:p.2=q.2<;>simp[XL,e1,h1,h2,Prod.ext_iff]
def Vv(k:P (.bl (neg !=decide (p=q))) S):WO (Uw neg (qv p) (qv q) S) P:=zjW (zf9 p) (zf9 q) rfl (zqn p q) k
def zmW(aw:Big fu)(h0:0<q.2)(hc:C3 q.1 q.2=1)(hb:zk 50000 q.2):W (Ya fu [qv q] S) λv S'=>v= .bl fN/\S=S':=by
 walk_at "wr";unfold ZZ;refine zJ (yc (ZE ?_));ext;apply XJ (v:=fN) rfl;ext;refine⟨nofun,λ_=> ?_⟩;ext;refine .of (show xJ [qv q] S=dB (.int 2,S) from rfl) ?_;ext;refine⟨nofun,λ_=>zN ?_⟩;refine zJ (xg (zoz ?_));ext;refine yE (xs:=[.int q.1,.int q.2]) (λi ρ S'=>S=S'/\∃a,ρ=[dB (qv q),a]) ?_ ?_ ?_ ?_;rintro i ρ S' _ _;rfl
 .rintro i y ρ S' hy ⟨rfl,a,rfl⟩;obtain⟨v,rfl⟩:∃v,y= .int v:=by
   rcases Bi.1 (AX hy) with rfl|h;exact⟨_,rfl⟩;exact⟨_,B5.1 h⟩
  refine .of rfl ?_;dsimp only[BL];refine yc (ZE ?_);ext;apply XJ (v:=fN) rfl;ext;refine⟨nofun,λ_=> ?_⟩;ext;apply XJ (v:=kb) rfl;ext;exact⟨nofun,λ_=>zN ⟨rfl,_,rfl⟩⟩
 .exact⟨rfl,_,rfl⟩
 rintro _ _ ⟨rfl,a,rfl⟩;refine wB (zcV ?_);ext;refine .of (show Ut (qv q) (.int 1) S=dB (.int q.2,S) from rfl) ?_;ext;refine⟨λ_=> ?_,λz=>absurd z (by simpa using h0)⟩;ext;refine .of (show Ut (qv q) (.int 0) S=dB (.int q.1,S) from rfl) ?_;ext;refine .of (show Ut (qv q) (.int 1) S=dB (.int q.2,S) from rfl) ?_;ext;refine(za3 aw h0 (hb.mono ∅)).imp ?_;rintro _ _ ⟨rfl,rfl⟩;ext;rw[za4 h0 h0 hc (C9 ..)];apply Vv;exact⟨by simp,rfl⟩
def zeS:∀n,WM (B6 n (.bl fN))=dB (B6 n fN):=by
 intro n
 induction n with
 |zero=>rfl
 |succ n ih=>rw[Ck,WM,ih];rfl
structure Lst(S:Sto)(n:Nat)(qs:n8 Q2):Prop where
 cell:S[n]? =dB (.lst (qs.map qv))
 low:∀q∈qs,0<q.2/\C3 q.1 q.2=1/\zk 50000 q.2/\zk 2200000 q.1
def zad(aw:Big fu)(h:Lst S n qs)(hl:qs.length<=10):W (xV fu [.ref n,.int qs.length] S) λv S'=>v= .bl fN/\Le S S':=by
 walk_at "wr";unfold Xe;refine zJ (yc (ZE ?_));ext;apply XJ (v:=fN) (by show(zA S (.ref n)).map _=_;rw[zb h.cell];rfl);ext;refine⟨nofun,λ_=> ?_⟩;ext;apply yW (zb h.cell);ext;rw[AV];refine⟨λz=>absurd z (by simp),λ_=>zN ?_⟩;refine wB (zaI (yK (yd (zoy ?_))));ext;refine⟨n,_,rfl,zb h.cell,_,zb h.cell,?_⟩;refine zZ (xs:=qs.map qv) (by rw[AV];exact Ba (yh ⋯)) (λj es S1=>S=S1/\es=B6 j (.bl fN)) ?_ ?_ ?_ ?_;rintro j es S1 _ ⟨rfl,_⟩;exact zb h.cell;rintro j y es S1 hy bD ⟨rfl,rfl⟩;rw[AW,AY] at hy;obtain⟨q,hy,rfl⟩:=hy;obtain⟨q0,qc,qb,_⟩:=h.low q (AX hy);refine .of rfl ?_;ext;refine⟨rfl,?_⟩;ext;refine(zmW aw q0 qc qb).imp ?_;rintro _ _ ⟨rfl,rfl⟩;exact⟨rfl,by rw[Gx]⟩;exact⟨rfl,rfl⟩;rintro es S1 bD ⟨rfl,rfl⟩;ext
 refine .of (show zhG [.ref S.length] (S ++ [.lst (B6 (qs.map qv).length (.bl fN))]) = dB (.bl fN, S ++ [.lst (B6 (qs.map qv).length (.bl fN))]) by
  show((zA _ (.ref S.length)).bind WM).map _=_;rw[zb zx,B7,zeS,Cd]
  simp) ?_
 exact⟨rfl,Le.refl.app⟩
def Fd.lst{many n:Nat}{rws:n8 (n8 Q2)}{ts:n8 Int}{b:Int}(h:Fd many rws S n ts b):Lst S n (ts.map (vm · b))/\(ts.map (vm · b)).length=many/\∀c,c<many->rq ((ts.map (vm · b)).getD c (0,1))*b=vec ts c:=by
 obtain⟨h1,h2,⟨h3,h4,h5⟩,_⟩:=h;refine⟨⟨h1,λq hq=> ?_⟩,by rw[AV,h2],λc hc=> ?_⟩;obtain⟨t,ht,rfl⟩:=Bq.1 hq;have l:=UU (t:=t) h3;exact⟨l.pos.1,l.co,h4.abs (by have:=l.pos;omega),(h5 t ht).abs l.ab⟩;have e:ts[c]? =dB (ts[c]'⋯):=AK _;rw[AU,AW,e];show rq (vm _ b)*b=_;rw[zk5 h3];unfold vec;rw[AU,e];rfl
def Fd.val(h:Fd many rws S n ts b)(hi:i<rws.length):yu many (λc=>el rws i c*rq ((ts.map (vm · b)).getD c (0,1)))=el rws i many:=by
 have e:=h.sol i hi;obtain⟨_,_,hv⟩:=h.lst;have b0:=Xo (show b≠0 by have:=h.pos.1;omega);rw[yg (g:=λc=>(b:Rat)*(el rws i c*rq ((ts.map (vm · b)).getD c (0,1)))) _ λc hc=>by rw[<-hv c hc];grind,Yv] at e;grind
def zdz(hp:0<p.2)(hq:0<q.2)(cp:C3 p.1 p.2=1)(cq:C3 q.1 q.2=1)(e:rq p=rq q):p=q:=by
 have h1:=Wq hp;have h2:=Wq hq;have h3:p.1*q.2=p.2*q.1:=by
  apply G4.1;rw[C1,C1,<-h1,<-h2,e];grind
 rw[<-za4 hp hp cp (C9 ..)];exact za4 hp hq cq h3
def zo8(aw:Big fu)(B:RBs many rws)(h:Yx S rn rws)(hJ:∀(i:Nat) row q,rws[i]? =dB row->row[many]? =dB q->C3 q.1 q.2=1)(hv:zmO many rws v S):W (wF fu [v,.ref rn,.int many] S) λv S'=>v= .bl fN/\Le S S':=by
 obtain⟨xn,zn,ts,b,us,e,free,rfl,fx,hf,fz⟩:=hv;obtain⟨lx,xl,_⟩:=fx.lst;obtain⟨lz,zl,zv⟩:=fz.lst;have mb:=B.m;have hlen:∀row∈rws,row.length=many+1:=λrow hr=>(B.rb row hr).len;have vx:=λi hi=>fx.val (i:=i) hi;have vz:∀i,i<rws.length->yu many (λc=>el rws i c*rq ((us.map (vm · e)).getD c (0,1)))=0:=λi hi=>by
  obtain⟨h1,_,_⟩:=zeR (free:=free) hlen;have:=fz.val (i:=i) (by rw[zcm];omega);rw[(h1 i hi).2] at this;rw[<-this];exact yg _ λc hc=>by rw[(h1 i hi).1 c hc]
 have zf:rq ((us.map (vm · e)).getD free (0,1))=1:=by
  have h1:=((UX hlen hf).1 fz.sol).2;have h2:=zv free hf;rw[h1] at h2;have e0:=Xo (show e≠0 by have:=fz.pos.1;omega);grind
 generalize ts.map (vm · b)=X at lx xl vx;generalize us.map (vm · e)=Z at lz zl vz zf;clear fx fz zv;walk_at "wr";unfold wE;refine zJ (yc (ZE ?_));ext;refine .of (show xJ [Xv.tup [.str "many",.ref xn,.ref zn]] S=dB (.int 3,S) from rfl) ?_;ext;refine⟨nofun,λ_=>ZE ?_⟩;ext;rw[<-xl];refine(zad aw lx ⋯).imp ?_;rintro _ S1 ⟨rfl,l1⟩;ext;refine⟨nofun,λ_=> ?_⟩;ext;apply xm (z:= .ref zn) rfl rfl;ext;rw[xl,<-zl];refine(zad aw (n:=zn) (qs:=Z) ⟨l1.2 _ _ lz.cell,lz.low⟩ ⋯).imp ?_;rintro _ S2 ⟨rfl,l2⟩;ext;refine⟨nofun,λ_=>zN ?_⟩;rw[zl];have mB:=l1.trans l2;have fc:=mB.2 _ _ lx.cell;have js:=mB.2 _ _ lz.cell;obtain⟨ms,r1,r2,r3⟩:=id (h.le mB);refine zJ (xg (xB ?_));ext;refine⟨_,zb r1,_,zb r1,?_⟩;refine yE (xs:=ms.map .ref) (λi ρ S3=>S2=S3/\∃a,ρ=[dB (.tup [.str "many",.ref xn,.ref zn]),dB (.ref rn),dB (.int many),a]) ?_ ?_ ?_ ?_;rintro i ρ S3 _ ⟨rfl,_⟩;exact zb r1
 .rintro i y ρ S3 hy ⟨rfl,a,rfl⟩;rw[AW,AY] at hy;obtain⟨m,hy,rfl⟩:=hy;have hi:i<rws.length:=by rw[<-r2];exact(AQ.1 hy).1
  obtain⟨row,hr,er,ee⟩:=zdx hi;have hm:=(r3 i m row hy er).2;have rl:=hlen row hr;have eq:row[many]? =dB (row[many]'⋯):=AK _;generalize row[many]'⋯=q at eq;have bt:∀z∈row,0<z.2/\zk 50000 z.2/\zk 2200000 z.1:=λz hz=>by
   have:=(B.orig row hr).1.bit z hz;exact⟨this.1,this.2.1.mono ∅,this.2.2.mono ∅⟩
  refine .of rfl ?_;dsimp only[BL];refine yc (ZE ?_);ext;refine(za8 aw hm (.qv row) fc ⟨⋯,⋯⟩ bt (λz hz=>⟨(lx.low z hz).1,(lx.low z hz).2.2⟩)).imp ?_;rintro _ _ ⟨rfl,p,rfl,sp⟩;ext;refine yy (zb hm) (yP (z:=qv q) ⋯ (by rw[AW,B9,eq];rfl)) ?_
  have ep:p=q:=zdz sp.pos.1 (bt q (AX eq)).1 sp.co (hJ i row q er eq) (by
   have:=vx i hi;rw[sp.val,xl,yg _ λc _=>by rw[<-ee c],this,ee many,AU,eq]
   rfl)
  apply Vv;ext;refine⟨λz=>absurd z (by simp[ep]),λ_=> ?_⟩;ext;apply xm (z:= .ref zn) rfl rfl;ext;refine(za8 aw hm (.qv row) js ⟨⋯,⋯⟩ bt (λz hz=>⟨(lz.low z hz).1,(lz.low z hz).2.2⟩)).imp ?_;rintro _ _ ⟨rfl,p',rfl,sp'⟩;ext
  have ep':p'=(0,1):=zdz sp'.pos.1 ∅ sp'.co ∅ (by
   rw[sp'.val,zl,yg _ λc _=>by rw[<-ee c],vz i hi,Vu])
  apply Vv (q:=(0,1));ext;refine⟨λz=>absurd z (by simp[ep']),λ_=>zN ⟨rfl,_,rfl⟩⟩
 .exact⟨rfl,_,rfl⟩
 rintro _ _ ⟨rfl,a,rfl⟩;refine wB (wU (zaI (yK (yd (xB ?_)))));ext;apply xm (z:= .ref zn) rfl rfl;refine⟨_,zb js,_,zb js,?_⟩;refine VN (xs:=Z.map qv) (by rw[AV];exact Ba (yh ⋯)) (λj es S3=>S2=S3/\(free<j->0<es.length)) ?_ ?_ ?_ ?_;rintro j es S3 _ ⟨rfl,_⟩;exact zb js
 .rintro j y es S3 hy _ ⟨rfl,dE⟩;rw[AW,AY] at hy;obtain⟨q,hy,rfl⟩:=hy;refine .of rfl ?_;ext;apply Vv (q:=(0,1));ext;refine⟨λ_=> ?_,λz=>⟨rfl,λhj=> ?_⟩⟩;ext;exact⟨rfl,λ_=>by simp⟩;by_cases e:free=j
  .subst e;have:q=(0,1):=by simpa using z
   rw[AU,hy,this,Cu,Vu] at zf;exact absurd zf ∅
  exact dE ⋯
 .exact⟨rfl,λz=>by omega⟩
 rintro es S3 _ ⟨rfl,dE⟩;rw[AV,zl] at dE;ext;apply yW (zb zx);ext;have:=dE hf;exact⟨congrArg Xv.bl (decide_eq_true ⋯),mB.app⟩
def zo9(aw:Big fu)(B:RBs many rws)(h:Yx S rn rws)(hv:zmP many rws v S):W (wH fu [v,.ref rn,.int many] S) λv S'=>v= .bl fN/\Le S S':=by
 obtain⟨yn,ts,b,rfl,fy⟩:=hv;obtain⟨ly,yl,_⟩:=fy.lst;have mb:=B.m;have nb:=B.n;have hlen:∀row∈rws,row.length=many+1:=λrow hr=>(B.rb row hr).len;have vy:∀c,c<=many->yu rws.length (λi=>rq ((vL rws c).getD i (0,1))*rq ((ts.map (vm · b)).getD i (0,1)))=if c=many then 1 else 0:=λc hc=>by
  have:=fy.val (i:=c) (by rw[zeP];omega);rw[(Wz hc).2] at this;rw[<-this];refine yg _ λi hi=> ?_;rw[(Wz hc).1 i hi];unfold el vL;rw[AU,AW,AK hi,show rws.getD i []=rws[i] by rw[AU,AK hi];rfl];rfl
 generalize ts.map (vm · b)=Y at ly yl vy;clear fy;have cb:∀c,c<=many->∀z∈vL rws c,0<z.2/\zk 50000 z.2/\zk 2200000 z.1:=λc hc z hz=>by
  unfold vL at hz;obtain⟨row,hr,rfl⟩:=Bq.1 hz;have rl:=hlen row hr;have:=(B.orig row hr).1.bit (row.getD c (0,1)) (by rw[AU,AK ⋯];exact C8 _);exact⟨this.1,this.2.1.mono ∅,this.2.2.mono ∅⟩
 have cl:∀c,(vL rws c).length=rws.length:=λc=>AV ..;have ku:∀(c:Nat) (S1:Sto) (xs:n8 Xv),c<=many->S1[yn]? =dB (.lst (Y.map qv))->QxL xs (vL rws c)->W (yV fu [.ref S1.length,.ref yn] (S1++[.lst xs])) λv S'=>S1++[.lst xs]=S'/\∃q,v=qv q/\(q=(0,1)↔c≠many):=λc S1 xs hc hy hx=>by
  refine(za8 aw zx hx (zr hy) ⟨by rw[yl,cl];exact B1 _,by rw[cl];omega⟩ (cb c hc) (λz hz=>⟨(ly.low z hz).1,(ly.low z hz).2.2⟩)).imp ?_;rintro _ _ ⟨rfl,p,rfl,sp⟩;refine⟨rfl,p,rfl,?_⟩;have e:=vy c hc;have gJ:=sp.val;rw[yl,e] at gJ;constructor;rintro rfl z;rw[if_pos z,Vu] at gJ;exact absurd gJ ∅;intro z;rw[if_neg z] at gJ;exact zdz sp.pos.1 ∅ sp.co ∅ (gJ.trans Vu.symm)
 walk_at "wr";unfold wG;refine zJ (yc (ZE ?_));ext;refine .of (show xJ [Xv.tup [.str "none",.ref yn]] S=dB (.int 2,S) from rfl) ?_;ext;refine⟨nofun,λ_=> ?_⟩;obtain⟨ms,r1,r2,r3⟩:=id h;ext;refine yW (zb r1) ?_;ext;rw[AV,r2,<-yl];refine(zad aw ly ⋯).imp ?_;rintro _ S1 ⟨rfl,l1⟩;ext;refine⟨nofun,λ_=>zN ?_⟩;refine zJ (xg (WZ ?_));ext;refine⟨⟨⋯,⋯⟩,yw 0 many,by rw[B9],?_⟩;refine yE (xs:=yw 0 many) (λi ρ S2=>Le S S2/\∃a,ρ=[dB (.tup [.str "none",.ref yn]),dB (.ref rn),dB (.int many),a]) ?_ ?_ ?_ ?_;rintro i ρ S2 _ _;rw[B9];rintro c z ρ S2 hz ⟨l2,a,rfl⟩;obtain⟨hc,rfl⟩:=xS hz;rw[Di];refine .of rfl ?_;dsimp only[BL];refine yc (zjD (wU (zcW (yK ?_))));refine zhe (c:=c) rfl rfl (h.le l2).toX ⋯ (λrow hr=>by rw[hlen row hr];omega) λxs hx=> ?_;ext;refine(ku c S2 xs ⋯ (l2.2 _ _ ly.cell) hx).imp ?_;rintro _ _ ⟨rfl,q,rfl,hq⟩;ext;refine Vv (q:=(0,1)) ?_;ext;refine⟨λz=>absurd z (by simp[hq.2 ⋯]),λ_=>zN ⟨l2.app,_,rfl⟩⟩;exact⟨l1,_,rfl⟩;rintro _ S2 ⟨l2,a,rfl⟩;refine wB (wU (zcW (yK ?_)));refine zhe (c:=many) rfl rfl (h.le l2).toX ⋯ (λrow hr=>by rw[hlen row hr];omega) λxs hx=> ?_;ext;refine(ku many S2 xs (B1 _) (l2.2 _ _ ly.cell) hx).imp ?_;rintro _ _ ⟨rfl,q,rfl,hq⟩;ext;refine Vv (q:=(0,1)) ?_;rw[decide_eq_false (show ¬q=(0,1) from λz=>hq.1 z rfl)];exact⟨rfl,l2.app⟩
def Ui(h:decide (a=b)=c)(k:P (.bl (neg !=c)) S):WO (zd3 neg (.str a) (.str b) S) P:= .of (by show dB (Xv.bl (neg !=decide (a=b)),S)=_;rw[h]) k
def Knw(many:Nat)(word:Str)(rws:n8 (n8 Q2)):Prop:=(word="one"/\KnO many rws)\/(word="many"/\KnM many rws)\/(word="none"/\∃(Y:Nat->Int) (F:Int),F≠0/\Yw rws.length (xj many rws) Y F)
def zqo(many:Nat)(word:Str)(rws:n8 (n8 Q2))(v:Xv)(S:Sto):Prop:=(word="one"/\zmV many rws v S)\/(word="many"/\zmO many rws v S)\/(word="none"/\zmP many rws v S)
def zqp(aw:Big fu)(B:RBs many rws)(kn:Knw many word rws)(h:vi S rn rws)(aO:S[1]? =dB (.tab Zg.t)):W (xp fu [.ref rn,.int many] S) λv S'=>Le S S'/\zqo many word rws v S':=by
 rcases kn with⟨e,k⟩|⟨e,k⟩|⟨e,Y,F,hF,hY⟩
 .exact (zo7 aw B k h aO).imp λv S1 ⟨l,a⟩=>⟨l,.inl ⟨e,a⟩⟩
 .exact (zo3 aw B k h aO).imp λv S1 ⟨l,a⟩=>⟨l,.inr (.inl ⟨e,a⟩)⟩
 exact (zo4 aw B hF hY h aO).imp λv S1 ⟨l,a⟩=>⟨l,.inr (.inr ⟨e,a⟩)⟩
def zqq(aw:Big fu)(B:RBs many rws)(h:Yx S rn rws)(hJ:∀(i:Nat) row q,rws[i]? =dB row->row[many]? =dB q->C3 q.1 q.2=1)(hv:zmV many rws v S):W (vh fu [v,.ref rn,.int many] S) λv S'=>v= .bl fN/\Le S S':=by
 obtain⟨xn,ts,b,rfl,fx⟩:=hv;obtain⟨lx,xl,_⟩:=fx.lst;have mb:=B.m;have nb:=B.n;have vx:=λi hi=>fx.val (i:=i) hi;generalize ts.map (vm · b)=X at lx xl vx;clear fx;walk_at "wr";unfold vg;refine zJ (yc (ZE ?_));ext;refine .of (show xJ [Xv.tup [.str "one",.ref xn]] S=dB (.int 2,S) from rfl) ?_;ext;refine⟨nofun,λ_=> ?_⟩;ext;rw[<-xl];refine(zad aw lx ⋯).imp ?_;rintro _ S1 ⟨rfl,l1⟩;ext;refine⟨nofun,λ_=>zN ?_⟩;rw[xl];have ia:=l1.2 _ _ lx.cell;obtain⟨ms,r1,r2,r3⟩:=id (h.le l1);refine wB (zaI (yK (yd (xB ?_))));ext;refine⟨_,zb r1,_,zb r1,?_⟩;refine zZ (xs:=ms.map .ref) (by rw[AV];exact Ba (yh ⋯)) (λj es S3=>S1=S3/\es=B6 j (.bl fN)) ?_ ?_ ?_ ?_;rintro j es S3 _ ⟨rfl,_⟩;exact zb r1
 .rintro i y es S3 hy bD ⟨rfl,rfl⟩;rw[AW,AY] at hy;obtain⟨m,hy,rfl⟩:=hy;have hi:i<rws.length:=by rw[<-r2];exact(AQ.1 hy).1
  obtain⟨row,hr,er,ee⟩:=zdx hi;have hm:=(r3 i m row hy er).2;have rl:=(B.rb row hr).len;have eq:row[many]? =dB (row[many]'⋯):=AK _;generalize row[many]'⋯=q at eq;have bt:∀z∈row,0<z.2/\zk 50000 z.2/\zk 2200000 z.1:=λz hz=>by
   have:=(B.orig row hr).1.bit z hz;exact⟨this.1,this.2.1.mono ∅,this.2.2.mono ∅⟩
  refine .of rfl ?_;ext;refine⟨rfl,?_⟩;ext;refine(za8 aw hm (.qv row) ia ⟨⋯,⋯⟩ bt (λz hz=>⟨(lx.low z hz).1,(lx.low z hz).2.2⟩)).imp ?_;rintro _ _ ⟨rfl,p,rfl,sp⟩;ext;refine yy (zb hm) (yP (z:=qv q) ⋯ (by rw[AW,B9,eq];rfl)) ?_
  have ep:p=q:=zdz sp.pos.1 (bt q (AX eq)).1 sp.co (hJ i row q er eq) (by
   have:=vx i hi;rw[sp.val,xl,yg _ λc _=>by rw[<-ee c],this,ee many,AU,eq]
   rfl)
  apply Vv;rw[decide_eq_true ep];exact⟨rfl,by rw[Gx];rfl⟩
 .exact⟨rfl,rfl⟩
 rintro es S3 bD ⟨rfl,rfl⟩;ext
 refine .of (show zhG [.ref S1.length] (S1 ++ [.lst (B6 (ms.map Xv.ref).length (.bl fN))]) = dB (.bl fN, S1 ++ [.lst (B6 (ms.map Xv.ref).length (.bl fN))]) by
  show((zA _ (.ref S1.length)).bind WM).map _=_;rw[zb zx,B7,zeS,Cd]
  simp) ?_
 exact⟨rfl,l1.app⟩
def zmX(aw:Big fu)(B:RBs many rws)(h:Yx S rn rws)(co:∀(i:Nat) row q,rws[i]? =dB row->row[many]? =dB q->C3 q.1 q.2=1)(hv:zqo many word rws v S):W (Yc fu [v,.str word,.ref rn,.int many] S) λv S'=>v= .bl fN/\Le S S':=by
 have ex:∃l,v= .tup (.str word::l)/\1<=l.length:=by
  rcases hv with⟨rfl,_,_,_,rfl,_⟩|⟨rfl,_,_,_,_,_,_,_,rfl,_⟩|⟨rfl,_,_,_,rfl,_⟩
  .exact⟨_,rfl,by simp⟩
  .exact⟨_,rfl,by simp⟩
  exact⟨_,rfl,by simp⟩
 obtain⟨l,rfl,hl⟩:=ex;walk_at "wr";unfold Yb;refine zJ (yc (ZE ?_));ext;apply XJ (v:=fN) rfl;ext;refine⟨nofun,λ_=>ZE ?_⟩;ext;refine .of (show xJ [Xv.tup (.str word::l)] S=dB (.int (l.length+1:Nat),S) from rfl) ?_;ext;refine⟨λz=>absurd z (by simp;omega),λ_=>ZE ?_⟩;ext;apply XJ (v:=fN) rfl;ext;refine⟨nofun,λ_=> ?_⟩;ext;apply Ui (decide_eq_true rfl);ext;refine⟨nofun,λ_=>zN ?_⟩;refine zJ (yc ?_);ext;rcases hv with⟨rfl,a⟩|hv;apply Ui (decide_eq_true rfl);ext;refine⟨λ_=> ?_,nofun⟩;ext;exact zqq aw B h co a
 apply Ui (c:=kb) (by rcases hv with⟨rfl,_⟩|⟨rfl,_⟩<;>decide);ext;refine⟨nofun,λ_=>zN ?_⟩;refine zJ (yc ?_);ext;rcases hv with⟨rfl,a⟩|⟨rfl,a⟩
 .apply Ui (decide_eq_true rfl);ext;refine⟨λ_=> ?_,nofun⟩;ext;exact zo8 aw B h co a
 apply Ui (c:=kb) ∅;ext;refine⟨nofun,λ_=>zN ?_⟩;ext;exact zo9 aw B h a
noncomputable def zlj(row:n8 Q2):D:= .lst (row.map qD)
def zlk(h:S[c]? =dB (.lst (T.map qv))):wf S (n+3) (.ref c)=dB (zlj T):=by
 have qs:vo (wf S (n+2)) (T.map qv)=dB (T.map qD):=by
  clear h
  induction T with
  |nil=>rfl
  |cons q T ih=>
   rw[Be,Be];unfold vo;rw[zf9,ih];rfl
 show(zA S (.ref c)).bind (λl=>(vo (wf S (n+2)) l).map D.lst)=_;rw[zb h,B7,qs];rfl
def zcp(h:Yx S c rws):wf S (n+4) (.ref c)=dB (.lst (rws.map zlj)):=by
 obtain⟨ms,h1,h2,h3⟩:=h;have:∀(ms:n8 Nat) (rws:n8 (n8 Q2)),ms.length=rws.length->(∀(i m:Nat) row,ms[i]? =dB m->rws[i]? =dB row->S[m]? =dB (.lst (row.map qv)))->vo (wf S (n+3)) (ms.map .ref)=dB (rws.map zlj):=by
  intro ms
  induction ms with
  |nil=>
   intro rws h _;rw[FV.1 h.symm];rfl
  |cons m ms ih=>
   intro rws h g;cases rws with
   |nil=>cases h
   |cons row rws=>
    rw[Be,Be];unfold vo;rw[zlk (g 0 m row rfl rfl),ih rws (by simpa using h) λi m' r e1 e2=>g (i+1) m' r (by simpa using e1) (by simpa using e2)];rfl
 show(zA S (.ref c)).bind (λl=>(vo (wf S (n+3)) l).map D.lst)=_;rw[zb h1,B7,this ms rws h2 λi m r e1 e2=>(h3 i m r e1 e2).2];rfl
def zeT(h:∀d∈l,eqG n d d=dB fN):eqG (n+1) (.lst l) (.lst l)=dB fN:=by
 have:XL (eqG n) l l=dB fN:=by
  induction l with
  |nil=>rfl
  |cons d l ih=>
   unfold XL;rw[h d (.head _),ih λd hd=>h d (.tail _ hd)];rfl
 unfold eqG;dsimp only;rw[if_pos rfl,this]
def zie:eqG (n+4) (.lst (rws.map zlj)) (.lst (rws.map zlj))=dB fN:=by
 refine zeT λd hd=> ?_;obtain⟨row,_,rfl⟩:=Bq.1 hd;refine zeT λd hd=> ?_;obtain⟨q,_,rfl⟩:=Bq.1 hd;rw[zqn,decide_eq_true rfl]
def zqr(aw:Big fu)(ns:n8 Int):W (zfW fu [.ref 0] (.frz (ns.map Xv.int)::Wd.map .tab)) λv _=>v= .bl fN:=by
 have hs:Scr ns (.frz (ns.map Xv.int)::Wd.map .tab):=rfl;have aO:(Ce.frz (ns.map Xv.int)::Wd.map Ce.tab)[1]? =dB (.tab Zg.t):=rfl;generalize (Ce.frz (ns.map Xv.int)::Wd.map Ce.tab)=S at hs aO;walk_at "wr";unfold zfV;ext;refine(Yd hs ⟨∅,∅⟩ ∅ ∅).imp ?_;rintro _ _ ⟨rfl,m0,rfl,m1,m2⟩;ext;obtain⟨many,rfl⟩:∃n:Nat,m0=n:=⟨m0.toNat,⋯⟩;refine(zmR aw hs (many:=many) ⋯).imp ?_;rintro _ S1 ⟨l1,rn,rws,rfl,hN,Nl,hr⟩;have B:RBs many rws:=⟨⋯,Nl,λrow h=>(hr row h).rb ⋯⟩;ext;refine(zhj B hN (Cq many)).imp ?_;rintro _ S2 ⟨l2,W1,r,rfl,e1⟩;have n4:=hN.le l2;ext;refine vZ (λρ S3=>S2=S3/\ρ=[dB (.ref 0),dB (.int many),dB (.ref rn),dB (.int r),dB (.str (if r=many then "one" else "many")),fC,fC]) (yc ?_) ?_;ext;refine yp (λz=> ?_) (λz=>zN ?_);ext;rw[if_pos ⋯];exact⟨rfl,rfl⟩;rw[if_neg ⋯];exact⟨rfl,rfl⟩;rintro _ S3 ⟨rfl,rfl⟩;refine zJ (vZ (λρ S3=>Le S S3/\∃word,ρ=[dB (.ref 0),dB (.int many),dB (.ref rn),dB (.int r),dB (.str word),fC,fC]/\Yx S3 rn rws/\Knw many word rws) (yc ?_) ?_);ext;rw[show(many:Int)+1=((many+1:Nat):Int) by omega];refine(zhj B n4 (B1 _)).imp ?_;rintro _ S3 ⟨l3,W2,r2,rfl,e2⟩;obtain⟨k1,k2⟩:=zmT B e1 e2;have i9:=(l1.trans l2).trans l3;ext;refine yp (λz=> ?_) (λz=>zN ?_);ext;exact⟨i9,_,rfl,n4.le l3,.inr (.inr ⟨rfl,k1 ⋯⟩)⟩;obtain⟨k3,k4⟩:=k2 ⋯;refine⟨i9,_,rfl,n4.le l3,?_⟩;by_cases e:r=many;rw[if_pos e];exact .inl ⟨rfl,k3 e⟩;rw[if_neg e];exact .inr (.inl ⟨rfl,k4 e⟩);clear hN n4 e1 l1 l2;rintro _ S2 ⟨l2,word,rfl,hN,kn⟩;have nb:=B.n;have co:∀(i:Nat) row q,rws[i]? =dB row->row[many]? =dB q->C3 q.1 q.2=1:=λi row q e1 e2=>((hr row (AX e1)).fv q (AX e2)).2;obtain⟨ms,r1,r2,r3⟩:=id hN;refine zJ (wa (yd (xB ?_)));ext;refine⟨_,zb r1,_,zb r1,?_⟩;refine zZ (xs:=ms.map .ref) (by rw[AV];exact Ba (yh ⋯)) (λj es S3=>Le S2 S3/\∃gX:n8 Nat,es=gX.map .ref/\gX.length=j/\∀(i m:Nat) row,gX[i]? =dB m->rws[i]? =dB row->S3[m]? =dB (.lst (row.map qv))) ?_ ?_ ?_ ?_;rintro j es S3 _ ⟨le,_⟩;exact zb (le.2 _ _ r1)
 .rintro j y es S3 hy bD ⟨le,gX,rfl,gj,h'⟩;rw[AW,AY] at hy;obtain⟨mi,hy,rfl⟩:=hy;have hj:j<rws.length:=by rw[<-r2];exact(AQ.1 hy).1
  have er:rws[j]? =dB rws[j]:=AK hj;generalize rws[j]=row at er;refine .of rfl ?_;ext;refine⟨rfl,?_⟩;ext;apply zl5 (zb (le.2 _ _ (r3 j mi row hy er).2));refine⟨le.app,gX++[S3.length],by simp,by simp[gj],λi m row' e1 e2=> ?_⟩;rcases zci gj e1 with e1|⟨rfl,rfl⟩
  .exact zr (h' i m row' e1 e2)
  rw[er] at e2;cases e2;exact zx
 .exact⟨.refl,[],rfl,rfl,λi m row e=>by simp at e⟩
 rintro es S3 bD ⟨l3,gX,rfl,gj,h'⟩;rw[AV,r2] at gj;have hH:Yx (S3++[Ce.lst (gX.map .ref)]) S3.length rws:=⟨gX,zx,gj,λi m row e1 e2=>⟨λz=>by have:=vp (h' i m row e1 e2);omega,zr (h' i m row e1 e2)⟩⟩;have l4:Le S2 (S3++[Ce.lst (gX.map .ref)]):=l3.app;generalize S3.length=hn at hH ⊢;generalize S3++[Ce.lst (gX.map .ref)]=S4 at hH l4 ⊢;dsimp only[BL];ext;refine(zqp aw B kn hH.toX ((l2.trans l4).2 _ _ aO)).imp ?_;rintro v S5 ⟨l5,a⟩;refine wB (zcV ?_);ext;refine(zmX aw B ((hN.le l4).le l5) co a).imp ?_;rintro _ S6 ⟨rfl,l6⟩;refine⟨_,rfl,λ_=> ?_,nofun⟩;ext;apply zjW (zcp ((hH.le l5).le l6)) (zcp (((hN.le l4).le l5).le l6)) rfl zie;rfl
def zqs(aw:Big fu)(ns:n8 Int)(hl:ns.length<=63):∃S,zfW fu [.ref 0] (.frz (ns.map Xv.int)::Wd.map .tab)=dB (.ok (.bl fN) S):=by
 obtain⟨_,S,e,rfl⟩:=zqr aw ns;exact⟨S,e⟩
end
end
noncomputable def zdA:Nat:=2^9000
def zeU:Big zdA:=by unfold Big zdA;exact B1 _
def zpa{P:Program}{K:AO}{mg:Str->pU pW}(T:Tx K mg)(hT:zma K ts Wd bC):ZO P w K mg base (CXE P w) 42 T.dA.a T.dA.fd ["_law_script"] (zaQ K bC):=zmc (zmu (fu:=zdA) T) hT λns hl=>zqs zeU ns hl
noncomputable def zqt{K:AO}{h:Heap}{mg:Str->pU pW}(X:K.In h)(G:h.Ns mainGlobals mg)
  {aI ao:qo}  {af aq de:qo} {fR:pU qo} {fQ:Nat} {fO:Array (pU pW)} {dY dX:Tok} {gA:qo} {jh:pU qo} {jg:Nat} {jf:Array (pU pW)} {gy gw cM:Tok}
  (aM:Bc K mainGlobals "Step"=dB (dB (.ref aI)))
  (au:Bc K mainGlobals "WholeRow"=dB (dB (.ref ao)))
  (H0:FL K "small_multiple" vA)
  (H1:FL K "inverse_of" YQ)
  (H2:FL K "quotient_behind" wW)
  (H3:FL K "nearest_nought" vB)
  (H4:FL K "quotients_behind" xo)
  (H5:ML K aI "__init__" "Step.__init__" Za)
  (H6:FL K "column_counts" Zb)
  (H7:FL K "take_off" Vb)
  (H8:FL K "remainders_of" Zc)
  (H9:FL K "steps_of" xK)
  (H10:FL K "remainders_meeting" yC)
  (H11:FL K "is_whole" Vc)
  (H12:FL K "common_part" ZS)
  (H13:FL K "lowest" zaT)
  (H14:FL K "fraction" Vd)
  (H15:ML K ao "__init__" "WholeRow.__init__" wb)
  (H16:FL K "shared_bottom" Zd)
  (H17:FL K "tops_over" ZH)
  (H18:FL K "whole_row" ZI)
  (H19:FL K "whole_rows" Zj)
  (H20:FL K "sum_at" VX)
  (H21:FL K "all_meet" Ve)
  (H22:FL K "lifted" Zu)
  (H23:FL K "answer_of" XV)
  (H24:FL K "answer_by" XW)
  (H25:FL K "none_by" Ux)
  (H26:FL K "many_by" Uy)
  (H27:FL K "list_by" Uz)
  (H28:FL K "list_meeting" wX)
  (H29:FL K "free_place" wY)
  (H30:FL K "turned" XX)
  (H31:FL K "level_rows" wZ)
  (H32:FL K "_law_draw" XY)
  (H33:FL K "_law_cell" XZ)
  (H34:FL K "_law_lowest" ZT)
  (H35:FL K "_law_sum" Vf)
  (H36:FL K "_law_share" YR)
  (H37:FL K "_law_list" ZJ)
  (H38:FL K "_law_many_shown" xC)
  (H39:FL K "_law_none_shown" yT)
  (H40:FL K "_law_one_shown" xU)
  (H41:FL K "_law_right" YS)
  (H42:FL K "_law_rank" wK)
  (H43:FL K "_law_part" Wa)
  (H44:FL K "_law_rows" vS)
  (H45:FL K "law" zg1)
  (fA:(WC K ⟨fC,"steps_of","steps_of"⟩).isSome=fN)
  (iE:DN K aI Str.empty=fN) (iD:DG K aI=fN) (iC:Ek K aI=fN) (iB:Bh K (.ref aI) "__setattr__"=dB (dB (.builtin "object.__setattr__"))) (jr:EK K aI=fN) (jj:CZ K (.ref aI)=fN)
  (bg:Bh K (.ref aI) "row"=dB fC)
  (aD:Bh K (.ref aI) "column"=dB fC)
  (aG:Bh K (.ref aI) "inverse"=dB fC)
  (aH:Bh K (.ref aI) "factors"=dB fC)
  (aZ:Bh K (.ref aI) "parts"=dB fC)
  (eQ:DN K ao Str.empty=fN) (eP:DG K ao=fN) (eO:Ek K ao=fN) (eN:Bh K (.ref ao) "__setattr__"=dB (dB (.builtin "object.__setattr__"))) (f7:EK K ao=fN) (eV:CZ K (.ref ao)=fN)
  (ak:Bh K (.ref ao) "parts"=dB fC)
  (ax:Bh K (.ref ao) "last"=dB fC)
  (md:Bc K mainGlobals "abs"=dB fC)
  (m9:Bc K mainGlobals "all"=dB fC)
  (jZ:Bc K mainGlobals "bool"=dB fC)
  (jY:Bc K mainGlobals "dict"=dB fC)
  (eS:Bc K mainGlobals "enumerate"=dB fC)
  (m8:Bc K mainGlobals "int"=dB fC)
  (dS:Bc K mainGlobals "isinstance"=dB fC)
  (m7:Bc K mainGlobals "len"=dB fC)
  (jX:Bc K mainGlobals "list"=dB fC)
  (m5:Bc K mainGlobals "min"=dB fC)
  (iJ:Bc K mainGlobals "range"=dB fC)
  (fB:Bc K mainGlobals "reversed"=dB fC)
  (gS:Bc K mainGlobals "sorted"=dB fC)
  (lZ:Bc K mainGlobals "str"=dB fC)
  (lY:Bc K mainGlobals "sum"=dB fC)
  (iI:Bc K mainGlobals "tuple"=dB fC)
  (lX:Bc K mainGlobals "zip"=dB fC)
  (q8:El K (.builtin "object.__class__") "__get__"=dB (dB (.builtin "getset_descriptor.__get__"))) (pV:FY K (.builtin "object.__class__")=dB fN)
  (aj:Bc K mainGlobals "LotsError"=dB (dB (.ref af))) (bR:Gz K af [.type "ValueError",.type "Exception",.type "BaseException",.type "object"] "ValueError.__new__"=fN) (e7:Bh K (.ref af) "__getattribute__"=dB (dB (.builtin "BaseException.__getattribute__"))) (dZ:Bh K (.ref af) "__getattr__"=dB fC) (eR:HU K af=fN) (eM:Bh K (.ref af) "__class__"=dB (dB (.builtin "object.__class__"))) (e8:C7 K af (.type "object")=dB fN) (bT:Eg K (.ref af)=dB (.type "type")) (bo:C7 K af (.type "BaseException")=dB fN) (bS:C7 K af (.type "ValueError")=dB fN)
  (av:Bc K mainGlobals "NoNumber"=dB (dB (.ref aq))) (cy:Gz K aq [.type "ValueError",.type "Exception",.type "BaseException",.type "object"] "ValueError.__new__"=fN) (eW:Bh K (.ref aq) "__getattribute__"=dB (dB (.builtin "BaseException.__getattribute__"))) (eU:Bh K (.ref aq) "__getattr__"=dB fC) (ft:HU K aq=fN) (fk:Bh K (.ref aq) "__class__"=dB (dB (.builtin "object.__class__"))) (eX:C7 K aq (.type "object")=dB fN) (cA:Eg K (.ref aq)=dB (.type "type")) (bN:C7 K aq (.type "BaseException")=dB fN) (cz:C7 K aq (.type "ValueError")=dB fN)
  (aV:Bc K mainGlobals "NOUGHT"=dB (dB (.ref de)))
  (gG:K.lookup de=dB ⟨.type "tuple",fR,.seq #[.int 0 dY,.int 1 dX] fQ,fO⟩)
  (cV:Bc K mainGlobals "ONE"=dB (dB (.ref gA)))
  (kN:K.lookup gA=dB ⟨.type "tuple",jh,.seq #[.int 1 gy,.int 1 gw] jg,jf⟩)
  (cY:Bc K mainGlobals "FIRST_MODULUS"=dB (dB (.int 1000000000000000000000000000000000000000000009 cM))):Tx K mg:={aP:=H0.to X G (λ_ _ _ _ _ _=>at_ λ_=>at_ λ_=>at_ λ_=>at0 rfl),bJ:=H1.to X G (λ_ _ _ _ _ _=>at_ λ_=>at_ λ_=>at0 rfl),aJ:=H2.to X G (λ_ _ _ _ _ _=>at_ λ_=>at_ λ_=>at_ λ_=>at0 rfl),aQ:=H3.to X G (λ_ _ _ _ _ _=>at_ λ_=>at_ λ_=>at0 rfl),aE:=H4.to X G (λ_ _ _ _ _ _=>at_ λ_=>at_ λ_=>at_ λ_=>at0 rfl),ay:=H5.to (λ_ _ _ _ _ _=>at_ λ_=>at_ λ_=>at_ λ_=>at_ λ_=>at_ λ_=>at_ λ_=>at0 rfl),fF:=⟨jr,(H5.to (ps:=["self","row","column","inverse","factors","parts"]) (λ_ _ _ _ _ _=>at_ λ_=>at_ λ_=>at_ λ_=>at_ λ_=>at_ λ_=>at_ λ_=>at0 rfl)).mt.at_,(H5.to (ps:=["self","row","column","inverse","factors","parts"]) (λ_ _ _ _ _ _=>at_ λ_=>at_ λ_=>at_ λ_=>at_ λ_=>at_ λ_=>at_ λ_=>at0 rfl)).mt.fn,jj⟩,aY:=H6.to X G (λ_ _ _ _ _ _=>at_ λ_=>at0 rfl),cB:=H7.to X G (λ_ _ _ _ _ _=>at_ λ_=>at_ λ_=>at_ λ_=>at0 rfl),aX:=H8.to X G (λ_ _ _ _ _ _=>at_ λ_=>at_ λ_=>at0 rfl),bG:=H9.to X G (λ_ _ _ _ _ _=>at_ λ_=>at_ λ_=>at0 rfl),aB:=H10.to X G (λ_ _ _ _ _ _=>at_ λ_=>at_ λ_=>at_ λ_=>at_ λ_=>at0 rfl),cC:=H11.to X G (λ_ _ _ _ _ _=>at_ λ_=>at0 rfl),bz:=H12.to X G (λ_ _ _ _ _ _=>at_ λ_=>at_ λ_=>at0 rfl),dy:=H13.to X G (λ_ _ _ _ _ _=>at_ λ_=>at_ λ_=>at0 rfl),cD:=H14.to X G (λ_ _ _ _ _ _=>at_ λ_=>at_ λ_=>at0 rfl),ah:=H15.to (λ_ _ _ _ _ _=>at_ λ_=>at_ λ_=>at_ λ_=>at0 rfl),cU:=⟨f7,(H15.to (ps:=["self","parts","last"]) (λ_ _ _ _ _ _=>at_ λ_=>at_ λ_=>at_ λ_=>at0 rfl)).mt.at_,(H15.to (ps:=["self","parts","last"]) (λ_ _ _ _ _ _=>at_ λ_=>at_ λ_=>at_ λ_=>at0 rfl)).mt.fn,eV⟩,aW:=H16.to X G (λ_ _ _ _ _ _=>at_ λ_=>at0 rfl),bW:=H17.to X G (λ_ _ _ _ _ _=>at_ λ_=>at_ λ_=>at0 rfl),bV:=H18.to X G (λ_ _ _ _ _ _=>at_ λ_=>at0 rfl),bF:=H19.to X G (λ_ _ _ _ _ _=>at_ λ_=>at0 rfl),dw:=H20.to X G (λ_ _ _ _ _ _=>at_ λ_=>at_ λ_=>at0 rfl),cE:=H21.to X G (λ_ _ _ _ _ _=>at_ λ_=>at_ λ_=>at_ λ_=>at0 rfl),dz:=H22.to X G (λ_ _ _ _ _ _=>at_ λ_=>at_ λ_=>at_ λ_=>at_ λ_=>at0 rfl),bX:=H23.to X G (λ_ _ _ _ _ _=>at_ λ_=>at_ λ_=>at0 rfl),bY:=H24.to X G (λ_ _ _ _ _ _=>at_ λ_=>at_ λ_=>at_ λ_=>at0 rfl),cO:=H25.to X G (λ_ _ _ _ _ _=>at_ λ_=>at_ λ_=>at_ λ_=>at0 rfl),cQ:=H26.to X G (λ_ _ _ _ _ _=>at_ λ_=>at_ λ_=>at_ λ_=>at_ λ_=>at_ λ_=>at0 rfl),cR:=H27.to X G (λ_ _ _ _ _ _=>at_ λ_=>at_ λ_=>at_ λ_=>at0 rfl),bh:=H28.to X G (λ_ _ _ _ _ _=>at_ λ_=>at_ λ_=>at_ λ_=>at_ λ_=>at0 rfl),bK:=H29.to X G (λ_ _ _ _ _ _=>at_ λ_=>at_ λ_=>at0 rfl),du:=H30.to X G (λ_ _ _ _ _ _=>at_ λ_=>at_ λ_=>at0 rfl),bI:=H31.to X G (λ_ _ _ _ _ _=>at_ λ_=>at_ λ_=>at_ λ_=>at0 rfl),ck:=H32.to X G (λ_ _ _ _ _ _=>at_ λ_=>at_ λ_=>at_ λ_=>at_ λ_=>at0 rfl),cu:=H33.to X G (λ_ _ _ _ _ _=>at_ λ_=>at_ λ_=>at0 rfl),bA:=H34.to X G (λ_ _ _ _ _ _=>at_ λ_=>at_ λ_=>at0 rfl),cF:=H35.to X G (λ_ _ _ _ _ _=>at_ λ_=>at_ λ_=>at0 rfl),bL:=H36.to X G (λ_ _ _ _ _ _=>at_ λ_=>at0 rfl),cj:=H37.to X G (λ_ _ _ _ _ _=>at_ λ_=>at_ λ_=>at0 rfl),aL:=H38.to X G (λ_ _ _ _ _ _=>at_ λ_=>at_ λ_=>at_ λ_=>at0 rfl),aK:=H39.to X G (λ_ _ _ _ _ _=>at_ λ_=>at_ λ_=>at_ λ_=>at0 rfl),aR:=H40.to X G (λ_ _ _ _ _ _=>at_ λ_=>at_ λ_=>at_ λ_=>at0 rfl),bM:=H41.to X G (λ_ _ _ _ _ _=>at_ λ_=>at_ λ_=>at_ λ_=>at_ λ_=>at0 rfl),c7:=H42.to X G (λ_ _ _ _ _ _=>at_ λ_=>at_ λ_=>at0 rfl),c9:=H43.to X G (λ_ _ _ _ _ _=>at_ λ_=>at_ λ_=>at_ λ_=>at0 rfl),bZ:=H44.to X G (λ_ _ _ _ _ _=>at_ λ_=>at_ λ_=>at0 rfl),dA:=H45.to X G (λ_ _ _ _ _ _=>at_ λ_=>at0 rfl),da:=fA,cS:=H9.choose_spec.1,aM:=aI,gF:=CT X G aM,d7:=⟨iE,iD,iC,iB⟩,cH:=aM,bg:=bg,aD:=aD,aG:=aG,aH:=aH,aZ:=aZ,au:=ao,di:=CT X G au,aU:=⟨eQ,eP,eO,eN⟩,aS:=au,ak:=ak,ax:=ax,dh:=BD X G md,gE:=BD X G m9,eY:=BD X G jZ,gD:=BD X G jY,bU:=BD X G eS,gC:=BD X G m8,ai:=BD X G dS,fE:=BD X G m7,dJ:=BD X G jX,iO:=BD X G m5,aF:=BD X G iJ,df:=BD X G fB,eh:=BD X G gS,iN:=BD X G lZ,fD:=BD X G lY,dI:=BD X G iI,cT:=BD X G lX,aj:=af,en:=CT X G aj,bR:=⟨CT X G aj,bR⟩,eD:=⟨e7,dZ,bo,eR,eM,q8,pV,e8⟩,bT:=bT,bo:=bo,bS:=bS,av:=aq,eZ:=CT X G av,cy:=⟨CT X G av,cy⟩,f9:=⟨eW,eU,bN,ft,fk,q8,pV,eX⟩,cA:=cA,bN:=bN,cz:=cz,aV:=de,cI:=CT X G aV,cK:=λH=> .inr ⟨_,_,_,gG,rfl,rfl,by show 2<=sizeLine;decide,.cons ⟨_,rfl⟩ (.cons ⟨_,rfl⟩ .nil)⟩,cV:=gA,fG:=CT X G cV,fM:=λH=> .inr ⟨_,_,_,kN,rfl,rfl,by show 2<=sizeLine;decide,.cons ⟨_,rfl⟩ (.cons ⟨_,rfl⟩ .nil)⟩,bO:=⟨_,CT X G cY⟩}
def zpb{l:G1}{w:World}{K:AO}{mg:Str->pU pW}{fa:qo}{ts:n8 qo}(hB:zca K ts Wd=fN)(uz:mg "law"=dB (.ref fa))(T:Tx K mg):
  ∃fd:FuncData,(∀(s:pX) (v:pW),BindsTo s fd ⟨[v],[]⟩ [("_law_script",v)])/\∀base:Heap,K.In base->base.Ns mainGlobals mg->ZO l.prog w K mg base (CXE l.prog w) 42 fa fd ["_law_script"] (zaQ K (XO K Wd)):=by
 have e:=zoI T.dA (λ_ _=>trivial) uz;subst e
 exact⟨_,λs v=>by
  obtain⟨_,_,_,_,_,_,_,_,_,e,_⟩:=T.dA.F.ex;rw[e]
  exact .of_eq rfl,λbase _ _=>zpa T (zgU hB)⟩
def zqF{l:G1}{q:Program}{loose:n8 Str}{XP:(Str->pU pW)->Heap->Prop}{YP:World->Heap->Prop}{d:DefRec}{K:Params->AO}{ts:n8 qo}(hn:l.most=dB 63)(lP:d.params.defaults=[])
  (hY:∀(w:World) (h:Heap),YP w h->(K w.params).In h/\∀P∈ts,h.get? P=dB (DJ #[])) (hB:∀w:World,zca (K w.params) ts Wd=fN)
  (F:∀(w:World) (mg:Str->pU pW) (fa:qo) (h:Heap),zca (K w.params) ts Wd=fN->(K w.params).In h->h.Ns mainGlobals mg->mg d.name=dB (.ref fa)->
   ∃fd:FuncData,(∀(s:pX) (u:pW),BindsTo s fd ⟨[u],[]⟩ [("_law_script",u)])/\∀base:Heap,(K w.params).In base->base.Ns mainGlobals mg->ZO l.prog w (K w.params) mg base (CXE l.prog w) 42 fa fd ["_law_script"] (zaQ (K w.params) (XO (K w.params) Wd))) (oU:importsNone q=fN) (ie:l.prog.given.tree=fC):
  Ie q loose XP YP l.row.toRowW d [] (λf vs=>HF f vs):=
 L2.zj8 (n:=63) (k:=42) (x:="_law_script") (CX:=λw=>CXE l.prog w) hn ∅ lP ⟨rfl,∅,∅,rfl⟩ hY hB (λw mg fa h=>F w mg fa h (hB w)) (λ_ _ _ _ _ ⟨_,_,_,_,_,z⟩=>z) oU ie
end Prf
open PySem.W
local macro_rules|`(tactic|walk_at "fl")=>`(tactic|exact Prf.zp7 (by k_is) (by k_is) (by k_is) (by k_is))|`(tactic|walk_at "ml")=>`(tactic|exact Prf.zp8 (by k_is) (by k_is) (by k_is) (by k_is) (by k_is))
set_option maxRecDepth 100000 in
set_option maxHeartbeats 0 in
set_option tactic.hygienic true in
theorem PySem.Challenge.cw_lots_k08_whole_equations_answered_holds : PySem.Challenge.rw_lots_k08_whole_equations_answered.Holds := by
 w_on;o_law;k_head;(case hw=>w_witness2)
 k_fill
 refine Prf.zqF (l:=PySem.Challenge.rw_lots_k08_whole_equations_answered) rfl rfl (λw h Y=>⟨PySem.W.km_in_of Y,PySem.W.km_tabs_of Y⟩) ?B ?F ?I rfl
 case I=>kernel_rfl
 case B=>intro w;kernel_rfl
 case F=>
  intro w mg fa h hB KX G jL;refine Prf.zpb hB jL ?_;apply Prf.zqt KX G
  iterate 2 k_is
  iterate 5 walk_at "fl"
  walk_at "ml"
  iterate 9 walk_at "fl"
  walk_at "ml"
  iterate 30 walk_at "fl"
  kernel_rfl
  iterate 39 k_is
  k_exc
  iterate 9 k_is
  k_exc
  iterate 13 k_is
