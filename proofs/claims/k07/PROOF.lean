import PyProof.Rows.All
import Wide.All
import OpenK.AllK
import Wide.FinOn
import Lean
import PyProof.EqAt
import PyProof.EqKinds
import PyProof.TupleCall
import PySem.Challenge.RW_lots_k07_many_and_none_known
set_option Elab.async false
set_option linter.all false
set_option tactic.hygienic false
set_option maxRecDepth 100000
set_option compiler.extract_closed false
abbrev mZ.{u}(a:Type u):=List a
abbrev pU.{u}(a:Type u):=Option a
abbrev pW:=PySem.Value
abbrev pX:=PySem.Shared
abbrev qm:=PySem.Addr
open Option renaming some->dE,none->fC
open Bool renaming true->fJ,false->kb
set_option hygiene false in
local macro_rules|`(tactic|walk_at "!a")=>`(tactic|(intro F j σ H ρ S r Q En0 e k;rcases zt e with⟨x,S1,e1,e⟩|⟨c,S1,e1,rfl⟩))
set_option hygiene false in
local macro_rules|`(tactic|walk_at "!b")=>`(tactic|(intro X hP hw hK hc i pins s σ H E I hf st hg;subst hP hw hK))
set_option hygiene false in
local macro_rules|`(tactic|walk_at "!c")=>`(tactic|(intro F j σ H ρ S r Q En0 e k;rcases zt e with⟨xs,S1,e1,e⟩|⟨c,S1,e1,rfl⟩))
set_option hygiene false in
local macro_rules|`(tactic|walk_at "!d")=>`(tactic|(intro F j σ H ρ S r R En0 e k;rcases zt e with⟨x,S1,e1,e⟩|⟨c,S1,e1,rfl⟩))
set_option hygiene false in
local macro_rules|`(tactic|walk_at "!e")=>`(tactic|(intro F j σ H ρ S S' x y z u v Q E1 hx hy h k))
set_option hygiene false in
local macro_rules|`(tactic|walk_at "!f")=>`(tactic|(intro F j D' σ H ρ S fl E0 e k;rcases xP e with⟨x,S1,e1,e⟩|⟨c,S1,e1,rfl⟩))
set_option hygiene false in
local macro_rules|`(tactic|walk_at "!g")=>`(tactic|(intro F j σ H ρ S r Q En0 e kk;rcases zt e with⟨x,S1,e1,e⟩|⟨c,S1,e1,rfl⟩))
set_option hygiene false in
local macro_rules|`(tactic|walk_at "!h")=>`(tactic|(intro F j σ H ρ S S' xs z vs Q E1 hv h k))
local macro_rules | `(tactic| omega) => `(tactic| first | with_reducible assumption | lia | omega +splitDisjunctions)
open PySem.W renaming Frag->Ar,nsIn->AY,findIn->B2,mg_none_of->Bj,kitOne->BI,mroIn->BR,emptyDict->Ck,mg_of->Cz,keepIn->CI,instObj->CO,kla_obj->CQ,fnOf->D4,kitMeta->D5,hasDictIn->Du,tabObj->Dw,plainGet->DA,codeHdIn->DB,typeIn->DV,codeIn->DW,plainOver->E8,specialIn->E9,cellsFrom_some->Ed,makesIn->Ey,looks_findIn->Ez,InstAt->EK,subIn->F4,methodObj->F6,kitx_list->F8,isFn->Fg,envX->Fk,takerIn->FD,takesIn->FE,findObj->FH,OpenLaw->FI,lookIn->G2,kitCls->G5,excIn->Gn,clsIn->Gp,codeHd_of_K->Gv,callWith_K->GB,codeRec_of->GC,kitx_tuple->GJ,kitx_dict->GV,handedIn->Hi,isClsIn->HD,kla_fn->HE,WalkO->HJ,KitX->HW
open List renaming getElem?_eq_getElem->As,getElem?_eq_some_iff->Au,getD_eq_getElem?_getD->Av,length_map->Aw,getElem?_map->Ax,mem_of_getElem?->Ay,getElem?_append_left->Az,getElem?_append_right->AG,mem_singleton->AI,replicate->AK,size_toArray->AQ,mem_append->AU,mem_cons->AW,map_cons->AZ,mem_append_right->B5,length_take->B6,length_cons->B7,mem_cons_of_mem->B8,length_append->Ba,getElem?_set->Bc,mem_map->Be,take_succ->Bf,getElem?_of_mem->Bi,take_length->Bq,set->Bt,mem_cons_self->Bu,lookup_cons->Bx,range->BD,getElem?_take_of_lt->BK,getElem?_eq_none->BQ,nodup_cons->BU,replicate_succ->BW,getElem?_range->BX,find?_cons->C2,map_append->C5,getElem_mem->C8,take_of_length_le->C9,mem_range->Ca,length_set->Cq,getElem?_zip_eq_some->Ct,getElem_inj->Cv,all_eq_true->Cy,getElem?_replicate->CB,idxOf_lt_length_of_mem->CD,length_singleton->CJ,mem_or_eq_of_mem_set->CM,lookup->CN,append_nil->CP,mem_of_mem_take->CW,flatten_cons->CY,any_cons->CZ,mem_append_left->D6,filter_cons->Dc,any_eq_true->De,eq_of_mem_replicate->Dg,filterMap_cons->Di,map_congr_left->Dj,mem_filter->Dk,of_mem_zip->Dm,map_singleton->Dp,range_succ->Dq,getElem_idxOf->Ds,all_cons->DC,drop_eq_getElem_cons->DF,zip_cons_cons->DI,lookup_append->DN,map_map->DQ,filter_append->DT,set_set->DU,length_eq_zero_iff->DZ,append_assoc->Eb,getElem_map->Ej,cons_append->Ek,length_filter_le->Ep,dropLast_eq_take->Es,getElem?_set_ne->Ew,length_nil->EA,mem_iff_getElem->ED,map_set->EG,take_append_of_le_length->EJ,length_drop->Fh,getElem?_cons_succ->Fy,forIn_cons->FG,length_zip->FJ,getElem?_set_self->FP,range_succ_eq_map->FT,drop_eq_nil_of_le->G0,getElem?_reverse->G6,nodup_nil->G7,forIn_nil->G8,take_append_drop->Gb,length_dropLast->Gc,getElem?_zipIdx->Ge,contains_eq_mem->Gf,mem_of_mem_drop->Gj,replicate_succ'->Gk,filter_sublist->Gx,length_reverse->Gy,mem_filterMap->GA,map_nil->GD,find?_eq_none->GK,map_inj_right->GR,getElem_take->GW,ext_getElem?->GX,length_range->GY,nodup_append->Ha,foldl->Ht,nil_append->Hv,take_zero->HF,drop_zero->HH,all_map->HX,toArray->HY,any_map->HZ
open Nat renaming le_trans->AA,le_refl->AF,lt_of_lt_of_le->AJ,le_of_lt->AX,ne_of_lt->B3,lt_of_le_of_lt->B9,mul_le_mul_right->Bn,ne_of_gt->Bo,sub_self->BL,lt_succ_of_lt->BZ,lt_irrefl->C0,pow_le_pow_right->C3,le_succ->C7,lt_succ_self->Cd,le_of_eq->Ci,zero_le->Cj,mul_le_mul_left->Cm,gcd->Cu,add_sub_cancel->CK,mul_le_mul->D2,le_add_right->Df,div_add_mod->DG,mul_comm->DJ,zero_add->DL,pow_succ->DP,pow_mul->Ef,mul_assoc->Eh,mod_eq_of_lt->Em,min_eq_left->EH,pow_add->ER,mul_mod->EV,pow_pos->EW,mod_lt->Fc,succ_ne_self->Fj,min_self->Fo,pow_zero->Fp,pow_lt_pow_iff_right->Fq,gcd_pos_of_pos_right->Fs,gcd_comm->Ft,div_div_eq_div_mul->FW,le_mul_of_pos_left->FY,add_mul_div_right->G9,div_lt_of_lt_mul->Gi,le_of_dvd->Gr,pow_succ'->Gu,succ_mul->GF,add_comm->GH,mod_mod_of_dvd->GL,eq_zero_or_pos->GP,gcd_dvd_right->GZ,le_of_lt_succ->Hb,add_mul->Hc,Coprime->Hd,two_mul->He,le_of_not_lt->Hk,not_lt_of_le->Hl,gcd_dvd_left->Hm,div_eq_of_lt->Hn,coprime_comm->Hs,not_lt->HB,add_le_add->HG,add_assoc->HK
open Option renaming map_eq_some_iff->AB,bind_some->AO,bind_eq_some_iff->Bp,getD_some->By,map_some->Cr,isSome_iff_exists->Cw,bind->Ee,map->EF,isSome_some->GI,isSome_map->GU,getD_none->Hj,bind_none->Hq
open Or renaming inl->AH,inr->Dd
open Int renaming toNat_natCast->AV,mul_le_mul_of_nonneg_left->B1,emod_lt_of_pos->Br,mul_le_mul_of_nonneg_right->Bs,le_trans->Bv,natAbs_mul->Bz,emod_nonneg->BG,le_of_lt->BP,gcd->C1,mul_comm->C4,ediv_eq_of_eq_mul_right->Cb,mul_one->CF,fdiv_eq_ediv_of_nonneg->CH,pow_succ->CT,mul_zero->CU,zero_add->CV,mul_le_mul->D3,natAbs_ediv_le_natAbs->D8,mul_nonneg->D9,ofNat_le->Dh,natCast_pow->Dr,mul_pos->Dt,mul_ediv_add_emod->Dy,mul_neg->DE,eq_of_mul_eq_mul_left->DH,zero_mul->DR,natAbs_natCast->DS,mul_nonneg_of_nonpos_of_nonpos->Ec,mul_assoc->Ei,lt_of_not_ge->Eo,natAbs_dvd_natAbs->Et,pow_zero->EE,le_refl->EL,neg_mul->EY,one_pos->EZ,dvd_trans->F5,mul_sub->FX,natAbs_neg->Ga,mul_ediv_cancel'->Gh,sub_add_cancel->GN,dvd_refl->GO,add_zero->GQ,pow_pos->Hf,one_mul->Hg,ediv_le_self->Ho,natCast_emod->Hr,neg_mul_neg->HC
open Bool renaming false_ne_true->B4,and_eq_true->BV,eq_iff_iff->Dl,false_eq_true->DM,noConfusion->El,or_eq_true->EC,beq_eq_decide_eq->G1,or_false->HI
open Classical renaming byContradiction->Bg,propDecidable->DX
open PySem renaming mem_of_lookup->Bh,intBits_le_iff->EB,frameOf->Gm,Within->Gz,call->Hu,Expr->Hw
open Option.some renaming injEq->Bm,inj->BF
open False renaming elim->Bw
open PySem.F renaming plainAttrs_list->BE,slot_list_append->BM,type_list_append->BO,plain_min_loop->CG,plainAttrs_dict->D0,plain_extend_loop->D7,slot_dict_pop->Dv,slot_zip_next->Dx,slot_dict_items->DY,slot_dict_get->Er,entry_extend_loop->F9,args_dict_pop_3->Fw,args_dict_get_3->Fx,plain_list_iadd->Fz,args_zip_next_1->FA,type_dict_items->FC,entry_dict_pop->FQ,entry_dict_get->FR,entry_min_loop->FU,entry_zip_next->FV,type_dict_pop->G4
open Ne renaming symm->BH
open PyProof.Rows renaming callWith_type1->BJ
open Rat renaming intCast_mul->C6,mul_zero->Dz,one_mul->Eg,zero_mul->EI,add_zero->Fu,intCast_add->FK,intCast_inj->FN,intCast_neg->FO,mul_one->FZ
open True renaming intro->Cp
open Array renaming length_toList->D1,forIn_toList->DK,append_assoc->F0,getD_eq_getD_getElem?->F1,getElem?_eq_getElem->Fb,size->Gg,toList_append->Gw,getD->Hx,size_push->Hz,toList->HQ
open ForInStep renaming yield->Dn
open List.Pairwise renaming nil->F7
open Sum renaming inl->Fe,inr->Ff
open Prod.mk renaming injEq->Gq,inj->Ic
open Function renaming comp->Gs
open Array.Perm renaming refl->Hy
open List.cons renaming injEq->HA
open PySem.EqMixed renaming eq_bool_str->HL,eq_str_bool->HM,ne_bool_str->HN,ne_str_bool->HP,eq_int_str->HR,eq_str_int->HS,ne_int_str->HU,ne_str_int->HV
open PySem.W.Looks renaming here->Ie
open PySem PySem.Spec PyProof.Rows
noncomputable section
local macro_rules|`(∅)=>`(by decide)
local macro_rules|`(⋯)=>`(by omega)
local macro_rules|`(nofun)=>`(fun z=>by cases z)
local macro_rules|`(*...*)=>`(by decide+kernel)
structure PySem.W.Fast:Prop where(tw10028291562775657742 tw10044284083080833457 tw1005237403265009082 tw10119904945767159297 tw10218517888270069693 tw10392638424081390570 tw10393011595442637197 tw10566456478265970073 tw10639149956196051143 tw10666375160608636850 tw10920027498300123942 tw10933853631347139794 tw10944724176445472069 tw11003509748177483170 tw11194688803364509017 tw11216040360074850747 tw1126570765796021544 tw11325402573027800037 tw11689470502832615596 tw11927975148173602104 tw11943728521229506669 tw11970286892232285919 tw11982314319761045864 tw121110650299924642 tw12157251372807281784 tw12560172433584254493 tw12664374462766002661 tw12704115249315920677 tw12709530048887863786 tw12747624761546861197 tw12853943434226442590 tw1286689528613015620 tw12915893759371889335 tw12972419019851373502 tw12978185675069348108 tw12980886166501956251 tw12999608111738026953 tw13127620411408249799 tw13195783175923551235 tw13203400183834440275 tw1327399376090922465 tw13365955584053984935 tw13457678189489065167 tw13493780353072054177 tw1351967752909973327 tw13706944126923286831 tw13815583921984181168 tw13854842940908534104 tw14015505344712418575 tw14019608049919155740 tw14068115336159087931 tw14097334562155299995 tw14138072575982193818 tw14155897266312619002 tw14164073828853784179 tw1426732791640552363 tw14340525085331349620 tw14393356641201808086 tw14435256552479159581 tw14485806581744436118 tw14490241964302391534 tw14750348838698904631 tw14755350293315899775 tw14756373905773577144 tw14764692178599921806 tw14854103056580939972 tw14962793538473930646 tw15084145187661423877 tw15190139510268077144 tw15208508074403555623 tw15216723071059026499 tw15273911117916866491 tw15302252583926782600 tw1530384031343105387 tw15313254962158962789 tw15633646396078371528 tw15645364586722860828 tw15736492450412213117 tw15804810746227981964 tw15806938632725193640 tw15849571290737784557 tw15851645746330904155 tw16137331224929827341 tw16324330576056395108 tw16362581117974766974 tw16418447605553192323 tw1645404565105759399 tw16557148899393565351 tw1664151282617067979 tw16773030019092599670 tw16842793403877280791 tw16979814052801316267 tw1712299354226235140 tw17239007291902288602 tw17341459861958073049 tw1741922518646944452 tw17520217135404759816 tw17533790516592697962 tw17713456432229151080 tw1776486144303771857 tw17874789815446593350 tw17890514179876120508 tw17947913616761039645 tw17990021081191485 tw18005124852591840288 tw18048597608575794268 tw1810590001016088985 tw1812400219845922784 tw18163665522319092142 tw18214011684004166357 tw18256127857068939918 tw18293175649304373298 tw18431715867286984514 tw1959876609375845865 tw200341670467130940 tw2162230787800072074 tw2225497019969191229 tw2315728589425218803 tw2409593993816593937 tw2512148692549861362 tw2625561299362918145 tw263553356941603402 tw2668604574848619762 tw2720103989658988915 tw2785916484085172723 tw2866442370033577210 tw3035409251530587370 tw3165902135921562573 tw3191047361620955797 tw3209047876985279759 tw3244865303665874107 tw3423978153754411430 tw342572544481268196 tw3465805731045733268 tw35267979937809750 tw3622712604716324338 tw3720064469464719515 tw383916817815005622 tw3884609350513284869 tw3919570897116247202 tw3987562046193520686 tw3993965004070910946 tw4042361006906230373 tw4085061181537579259 tw4142841673297598490 tw4280050142632959059 tw4374715111578919225 tw4390404989011521830 tw440419918121338758 tw4473350327802222144 tw4551276672012839169 tw4736488039764928070 tw4776243160213964987 tw4901475779704217070 tw4949654802437749958 tw4952793115164957593 tw4994518456023088349 tw5002391968732466166 tw5193651236664347445 tw5210299325667360221 tw5252390125213597013 tw5276475477661168221 tw5494666630506138010 tw5557012898632434496 tw5668317098417393464 tw5675641593011678524 tw5691160753572429766 tw5702245573261740186 tw5703171695851804141 tw5753502172941561022 tw5792738402255135413 tw5846710438441887214 tw5928160898643319224 tw593282238124642384 tw5952710224416778834 tw604089711572971795 tw6070440139418710691 tw6147227289521032570 tw616903201491439760 tw6185617984333298587 tw637470271495135660 tw6384343786258827129 tw6411059556161318242 tw6422610266789993810 tw6445982570339896475 tw6469843489803554703 tw6471156455275905314 tw6504935220548421827 tw659923432461591177 tw6610887543165676145 tw672592862860289984 tw6739975488590056996 tw6741195582939572134 tw6751197205221040999 tw6815009076937599690 tw7409728005099303144 tw7414355300701093536 tw7435936772166029503 tw744959393017641002 tw7524211267642576687 tw7599151667391718465 tw7657795781862700862 tw7742924430753053470 tw7917446980213824845 tw797812473243806004 tw8061595833281174345 tw806895550276937284 tw8084507408957785512 tw8102386318828033996 tw8175002812766862154 tw8218669832942443198 tw8230770907045002017 tw8285962953305100633 tw828861447281144531 tw8300370790312695359 tw8352822195820683547 tw843126171757926253 tw855197177637476540 tw8577919575797767629 tw8641298804916883379 tw8705464530630375413 tw8718871493572294571 tw8737763394372185168 tw8842866395654420250 tw8863113078325101029 tw8866917291409212238 tw8965309599459104989 tw9076806884157905192 tw9103650331888660944 tw9104758471129272491 tw9119822077508779633 tw9153004238930753543 tw9198963744765300699 tw9203341369600670119 tw9263845322242094210 tw9325881494314268694 tw9343007309946085369 tw9376632208717588578 tw9426338457174996494 tw9452343309824051780 tw9460573868649237298 tw9468767799262307049 tw9484626664650488297 tw9545217551219394988 tw9613270670583045923 tw9653407250567844136 tw9774450068783136008 tw9890988247473759557 tw9911666768102357832 tw9961089048374621164:True)
namespace L2
abbrev Key:=Sum Int Str
noncomputable def zaJ:Key->pW->Bool
 | .inl k,v=>Value.isInt k v
 | .inr x,v=>Value.isStrOf x v
noncomputable def znr(w:World):Key->Int
 | .inl k=>hashInt k
 | .inr x=>hashStr w x
theorem yZ:∀{k:Key} {v:pW},zaJ k v=fJ->(∃i t,k=Fe i/\v=Value.int i t)\/(∃x t,k=Ff x/\v=Value.str x t)
 | .inl i,v,h=>by
  obtain⟨t,e⟩:=Value.isInt_shape (k:=i) (v:=v) h;exact .inl ⟨i,t,rfl,e⟩
 | .inr x,v,h=>by
  obtain⟨t,e⟩:=Value.isStrOf_shape (x:=x) (v:=v) h;exact .inr ⟨x,t,rfl,e⟩
def zb3(i:Int)(t:Tok):zaJ (.inl i) (.int i t)=fJ:=by simp[zaJ,Value.isInt]
def zb4(x:Str)(t:Tok):zaJ (.inr x) (.str x t)=fJ:=by simp[zaJ,Value.isStrOf]
def zns(a b:Int):decide ((Fe a:Key)=Fe b)=(a==b):=by
 by_cases e:a=b;subst e;simp;have h:¬(Fe a:Key)=Fe b:=λq=>e (Sum.inl.inj q);rw[decide_eq_false h];exact(beq_eq_false_iff_ne.mpr e).symm
def znt(a b:Str):decide ((Ff a:Key)=Ff b)=decide (a=b):=by
 by_cases e:a=b;subst e;simp;have h:¬(Ff a:Key)=Ff b:=λq=>e (Sum.inr.inj q);rw[decide_eq_false h,decide_eq_false e]
def znu(a:Int)(b:Str):decide ((Fe a:Key)=Ff b)=kb:=decide_eq_false (λq=>nomatch q)
def znv(a:Str)(b:Int):decide ((Ff a:Key)=Fe b)=kb:=decide_eq_false (λq=>nomatch q)
noncomputable def yu(prog:Program)(w:World):PySem.KeyKind prog w Key where
 is:=zaJ
 hash:=znr w
 inj:=λv a b ha hb=>by
  rcases yZ ha with⟨i,t,rfl,rfl⟩|⟨x,t,rfl,rfl⟩
  .rcases yZ hb with⟨j,u,rfl,e⟩|⟨y,u,rfl,e⟩
   .injection e with e1 _;rw[e1]
   exact nomatch e
  rcases yZ hb with⟨j,u,rfl,e⟩|⟨y,u,rfl,e⟩
  .exact nomatch e
  injection e with e1 _;rw[e1]
 byValue:=λk v h=>by
  rcases yZ h with⟨i,t,rfl,rfl⟩|⟨x,t,rfl,rfl⟩<;>rfl
 pyHash:=λhv h=>by
  rcases yZ hv with⟨i,t,rfl,rfl⟩|⟨x,t,rfl,rfl⟩
  .exact wpAny_pyHash_int h
  exact wpAny_pyHash_str h
 eqBool:=λhu hv h=>by
  rcases yZ hu with⟨i,t,rfl,rfl⟩|⟨x,t,rfl,rfl⟩
  .rcases yZ hv with⟨j,u,rfl,rfl⟩|⟨y,u,rfl,rfl⟩
   .rw[zns] at h;exact wpAny_eqBool_int h
   rw[znu] at h;exact SeqAt.EqAt.int_str i t y u _ _ _ _ h
  rcases yZ hv with⟨j,u,rfl,rfl⟩|⟨y,u,rfl,rfl⟩
  .rw[znv] at h;exact SeqAt.EqAt.str_int x t j u _ _ _ _ h
  rw[znt] at h;exact wpAny_eqBool_str h
 «strs» :=λk x t v h=>by
  rcases yZ h with⟨i,u,rfl,e⟩|⟨y,u,rfl,e⟩
  .exact nomatch e
  injection e with e1 _
  subst e1;cases v<;>rfl
def zdW(prog:Program)(w:World)(i:Int)(t:Tok):(yu prog w).is (.inl i) (.int i t)=fJ:=zb3 i t
def zdX(prog:Program)(w:World)(x:Str)(t:Tok):(yu prog w).is (.inr x) (.str x t)=fJ:=zb4 x t
inductive V where
 |non|bl (b:Bool)|int (i:Int)|str (x:Str)|byt (b:Array UInt8)|flt (b:UInt64)|ref (a:Addr)|ty (n:String)
 deriving DecidableEq
def zI:V->pW->Prop
 | .non,u=>u=Value.none
 | .bl b,u=>u=Value.bool b
 | .int i,u=>∃t,u=Value.int i t
 | .str x,u=>∃t,u=Value.str x t
 | .byt b,u=>∃t,u=Value.bytes b t
 | .flt b,u=>∃t,u=Value.float b t
 | .ref a,u=>u=Value.ref a
 | .ty n,u=>u=Value.type n
noncomputable abbrev zR:mZ V->mZ pW->Prop:=Paired zI
def zR.length(r:zR xs us):xs.length=us.length:=Paired.length r
theorem zR.get:∀{xs:mZ V} {us:mZ pW} {i:Nat} {x:V},zR xs us->xs[i]? =dE x->∃u,us[i]? =dE u/\zI x u
 |_,_,_,_,.nil,e=>by simp at e
 |_,_,0,_,.cons r _,e=>by simp at e;subst e;exact⟨_,rfl,r⟩
 |_,_,i+1,x,.cons _ t,e=>by
  obtain⟨u,h1,h2⟩:=zR.get (i:=i) (x:=x) t (by simpa using e);exact⟨u,by simpa using h1,h2⟩
theorem zR.set(r:zI x u):∀{xs:mZ V} {us:mZ pW} (i:Nat),zR xs us->zR (xs.set i x) (us.set i u)
 |_,_,_,.nil=> .nil
 |_,_,0,.cons _ t=> .cons r t
 |_,_,i+1,.cons q t=> .cons q (zR.set r i t)
def zR.append(h:zR xs us)(k:zR ys ws):zR (xs++ys) (us++ws):=by
 induction h with
 |nil=>exact k
 |cons r _ ih=>exact .cons r ih
theorem zR.take:∀{xs:mZ V} {us:mZ pW} (n:Nat),zR xs us->zR (xs.take n) (us.take n)
 |_,_,0,_=> .nil
 |_,_,_+1,.nil=> .nil
 |_,_,n+1,.cons r t=> .cons r (zR.take n t)
theorem zR.drop:∀{xs:mZ V} {us:mZ pW} (n:Nat),zR xs us->zR (xs.drop n) (us.drop n)
 |_,_,0,r=>r
 |_,_,_+1,.nil=> .nil
 |_,_,n+1,.cons _ t=>zR.drop n t
def Xd:pU V->pU pW->Prop
 |some v,dE u=>zI v u
 |none,fC=>True
 |_,_=>False
def KV{κ:Type}:mZ (κ×V)->mZ (κ×pW)->Prop:=Paired λ(p:κ×V) (q:κ×pW)=>p.1=q.1/\zI p.2 q.2
noncomputable def kV:Key->V
 | .inl i=> .int i
 | .inr x=> .str x
inductive NK where
 |int (i:Int)|str (x:Str)|tup (l:List NK)
noncomputable instance:DecidableEq NK:=λa b=>DX (a=b)
mutual
noncomputable def zif(w:World):NK->Int
 | .int i=>znr w (.inl i)
 | .str x=>znr w (.inr x)
 | .tup l=>reduceHash (Builtin.Tuple.tupleHashOf (zig w l))
noncomputable def zig(w:World):mZ NK->mZ Int
 |[]=>[]
 |k::r=>zif w k::zig w r
end
mutual
noncomputable def zlg:NK->Nat
 | .int _=>0
 | .str _=>0
 | .tup l=>zmU l+1
noncomputable def zmU:mZ NK->Nat
 |[]=>0
 |k::r=>max (zlg k) (zmU r)
end
noncomputable def znw(w:World)(x:NK×qm×pW):DictEntry:={hash:=zif w x.1,key:= .ref x.2.1,val:=x.2.2}
inductive HO where
 |lst (xs:List V)
 |tup (xs:List V)
 |dK (kvs:List (Key×V))|dT (kvs:List (List Key×V))
 |dN (ks:List (NK×Addr×V))
 |set (S:Int->Bool) (n:Nat)
 |ins (C dx:Addr) (fs:List (Str×V))
 |own (x:Addr)
 |xd (fs:List (Str×V))
 |met (f x:Addr)
 |rng (lo hi:Int)
 |frz (o:Obj) (u:HO)
 |tbl (ps:Array Value)
 |ext (φ:Heap->Prop)
abbrev Hp:=qm->pU HO
noncomputable def upd(H:Hp)(a:qm)(o:HO):Hp:=λb=>if b=a then dE o else H b
def zw{H:Hp}:upd H a o a=dE o:=by unfold upd;rw[if_pos rfl]
def zi{H:Hp}(h:b≠a):upd H a o b=H b:=by unfold upd;rw[if_neg h]
def zo0{H:Hp}(h:H a=dE o)(h':H b=dE u)(d:o≠u):a≠b:=by
 intro e;subst e;rw[h] at h';exact d (BF h')
def wY{H:Hp}(h:H a=dE o)(h':H b=fC):a≠b:=by
 intro e;subst e;rw[h] at h';cases h'
def UW(h:Heap)(a:qm)(items:Array pW):Prop:=∃o,h.get? a=dE o/\o.cls= .type "tuple"/\∃n,o.data= .seq items n/\o.dict=fC
def UW.tup(x:UW h a items):IsTup h a items:=by
 obtain⟨o,e,c,n,d,_⟩:=x;exact⟨o,e,c,n,d⟩
def UW.new(h:Heap)(items:Array pW):UW (h.push {cls:= .type "tuple",data:= .seq items}) h.objs.size items:=⟨_,Heap.get?_push_size _ rfl,rfl,_,rfl,rfl⟩
section
variable(P:Program)(w:World)
def yL(H:Hp)(h:Heap)(a:qm):HO->Prop
 | .lst xs=>xs.length<=sizeLine/\∃(ae:mZ pW) (n:Nat),zR xs ae/\h.get? a=dE {cls:= .type "list",data:= .seq ae.toArray n}
 | .tup xs=>xs.length<=sizeLine/\∃ae:mZ pW,zR xs ae/\UW h a ae.toArray
 | .dK kvs=>kvs.length<=sizeLine/\(a==sysModules)=kb/\∃vs,KV kvs vs/\h.DictOf (yu P w) a vs
 | .dT kvs=>kvs.length<=sizeLine/\(a==sysModules)=kb/\∃xs:mZ (mZ Key×qm×pW),
   Paired (λ(p:mZ Key×V) (q:mZ Key×qm×pW)=>p.1=q.1/\H q.2.1=dE (.tup (p.1.map kV))/\zI p.2 q.2.2) kvs xs/\
   ∃o es ep,h.get? a=dE o/\o.ExactDict/\o.data= .dict es ep/\es.toList=xs.map (entryOfKey (tupleKind (yu P w)))/\(xs.map (·.1)).Nodup
 | .dN ks=>ks.length<=sizeLine/\(a==sysModules)=kb/\∃xs:mZ (NK×qm×pW),Paired (λ(p:NK×qm×V) (q:NK×qm×pW)=>p.1=q.1/\p.2.1=q.2.1/\zI p.2.2 q.2.2) ks xs/\
   ∃o es ep,h.get? a=dE o/\o.ExactDict/\o.data= .dict es ep/\es.toList=xs.map (znw w)/\(xs.map (·.1)).Nodup
 | .set S n=>h.SetOf (intKind P w) a S n
 | .ins C dx fs=>H dx=dE (.own a)/\fs.length<=1000/\dx≠a/\h.get? a=dE (CO C dx)/\
   ∃mA,h.Ns1 dx mA/\(∀f,Xd (fs.lookup f) (mA f))/\Gz mA (fs.map (·.1))
 | .own _=>∃o,h.get? a=dE o
 | .xd fs=>∃mA,h.Ns1 a mA/\∀f,Xd (fs.lookup f) (mA f)
 | .rng lo hi=>∃t u v,h.get? a=dE {cls:= .type "range",data:= .fields #[.int lo t,.int hi u,.int 1 v]}
 | .frz o u=>h.get? a=dE o/\yL H h a u
 | .tbl ps=>h.get? a=dE {cls:= .none,data:= .fields ps}
 | .met f x=>h.get? a=dE (F6 (.ref f) (.ref x))
 | .ext φ=>φ h/\(∃o,h.get? a=dE o)/\∀h1 h2:Heap,φ h1->(∀o,h1.get? a=dE o->h2.get? a=dE o)->φ h2
def HOk(H:Hp)(h:Heap):Prop:=∀a o,H a=dE o->yL P w H h a o
end
section
variable{P:Program}{w:World}{H H':Hp}{h h':Heap}{a:qm}{o:HO}
def yL.lt(x:yL P w H h a o):a<h.objs.size:=by
 cases o with
 |lst xs=>obtain⟨_,_,_,_,e⟩:=x;exact Heap.lt_size e
 |tup xs=>obtain⟨_,_,_,p⟩:=x;exact p.tup.lt
 |dK kvs=>obtain⟨_,_,_,_,o,_,_,e,_⟩:=x;exact Heap.lt_size e
 |dT kvs=>obtain⟨_,_,_,_,o,_,_,e,_⟩:=x;exact Heap.lt_size e
 |dN ks=>obtain⟨_,_,_,_,o,_,_,e,_⟩:=x;exact Heap.lt_size e
 |set S n=>obtain⟨o,_,_,_,e,_⟩:=x;exact Heap.lt_size e
 |ins C dx fs=>obtain⟨_,_,_,e,_⟩:=x;exact Heap.lt_size e
 |own y=>obtain⟨_,e⟩:=x;exact Heap.lt_size e
 |xd fs=>obtain⟨_,⟨_,_,_,e,_⟩,_⟩:=x;exact Heap.lt_size e
 |rng lo hi=>obtain⟨_,_,_,e⟩:=x;exact Heap.lt_size e
 |frz ob u=>obtain⟨e,_⟩:=x;exact Heap.lt_size e
 |tbl ps=>exact Heap.lt_size (show h.get? a=dE _ from x)
 |met f y=>exact Heap.lt_size (show h.get? a=dE _ from x)
 |ext φ=>obtain⟨_,⟨_,e⟩,_⟩:=x;exact Heap.lt_size e
def Paired.mapP{α β:Type}{F G:α->β->Prop}{l₁:mZ α}{l₂:mZ β}(h:Paired F l₁ l₂)(f:∀a b,F a b->G a b):Paired G l₁ l₂:=by
 induction h with
 |nil=>exact .nil
 |cons r _ ih=>exact .cons (f _ _ r) ih
def yL.stay(x:yL P w H h a o)(k:∀b u,(b=a\/H b=dE (.own a))->h.get? b=dE u->h'.get? b=dE u)
  (ho:∀b,H b=dE (.own a)->H' b=dE (.own a)) (ht:∀b xs,H b=dE (.tup xs)->H' b=dE (.tup xs)):yL P w H' h' a o:=by
 induction o with
 |lst xs=>obtain⟨z,ae,n,r,e⟩:=x;exact⟨z,ae,n,r,k _ _ (.inl rfl) e⟩
 |tup xs=>obtain⟨z,ae,r,ob,e,c⟩:=x;exact⟨z,ae,r,ob,k _ _ (.inl rfl) e,c⟩
 |dK kvs=>obtain⟨z,y,vs,r,ob,es,ep,e,c⟩:=x;exact⟨z,y,vs,r,ob,es,ep,k _ _ (.inl rfl) e,c⟩
 |dT kvs=>
  obtain⟨z,y,xs,r,ob,es,ep,e,c⟩:=x;exact⟨z,y,xs,Paired.mapP r λp q z=>⟨z.1,ht _ _ z.2.1,z.2.2⟩,ob,es,ep,k _ _ (.inl rfl) e,c⟩
 |dN ks=>obtain⟨z,y,xs,r,ob,es,ep,e,c⟩:=x;exact⟨z,y,xs,r,ob,es,ep,k _ _ (.inl rfl) e,c⟩
 |set S n=>obtain⟨ob,es,ep,t,e,c⟩:=x;exact⟨ob,es,ep,t,k _ _ (.inl rfl) e,c⟩
 |ins C dx fs=>
  obtain⟨d,z,ne,e,mA,⟨od,es,ep,e2,c⟩,r⟩:=x;exact⟨ho _ d,z,ne,k _ _ (.inl rfl) e,mA,⟨od,es,ep,k _ _ (.inr d) e2,c⟩,r⟩
 |own y=>obtain⟨ob,e⟩:=x;exact⟨ob,k _ _ (.inl rfl) e⟩
 |xd fs=>obtain⟨mA,⟨od,es,ep,e,c⟩,r⟩:=x;exact⟨mA,⟨od,es,ep,k _ _ (.inl rfl) e,c⟩,r⟩
 |rng lo hi=>obtain⟨t,u,v,e⟩:=x;exact⟨t,u,v,k _ _ (.inl rfl) e⟩
 |frz ob u ih=>obtain⟨e,q⟩:=x;exact⟨k _ _ (.inl rfl) e,ih q⟩
 |tbl ps=>
  have e:h.get? a=dE {cls:= .none,data:= .fields ps}:=x;show h'.get? a=dE {cls:= .none,data:= .fields ps};exact k a _ (.inl rfl) e
 |met f y=>
  have e:h.get? a=dE (F6 (.ref f) (.ref y)):=x;show h'.get? a=dE (F6 (.ref f) (.ref y));exact k a _ (.inl rfl) e
 |ext φ=>obtain⟨p,⟨o,e⟩,st⟩:=x;exact⟨st _ _ p λo q=>k _ _ (.inl rfl) q,⟨o,k _ _ (.inl rfl) e⟩,st⟩
def HOk.lt(x:HOk P w H h)(e:H a=dE o):a<h.objs.size:=(x a o e).lt
def HOk.fresh(x:HOk P w H h)(e:h.objs.size<=a):H a=fC:=by
 cases q:H a with
 |none=>rfl
 |some u=>exact absurd (AJ (x.lt q) e) (C0 _)
def HOk.kept(x:HOk P w H h)(k:∀b u,h.get? b=dE u->h'.get? b=dE u):HOk P w H h':=λa o e=>
 (x a o e).stay (λb u _ q=>k b u q) (λ_ q=>q) λ_ _ q=>q
def HOk.laid(x:HOk P w H h)(k:∀b u,h.get? b=dE u->h'.get? b=dE u)(hp:h.objs.size<=a)(new:yL P w (upd H a o) h' a o):HOk P w (upd H a o) h':=λb u e=>by
 have hn:=x.fresh hp;by_cases hb:b=a;subst hb;rw[zw] at e;cases e;exact new
 rw[zi hb] at e;exact(x b u e).stay (λc v _ q=>k c v q) (λc q=>by rw[zi (wY q hn)];exact q) λc xs q=>by rw[zi (wY q hn)];exact q
end
def Rd(H:Hp)(a:qm)(u:HO):Prop:=H a=dE u\/∃o,H a=dE (.frz o u)
def Rd.ok{P:Program}{H:Hp}(r:Rd H a u)(x:HOk P w H h):yL P w H h a u:=by
 rcases r with r|⟨o,r⟩
 .exact x a u r
 obtain⟨_,q⟩:=x a _ r;exact q
def Mut:pU HO->Prop
 |some (.lst _)=>True
 |some (.dK _)=>True
 |some (.dT _)=>True
 |some (.dN _)=>True
 |some (.set _ _)=>True
 |some (.ins _ _ _)=>True
 |some (.ext _)=>True
 |_=>False
section
variable{P:Program}{H:Hp}
def HOk.write(ok:HOk P w H h)(mu:Mut (H x))(he:e=x\/H e=dE (.own x))(k:∀b u,b≠e->h.get? b=dE u->h'.get? b=dE u)(j7:∃u,h'.get? e=dE u)
  (new:yL P w (upd H x o') h' x o'):HOk P w (upd H x o') h':=λb u q=>by
 have kF:∀c y,H c=dE (.own y)->c≠x:=λc y r z=>by subst z;rw[r] at mu;exact mu
 have nk:∀c xs,H c=dE (.tup xs)->c≠x:=λc xs r z=>by subst z;rw[r] at mu;exact mu
 by_cases hb:b=x;subst hb;rw[zw] at q;cases q;exact new;rw[zi hb] at q;by_cases jT:b=e
 .have q':H b=dE (.own x):=by
   rcases he with z|z;exact absurd (jT.trans z) hb;rw[jT];exact z
  rw[q] at q';cases q';obtain⟨v,hv⟩:=j7;exact⟨v,by rw[jT];exact hv⟩
 refine (ok b u q).stay (λc v hc r=>k c v ?_ r) (λc r=>by rw[zi (kF c b r)];exact r) λc xs r=>by rw[zi (nk c xs r)];exact r
 rcases hc with rfl|hc;exact jT;rintro rfl;rcases he with z|z;exact kF c b hc z;rw[hc] at z;cases z;exact hb rfl
end
structure Un(fs ex:mZ qm)(H H':Hp)(h h':Heap):Prop where
 keep:∀b o,h.get? b=dE o->H b=fC->b∉fs->b∉ex->h'.get? b=dE o
 slot:∀b o,h.get? b=dE o->H b=fC->b∈fs->b∉ex->∃sl,h'.get? b=dE {o with slots:=sl}
 free:∀b o,h.get? b=dE o->H b=fC->b∉ex->H' b=fC
 there:∀b o,h.get? b=dE o->b∉ex->∃o',h'.get? b=dE o'
 tups:∀b xs,H b=dE (.tup xs)->H' b=dE (.tup xs)
 frzs:∀b o u,H b=dE (.frz o u)->H' b=dE (.frz o u)
 tbls:∀b ps,H b=dE (.tbl ps)->∃more,H' b=dE (.tbl (ps++more))
section
variable{H H1 H2:Hp}
def Un.any(u:Un fs ex H H1 h h1)(q:h.get? b=dE ob)(n:H b=fC)(hx:b∉ex):∃sl,h1.get? b=dE {ob with slots:=sl}:=by
 by_cases hb:b∈fs;exact u.slot b ob q n hb hx;exact⟨ob.slots,u.keep b ob q n hb hx⟩
def Un.trans(a:Un fs ex H H1 h h1)(b:Un fs ex H1 H2 h1 h2):Un fs ex H H2 h h2 where
 keep:=λc ob q n hc hx=>b.keep c ob (a.keep c ob q n hc hx) (a.free c ob q n hx) hc hx
 slot:=λc ob q n hc hx=>by
  obtain⟨sl,e1⟩:=a.slot c ob q n hc hx;obtain⟨sl',e2⟩:=b.slot c _ e1 (a.free c ob q n hx) hc hx;exact⟨sl',e2⟩
 free:=λc ob q n hx=>by
  obtain⟨o',e1⟩:=a.there c ob q hx;exact b.free c o' e1 (a.free c ob q n hx) hx
 there:=λc ob q hx=>by
  obtain⟨o',e1⟩:=a.there c ob q hx;exact b.there c o' e1 hx
 tups:=λc xs q=>b.tups c xs (a.tups c xs q)
 frzs:=λc ob xs q=>b.frzs c ob xs (a.frzs c ob xs q)
 tbls:=λc ps q=>by
  obtain⟨m1,e1⟩:=a.tbls c ps q;obtain⟨m2,e2⟩:=b.tbls c _ e1;exact⟨m1++m2,by rw[e2,F0]⟩
def Un.kept(k:∀b u,h.get? b=dE u->h'.get? b=dE u):Un fs ex H H h h':=
 ⟨λb ob q _ _ _=>k b ob q,λb ob q _ _ _=>⟨ob.slots,k b ob q⟩,λ_ _ _ n _=>n,λb ob q _=>⟨ob,k b ob q⟩,λ_ _ q=>q,λ_ _ _ q=>q,λ_ ps q=>⟨#[],by rw[q];simp⟩⟩
def Un.refl:Un fs ex H H h h:=Un.kept λ_ _ q=>q
def Un.laid(k:∀b u,h.get? b=dE u->h'.get? b=dE u)(hp:h.objs.size<=a)(hn:H a=fC):Un fs ex H (upd H a o) h h' where
 keep:=λb u q _ _ _=>k b u q
 slot:=λb u q _ _ _=>⟨u.slots,k b u q⟩
 free:=λb u q n _=>by rw[zi (B3 (AJ (Heap.lt_size q) hp))];exact n
 there:=λb u q _=>⟨u,k b u q⟩
 tups:=λb xs q=>by rw[zi (wY q hn)];exact q
 frzs:=λb u xs q=>by rw[zi (wY q hn)];exact q
 tbls:=λb ps q=>⟨#[],by rw[zi (wY q hn),q];simp⟩
def Un.write(mu:Mut (H x))(he:e=x\/H e=dE (.own x))(k:∀b u,b≠e->h.get? b=dE u->h'.get? b=dE u)(j7:∃u,h'.get? e=dE u):Un fs ex H (upd H x o) h h':=by
 have hx:∀b,H b=fC->b≠x:=λb n z=>by subst z;rw[n] at mu;exact mu
 have hb:∀b,H b=fC->b≠e:=λb n z=>by
  subst z;rcases he with r|r;exact hx b n r;rw[n] at r;cases r
 have hm:∀b u,H b=dE u->¬Mut (dE u)->b≠x:=λb u q nm z=>by subst z;rw[q] at mu;exact nm mu
 refine⟨λb u q n _ _=>k b u (hb b n) q,λb u q n _ _=>⟨u.slots,k b u (hb b n) q⟩,λb u q n _=>by rw[zi (hx b n)];exact n,λb u q _=> ?_,
  λb xs q=>by rw[zi (hm b _ q λz=>z)];exact q,λb u xs q=>by rw[zi (hm b _ q λz=>z)];exact q,λb ps q=>⟨#[],by rw[zi (hm b _ q λz=>z),q];simp⟩⟩
 by_cases jT:b=e;subst jT;exact j7;exact⟨u,k b u jT q⟩
end
noncomputable def trk(h:Heap)(H:Hp):mZ qm:=(BD h.objs.size).filter λa=>(H a).isSome
noncomputable def zcO(h:Heap)(H:Hp):Heap:=PySem.W.hideAll h (trk h H)
def zhm(h:Heap)(H:Hp):(zcO h H).objs.size=h.objs.size:=PySem.W.hideAll_size _ _
def zih{H:Hp}(e:h.get? b=dE o)(n:H b=fC):(zcO h H).get? b=dE o:=
 PySem.W.hideAll_get _ e λhm=>by
  have q:(H b).isSome=fJ:=(Dk.mp hm).2;rw[n] at q;simp at q
def zlh{H:Hp}(e:(zcO h H).get? b=dE o):h.get? b=dE o/\H b=fC:=by
 have e':h.get? b=dE o:=PySem.W.of_hideAll (trk h H) e;refine⟨e',?_⟩;cases q:H b with
 |none=>rfl
 |some x=>
  have hm:b∈trk h H:=Dk.mpr ⟨Ca.mpr (Heap.lt_size e'),by simp[q]⟩;have z:(zcO h H).get? b=fC:=PySem.W.hideAll_none (trk h H) hm;rw[z] at e;cases e
structure Mod(P:Program)(K:Ar)(mg:Str->pU pW)(base:Heap):Prop where
 kin:K.In base
 glob:base.Ns mainGlobals mg
 blt:∃mb,base.Ns builtinsNs mb/\∀x:Str,x≠"__name__"->mb x=bootBuiltins x
 nolimit:base.NoLimit
 bmn:∃bm ob,mg "__builtins__"=dE (.ref bm)/\bm≠builtinsNs/\base.get? bm=dE ob/\ob.cls= .type "module"/\ob.dict=dE builtinsNs/\ob.data= .plain
 seer:base.NoSeer
 tree:P.given.tree=fC
structure Cx where
 prog:Program
 w:World
 K:Ar
 mg:Str->pU pW
 base:Heap
 A:Around
 N:mZ Str
 s₀:pX
 H₀:Hp
 env:Env
 outer:mZ Env
 stack:mZ Env
 ex:mZ qm
 fn:Str->Bool
 zn:Str->Bool
 calm:Bool
 pn:mZ (qm×Obj)
 xe:pW->pX->Prop
noncomputable def frs(l:mZ Env):mZ qm:=l.filterMap (·.frame)
noncomputable abbrev Cx.fs(X:Cx):mZ qm:=frs X.outer
def Vis(sc:Scope)(x:Str):Prop:=sc.names.lookup x=dE .local\/sc.names.lookup x=dE .cell\/sc.names.lookup x=dE .free
def Loc(sc:Scope)(x:Str):Prop:=sc.names.lookup x=dE .local\/sc.names.lookup x=dE .cell
def zqg(env:Env)(h:Heap)(m:Str->pU pW)(x:Str)(u:pW):Prop:=
 (env.kindOf x=dE .local/\m x=dE u)\/((env.kindOf x=dE .cell\/env.kindOf x=dE .free)/\∃c,env.cells.lookup x=dE c/\h.IsCell c (dE u))
structure Cx.Ok(X:Cx):Prop where
 mod:Mod X.prog X.K X.mg X.base
 kind:X.env.scope.kind= .function
 glob:X.env.globals=mainGlobals
 blt:X.env.builtins=builtinsNs
 above:X.s₀.heap.objs.size<=X.env.locals
 inj:∀x y c,X.env.cells.lookup x=dE c->X.env.cells.lookup y=dE c->x=y
 has:∀x,(X.env.kindOf x=dE .cell\/X.env.kindOf x=dE .free)->∃c,X.env.cells.lookup x=dE c
 cab:∀x c,(X.fn x=fJ\/X.zn x=fJ)->X.env.cells.lookup x=dE c->X.s₀.heap.objs.size<=c
 hd:X.calm=fJ->X.A.handled=fC
 frames:X.A.frames=dE X.stack
 stk:X.stack=X.outer\/(X.stack=X.env::X.outer/\X.env.frame=dE X.env.locals)
 exf:∀b∈X.ex,b≠X.env.locals/\∀x c,X.env.cells.lookup x=dE c->c≠b
 bs:∀b o,X.base.get? b=dE o->X.s₀.heap.get? b=dE o/\X.H₀ b=fC
 bsz:X.base.objs.size<=X.s₀.heap.objs.size
 noex:∀b o,X.base.get? b=dE o->b∉X.ex
 exfs:∀b∈X.ex,b∉X.fs
 funs:X.s₀.heap.FunFrames X.base X.outer
 frf:∀b∈X.fs,X.H₀ b=fC
structure Inv(X:Cx)(pins:mZ (qm×Obj))(σ:mZ (pU V))(H:Hp)(s:pX):Prop where
 ok:X.Ok
 os:s.os=X.s₀.os
 bare:AllBare s.gens
 base:Un X.fs X.ex X.H₀ H X.s₀.heap s.heap
 loc:∃m,s.heap.Ns X.env.locals m/\∀(i:Nat) (x:Str) (v:V),X.N[i]? =dE x->σ[i]? =dE (dE v)->Vis X.env.scope x->∃u,zI v u/\zqg X.env s.heap m x u
 cell:∀x c,X.env.cells.lookup x=dE c->∃v,s.heap.IsCell c v
 free:H X.env.locals=fC
 freeC:∀x c,X.env.cells.lookup x=dE c->H c=fC\/(X.fn x=kb/\∃o,H c=dE (.frz o (.own 0)))
 pin:∀p∈X.pn++pins,s.heap.get? p.1=dE p.2/\H p.1=fC/\p.1≠X.env.locals/\p.1∉X.fs/\∀v,p.2.data≠ .cell v
 hok:HOk X.prog X.w H s.heap
 len:σ.length=X.N.length
section
variable{X:Cx}{pins:mZ (qm×Obj)}{σ:mZ (pU V)}{H H':Hp}{s:pX}{h':Heap}
def Cx.Ok.nofr(ok:X.Ok)(e:X.base.get? b=dE o):b∉X.fs:=λhb=>by
 have:=(ok.funs.mem hb).1;rw[e] at this;cases this
def Inv.bs(I:Inv X pins σ H s):∀b o,X.base.get? b=dE o->s.heap.get? b=dE o/\H b=fC:=λb o e=>
 ⟨I.base.keep b o (I.ok.bs b o e).1 (I.ok.bs b o e).2 (I.ok.nofr e) (I.ok.noex b o e),I.base.free b o (I.ok.bs b o e).1 (I.ok.bs b o e).2 (I.ok.noex b o e)⟩
def Inv.bk(I:Inv X pins σ H s):∀b o,X.base.get? b=dE o->s.heap.get? b=dE o:=λb o e=>(I.bs b o e).1
def Inv.mod(I:Inv X pins σ H s):Mod X.prog X.K X.mg X.base:=I.ok.mod
def Inv.kIn(I:Inv X pins σ H s):X.K.In s.heap:=I.ok.mod.kin.keeps I.bk
def Inv.nolimit(I:Inv X pins σ H s):s.heap.NoLimit:=I.ok.mod.nolimit.keeps I.bk
def Inv.lt(I:Inv X pins σ H s):X.env.locals<s.heap.objs.size:=let ⟨_,hn,_⟩:=I.loc;hn.lt
def Inv.sz(I:Inv X pins σ H s):X.s₀.heap.objs.size<=s.heap.objs.size:=AA I.ok.above (AX I.lt)
def Inv.nofs(I:Inv X pins σ H s){a:qm}(h:s.heap.objs.size<=a):a∉X.fs:=λhb=>by
 obtain⟨_,o,ho,_⟩:=I.ok.funs.mem hb;exact absurd (AJ (Heap.lt_size ho) (AA I.sz h)) (C0 _)
def Inv.cne(I:Inv X pins σ H s):∀x c,X.env.cells.lookup x=dE c->c≠X.env.locals:=λx c e z=>by
 obtain⟨v,o,ho,hd⟩:=I.cell x c e;obtain⟨m,⟨o',es,ep,gR,g9,_⟩,_⟩:=I.loc;rw[z,gR] at ho;cases ho;rw[g9] at hd;cases hd
def Inv.funs(I:Inv X pins σ H s):s.heap.FunFrames X.base X.outer:=by
 have all:∀(l:mZ Env),(∀b∈frs l,b∈X.fs)->X.s₀.heap.FunFrames X.base l->s.heap.FunFrames X.base l:=by
  intro l
  induction l with
  |nil=>intro _ _;trivial
  |cons env r ih=>
   intro hs hl;obtain⟨hk,⟨L,o,hf,hn,ho,hd⟩,hr⟩:=hl;have hL:L∈X.fs:=hs L (by unfold frs;rw[Di,hf];exact Bu);obtain⟨sl,e⟩:=I.base.slot L o ho (I.ok.frf L hL) hL λz=>I.ok.exfs L z hL;exact⟨hk,⟨L,_,hf,hn,e,hd⟩,ih (λb hb=>hs b (by unfold frs;rw[Di,hf];exact B8 _ hb)) hr⟩
 exact all X.outer (λ_ hb=>hb) I.ok.funs
def Inv.stack(I:Inv X pins σ H s):s.heap.FunFrames X.base X.stack:=by
 rcases I.ok.stk with e|⟨e,hf⟩
 .rw[e];exact I.funs
 rw[e];obtain⟨m,hn,_⟩:=I.loc;refine .cons (by rw[I.ok.kind];decide) hf hn ?_ I.funs;exact Heap.get?_none_of_le (AA I.ok.bsz I.ok.above)
def Inv.stkSub(I:Inv X pins σ H s):∀b∈frs X.stack,b∈X.env.locals::X.fs:=λb hb=>by
 rcases I.ok.stk with e|⟨e,hf⟩
 .rw[e] at hb;exact B8 _ hb
 rw[e] at hb;unfold frs at hb;rw[Di,hf] at hb;exact hb
def Inv.stkFree(I:Inv X pins σ H s):∀b∈frs X.stack,H b=fC:=λb hb=>by
 rcases AW.mp (I.stkSub b hb) with e|hb;rw[e];exact I.free;obtain⟨_,o,ho,_⟩:=I.ok.funs.mem hb;exact I.base.free b o ho (I.ok.frf b hb) λz=>I.ok.exfs b z hb
def Inv.step{g':Array GenState}{t':Nat}{d':Drawn}{ch:mZ qm}(I:Inv X pins σ H s)
  (gY:∀b∈ch,(b∈X.ex\/X.s₀.heap.objs.size<=b)/\b≠X.env.locals/\(∀x c,X.env.cells.lookup x=dE c->c≠b)/\∀p∈X.pn++pins,p.1≠b)
  (keep:∀b o,b≠X.env.locals->b∉X.fs->b∉ch->s.heap.get? b=dE o->H b=fC->h'.get? b=dE o)
  (slot:∀b o,b≠X.env.locals->b∈X.fs->b∉ch->s.heap.get? b=dE o->H b=fC->∃sl,h'.get? b=dE {o with slots:=sl}) (free:∀b o,b∉ch->s.heap.get? b=dE o->H b=fC->H' b=fC)
  (there:∀b o,b∉ch->s.heap.get? b=dE o->∃o',h'.get? b=dE o')
  (tups:∀b xs,H b=dE (.tup xs)->H' b=dE (.tup xs)) (frzs:∀b o u,H b=dE (.frz o u)->H' b=dE (.frz o u)) (tbls:∀b ps,H b=dE (.tbl ps)->∃more,H' b=dE (.tbl (ps++more)))
  (ns:∀m,s.heap.Ns X.env.locals m->h'.Ns X.env.locals m) (hok:HOk X.prog X.w H' h') (hg:AllBare g'):
  Inv X pins σ H' {s with heap:=h',gens:=g',drawn:=d',toks:=t'}:=by
 have qj:∀b o,X.s₀.heap.get? b=dE o->b≠X.env.locals:=λb o e=>B3 (AJ (Heap.lt_size e) I.ok.above);have me:∀b o,X.s₀.heap.get? b=dE o->b∉X.ex->b∉ch:=λb o e hx hb=>by
  rcases(gY b hb).1 with z|z;exact hx z;exact absurd (AJ (Heap.lt_size e) z) (C0 _)
 have cellK:∀x c,X.env.cells.lookup x=dE c->∀v,s.heap.IsCell c v->h'.IsCell c v:=λx c e v ⟨o,ho,hd⟩=>by
  have kH:c∉ch:=λz=>(gY c z).2.2.1 x c e rfl;rcases I.freeC x c e with hf|⟨_,o',hf⟩
  .by_cases hc:c∈X.fs;obtain⟨sl,q⟩:=slot c o (I.cne x c e) hc kH ho hf;exact⟨_,q,hd⟩;exact⟨o,keep c o (I.cne x c e) hc kH ho hf,hd⟩
  have h1:=(I.hok c _ hf).1;rw[ho] at h1;cases h1;exact⟨o,(hok c _ (frzs c _ _ hf)).1,hd⟩
 refine⟨I.ok,I.os,hg,⟨λb o e n hb hx=> ?_,λb o e n hb hx=> ?_,λb o e n hx=> ?_,λb o e hx=> ?_,λb xs e=>tups b xs (I.base.tups b xs e),λb o xs e=>frzs b o xs (I.base.frzs b o xs e),λb ps e=> ?_⟩,?_,λx c e=> ?_,?_,λx c e=> ?_,λp hp=> ?_,hok,I.len⟩;exact keep b o (qj b o e) hb (me b o e hx) (I.base.keep b o e n hb hx) (I.base.free b o e n hx);obtain⟨sl,e1⟩:=I.base.slot b o e n hb hx;obtain⟨sl',e2⟩:=slot b _ (qj b o e) hb (me b o e hx) e1 (I.base.free b o e n hx);exact⟨sl',e2⟩;obtain⟨o',e1⟩:=I.base.there b o e hx;exact free b o' (me b o e hx) e1 (I.base.free b o e n hx);obtain⟨o',e1⟩:=I.base.there b o e hx;exact there b o' (me b o e hx) e1;obtain⟨m1,e1⟩:=I.base.tbls b ps e;obtain⟨m2,e2⟩:=tbls b _ e1;exact⟨m1++m2,by rw[e2,F0]⟩
 .obtain⟨m,hn,hl⟩:=I.loc;refine⟨m,ns m hn,λi x v e1 e2 e3=> ?_⟩;obtain⟨u,r,l⟩:=hl i x v e1 e2 e3;refine⟨u,r,?_⟩;rcases l with l|⟨k,c,e,z⟩
  .exact .inl l
  exact .inr ⟨k,c,e,cellK x c e _ z⟩
 .obtain⟨v,z⟩:=I.cell x c e;exact⟨v,cellK x c e v z⟩
 .obtain⟨m,⟨o,_,_,ho,_⟩,_⟩:=I.loc;exact free _ o (λz=>(gY _ z).2.1 rfl) ho I.free
 .obtain⟨v,o,ho,hd⟩:=I.cell x c e;rcases I.freeC x c e with hf|⟨z,o',hf⟩
  .exact .inl (free c o (λz=>(gY c z).2.2.1 x c e rfl) ho hf)
  exact .inr ⟨z,o',frzs c _ _ hf⟩
 obtain⟨e,n,ne,nf,d⟩:=I.pin p hp;have kH:p.1∉ch:=λz=>(gY p.1 z).2.2.2 p hp rfl;exact⟨keep p.1 p.2 ne nf kH e n,free p.1 p.2 kH e n,ne,nf,d⟩
def Inv.un(I:Inv X pins σ H s)(u:Un X.fs [] H H' s.heap h')(hok:HOk X.prog X.w H' h'):Inv X pins σ H' {s with heap:=h',toks:=t'}:=by
 obtain⟨m,⟨o,es,ep,ho,r⟩,_⟩:=id I.loc;obtain⟨sl,hL⟩:=u.any ho I.free (by simp)
 exact I.step (g':=s.gens) (d':=s.drawn) (ch:=[]) (λ_ z=>nomatch z) (λb o _ hb _ e n=>u.keep b o e n hb (by simp)) (λb o _ hb _ e n=>u.slot b o e n hb (by simp)) (λb o _ e n=>u.free b o e n (by simp)) (λb o _ e=>u.there b o e (by simp)) u.tups u.frzs u.tbls (λm' hm=>by
  obtain⟨o',es',ep',gR,r'⟩:=hm;rw[ho] at gR;cases gR
  exact⟨_,es',ep',hL,r'⟩) hok I.bare
def Inv.call(I:Inv X pins σ H s)(u:Un (frs X.stack) ch H H' s.heap h')(hok:HOk X.prog X.w H' h')(hg:AllBare g')
  (gY:∀b∈ch,(b∈X.ex\/X.s₀.heap.objs.size<=b)/\b≠X.env.locals/\(∀x c,X.env.cells.lookup x=dE c->c≠b)/\∀p∈X.pn++pins,p.1≠b):
  Inv X pins σ H' {s with heap:=h',gens:=g',drawn:=d',toks:=t'}:=by
 obtain⟨m,⟨o,es,ep,ho,r⟩,_⟩:=id I.loc;obtain⟨sl,hL⟩:=u.any ho I.free λz=>(gY _ z).2.1 rfl
 exact I.step (ch:=ch) gY (λb o hL hb hc e n=>u.keep b o e n (λz=>(AW.mp (I.stkSub b z)).elim hL hb) hc) (λb o _ _ hc e n=>u.any e n hc) (λb o hc e n=>u.free b o e n hc) (λb o hc e=>u.there b o e hc) u.tups u.frzs u.tbls (λm' hm=>by
  obtain⟨o',es',ep',gR,r'⟩:=hm;rw[ho] at gR;cases gR
  exact⟨_,es',ep',hL,r'⟩) hok hg
def Inv.turned(I:Inv X pins σ H s)(k:∀b o,b≠it->s.heap.get? b=dE o->h'.get? b=dE o)(hn:H it=fC)(hL:it≠X.env.locals)
  (h1:it∈X.ex\/X.s₀.heap.objs.size<=it) (h2:∀x c,X.env.cells.lookup x=dE c->c≠it) (h3:∀p∈X.pn++pins,p.1≠it):Inv X pins σ H {s with heap:=h',toks:=t'}:=by
 have fX:∀b u,H b=dE u->b≠it:=λb u e z=>by rw[z,hn] at e;cases e
 refine I.step (g':=s.gens) (d':=s.drawn) (ch:=[it]) (λb hb=> ?_) (λb o _ _ hc e _=>k b o (λz=>hc (by simp[z])) e) (λb o _ _ hc e _=>⟨o.slots,k b o (λz=>hc (by simp[z])) e⟩) (λ_ _ _ _ n=>n)
  (λb o hc e=>⟨o,k b o (λz=>hc (by simp[z])) e⟩) (λ_ _ e=>e) (λ_ _ _ e=>e) (λb ps e=>⟨#[],by rw[e];simp⟩) (λm hm=> ?_) (λb u e=> ?_) I.bare
 .have e:b=it:=by simpa using hb
  subst e;exact⟨h1,hL,h2,h3⟩
 .obtain⟨o,es,ep,ho,r⟩:=hm;exact⟨o,es,ep,k _ o (BH hL) ho,r⟩
 refine (I.hok b u e).stay (λc v hc q=>k c v ?_ q) (λ_ q=>q) λ_ _ q=>q;rcases hc with z|z;rw[z];exact fX b u e;exact fX c _ z
def Inv.tok(I:Inv X pins σ H s)(t:Nat):Inv X pins σ H {s with toks:=t}:=I.un (h':=s.heap) (t':=t) Un.refl I.hok
def Inv.kept(I:Inv X pins σ H s)(k:∀b u,s.heap.get? b=dE u->h'.get? b=dE u):Inv X pins σ H {s with heap:=h',toks:=t'}:=I.un (Un.kept k) (I.hok.kept k)
def Inv.laid{a:qm}(I:Inv X pins σ H s)(k:∀b u,s.heap.get? b=dE u->h'.get? b=dE u)(hp:s.heap.objs.size<=a)(new:yL X.prog X.w (upd H a o) h' a o):
  Inv X pins σ (upd H a o) {s with heap:=h',toks:=t'}:=I.un (Un.laid k hp (I.hok.fresh hp)) (I.hok.laid k hp new)
def Inv.write(I:Inv X pins σ H s)(mu:Mut (H x))(he:e=x\/H e=dE (.own x))(k:∀b u,b≠e->s.heap.get? b=dE u->h'.get? b=dE u)(j7:∃u,h'.get? e=dE u)
  (new:yL X.prog X.w (upd H x o) h' x o):Inv X pins σ (upd H x o) {s with heap:=h',toks:=t'}:=I.un (Un.write mu he k j7) (I.hok.write mu he k j7 new)
def Inv.weak(I:Inv X pins σ H s)(hl:σ'.length=σ.length)(w:∀(i:Nat) v,σ'[i]? =dE (dE v)->σ[i]? =dE (dE v)):Inv X pins σ' H s:=
 ⟨I.ok,I.os,I.bare,I.base,let ⟨m,hn,g7⟩:=I.loc;⟨m,hn,λi x v e1 e2 e3=>g7 i x v e1 (w i v e2) e3⟩,I.cell,I.free,I.freeC,I.pin,I.hok,hl.trans I.len⟩
def Inv.pins_of(I:Inv X pins σ H s)(h:∀p∈pins',s.heap.get? p.1=dE p.2/\H p.1=fC/\p.1≠X.env.locals/\p.1∉X.fs/\∀v,p.2.data≠ .cell v):Inv X pins' σ H s:=
 ⟨I.ok,I.os,I.bare,I.base,I.loc,I.cell,I.free,I.freeC,λp hp=>(AU.mp hp).elim (λz=>I.pin p (D6 _ z)) (h p),I.hok,I.len⟩
def zdY{N:mZ Str}(hN:N.Nodup){i j:Nat}{x:Str}(a:N[i]? =dE x)(b:N[j]? =dE x):i=j:=by
 obtain⟨h1,e1⟩:=Au.mp a;obtain⟨h2,e2⟩:=Au.mp b;exact(Cv hN).mp (e1.trans e2.symm)
def zb5{A:Around}{E:pW->pX->Prop}{Q:Unit->pX->Prop}(I:Inv X pins σ H s)(hN:X.N.Nodup)(hi:X.N[i]? =dE x)(hx:Loc X.env.scope x)(r:zI v u)
  (h:∀s',Inv X pins (σ.set i (dE v)) H s'->(∃a,Heap.SameBut a s.heap s'.heap/\(a=X.env.locals\/X.env.cells.lookup x=dE a))->Q () s') (hf:X.fn x=fJ\/X.env.scope.names.lookup x=dE .local:=by first|exact .inl rfl|exact .inr rfl|assumption):wpAny M A (storeName X.env x u) Q E s:=by
 obtain⟨m,hn,hl⟩:=id I.loc;have pw:(X.env.scope.kind== .class||(X.env.scope.kind== .module&&X.env.locals !=X.env.globals))=kb:=by rw[I.ok.kind];rfl
 have hiσ:i<σ.length:=by rw[I.len];exact(Au.mp hi).1
 have cne:=I.cne;have tracked:∀{a:qm} {h':Heap},(∃o,s.heap.get? a=dE o/\H a=fC)->Heap.SameBut a s.heap h'->HOk X.prog X.w H h':=λ{a h'} ha hs b ob e=>by
  obtain⟨_,_,iZ⟩:=ha;refine(I.hok b ob e).stay (λc w' hc q=>(hs.2 c ?_).trans q) (λ_ q=>q) λ_ _ q=>q;rintro rfl;rcases hc with rfl|hc;rw[iZ] at e;cases e;rw[iZ] at hc;cases hc
 rcases hx with hk|hk
 .refine wpAny_storeName_local hk hn (λh' tS hs=> ?_) pw;obtain⟨oL,_,_,i7,_⟩:=id hn;refine h _ ⟨I.ok,I.os,I.bare,⟨λb o e n hb hx=> ?_,λb o e n hb hx=> ?_,I.base.free,λb o e hx=> ?_,I.base.tups,I.base.frzs,I.base.tbls⟩,⟨_,tS,λj y v' e1 e2 e3=> ?_⟩,λy c e=> ?_,I.free,I.freeC,λp hp=> ?_,tracked ⟨oL,i7,I.free⟩ hs,by simpa using I.len⟩ ⟨_,hs,.inl rfl⟩;exact (hs.2 b (B3 (AJ (Heap.lt_size e) I.ok.above))).trans (I.base.keep b o e n hb hx);obtain⟨sl,e1⟩:=I.base.slot b o e n hb hx;exact⟨sl,(hs.2 b (B3 (AJ (Heap.lt_size e) I.ok.above))).trans e1⟩;obtain⟨o',e1⟩:=I.base.there b o e hx;exact⟨o',(hs.2 b (B3 (AJ (Heap.lt_size e) I.ok.above))).trans e1⟩
  .by_cases hj:j=i;subst hj;rw[hi] at e1;cases e1;rw[FP hiσ] at e2;cases e2;exact⟨u,r,.inl ⟨hk,by simp⟩⟩
   rw[Ew (BH hj)] at e2;obtain⟨u',r',q⟩:=hl j y v' e1 e2 e3;refine⟨u',r',?_⟩;rcases q with⟨k,e⟩|⟨k,c,e,z⟩
   .refine .inl ⟨k,?_⟩;have:y≠x:=λe=>hj (zdY hN e1 (e ▸ hi));simp[this,e]
   exact .inr ⟨k,c,e,z.sameBut hs (cne y c e)⟩
  .obtain⟨w',z⟩:=I.cell y c e;exact⟨w',z.sameBut hs (cne y c e)⟩
  obtain⟨e,n,ne,nf,d⟩:=I.pin p hp;exact⟨(hs.2 p.1 ne).trans e,n,ne,nf,d⟩
 have gI:X.fn x=fJ:=by
  rcases hf with z|z;exact z;rw[z] at hk;cases hk
 obtain⟨c,hc⟩:=I.ok.has x (.inl hk);have dU:H c=fC:=(I.freeC x c hc).elim (λz=>z) λz=>by rw[gI] at z;cases z.1
 obtain⟨w',z⟩:=I.cell x c hc;refine wpAny_storeName_cell I.ok.kind hk hc z (λh' eM hs=> ?_);obtain⟨oc,mH,oA⟩:=id z;refine h {s with heap:=h'} ⟨I.ok,I.os,I.bare,⟨λb o e n hb hx=> ?_,λb o e n hb hx=> ?_,I.base.free,λb o e hx=> ?_,I.base.tups,I.base.frzs,I.base.tbls⟩,⟨m,hn.sameBut hs (BH (cne x c hc)),λj y v' e1 e2 e3=> ?_⟩,λy c' e=> ?_,I.free,I.freeC,λp hp=> ?_,tracked ⟨oc,mH,dU⟩ hs,by simpa using I.len⟩ ⟨c,hs,.inr hc⟩;exact (hs.2 b (B3 (AJ (Heap.lt_size e) (I.ok.cab x c (.inl gI) hc)))).trans (I.base.keep b o e n hb hx);obtain⟨sl,e1⟩:=I.base.slot b o e n hb hx;exact⟨sl,(hs.2 b (B3 (AJ (Heap.lt_size e) (I.ok.cab x c (.inl gI) hc)))).trans e1⟩;obtain⟨o',e1⟩:=I.base.there b o e hx;exact⟨o',(hs.2 b (B3 (AJ (Heap.lt_size e) (I.ok.cab x c (.inl gI) hc)))).trans e1⟩
 .by_cases hj:j=i;subst hj;rw[hi] at e1;cases e1;rw[FP hiσ] at e2;cases e2;exact⟨u,r,.inr ⟨.inl hk,c,hc,eM⟩⟩
  rw[Ew (BH hj)] at e2;obtain⟨u',r',q⟩:=hl j y v' e1 e2 e3;refine⟨u',r',?_⟩;rcases q with q|⟨k,c',e,z'⟩
  .exact .inl q
  refine .inr ⟨k,c',e,z'.sameBut hs ?_⟩;rintro rfl;exact hj (zdY hN e1 (I.ok.inj _ _ _ e hc ▸ hi))
 .by_cases rO:c'=c;subst rO;exact⟨_,eM⟩;obtain⟨w2,z2⟩:=I.cell y c' e;exact⟨w2,z2.sameBut hs rO⟩
 obtain⟨e,n,ne,nf,d⟩:=I.pin p hp;refine⟨(hs.2 p.1 ?_).trans e,n,ne,nf,d⟩;intro q;rw[q,mH] at e;have q':oc=p.2:=BF e;exact d w' (by rw[<-q'];exact oA)
def Ui{A:Around}{E:pW->pX->Prop}{Q:Unit->pX->Prop}(I:Inv X pins σ H s)(hN:X.N.Nodup)(hi:X.N[i]? =dE x)(hx:Loc X.env.scope x)(r:zI v u)
  (h:∀s',Inv X pins (σ.set i (dE v)) H s'->Q () s') (hf:X.fn x=fJ\/X.env.scope.names.lookup x=dE .local:=by first|exact .inl rfl|exact .inr rfl|assumption):wpAny M A (storeName X.env x u) Q E s:=
 zb5 I hN hi hx r (λs' I' _=>h s' I') hf
def Inv.call'(I:Inv X pins σ H s)(ho:s'.os=s.os)(u:Un (frs X.stack) ch H H' s.heap s'.heap)(hok:HOk X.prog X.w H' s'.heap)(hg:AllBare s'.gens)
  (gY:∀b∈ch,(b∈X.ex\/X.s₀.heap.objs.size<=b)/\b≠X.env.locals/\(∀x c,X.env.cells.lookup x=dE c->c≠b)/\∀p∈X.pn++pins,p.1≠b):Inv X pins σ H' s':=by
 obtain⟨h',g',d',t',o'⟩:=s';have e:o'=s.os:=ho;subst e;exact I.call (g':=g') (t':=t') (d':=d') u hok hg gY
end
abbrev XK:=pW->pU qm->Hp->Prop
abbrev St:=mZ (pU V)
variable{prog:PySem.Program}{A:PySem.Around}{E:PySem.Value->PySem.Shared->Prop}{X:L2.Cx}{K:uk}{pins:mZ (PySem.Addr×PySem.Obj)}{σ:L2.St}{H:L2.Hp}{s:PySem.Shared}{Q:PySem.Value->PySem.Shared->Prop}
abbrev VK:=V->Hp->Prop
abbrev TE:=St->Hp->VK->Prop
abbrev TT:=St->Hp->(Bool->Hp->Prop)->Prop
abbrev TA:=St->Hp->(mZ V->Hp->Prop)->Prop
structure Uj where
 nx:St->Hp->Prop
 rt:VK
 bk:St->Hp->Prop:=λ_ _=>False
 ct:St->Hp->Prop:=λ_ _=>False
abbrev TS:=Uj->St->Hp->Prop
def EP(X:Cx)(pins:mZ (qm×Obj))(σ:St)(Q:VK)(u:pW)(s':pX):Prop:=∃v H',Inv X pins σ H' s'/\zI v u/\Q v H'
def TP(X:Cx)(pins:mZ (qm×Obj))(σ:St)(Q:Bool->Hp->Prop)(b:Bool)(s':pX):Prop:=∃H',Inv X pins σ H' s'/\Q b H'
def AP(X:Cx)(pins:mZ (qm×Obj))(σ:St)(Q:mZ V->Hp->Prop)(us:mZ pW)(s':pX):Prop:=∃vs H',Inv X pins σ H' s'/\zR vs us/\Q vs H'
def SP(X:Cx)(pins:mZ (qm×Obj))(D:Uj)(f:Flow)(s':pX):Prop:=
 match f with
 | .next=>∃σ' H',Inv X pins σ' H' s'/\D.nx σ' H'
 | .brk=>∃σ' H',Inv X pins σ' H' s'/\D.bk σ' H'
 | .cont=>∃σ' H',Inv X pins σ' H' s'/\D.ct σ' H'
 | .ret u=>∃v σ' H',Inv X pins σ' H' s'/\zI v u/\D.rt v H'
def PE(X:Cx)(e:Expr)(t:TE):Prop:=
 ∀(pins:mZ (qm×Obj)) (s:pX) (σ:St) (H:Hp) (Q:VK),Inv X pins σ H s->t σ H Q->wpAny (model X.prog X.w) X.A (eval e X.env) (EP X pins σ Q) X.xe s
def PT(X:Cx)(e:Expr)(t:TT):Prop:=
 ∀(pins:mZ (qm×Obj)) (s:pX) (σ:St) (H:Hp) (Q:Bool->Hp->Prop),Inv X pins σ H s->t σ H Q->wpAny (model X.prog X.w) X.A (isTrue e X.env (eval e X.env)) (TP X pins σ Q) X.xe s
def PW(X:Cx)(e:Expr)(t:TT):Prop:=
 ∀(whole:Sem pW) (pins:mZ (qm×Obj)) (s:pX) (σ:St) (H:Hp) (Q:Bool->Hp->Prop),Inv X pins σ H s->t σ H Q->wpAny (model X.prog X.w) X.A (isTrue e X.env whole) (TP X pins σ Q) X.xe s
def PW.pt(h:PW X e t):PT X e t:=h _
def PA(X:Cx)(es:mZ Expr)(t:TA):Prop:=
 ∀(pos:Pos) (pins:mZ (qm×Obj)) (s:pX) (σ:St) (H:Hp) (Q:mZ V->Hp->Prop),Inv X pins σ H s->t σ H Q->wpAny (model X.prog X.w) X.A (spliced (backTo pos (starEach es X.env))) (AP X pins σ Q) X.xe s
def PS(X:Cx)(st:Stmt)(t:TS):Prop:=
 ∀(pins:mZ (qm×Obj)) (s:pX) (σ:St) (H:Hp) (D:Uj),Inv X pins σ H s->t D σ H->wpAny (model X.prog X.w) X.A (exec st X.env) (SP X pins D) X.xe s
def PSs(X:Cx)(st:mZ Stmt)(t:TS):Prop:=
 ∀(pins:mZ (qm×Obj)) (s:pX) (σ:St) (H:Hp) (D:Uj),Inv X pins σ H s->t D σ H->wpAny (model X.prog X.w) X.A (execs st X.env) (SP X pins D) X.xe s
def thn{α:Type}{t:Sem α}{Q Q':α->pX->Prop}(h:wpAny M A t Q E s)(hQ:∀a s,Q a s->Q' a s):wpAny M A t Q' E s:=wpAny_mono h hQ λ_ _ x=>x
section
def bin(ha:PE X a ta)(hb:PE X b tb){R:V->V->Hp->Prop}(I:Inv X pins σ H s)(h:ta σ H λx H1=>tb σ H1 λy H2=>R x y H2)
  {α:Type} {Q:α->pX->Prop} {f:pW->pW->Sem α}
  (hf:∀v u s2 x y H2,Inv X pins σ H2 s2->zI x v->zI y u->R x y H2->wpAny (model X.prog X.w) X.A (f v u) Q X.xe s2):
  wpAny (model X.prog X.w) X.A (eval a X.env) (λv s₁=>wpAny (model X.prog X.w) X.A (eval b X.env) (λu s₂=>wpAny (model X.prog X.w) X.A (f v u) Q X.xe s₂) X.xe s₁) X.xe s:=by
 refine thn (ha pins s σ H _ I h) ?_;rintro v s1 ⟨x,H1,I1,r1,q1⟩;refine thn (hb pins s1 σ H1 _ I1 q1) ?_;rintro u s2 ⟨y,H2,I2,r2,q2⟩;exact hf v u s2 x y H2 I2 r1 r2 q2
def znx(i:Nat):TE:=λσ H Q=>∃v,σ[i]? =dE (dE v)/\Q v H
def tC(v:V):TE:=λ_ H Q=>Q v H
def zny{i:Nat}{x:Str}{pos:Pos}(hN:X.N[i]? =dE x)(hv:Vis X.env.scope x)(hd:(x==("__debug__":Str))=kb:=by decide)(df:(x==("__classdict__":Str))=kb:=by decide):PE X (.Name x pos) (znx i):=by
 intro pins s σ H Q I h;obtain⟨v,e,h⟩:=h;obtain⟨m,hn,hl⟩:=I.loc;obtain⟨u,r,l⟩:=hl i x v hN e hv;have fin:EP X pins σ Q u s:=⟨v,H,I,r,h⟩;rcases l with⟨hk,hm⟩|⟨hk,c,hc,ja⟩
 .exact wpAny_Name (wpAny_loadName_local I.ok.kind hk hn hm fin) hd
 rcases hk with hk|hk;exact wpAny_Name (wpAny_loadName_cell I.ok.kind hk hc ja fin) hd;exact wpAny_Name (wpAny_loadName_free I.ok.kind hk hc ja fin df) hd
def zg{i j pos}:PE X (.Constant (.int i) j pos) (tC (.int i)):=λ_ _ _ H _ I h=>wpAny_Constant_int ⟨.int i,H,I.tok _,⟨_,rfl⟩,h⟩
def Wi{b j pos}:PE X (.Constant (.bool b) j pos) (tC (.bl b)):=λ_ _ _ H _ I h=>Constant_bool ⟨.bl b,H,I,rfl,h⟩
def Xe{j pos}:PE X (.Constant .none j pos) (tC .non):=λ_ _ _ H _ I h=>Constant_none ⟨.non,H,I,rfl,h⟩
def UX{x j pos}:PE X (.Constant (.str x) j pos) (tC (.str x)):=λ_ _ _ H _ I h=>Calls.Constant_str ⟨.str x,H,I.tok _,⟨_,rfl⟩,h⟩
def Gl(X:Cx)(x:Str):Prop:=X.env.kindOf x=dE .globalImplicit
def zcP(I:Inv X pins σ H s)(hg:Gl X x)(hm:X.mg x=dE u)(h:Q u s)
  (hd:(x==("__debug__":Str))=kb:=by decide):wpAny (model X.prog X.w) X.A (eval (.Name x pos) X.env) Q E s:=
 Calls.Name_function_global I.ok.kind hg (Calls.loadGlobal_global (by rw[I.ok.glob];exact I.mod.glob.keeps I.bk) hm h) hd
def Zy{x:Str}{u:pW}{pos:Pos}(I:Inv X pins σ H s)(hg:Gl X x)(hm:X.mg x=fC)(hv:bootBuiltins x=dE u)(h:Q u s)
  (hn:x≠"__name__":=by decide) (hd:(x==("__debug__":Str))=kb:=by decide):wpAny (model X.prog X.w) X.A (eval (.Name x pos) X.env) Q E s:=by
 obtain⟨mb,h1,h2⟩:=I.mod.blt;exact Calls.Name_function_global I.ok.kind hg (Calls.loadGlobal_builtin (by rw[I.ok.glob];exact I.mod.glob.keeps I.bk) hm (by rw[I.ok.blt];exact h1.keeps I.bk) ((h2 x hn).trans hv) h) hd
def Xg(hg:Gl X x)(hm:X.mg x=dE u)(r:zI v u)(hd:(x==("__debug__":Str))=kb:=by decide):PE X (.Name x pos) (tC v):=
 λ_ _ _ H _ I h=>zcP I hg hm ⟨v,H,I,r,h⟩ hd
def Yi{x:Str}{v:V}{u:pW}{pos:Pos}(hg:Gl X x)(hm:X.mg x=fC)(hv:bootBuiltins x=dE u)(r:zI v u)(hn:x≠"__name__":=by decide)(hd:(x==("__debug__":Str))=kb:=by decide):PE X (.Name x pos) (tC v):=
 λ_ _ _ H _ I h=>Zy I hg hm hv ⟨v,H,I,r,h⟩ hn hd
def t2I(ta tb:TE)(k:Int->Int->Hp->Prop):St->Hp->Prop:=λσ H=>ta σ H λx H1=>tb σ H1 λy H2=>∃i j,x= .int i/\y= .int j/\k i j H2
def PC(X:Cx)(op:CmpOp)(a b:Expr)(t:TE):Prop:=
 ∀(pins:mZ (qm×Obj)) (s:pX) (σ:St) (H:Hp) (Q:VK),Inv X pins σ H s->t σ H Q->
  wpAny (model X.prog X.w) X.A (eval a X.env) (λv s₁=>wpAny (model X.prog X.w) X.A (eval b X.env) (λu s₂=>wpAny (model X.prog X.w) X.A (compareOp op v u) (EP X pins σ Q) X.xe s₂) X.xe s₁) X.xe s
def zdZ(b:Expr)(h:op≠ .In)(h2:op≠ .NotIn):behindInMarks op b=kb:=by
 have e1:(op==CmpOp.In)=kb:=by cases op<;>first|rfl|exact absurd rfl h
 have e2:(op==CmpOp.NotIn)=kb:=by cases op<;>first|rfl|exact absurd rfl h2
 cases b<;>simp[behindInMarks,e1,e2]
def zd0(p:Int->Int->Bool)(ta tb:TE):TE:=λσ H Q=>t2I ta tb (λi j H2=>Q (.bl (p i j)) H2) σ H
noncomputable abbrev tLt:TE->TE->TE:=zd0 λi j=>decide (i<j)
noncomputable abbrev tLe:TE->TE->TE:=zd0 λi j=>decide (i<=j)
noncomputable abbrev tGt:TE->TE->TE:=zd0 λi j=>decide (j<i)
noncomputable abbrev tGe:TE->TE->TE:=zd0 λi j=>decide (j<=i)
noncomputable abbrev zo1:TE->TE->TE:=zd0 λi j=>decide (i=j)
noncomputable abbrev zo2:TE->TE->TE:=zd0 λi j=> !decide (i=j)
def zcQ{p:Int->Int->Bool}(ha:PE X a ta)(hb:PE X b tb)
  (rule:∀(i j:Int) (t u:Tok) (Q:pW->pX->Prop) (s:pX),Q (.bool (p i j)) s->wpAny (model X.prog X.w) X.A (compareOp op (.int i t) (.int j u)) Q X.xe s):PC X op a b (zd0 p ta tb):=by
 intro pins s σ H Q I h;refine bin ha hb I h λv u s2 x y H2 I2 rx ry q=> ?_;obtain⟨i,j,rfl,rfl,q⟩:=q;obtain⟨t,rfl⟩:=rx;obtain⟨t',rfl⟩:=ry;exact rule i j t t' _ s2 ⟨.bl _,H2,I2,rfl,q⟩
def zii(ha:PE X a ta)(hb:PE X b tb):PC X .Lt a b (tLt ta tb):=zcQ ha hb λ_ _ _ _ _ _ h=>lt_int h
def YJ(ha:PE X a ta)(hb:PE X b tb):PC X .Gt a b (tGt ta tb):=zcQ ha hb λ_ _ _ _ _ _ h=>gt_int h
def Wj(ha:PE X a ta)(hb:PE X b tb):PC X .Eq a b (zo1 ta tb):=zcQ ha hb λ_ _ _ _ _ _ h=>eq_int (by rw[G1];exact h)
def Yt(ha:PE X a ta)(hb:PE X b tb):PC X .NotEq a b (zo2 ta tb):=zcQ ha hb λ_ _ _ _ _ _ h=>ne_int (by rw[bne,G1];exact h)
def zo3(ta:TE):TE:=λσ H Q=>ta σ H λx H1=>Q (.bl (decide (x= .non))) H1
def zmV(ta:TE):TE:=λσ H Q=>ta σ H λx H1=>Q (.bl (!decide (x= .non))) H1
def zI.none_iff(r:zI x v):(v==Value.none)=decide (x= .non):=by
 cases x with
 |non=>cases r;rfl
 |bl _=>cases r;rfl
 |int _=>obtain⟨t,rfl⟩:=r;rfl
 |str _=>obtain⟨t,rfl⟩:=r;rfl
 |byt _=>obtain⟨t,rfl⟩:=r;rfl
 |flt _=>obtain⟨t,rfl⟩:=r;rfl
 |ref _=>cases r;rfl
 |ty _=>cases r;rfl
def Wk{j pos'}(ha:PE X a ta):PC X .Is a (.Constant .none j pos') (zo3 ta):=by
 intro pins s σ H Q I h;refine thn (ha pins s σ H _ I h) ?_;rintro v s1 ⟨x,H1,I1,r1,q1⟩;exact Constant_none (is_none_gen ⟨.bl _,H1,I1,by rw[r1.none_iff];rfl,q1⟩)
def zli{j pos'}(ha:PE X a ta):PC X .IsNot a (.Constant .none j pos') (zmV ta):=by
 intro pins s σ H Q I h;refine thn (ha pins s σ H _ I h) ?_;rintro v s1 ⟨x,H1,I1,r1,q1⟩;exact Constant_none (isnot_none_gen ⟨.bl _,H1,I1,by rw[r1.none_iff];rfl,q1⟩)
def tB(t:TE):TT:=λσ H Q=>t σ H λx H1=>∃c,x= .bl c/\Q c H1
def zij(h:PC X op a b t)(h1:behindInMarks op b=kb:=by first|exact zdZ _ ∅ ∅|rfl):PE X (.Compare a [op] [b] pos) t:=λpins s σ H Q I hw=>wpAny_Compare1 (h pins s σ H Q I hw) h1
def zX(h:PC X op a b t)(h1:behindInMarks op b=kb:=by first|exact zdZ _ ∅ ∅|rfl):PT X (.Compare a [op] [b] pos) (tB t):=by
 intro pins s σ H Q I hw;refine wpAny_isTrue_Compare1 (thn (h pins s σ H _ I hw) λv s1 h1=>thn h1 λu s2 h2=>thn h2 ?_) h1;rintro c s3 ⟨x,H1,I1,r1,q1⟩;obtain⟨d,rfl,q⟩:=q1;cases r1;exact wpAny_truthy_bool ⟨H1,I1,q⟩
def vA(h:PE X e t)(he:∀whole,isTrue e X.env whole=(do let v <-whole;standAt e.pos;holding [v] (truthy v)):=by intro _;rfl):PT X e (tB t):=by
 intro pins s σ H Q I hw;refine isTrue_plain (thn (h pins s σ H _ I hw) ?_) (he _);rintro v s1 ⟨x,H1,I1,r1,q1⟩;obtain⟨d,rfl,q⟩:=q1;cases r1;exact wpAny_truthy_bool ⟨H1,I1,q⟩
def zo4(t u:TT):TT:=λσ H Q=>t σ H λc H1=>if c=fJ then u σ H1 Q else Q kb H1
def tOr(t u:TT):TT:=λσ H Q=>t σ H λc H1=>if c=fJ then Q fJ H1 else u σ H1 Q
def zo5(t:TT):TT:=λσ H Q=>t σ H λc H1=>Q (!c) H1
def zlj(ha:PT X a tA):PW X (.BoolOp .And [a] pos) tA:=by
 intro wh pins s σ H Q I h;refine isTrue_and (thn (ha pins s σ H Q I h) λc s1 e=> ?_);cases c with
 |true=>exact isTrue_and_nil e
 |false=>exact e
def Xh(ha:PT X a tA):PW X (.BoolOp .Or [a] pos) tA:=by
 intro wh pins s σ H Q I h;refine isTrue_or (thn (ha pins s σ H Q I h) λc s1 e=> ?_);cases c with
 |false=>exact isTrue_or_nil e
 |true=>exact e
def znz(ha:PT X a tA)(hb:PW X (.BoolOp .And (b::rest) pos) tB'):PW X (.BoolOp .And (a::b::rest) pos) (zo4 tA tB'):=by
 intro wh pins s σ H Q I h;refine isTrue_and (thn (ha pins s σ H _ I h) ?_);rintro c s1 ⟨H1,I1,q1⟩;cases c with
 |true=>exact hb wh pins s1 σ H1 Q I1 q1
 |false=>exact⟨H1,I1,q1⟩
def Wc(ha:PT X a tA)(hb:PW X (.BoolOp .Or (b::rest) pos) tB'):PW X (.BoolOp .Or (a::b::rest) pos) (tOr tA tB'):=by
 intro wh pins s σ H Q I h;refine isTrue_or (thn (ha pins s σ H _ I h) ?_);rintro c s1 ⟨H1,I1,q1⟩;cases c with
 |true=>exact⟨H1,I1,q1⟩
 |false=>exact hb wh pins s1 σ H1 Q I1 q1
def ZS(ha:PT X a tA):PT X (.UnaryOp .Not a pos) (zo5 tA):=by
 intro pins s σ H Q I h;exact isTrue_not (ha pins s σ H (λc H1=>Q (!c) H1) I h)
def zmW(ta tb:TE):TE:=λσ H Q=>ta σ H λx H1=>∃c,x= .bl c/\if c=fJ then tb σ H1 Q else Q (.bl kb) H1
def zmX(ta:TE):TE:=λσ H Q=>ta σ H λx H1=>∃c,x= .bl c/\Q (.bl (!c)) H1
def ze8{op}(h:PE X a t):PE X (.BoolOp op [a] pos) t:=λpins s σ H Q I hw=>BoolOp_one (h pins s σ H Q I hw)
def ze9(ha:PE X a ta)(hb:PE X (.BoolOp .And (b::rest) pos) tb):PE X (.BoolOp .And (a::b::rest) pos) (zmW ta tb):=by
 intro pins s σ H Q I h;refine BoolOp_and (thn (ha pins s σ H _ I h) ?_);rintro v s1 ⟨x,H1,I1,r1,q1⟩;obtain⟨c,rfl,q1⟩:=q1;cases r1;refine wpAny_truthy_bool ?_;cases c with
 |true=>exact hb pins s1 σ H1 Q I1 q1
 |false=>exact⟨.bl kb,H1,I1,rfl,q1⟩
def znA(ha:PE X a ta):PE X (.UnaryOp .Not a pos) (zmX ta):=by
 intro pins s σ H Q I h;refine UnaryOp_ (thn (ha pins s σ H _ I h) ?_);rintro v s1 ⟨x,H1,I1,r1,q1⟩;obtain⟨c,rfl,q1⟩:=q1;cases r1;exact not_of (wpAny_truthy_bool ⟨.bl (!c),H1,I1,rfl,q1⟩)
def tIf(t:TT)(ta tb:TE):TE:=λσ H Q=>t σ H λc H1=>if c=fJ then ta σ H1 Q else tb σ H1 Q
def ZT(hc:PT X c tA)(ha:PE X a ta)(hb:PE X b tb):PE X (.IfExp c a b pos) (tIf tA ta tb):=by
 intro pins s σ H Q I h;refine wpAny_IfExp (thn (hc pins s σ H _ I h) ?_);rintro d s1 ⟨H1,I1,q1⟩;cases d with
 |true=>exact ha pins s1 σ H1 Q I1 q1
 |false=>exact hb pins s1 σ H1 Q I1 q1
end
def SqL(K:Ar)(H:Hp)(a:qm)(xs:mZ V):Prop:=
 Rd H a (.lst xs)\/
  ∃(o:Obj) (ae:Array pW) (n:Nat),K.lookup a=dE o/\o.cls= .type "list"/\o.dict=fC/\o.data= .seq ae n/\ae.size<=sizeLine/\zR xs ae.toList
def SqT(K:Ar)(H:Hp)(a:qm)(xs:mZ V):Prop:=
 Rd H a (.tup xs)\/
  ∃(o:Obj) (ae:Array pW) (n:Nat),K.lookup a=dE o/\o.cls= .type "tuple"/\o.data= .seq ae n/\ae.size<=sizeLine/\zR xs ae.toList
def SqX(K:Ar)(H:Hp)(a:qm)(xs:mZ V):Prop:=
 Rd H a (.lst xs)\/∃(ae:Array pW) (n:Nat),K.lookup a=dE {cls:= .type "list",data:= .seq ae n}/\ae.size<=sizeLine/\zR xs ae.toList
def SqX.sql{K:Ar}{H:Hp}(h:SqX K H a xs):SqL K H a xs:=by
 rcases h with h|⟨ae,n,hk,hz,r⟩
 .exact .inl h
 exact .inr ⟨_,ae,n,hk,rfl,rfl,rfl,hz,r⟩
def SqX.of{K:Ar}(h:H a=dE (.lst xs)):SqX K H a xs:= .inl (.inl h)
noncomputable def zqh:pW->pU V
 | .none=>dE .non
 | .bool b=>dE (.bl b)
 | .int i _=>dE (.int i)
 | .str x _=>dE (.str x)
 | .bytes b _=>dE (.byt b)
 | .float b _=>dE (.flt b)
 | .ref a=>dE (.ref a)
 | .type n=>dE (.ty n)
 |_=>fC
def zI.abs(r:zI x u):zqh u=dE x:=by
 cases x with
 |non=>cases r;rfl
 |bl _=>cases r;rfl
 |int _=>obtain⟨t,rfl⟩:=r;rfl
 |str _=>obtain⟨t,rfl⟩:=r;rfl
 |byt _=>obtain⟨t,rfl⟩:=r;rfl
 |flt _=>obtain⟨t,rfl⟩:=r;rfl
 |ref _=>cases r;rfl
 |ty _=>cases r;rfl
def zI.inj(r:zI x u)(q:zI y u):x=y:=BF (r.abs.symm.trans q.abs)
def zR.inj(h:zR xs us)(k:zR ys us):xs=ys:=by
 induction h generalizing ys with
 |nil=>cases k;rfl
 |cons r _ ih=>
  cases k with
  |cons r' t'=>rw[r.inj r',ih t']
section
def SqT.of{K:Ar}(h:H a=dE (.tup xs)):SqT K H a xs:= .inl (.inl h)
def Inv.list(I:Inv X pins σ H s)(h:SqL X.K H a xs):∃ae:mZ pW,zR xs ae/\PlainL s.heap a ae.toArray/\xs.length<=sizeLine:=by
 rcases h with h|⟨o,ae,n,hk,hc,hd,hs,hz,r⟩
 .obtain⟨z,ae,n,r,e⟩:=h.ok I.hok;exact⟨ae,r,⟨_,n,e,rfl,rfl,rfl⟩,z⟩
 refine⟨ae.toList,r,⟨o,n,I.kIn a o hk,hc,hd,by simpa using hs⟩,?_⟩;have e:=r.length;simp only[D1] at e;omega
def Inv.tuple(I:Inv X pins σ H s)(h:SqT X.K H a xs):∃ae:mZ pW,zR xs ae/\IsTup s.heap a ae.toArray/\xs.length<=sizeLine:=by
 rcases h with h|⟨o,ae,n,hk,hc,hs,hz,r⟩
 .obtain⟨z,ae,r,p⟩:=h.ok I.hok;exact⟨ae,r,p.tup,z⟩
 refine⟨ae.toList,r,⟨o,I.kIn a o hk,hc,n,by simpa using hs⟩,?_⟩;have e:=r.length;simp only[D1] at e;omega
def Inv.list_inj(I:Inv X pins σ H s)(h:SqL X.K H a xs)(h':SqL X.K H a ys):xs=ys:=by
 obtain⟨ae,r,⟨o,n,e,_,_,d⟩,_⟩:=I.list h;obtain⟨its',r',⟨o',n',e',_,_,d'⟩,_⟩:=I.list h';rw[e] at e';cases e';rw[d] at d';injection d' with d1 _
 have:ae=its':=by simpa using congrArg HQ d1
 subst this;exact r.inj r'
def Inv.tuple_inj(I:Inv X pins σ H s)(h:SqT X.K H a xs)(h':SqT X.K H a ys):xs=ys:=by
 obtain⟨ae,r,⟨o,e,_,n,d⟩,_⟩:=I.tuple h;obtain⟨its',r',⟨o',e',_,n',d'⟩,_⟩:=I.tuple h';rw[e] at e';cases e';rw[d] at d';injection d' with d1 _
 have:ae=its':=by simpa using congrArg HQ d1
 subst this;exact r.inj r'
end
noncomputable abbrev Cx.wish(X:Cx)(E:pW->pX->Prop):Cx:={X with xe:=E}
noncomputable abbrev Cx.nox(X:Cx):Cx:=X.wish λ_ _=>False
section
variable{st:Stmt}{rest:mZ Stmt}{t u:TS}{e:Expr}{te:TE}{pos:Pos}
def zmY:TS:=λD σ H=>D.nx σ H
def znB(t u:TS):TS:=λD σ H=>t {D with nx:=u D} σ H
def zU:PSs X [] zmY:=λ_ _ σ H _ I h=>wpAny_execs_nil ⟨σ,H,I,h⟩
def zik(h1:PS X st t)(h2:PSs X rest u):PSs X (st::rest) (znB t u):=by
 intro pins s σ H D I h;refine wpAny_execs_cons (thn (h1 pins s σ H {D with nx:=u D} I h) λf s1 q=> ?_);cases f with
 |next=>
  obtain⟨σ',H',I',q⟩:=q;exact h2 pins s1 σ' H' D I' q
 |ret v=>exact q
 |brk=>exact q
 |cont=>exact q
def zlk(h1:PS X st t):PSs X [st] t:=by
 intro pins s σ H D I h;refine wpAny_execs_cons (thn (h1 pins s σ H D I h) λf s1 q=> ?_);cases f with
 |next=>exact wpAny_execs_nil q
 |ret v=>exact q
 |brk=>exact q
 |cont=>exact q
def Inv.quiet(I:Inv X pins σ H s):interactive X.env=kb:=by simp[interactive,I.ok.kind]
def zmZ(te:TE):TS:=λD σ H=>te σ H λ_ H1=>D.nx σ H1
def ZL(he:PE X e te)(hs:swapsWith e fC pos.line X.env=pure kb:=by rfl):PS X (.Expr e pos) (zmZ te):=by
 intro pins s σ H D I h;refine wpAny_Expr_any (thn (he pins s σ H _ I h) ?_) I.quiet hs;rintro v s1 ⟨x,H1,I1,r1,q1⟩;exact⟨σ,H1,I1,q1⟩
def zo6(te:TE):TS:=λD σ H=>te σ H D.rt
def znC(he:PE X e te):PS X (.Return (dE e) pos) (zo6 te):=by
 intro pins s σ H D I h;refine wpAny_Return_some (thn (he pins s σ H _ I h) ?_);rintro v s1 ⟨x,H1,I1,r1,q1⟩;exact⟨x,σ,H1,I1,r1,q1⟩
def zo7(c:TT)(t u:TS):TS:=λD σ H=>c σ H λb H1=>if b=fJ then t D σ H1 else u D σ H1
def yU(hc:PT X c tc)(ha:PSs X a t)(hb:PSs X b u):PS X (.If c a b pos) (zo7 tc t u):=by
 intro pins s σ H D I h;refine wpAny_If (thn (hc pins s σ H _ I h) ?_);rintro d s1 ⟨H1,I1,q1⟩;cases d with
 |true=>exact ha pins s1 σ H1 D I1 q1
 |false=>exact hb pins s1 σ H1 D I1 q1
end
abbrev TG:=V->St->Hp->(St->Hp->Prop)->Prop
abbrev TGs:=mZ V->St->Hp->(St->Hp->Prop)->Prop
def PG(X:Cx)(target:Expr)(t:TG):Prop:=
 ∀(pins:mZ (qm×Obj)) (s:pX) (σ:St) (H:Hp) (v:V) (u:pW) (Q:St->Hp->Prop),Inv X pins σ H s->zI v u->t v σ H Q->
  wpAny (model X.prog X.w) X.A (assign target X.env u) (λ_ s'=>∃σ' H',Inv X pins σ' H' s'/\Q σ' H') X.xe s
def PGs(X:Cx)(ts:mZ Expr)(t:TGs):Prop:=
 ∀(pins:mZ (qm×Obj)) (s:pX) (σ:St) (H:Hp) (vs:mZ V) (us:mZ pW) (Q:St->Hp->Prop),Inv X pins σ H s->zR vs us->t vs σ H Q->
  wpAny (model X.prog X.w) X.A (assignInOrder ((assignEach ts X.env).map (·.2)) us) (λ_ s'=>∃σ' H',Inv X pins σ' H' s'/\Q σ' H') X.xe s
abbrev znD:=V->V->V->Hp->(Hp->Prop)->Prop
def zo8(X:Cx)(t:znD):Prop:=
 ∀(pins:mZ (qm×Obj)) (s:pX) (σ:St) (H:Hp) (o i v:V) (ov iv u:pW) (Q:Hp->Prop),Inv X pins σ H s->zI o ov->zI i iv->zI v u->t o i v H Q->
  wpAny (model X.prog X.w) X.A (setItem ov iv u) (λ_ s'=>∃H',Inv X pins σ H' s'/\Q H') X.xe s
abbrev TIp:=V->V->Hp->VK->Prop
section
variable{pos:Pos}
def zb6(i:Nat):TG:=λv σ H Q=>Q (σ.set i (dE v)) H
def zu(hN:X.N.Nodup)(hi:X.N[i]? =dE x)(hx:Loc X.env.scope x)(hf:X.fn x=fJ\/X.env.scope.names.lookup x=dE .local:=by first|exact .inl rfl|exact .inr rfl|assumption):PG X (.Name x pos) (zb6 i):=by
 intro pins s σ H v u Q I r h;exact wpAny_assign_Name (Ui I hN hi hx r (λs' I'=>⟨_,H,I',h⟩) hf)
def znE:TGs:=λvs σ H Q=>vs=[]/\Q σ H
def zil(t:TG)(u:TGs):TGs:=λvs σ H Q=>∃v r,vs=v::r/\t v σ H λσ' H'=>u r σ' H' Q
def xt:PGs X [] znE:=by
 intro pins s σ H vs us Q I r h;obtain⟨e,h⟩:=h;subst e;cases r;exact assignInOrder_nil ⟨σ,H,I,h⟩
def zK(h1:PG X e t)(h2:PGs X es u)
  (hs:(assignEach (e::es) X.env).map (·.2)=assign e X.env::(assignEach es X.env).map (·.2):=by rfl):PGs X (e::es) (zil t u):=by
 intro pins s σ H vs us Q I r h;obtain⟨v,vr,e1,h⟩:=h;subst e1;cases r with
 |cons r rr=>
  rw[hs];refine assignInOrder_cons (thn (h1 pins s σ H _ _ _ I r h) ?_);rintro _ s1 ⟨σ1,H1,I1,q1⟩;exact h2 pins s1 σ1 H1 _ _ Q I1 rr q1
def zll(K:Ar)(n:Nat)(t:TGs):TG:=λv σ H Q=>∃a xs,v= .ref a/\SqT K H a xs/\xs.length=n/\t xs σ H Q
def znF{es:mZ Expr}{k:Nat}{t:TGs}{n:Nat}(hc:X.calm=fJ)(h:PGs X es t)
  (hn:(assignEach es X.env).length=n:=by rfl) (dY:(assignEach es X.env).findIdx? (·.1)=fC:=by rfl):PG X (.Tuple es k pos) (zll X.K n t):=by
 intro pins s σ H v u Q I r hw;obtain⟨a,xs,e1,hq,hl,hw⟩:=hw;subst e1;cases r;obtain⟨ae,rv,ht,hz⟩:=I.tuple hq;refine assign_Tuple_tuple (I.ok.hd hc) ht (by simp[hn,<-hl,rv.length]) dY λh' hx=> ?_;have I1:Inv X pins σ H {s with heap:=h'}:=I.kept (t':=s.toks) λb o e=>hx b o (B3 (Heap.lt_size e)) e;exact h pins _ σ H xs _ Q I1 (by simpa using rv) hw
def zo9(to ti:TE)(t:znD):TG:=λv σ H Q=>to σ H λo H1=>ti σ H1 λi H2=>t o i v H2 λH3=>Q σ H3
def zaK(ho:PE X o to)(hi:PE X i ti)(hs:zo8 X t)
  (ha:∀v,assign (.Subscript o i pos) X.env v=(do
   let ov <-holding [v] (eval o X.env)
   let iv <-holding [v,ov] (eval i X.env)
   standAt pos
   holding [v,ov,iv] (setItem ov iv v)
   release [v,ov,iv] []):=by intro _;rfl):PG X (.Subscript o i pos) (zo9 to ti t):=by
 intro pins s σ H v u Q I r h;rw[ha];refine wpAny_bind (wpAny_holding (thn (ho pins s σ H _ I h) ?_));rintro ov s1 ⟨x,H1,I1,r1,q1⟩;refine wpAny_bind (wpAny_holding (thn (hi pins s1 σ H1 _ I1 q1) ?_));rintro iv s2 ⟨y,H2,I2,r2,q2⟩;refine wpAny_bind (wpAny_standAt (wpAny_bind (wpAny_holding (thn (hs pins s2 σ H2 x y v ov iv u _ I2 r1 r2 r q2) ?_))));rintro _ s3 ⟨H3,I3,q3⟩;exact wpAny_release ⟨σ,H3,I3,q3⟩
def znG(te:TE)(g:TG):TS:=λD σ H=>te σ H λx H1=>g x σ H1 D.nx
def UY(he:PE X e te)(hg:PG X tg g)(hs:swapsWithSole [tg] e pos.line X.env=pure kb:=by rfl)(hw:swappedStores [tg] e X.env=pure fC:=by rfl)
  (h1:(assignEach [tg] X.env).map (·.2)=[assign tg X.env]:=by rfl):PS X (.Assign [tg] e pos) (znG te g):=by
 intro pins s σ H D I h;refine wpAny_Assign_stores (thn (he pins s σ H _ I h) ?_) hs hw;rintro v s1 ⟨x,H1,I1,r1,q1⟩;rw[h1];exact thn (hg pins s1 σ H1 x v _ I1 r1 q1) λ_ s2 q=>q
def znH(hN:X.N.Nodup)(hi:X.N[i]? =dE x)(hx:Loc X.env.scope x)(he:PE X e te)(hs:swapsWith e (dE (.Name x pos')) pos.line X.env=pure kb:=by rfl)(hf:X.fn x=fJ\/X.env.scope.names.lookup x=dE .local:=by first|exact .inl rfl|exact .inr rfl|assumption):
  PS X (.Assign [.Name x pos'] e pos) (znG te (zb6 i)):=by
 intro pins s σ H D I h;refine wpAny_Assign_Name (thn (he pins s σ H _ I h) ?_) hs;rintro v s1 ⟨y,H1,I1,r1,q1⟩;exact Ui I1 hN hi hx r1 (λs2 I2=>⟨_,H1,I2,q1⟩) hf
def zpa(i j:Nat)(ta:TA):TS:=λD σ H=>ta σ H λvs H1=>∃v w,vs=[v,w]/\D.nx ((σ.set i (dE v)).set j (dE w)) H1
def znI{kt k2 nc}(hc:X.calm=fJ)(hN:X.N.Nodup)(hi:X.N[i]? =dE x)(hj:X.N[j]? =dE y)(gU:i≠j)
  (hx:X.env.scope.names.lookup x=dE .local) (hy:X.env.scope.names.lookup y=dE .local) (ha:PA X [a,b] ta)
  (hw:swappedStores [.Tuple [.Name x px,.Name y py] kt pt] (.Tuple [a,b] k2 nc) X.env=pure (dE [x,y]))
  (hs:swapsWithSole [.Tuple [.Name x px,.Name y py] kt pt] (.Tuple [a,b] k2 nc) pos.line X.env=pure kb:=by rfl):
  PS X (.Assign [.Tuple [.Name x px,.Name y py] kt pt] (.Tuple [a,b] k2 nc) pos) (zpa i j ta):=by
 intro pins s σ H D I h;rw[exec_Assign_arm];refine wpAny_bind (wpAny_standAt ?_);rw[hs];refine wpAny_bind (wpAny_pure ?_);rw[if_neg ∅];refine wpAny_bind (Tuple_ (thn (ha _ pins s σ H _ I h) ?_));rintro us s1 ⟨vs,H1,I1,r1,q1⟩;obtain⟨v,w,e1,q1⟩:=q1;subst e1;obtain⟨u1,u2,rfl,rv,rw'⟩:∃u1 u2,us=[u1,u2]/\zI v u1/\zI w u2:=by
  cases r1 with
  |cons p q=>
   cases q with
   |cons p' q'=>
    cases q';exact⟨_,_,rfl,p,p'⟩
 refine wpAny_newObj_type ?_ (by show 2<=sizeLine;decide);have I2:Inv X pins σ H1 {s1 with heap:=s1.heap.push {cls:= .type "tuple",data:= .seq [u1,u2].toArray}}:=I1.kept (t':=s1.toks) λb o e=>Heap.get?_push_of_some _ e;rw[hw];refine wpAny_bind (wpAny_pure ?_);show wpAny (model X.prog X.w) X.A (do rule "assign.swapped-stores";let items <-unpackItems (.ref s1.heap.objs.size) 2 fC;assignInOrder [λv=>bindName X.env y v,λv=>bindName X.env x v] items.reverse;pure Flow.next) _ _ _;refine wpAny_bind (wpAny_rule (wpAny_bind (unpackItems_tuple (items:= #[u1,u2]) (I.ok.hd hc) (IsTup.new s1.heap _) λh' jt=> ?_)));have I3:=I2.kept (h':=h') (t':=s1.toks) λb o e=>jt b o (B3 (Heap.lt_size e)) e;show wpAny _ _ (assignInOrder [λv=>bindName X.env y v,λv=>bindName X.env x v] [u2,u1]>>=λ_=>pure Flow.next) _ _ _;refine wpAny_bind (assignInOrder_cons (wpAny_bindName (Ui I3 hN hj (.inl hy) rw' (λs2 I4=> ?_) (.inr hy))));refine assignInOrder_cons (wpAny_bindName (Ui I4 hN hi (.inl hx) rv (λs3 I5=>assignInOrder_nil (wpAny_pure ?_)) (.inr hx)));rw[List.set_comm _ _ (BH gU)] at I5;exact⟨_,H1,I5,q1⟩
def zim(c:TT)(tb:TS):TS:=λD σ H=>∃W:Nat->St->Hp->Prop,(∃m,W m σ H)/\∀m σ H,W m σ H->
 c σ H λb H1=>if b=fJ then ∃N:St->Hp->Prop,(∀σ' H',N σ' H'->∃m',m'<m/\W m' σ' H')/\tb {D with nx:=N,ct:=N,bk:=D.nx} σ H1 else D.nx σ H1
def Wl(hp:PassesOwn (model X.prog X.w) X.A X.env X.xe)(hc:PT X c tc)(hb:PSs X body tb):PS X (.While c body [] pos) (zim tc tb):=by
 intro pins s σ H D I h;obtain⟨W,⟨m0,w0⟩,turn⟩:=h;refine wpAny_While (codeAny_whileLoop (λn s'=>∃σ' H',Inv X pins σ' H' s'/\W n σ' H') ?_ m0 ⟨σ,H,I,w0⟩);rintro n s1 ⟨σ1,H1,I1,w1⟩;refine wpAny_passesOwn hp (thn (hc pins s1 σ1 H1 _ I1 (turn n σ1 H1 w1)) ?_);rintro b s2 ⟨H2,I2,q2⟩;cases b with
 |true=>
  obtain⟨N,hN,q2⟩:=q2;rw[if_pos rfl];refine wpAny_passesOwn hp (thn (hb pins s2 σ1 H2 _ I2 q2) λf s3 q3=> ?_);cases f with
  |next=>
   obtain⟨σ3,H3,I3,n3⟩:=q3;obtain⟨m',hm,w3⟩:=hN σ3 H3 n3;exact⟨m',hm,σ3,H3,I3,w3⟩
  |cont=>
   obtain⟨σ3,H3,I3,n3⟩:=q3;obtain⟨m',hm,w3⟩:=hN σ3 H3 n3;exact⟨m',hm,σ3,H3,I3,w3⟩
  |brk=>exact q3
  |ret v=>exact q3
 |false=>
  rw[if_neg B4];exact wpAny_execs_nil ⟨σ1,H2,I2,q2⟩
end
structure It where
 go:Nat->Hp->Prop
 yld:Nat->Hp->V->Hp->Prop
 stop:Nat->Hp->Prop
def UZ(X:Cx)(pins:mZ (qm×Obj))(H:Hp)(b:qm):Prop:=
 H b=fC/\b≠X.env.locals/\b∉X.fs/\(b∈X.ex\/X.s₀.heap.objs.size<=b)/\(∀x c,X.env.cells.lookup x=dE c->c≠b)/\∀p∈X.pn++pins,p.1≠b
def Inv.fpOk{b:qm}(I:Inv X pins σ H s)(hb:s.heap.objs.size<=b)(hn:H' b=fC):UZ X pins H' b:=by
 refine⟨hn,Bo (AJ I.lt hb),I.nofs hb,.inr (AA I.sz hb),λx c e z=> ?_,λp hp z=> ?_⟩;obtain⟨v,q⟩:=I.cell x c e;exact absurd (AJ q.lt (by rw[z];exact hb)) (C0 _);exact absurd (AJ (Heap.lt_size (I.pin p hp).1) (by rw[z];exact hb)) (C0 _)
structure zd1(P:Program)(w:World)(K:Ar)(tg:Expr)(J:It)(fp:mZ qm)(it:qm)(tn:Nat->Heap->Prop):Prop where
 mem:it∈fp
 obj:∀i h,tn i h->∀b∈fp,∃o,h.get? b=dE o/\∀v,o.data≠ .cell v
 keep:∀i h h',tn i h->(∀b∈fp,∀o,h.get? b=dE o->h'.get? b=dE o)->tn i h'
 item:∀(X:Cx),X.prog=P->X.w=w->X.K=K->X.calm=fJ->∀(i:Nat) (pins:mZ (qm×Obj)) (s:pX) (σ:St) (H:Hp) (E:pW->pX->Prop),Inv X pins σ H s->(∀b∈fp,UZ X pins H b)->tn i s.heap->J.go i H->
  wpAny (model P w) X.A (pyNext (.ref it)) (λr s1=>∃u,r=dE u/\
   wpAny (model P w) X.A (letOwnedTupleGo tg (.ref it) u) (λ_ s2=>∃x H',Inv X pins σ H' s2/\zI x u/\J.yld i H x H'/\tn (i+1) s2.heap/\∀b∈fp,H' b=fC) E s1) E s
 done:∀(X:Cx),X.prog=P->X.w=w->X.K=K->X.calm=fJ->∀(i:Nat) (pins:mZ (qm×Obj)) (s:pX) (σ:St) (H:Hp) (E:pW->pX->Prop),Inv X pins σ H s->(∀b∈fp,UZ X pins H b)->tn i s.heap->J.stop i H->
  wpAny (model P w) X.A (pyNext (.ref it)) (λr s1=>r=fC/\Inv X pins σ H s1) E s
 self:∀(A:Around) (i:Nat) (s:pX) (Q:pW->pX->Prop) (E:pW->pX->Prop),tn i s.heap->Q (.ref it) s->wpAny (model P w) A (pyIter (.ref it)) Q E s
abbrev TI:=St->Hp->(It->Hp->Prop)->Prop
def PIE(X:Cx)(pins:mZ (qm×Obj))(σ:St)(tg:Expr)(R:It->Hp->Prop)(nF:pW)(s2:pX):Prop:=
 ∃(it:qm) (fp:mZ qm) (tn:Nat->Heap->Prop) (J:It) (H':Hp),nF= .ref it/\Inv X pins σ H' s2/\zd1 X.prog X.w X.K tg J fp it tn/\tn 0 s2.heap/\(∀b∈fp,UZ X pins H' b)/\R J H'
def PI(X:Cx)(tg iter:Expr)(wi:TI):Prop:=
 ∀(pins:mZ (qm×Obj)) (s:pX) (σ:St) (H:Hp) (R:It->Hp->Prop),Inv X pins σ H s->wi σ H R->
  wpAny (model X.prog X.w) X.A (eval iter X.env) (λv s1=>wpAny (model X.prog X.w) X.A (pyIter v) (PIE X pins σ tg R) X.xe s1) X.xe s
def zgi{Q:Unit->pX->Prop}(ho:s.heap.get? it=dE o)(hc:o.cls= .type n)(hd:o.data= .fields vs)
    (hn:["enumerate","zip","dict_itemiterator","dict_reverseitemiterator","odict_iterator","itertools.zip_longest","itertools.pairwise"].contains n=kb) (hQ:Q () s):wpAny M A (letOwnedTupleGo tg (.ref it) u) Q E s:=by
  unfold letOwnedTupleGo;cases tg<;>first
    |exact wpAny_pure hQ
    | (cases u <;> first
        |exact wpAny_pure hQ
        | (refine wpAny_bind (wpAny_load ho ?_)
           rw[hc,hd];show wpAny M A (if (["enumerate","zip","dict_itemiterator","dict_reverseitemiterator","odict_iterator","itertools.zip_longest","itertools.pairwise"].contains n&&vs[0]? ==dE (rawInt _))=fJ then _ else _) Q E s;rw[if_neg (by intro h;rw[hn,Bool.false_and] at h;cases h)]
           exact wpAny_pure hQ))
noncomputable def Itl(K:Ar)(a:qm):It:=
 ⟨λi H=>∃xs x,SqL K H a xs/\xs[i]? =dE x,λi H x H'=>H'=H/\∀xs,SqL K H a xs->xs[i]? =dE x,λi H=>∃xs,SqL K H a xs/\xs.length<=i⟩
noncomputable def Itt(K:Ar)(a:qm):It:=
 ⟨λi H=>∃xs x,SqT K H a xs/\xs[i]? =dE x,λi H x H'=>H'=H/\∀xs,SqT K H a xs->xs[i]? =dE x,λi H=>∃xs,SqT K H a xs/\xs.length<=i⟩
noncomputable def Itr(lo:Int)(n:Nat):It:=⟨λi _=>i<n,λi H x H'=>H'=H/\x= .int (lo+i),λi _=>n<=i⟩
def zb7{P:Program}{K:Ar}(a it:qm):zd1 P w K tg (Itl K a) [it] it (λi h=>h.IsListIter it a i) where
 mem:=by simp
 obj:=λi h st b hb=>by
  have e:b=it:=by simpa using hb
  subst e;obtain⟨o,e,c,d⟩:=st;exact⟨o,e,λv z=>by rw[d] at z;cases z⟩
 keep:=λi h h' st k=>st.at λo e=>k it (by simp) o e
 item:=by
  walk_at "!b";obtain⟨xs,x,hq,hx⟩:=hg;obtain⟨ae,rv,p,hz⟩:=I.list hq;obtain⟨u,hu,ru⟩:=rv.get hx;obtain⟨f0,f1,f2,f3,f4,f5⟩:=hf it (by simp);refine wpAny_pyNext_list_item st p.isList (x:=u) (by simpa using hu) λh' st' sb=> ?_;have I1:Inv X pins σ H {s with heap:=h'}:=I.turned (t':=s.toks) (λb o hb e=>(sb.2 b hb).trans e) f0 f1 f3 f4 f5;obtain⟨o,e,c,d⟩:=id st';exact⟨u,rfl,zgi (s:={s with heap:=h'}) e c d ∅ ⟨x,H,I1,ru,⟨rfl,λys hy=>by rw[I.list_inj hy hq];exact hx⟩,st',λb hb=>(hf b hb).1⟩⟩
 done:=by
  walk_at "!b";obtain⟨xs,hq,hx⟩:=hg;obtain⟨ae,rv,p,hz⟩:=I.list hq;obtain⟨f0,f1,f2,f3,f4,f5⟩:=hf it (by simp);have hl:=rv.length;exact wpAny_pyNext_list_end (I.ok.hd hc) st p.isList (by simp;omega) λh' eb=>⟨rfl,I.turned (t':=s.toks) (λb o hb e=>eb b o hb e) f0 f1 f3 f4 f5⟩
 self:=λ_ _ _ _ _ st h=>wpAny_pyIter_listiter st h
def zfa{P:Program}{K:Ar}(a it:qm):zd1 P w K tg (Itt K a) [it] it (λi h=>h.IsTupleIter it a i) where
 mem:=by simp
 obj:=λi h st b hb=>by
  have e:b=it:=by simpa using hb
  subst e;obtain⟨o,e,c,d⟩:=st;exact⟨o,e,λv z=>by rw[d] at z;cases z⟩
 keep:=λi h h' st k=>st.at λo e=>k it (by simp) o e
 item:=by
  walk_at "!b";obtain⟨xs,x,hq,hx⟩:=hg;obtain⟨ae,rv,p,hz⟩:=I.tuple hq;obtain⟨u,hu,ru⟩:=rv.get hx;obtain⟨f0,f1,f2,f3,f4,f5⟩:=hf it (by simp);refine wpAny_pyNext_tuple_item st (show s.heap.IsTuple a ae.toArray from p) (x:=u) (by simpa using hu) λh' st' sb=> ?_;have I1:Inv X pins σ H {s with heap:=h'}:=I.turned (t':=s.toks) (λb o hb e=>(sb.2 b hb).trans e) f0 f1 f3 f4 f5;obtain⟨o,e,c,d⟩:=id st';exact⟨u,rfl,zgi (s:={s with heap:=h'}) e c d ∅ ⟨x,H,I1,ru,⟨rfl,λys hy=>by rw[I.tuple_inj hy hq];exact hx⟩,st',λb hb=>(hf b hb).1⟩⟩
 done:=by
  walk_at "!b";obtain⟨xs,hq,hx⟩:=hg;obtain⟨ae,rv,p,hz⟩:=I.tuple hq;obtain⟨f0,f1,f2,f3,f4,f5⟩:=hf it (by simp);have hl:=rv.length;exact wpAny_pyNext_tuple_end (I.ok.hd hc) st (show s.heap.IsTuple a ae.toArray from p) (by simp;omega) λh' eb=>⟨rfl,I.turned (t':=s.toks) (λb o hb e=>eb b o hb e) f0 f1 f3 f4 f5⟩
 self:=λ_ _ _ _ _ st h=>wpAny_pyIter_tupleiter st h
def zfb{P:Program}{K:Ar}(it:qm)(lo:Int)(n:Nat):zd1 P w K tg (Itr lo n) [it] it (λi h=>IsRangeIter h it (lo+(i:Nat)*1) ((n:Int)-(i:Nat)) 1) where
 mem:=by simp
 obj:=λi h st b hb=>by
  have e:b=it:=by simpa using hb
  subst e
  exact⟨_,st,λv z=>by
   have z':Data.fields _=Data.cell v:=z
   cases z'⟩
 keep:=λi h h' st k=>k it (by simp) _ st
 item:=by
  walk_at "!b";obtain⟨f0,f1,f2,f3,f4,f5⟩:=hf it (by simp);have W:=Walks.range (prog:=X.prog) (w:=X.w) (I.ok.hd hc) it lo 1 n;refine W.item i s _ _ hg st λv h' tk hv st' kk=> ?_;obtain⟨t,rfl⟩:=hv;have I1:Inv X pins σ H {s with heap:=h',toks:=tk}:=I.turned (λb o hb e=>kk b o (by simpa using hb) e) f0 f1 f3 f4 f5;refine⟨_,rfl,zgi (s:={s with heap:=h',toks:=tk}) (n:="range_iterator") st' rfl rfl ∅ ⟨.int (lo+i),H,I1,⟨t,?_⟩,⟨rfl,rfl⟩,st',λb hb=>(hf b hb).1⟩⟩;rw[CF]
 done:=by
  walk_at "!b";obtain⟨f0,f1,f2,f3,f4,f5⟩:=hf it (by simp);exact wpAny_pyNext_range_end (I.ok.hd hc) st (by have:n<=i:=hg;omega) λh' eb=>⟨rfl,I.turned (t':=s.toks) (λb o hb e=>eb b o hb e) f0 f1 f3 f4 f5⟩
 self:=λ_ _ _ _ _ st h=>wpAny_pyIter_rangeiter st h
section
def zin(K:Ar)(tl:TE):TI:=λσ H R=>tl σ H λx H1=>∃a,x= .ref a/\(∃xs,SqL K H1 a xs)/\R (Itl K a) H1
def zlm(hl:PE X l tl):PI X tg l (zin X.K tl):=by
 intro pins s σ H R I h;refine thn (hl pins s σ H _ I h) ?_;rintro v s1 ⟨x,H1,I1,r1,q1⟩;obtain⟨a,e,⟨xs,hq⟩,q⟩:=q1;subst e;cases r1;obtain⟨ae,rv,p,hz⟩:=I1.list hq;refine wpAny_pyIter_list p.isList ?_;refine⟨s1.heap.objs.size,[s1.heap.objs.size],_,_,H1,rfl,I1.kept (t':=s1.toks) λb o e=>Heap.get?_push_of_some _ e,zb7 a _,⟨_,Heap.get?_push_size _ rfl,rfl,rfl⟩,λb hb=> ?_,q⟩;have e:b=s1.heap.objs.size:=by simpa using hb
 subst e;exact I1.fpOk (AF _) (I1.hok.fresh (AF _))
def zio{R:It->Hp->Prop}{lo hi:Int}{t u v:Tok}{tk:Nat}(I:Inv X pins σ H s)(h1: -(2^62)<=lo)(h2:lo<2^62)(h3: -(2^62)<=hi)(h4:hi<2^62)
  (q:R (Itr lo (hi-lo).toNat) H):wpAny (model X.prog X.w) X.A (pyIter (.ref s.heap.objs.size)) (PIE X pins σ tg R) E {s with heap:=s.heap.push {cls:= .type "range",data:= .fields #[.int lo t,.int hi u,.int 1 v]},toks:=tk}:=by
 refine wpAny_pyIter_range (IsRange.new ..) (small_one h1 h2 h3 h4) ?_;have I1:Inv X pins σ H {s with heap:=s.heap.push {cls:= .type "range",data:= .fields #[.int lo t,.int hi u,.int 1 v]},toks:=tk}:=I.kept λb o e=>Heap.get?_push_of_some _ e
 refine⟨(s.heap.push {cls:= .type "range",data:= .fields #[.int lo t,.int hi u,.int 1 v]}).objs.size,[(s.heap.push {cls:= .type "range",data:= .fields #[.int lo t,.int hi u,.int 1 v]}).objs.size],_,_,H,rfl,
  I1.kept (t':=tk) λb o e=>Heap.get?_push_of_some _ e,zfb _ lo (hi-lo).toNat,?_,λb hb=> ?_,q⟩
 .have e1:lo+((0:Nat):Int)*1=lo:=by simp
  have e2:(((hi-lo).toNat:Nat):Int)-((0:Nat):Int)=Builtin.Range.rangeSize lo hi 1:=by rw[rangeSize_one];split<;>omega
  show IsRangeIter _ _ (lo+((0:Nat):Int)*1) ((((hi-lo).toNat:Nat):Int)-((0:Nat):Int)) 1;rw[e1,e2];exact Heap.get?_push_size _ rfl
 have e:b=(s.heap.push {cls:= .type "range",data:= .fields #[.int lo t,.int hi u,.int 1 v]}).objs.size:=by simpa using hb
 subst e;exact I1.fpOk (AF _) (I1.hok.fresh (AF _))
def zm0(ta:TA):TI:=λσ H R=>ta σ H λvs H1=>∃j:Int,vs=[.int j]/\ -(2^62)<=j/\j<2^62/\R (Itr 0 j.toNat) H1
def wA(hg:Gl X "range")(hm:X.mg "range"=fC)(ha:PA X [a] ta)(hs:starEach [a] X.env=[(kb,eval a X.env)]:=by rfl):PI X tg (.Call (.Name "range" p) [a] [] pos) (zm0 ta):=by
 intro pins s σ H R I h;refine Call_ (Zy I hg hm boot_range (BJ (thn (ha pos pins s σ H _ I h) ?_) hs rfl));rintro us s1 ⟨vs,H1,I1,r1,q1⟩;obtain⟨j,e,q1,q2,q⟩:=q1;subst e;cases r1 with
 |cons r rr=>
  cases rr;obtain⟨t,rfl⟩:=r;exact call_range_1 (zio I1 ⋯ ⋯ q1 q2 (by simpa using q))
def zpb(wi:TI)(g:TG)(tb:TS):TS:=λD σ H=>wi σ H λJ H1=>∃W:Nat->Nat->St->Hp->Prop,(∃m,W 0 m σ H1)/\∀i m σ H,W i m σ H->
 (J.stop i H/\D.nx σ H)\/(J.go i H/\∃N:St->Hp->Prop,(∀σ' H',N σ' H'->∃m',m'<m/\W (i+1) m' σ' H')/\∀x H',J.yld i H x H'->g x σ H' λσ2 H2=>tb {D with nx:=N,ct:=N,bk:=D.nx} σ2 H2)
noncomputable def zaL(fp:mZ qm)(h:Heap):mZ (qm×Obj):=fp.filterMap λb=>(h.get? b).map λo=>(b,o)
def Xj(hb:b∈fp)(e:h.get? b=dE o):(b,o)∈zaL fp h:=GA.mpr ⟨b,hb,by rw[e];rfl⟩
def zhn(hp:p∈zaL fp h):p.1∈fp/\h.get? p.1=dE p.2:=by
 obtain⟨b,hb,e⟩:=GA.mp hp;cases q:h.get? b with
 |none=>rw[q] at e;cases e
 |some o=>
  rw[q] at e;have e':(b,o)=p:=BF e;subst e';exact⟨hb,q⟩
def Inv.pinned(I:Inv X pins σ H s)(hf:∀b∈fp,UZ X pins H b)(ho:∀b∈fp,∃o,s.heap.get? b=dE o/\∀v,o.data≠ .cell v):Inv X (pins++zaL fp s.heap) σ H s:=
 I.pins_of λp hp=>(AU.mp hp).elim (λz=>I.pin p (B5 _ z)) λz=>by
  obtain⟨hb,e⟩:=zhn z;obtain⟨f0,f1,f2,_⟩:=hf p.1 hb;obtain⟨o,e',d⟩:=ho p.1 hb;rw[e] at e';cases e';exact⟨e,f0,f1,f2,d⟩
def Inv.unpinned(I:Inv X (pins++pl) σ H s):Inv X pins σ H s:=I.pins_of λp hp=>I.pin p (B5 _ (D6 _ hp))
def wa(hp:PassesOwn (model X.prog X.w) X.A X.env X.xe)(hc:X.calm=fJ)(hi:PI X tg iter wi)(hg:PG X tg g)(hb:PSs X body tb)
  (hs:∀x,foldedSetIterable iter X.env x=pure x:=by intro _;rfl):PS X (.For tg iter body [] pos) (zpb wi g tb):=by
 intro pins s σ H D I h;refine wpAny_For (thn (hi pins s σ H _ I h) λv s1 h1=>thn h1 λnF s2 h2=> ?_) hs;obtain⟨it,fp,tn,J,H2,e,I2,T,kz,f2,W,⟨m0,w0⟩,turn⟩:=h2;subst e;have stat:∀{H':Hp},(∀b∈fp,H' b=fC)->∀b∈fp,UZ X pins H' b:=λhn b hb=>⟨hn b hb,(f2 b hb).2⟩;refine codeAny_forLoop_any (λn s'=>∃i σ' H',Inv X pins σ' H' s'/\tn i s'.heap/\(∀b∈fp,H' b=fC)/\W i n σ' H') ?_ m0 ⟨0,σ,H2,I2,kz,λb hb=>(f2 b hb).1,w0⟩;rintro n s3 ⟨i,σ3,H3,I3,ky,lS,w3⟩;rcases turn i n σ3 H3 w3 with⟨stop,qn⟩|⟨go,N,hN,step⟩
 .refine wpAny_passesOwn hp (thn (T.done X rfl rfl rfl hc i pins s3 σ3 H3 X.xe I3 (stat lS) ky stop) λr s4 ⟨hr,I4⟩=> ?_);subst hr;exact wpAny_execs_nil ⟨σ3,H3,I4,qn⟩
 refine wpAny_passesOwn hp (thn (T.item X rfl rfl rfl hc i pins s3 σ3 H3 X.xe I3 (stat lS) ky go) λr s4 ⟨u,hr,h4⟩=> ?_);subst hr;refine wpAny_passesOwn hp (thn h4 ?_);rintro _ s5 ⟨x,H5,I5,r5,y5,jc,pO⟩;have I5':=I5.pinned (stat pO) (T.obj _ _ jc);refine wpAny_passesOwn hp (thn (hg _ s5 σ3 H5 x u _ I5' r5 (step x H5 y5)) ?_);rintro _ s6 ⟨σ6,H6,I6,q6⟩;refine wpAny_passesOwn hp (thn (hb _ s6 σ6 H6 _ I6 q6) λf s7 q7=> ?_);have again:∀{σ7:St} {H7:Hp},Inv X (pins++zaL fp s5.heap) σ7 H7 s7->N σ7 H7->∃m,m<n/\∃i σ' H',Inv X pins σ' H' s7/\tn i s7.heap/\(∀b∈fp,H' b=fC)/\W i m σ' H':=λ{σ7 H7} I7 n7=>by
  obtain⟨m',hm,w7⟩:=hN σ7 H7 n7;refine⟨m',hm,i+1,σ7,H7,I7.unpinned,T.keep _ _ _ jc λb hb o e=>(I7.pin (b,o) (B5 _ (B5 _ (Xj hb e)))).1,λb hb=> ?_,w7⟩;obtain⟨o,e,d⟩:=T.obj _ _ jc b hb;exact(I7.pin (b,o) (B5 _ (B5 _ (Xj hb e)))).2.1
 cases f with
 |next=>obtain⟨σ7,H7,I7,n7⟩:=q7;exact again I7 n7
 |cont=>obtain⟨σ7,H7,I7,n7⟩:=q7;exact again I7 n7
 |brk=>obtain⟨σ7,H7,I7,q7⟩:=q7;exact⟨σ7,H7,I7.unpinned,q7⟩
 |ret v=>obtain⟨x7,σ7,H7,I7,r7,q7⟩:=q7;exact⟨x7,σ7,H7,I7.unpinned,r7,q7⟩
end
abbrev R2:=V->V->Hp->VK->Prop
def OpR(X:Cx)(f:pW->pW->Sem pW)(r:R2):Prop:=
 ∀(pins:mZ (qm×Obj)) (s:pX) (σ:St) (H:Hp) (x y:V) (v u:pW) (Q:VK),Inv X pins σ H s->zI x v->zI y u->r x y H Q->
  wpAny (model X.prog X.w) X.A (f v u) (EP X pins σ Q) X.xe s
def UnR(X:Cx)(f:pW->Sem pW)(r:V->Hp->VK->Prop):Prop:=
 ∀(pins:mZ (qm×Obj)) (s:pX) (σ:St) (H:Hp) (x:V) (v:pW) (Q:VK),Inv X pins σ H s->zI x v->r x H Q->
  wpAny (model X.prog X.w) X.A (f v) (EP X pins σ Q) X.xe s
def YK(X:Cx)(f:pW)(r:mZ V->Hp->VK->Prop):Prop:=
 ∀(pins:mZ (qm×Obj)) (s:pX) (σ:St) (H:Hp) (xs:mZ V) (us:mZ pW) (Q:VK),Inv X pins σ H s->zR xs us->r xs H Q->
  wpAny (model X.prog X.w) X.A (call f us) (EP X pins σ Q) X.xe s
def tOp(r:R2)(ta tb:TE):TE:=λσ H Q=>ta σ H λx H1=>tb σ H1 λy H2=>r x y H2 Q
def tUn(r:V->Hp->VK->Prop)(ta:TE):TE:=λσ H Q=>ta σ H λx H1=>r x H1 Q
def rI(C:Int->Int->Prop)(g:Int->Int->V):R2:=λx y H Q=>∃i j,x= .int i/\y= .int j/\C i j/\Q (g i j) H
def rI0(g:Int->Int->V):R2:=λx y H Q=>∃i j,x= .int i/\y= .int j/\Q (g i j) H
def rU(g:Int->V):V->Hp->VK->Prop:=λx H Q=>∃i,x= .int i/\Q (g i) H
section
def znJ(ha:PE X a ta)(hb:PE X b tb){R:V->V->Hp->Prop}(I:Inv X pins σ H s)
  (h:ta σ H λx H1=>tb σ H1 λy H2=>R x y H2) {f:pW->pW->Sem pW}
  (hf:∀v u s2 x y H2,Inv X pins σ H2 s2->zI x v->zI y u->R x y H2->wpAny (model X.prog X.w) X.A (f v u) Q X.xe s2):
  wpAny (model X.prog X.w) X.A (eval a X.env) (λv s₁=>wpAny (model X.prog X.w) X.A (eval b X.env) (λu s₂=>wpAny (model X.prog X.w) X.A (f v u) Q X.xe s₂) X.xe s₁) X.xe s:=by
 refine thn (ha pins s σ H _ I h) ?_;rintro v s1 ⟨x,H1,I1,r1,q1⟩;refine thn (hb pins s1 σ H1 _ I1 q1) ?_;rintro u s2 ⟨y,H2,I2,r2,q2⟩;exact hf v u s2 x y H2 I2 r1 r2 q2
def zr(ho:OpR X (binaryOp op) r)(ha:PE X a ta)(hb:PE X b tb):PE X (.BinOp a op b pos) (tOp r ta tb):=by
 intro pins s σ H Q I h;exact wpAny_BinOp (znJ ha hb I h λv u s2 x y H2 I2 rx ry q=>ho pins s2 σ H2 x y v u Q I2 rx ry q)
def TV{r:V->Hp->VK->Prop}(ho:UnR X (unaryOp op) r)(ha:PE X a ta):PE X (.UnaryOp op a pos) (tUn r ta):=by
 intro pins s σ H Q I h;refine UnaryOp_ (thn (ha pins s σ H _ I h) ?_);rintro v s1 ⟨x,H1,I1,r1,q1⟩;exact ho pins s1 σ H1 x v Q I1 r1 q1
def opI{f:pW->pW->Sem pW}{C:Int->Int->Prop}{g:Int->Int->Int}
  (rule:∀(i j:Int) (t u:Tok) (s:pX) (Q:pW->pX->Prop) (E:pW->pX->Prop),C i j->Q (.int (g i j) s.toks) {s with toks:=s.toks+1}->wpAny (model X.prog X.w) X.A (f (.int i t) (.int j u)) Q E s):
  OpR X f (rI C λi j=> .int (g i j)):=by
 intro pins s σ H x y v u Q I rx ry h;obtain⟨i,j,rfl,rfl,hc,q⟩:=h;obtain⟨t,rfl⟩:=rx;obtain⟨t',rfl⟩:=ry;exact rule i j t t' s _ _ hc ⟨.int (g i j),H,I.tok _,⟨_,rfl⟩,q⟩
def zpc{f:pW->pW->Sem pW}{g:Int->Int->Int}
  (rule:∀(i j:Int) (t u:Tok) (s:pX) (Q:pW->pX->Prop) (E:pW->pX->Prop),Q (.int (g i j) s.toks) {s with toks:=s.toks+1}->wpAny (model X.prog X.w) X.A (f (.int i t) (.int j u)) Q E s):
  OpR X f (rI0 λi j=> .int (g i j)):=by
 intro pins s σ H x y v u Q I rx ry h;obtain⟨i,j,rfl,rfl,q⟩:=h;obtain⟨t,rfl⟩:=rx;obtain⟨t',rfl⟩:=ry;exact rule i j t t' s _ _ ⟨.int (g i j),H,I.tok _,⟨_,rfl⟩,q⟩
def znK(i j:Int):Prop:=0<j/\j<1073741824
def znL(i j:Int):Prop:=0<=j/\j<=1000000/\i.natAbs<2^64
def ziq(i j:Int):Prop:=(-(2^64)<i/\i<2^64)\/(-(2^64)<j/\j<2^64)
def ziq.ok(h:ziq i j):IntMulOk i j:=by
 rcases h with⟨h1,h2⟩|⟨h1,h2⟩
 .exact .of_left (intBits_le_64 h1 h2)
 exact .of_right (intBits_le_64 h1 h2)
def xB:OpR X (binaryOp .Add) (rI0 λi j=> .int (i+j)):=zpc λ_ _ _ _ _ _ _ q=>add_int q
def wZ:OpR X (binaryOp .Sub) (rI0 λi j=> .int (i-j)):=zpc λ_ _ _ _ _ _ _ q=>sub_int q
def Ta:OpR X (binaryOp .Mult) (rI ziq λi j=> .int (i*j)):=opI λ_ _ _ _ _ _ _ hc q=>mul_int q hc.ok
def zgj:OpR X (binaryOp .FloorDiv) (rI znK λi j=> .int (i / j)):=opI λi j _ _ _ _ _ hc q=>by
 have h1:(0:Int)<j:=hc.1;have h2:j<1073741824:=hc.2;exact floordiv_int ⋯ (by rw[CH i ⋯];exact q) (.inl (PyProof.noPylong_small ⋯))
def xN:OpR X (binaryOp .Mod) (rI (λ_ j=>0<j) λi j=> .int (i % j)):=opI λi j _ _ _ _ _ hc q=>by
 have h1:(0:Int)<j:=hc;exact mod_int' ⋯ (by rw[Int.fmod_eq_emod_of_nonneg i ⋯];exact q)
def zaM:OpR X (binaryOp .Pow) (rI znL λi j=> .int (i^j.toNat)):=opI λ_ _ _ _ _ _ _ hc q=>pow_int_small hc.1 hc.2.1 hc.2.2 q
def unI{f:pW->Sem pW}{g:Int->Int}
  (rule:∀(i:Int) (t:Tok) (s:pX) (Q:pW->pX->Prop) (E:pW->pX->Prop),Q (.int (g i) s.toks) {s with toks:=s.toks+1}->wpAny (model X.prog X.w) X.A (f (.int i t)) Q E s):
  UnR X f (rU λi=> .int (g i)):=by
 intro pins s σ H x v Q I rx h;obtain⟨i,rfl,q⟩:=h;obtain⟨t,rfl⟩:=rx;exact rule i t s _ _ ⟨.int (g i),H,I.tok _,⟨_,rfl⟩,q⟩
def Wm:UnR X (unaryOp .USub) (rU λi=> .int (-i)):=unI λ_ _ _ _ _ q=>neg_int q
end
noncomputable def zpd:V->V->Bool
 | .non,.non=>fJ| .non,.int _=>fJ| .int _,.non=>fJ| .non,.bl _=>fJ| .bl _,.non=>fJ| .non,.str _=>fJ| .str _,.non=>fJ
 | .int _,.int _=>fJ| .bl _,.bl _=>fJ| .str _,.str _=>fJ| .byt _,.byt _=>fJ
 | .int _,.str _=>fJ| .str _,.int _=>fJ| .bl _,.str _=>fJ| .str _,.bl _=>fJ
 |_,_=>kb
def rEq:R2:=λx y H Q=>zpd x y=fJ/\Q (.bl (decide (x=y))) H
def rNe:R2:=λx y H Q=>zpd x y=fJ/\Q (.bl (!decide (x=y))) H
def zgk:decide (V.int i=V.int j)=(i==j):=by
 rw[Dl];simp
def zir:decide (V.bl i=V.bl j)=(i==j):=by
 rw[Dl];simp
def zgl:decide (V.str i=V.str j)=(i==j):=by
 rw[Dl];simp
def zgm:decide (V.byt i=V.byt j)=(i.toList==j.toList):=by
 rw[Dl];cases i;cases j;simp
section
def yy{Q:VK}(I:Inv X pins σ H s)(q:Q (.bl k) H)(e:k=k'):EP X pins σ Q (.bool k') s:=by
 subst e;exact⟨.bl k,H,I,rfl,q⟩
def zpe:OpR X (compareOp .Eq) rEq:=by
 intro pins s σ H x y v u Q I rx ry h;obtain⟨hs,q⟩:=h;cases x with
 |non=>
  cases rx;cases y with
  |non=>cases ry;exact PySem.EqNone.eq_none_none (yy I q (by simp))
  |bl j=>cases ry;exact PySem.EqNone.eq_none_bool (yy I q (by simp))
  |int j=>obtain⟨t',rfl⟩:=ry;exact PySem.EqNone.eq_none_int (yy I q (by simp))
  |str j=>obtain⟨t',rfl⟩:=ry;exact PySem.EqNone.eq_none_str (yy I q (by simp))
  |_=>exact absurd (show kb=fJ from hs) B4
 |bl i=>
  cases rx;cases y with
  |non=>cases ry;exact PySem.EqNone.eq_bool_none (yy I q (by simp))
  |bl j=>cases ry;exact eq_bool (yy I q zir)
  |str j=>obtain⟨t',rfl⟩:=ry;exact HL (yy I q (by simp))
  |_=>exact absurd (show kb=fJ from hs) B4
 |int i=>
  obtain⟨t,rfl⟩:=rx;cases y with
  |non=>cases ry;exact PySem.EqNone.eq_int_none (yy I q (by simp))
  |int j=>obtain⟨t',rfl⟩:=ry;exact eq_int (yy I q zgk)
  |str j=>obtain⟨t',rfl⟩:=ry;exact HR (yy I q (by simp))
  |_=>exact absurd (show kb=fJ from hs) B4
 |str i=>
  obtain⟨t,rfl⟩:=rx;cases y with
  |non=>cases ry;exact PySem.EqNone.eq_str_none (yy I q (by simp))
  |bl j=>cases ry;exact HM (yy I q (by simp))
  |int j=>obtain⟨t',rfl⟩:=ry;exact HS (yy I q (by simp))
  |str j=>obtain⟨t',rfl⟩:=ry;exact eq_str (yy I q zgl)
  |_=>exact absurd (show kb=fJ from hs) B4
 |byt i=>
  obtain⟨t,rfl⟩:=rx;cases y with
  |byt j=>obtain⟨t',rfl⟩:=ry;exact PySem.W.eq_bytes (yy I q zgm)
  |_=>exact absurd (show kb=fJ from hs) B4
 |_=>cases y<;>exact absurd (show kb=fJ from hs) B4
def zpf:OpR X (compareOp .NotEq) rNe:=by
 intro pins s σ H x y v u Q I rx ry h;obtain⟨hs,q⟩:=h;cases x with
 |non=>
  cases rx;cases y with
  |non=>cases ry;exact PySem.EqNone.ne_none_none (yy I q (by simp))
  |bl j=>cases ry;exact PySem.EqNone.ne_none_bool (yy I q (by simp))
  |int j=>obtain⟨t',rfl⟩:=ry;exact PySem.EqNone.ne_none_int (yy I q (by simp))
  |str j=>obtain⟨t',rfl⟩:=ry;exact PySem.EqNone.ne_none_str (yy I q (by simp))
  |_=>exact absurd (show kb=fJ from hs) B4
 |bl i=>
  cases rx;cases y with
  |non=>cases ry;exact PySem.EqNone.ne_bool_none (yy I q (by simp))
  |bl j=>cases ry;exact ne_bool (yy I q (congrArg not zir))
  |str j=>obtain⟨t',rfl⟩:=ry;exact HN (yy I q (by simp))
  |_=>exact absurd (show kb=fJ from hs) B4
 |int i=>
  obtain⟨t,rfl⟩:=rx;cases y with
  |non=>cases ry;exact PySem.EqNone.ne_int_none (yy I q (by simp))
  |int j=>obtain⟨t',rfl⟩:=ry;exact ne_int (yy I q (congrArg not zgk))
  |str j=>obtain⟨t',rfl⟩:=ry;exact HU (yy I q (by simp))
  |_=>exact absurd (show kb=fJ from hs) B4
 |str i=>
  obtain⟨t,rfl⟩:=rx;cases y with
  |non=>cases ry;exact PySem.EqNone.ne_str_none (yy I q (by simp))
  |bl j=>cases ry;exact HP (yy I q (by simp))
  |int j=>obtain⟨t',rfl⟩:=ry;exact HV (yy I q (by simp))
  |str j=>obtain⟨t',rfl⟩:=ry;exact ne_str (yy I q (congrArg not zgl))
  |_=>exact absurd (show kb=fJ from hs) B4
 |byt i=>
  obtain⟨t,rfl⟩:=rx;cases y with
  |byt j=>obtain⟨t',rfl⟩:=ry;exact PySem.W.ne_bytes (yy I q (congrArg not zgm))
  |_=>exact absurd (show kb=fJ from hs) B4
 |_=>cases y<;>exact absurd (show kb=fJ from hs) B4
def zcR(ho:OpR X (compareOp op) r)(ha:PE X a ta)(hb:PE X b tb)(hm:behindInMarks op b=kb):PE X (.Compare a [op] [b] pos) (tOp r ta tb):=by
 intro pins s σ H Q I h;exact wpAny_Compare1 (znJ ha hb I h λv u s2 x y H2 I2 rx ry q=>ho pins s2 σ H2 x y v u Q I2 rx ry q) hm
def zm1(t:TE):TT:=λσ H Q=>t σ H λx H'=>∃k,x= .bl k/\Q k H'
def Xk(ho:OpR X (compareOp op) r)(ha:PE X a ta)(hb:PE X b tb)(hm:behindInMarks op b=kb):PT X (.Compare a [op] [b] pos) (zm1 (tOp r ta tb)):=by
 intro pins s σ H Q I h
 refine wpAny_isTrue_Compare1 (thn (ha pins s σ H _ I h) λv s1 ⟨x,H1,I1,r1,q1⟩=>thn (hb pins s1 σ H1 _ I1 q1) λu s2 ⟨y,H2,I2,r2,q2⟩=>
  thn (ho pins s2 σ H2 x y v u _ I2 r1 r2 q2) λc s3 ⟨z,H3,I3,r3,k,e,q3⟩=> ?_) hm
 subst e;cases r3;exact wpAny_truthy_bool ⟨H3,I3,q3⟩
def zaN:(sizeLine:Nat)<2^63:=by rw[sizeLine_eq];decide
def Wn(r:zR [x] us):∃u,us=[u]/\zI x u:=by
 cases r with
 |cons r1 r2=>cases r2;exact⟨_,rfl,r1⟩
def zgn(r:zR [x,y] us):∃u w',us=[u,w']/\zI x u/\zI y w':=by
 cases r with
 |cons r1 r2=>
  cases r2 with
  |cons r3 r4=>cases r4;exact⟨_,_,rfl,r1,r3⟩
def YL:YK X (.builtin "abs") (λxs H Q=>∃i,xs=[.int i]/\Q (.int (if i<0 then -i else i)) H):=by
 intro pins s σ H xs us Q I r h;obtain⟨i,rfl,q⟩:=h;obtain⟨u,rfl,t,rfl⟩:=Wn r;exact call_abs_int λu tk=>⟨.int (if i<0 then -i else i),H,I.tok _,⟨_,rfl⟩,q⟩
end
structure zho(h:Heap)(x dx C:qm)(mA:Str->pU pW):Prop where
 obj:h.get? x=dE (CO C dx)
 ns:h.Ns1 dx mA
 ne:dx≠x
set_option tactic.hygienic true in
def zhp{h:Heap}{mA:Str->pU pW}(n:h.Ns1 dx mA):∃od,h.get? dx=dE od/\∀name,G2 name od=dE (mA name):=by
 obtain⟨o,es,ep,ho,hd,hk,_,hm⟩:=n;refine⟨o,ho,λname=> ?_⟩;have e:=hm name;unfold nsFind findBy at e;rw[<-Array.find?_toList] at e;unfold G2;rw[hd];dsimp only;split;rename_i y q;rw[q] at e;exact congrArg dE e
 rename_i q;rw[q] at e;have a:es.toList.any (·.refKey)=kb:=by
  rw[List.any_eq_false];intro y hy;obtain⟨z,t,oP⟩:=hk y (Array.mem_toList_iff.mp hy);simp[DictEntry.refKey,oP]
 have a':¬es.toList.any (·.refKey)=fJ:=by rw[a];exact B4
 rw[if_neg a'];exact congrArg dE e
def zho.look{mA:Str->pU pW}(I:zho h x dx C mA):∃od,EK h x (CO C dx) C (dE od)/\∀name,G2 name od=dE (mA name):=
 let ⟨od,ho,hl⟩:=zhp I.ns
 ⟨od,⟨I.obj,rfl,rfl,ho⟩,hl⟩
section
variable{K:Ar}{mA:Str->pU pW}
def zln(X:K.In s.heap)(I:zho s.heap x dx C mA)(hg:DA K C name=fJ)(hh:Du K C=fJ)
  (ha:B2 K (.ref C) name=dE fC) (hv:mA name=dE v) (iQ:Hi v=fJ) (h:Q v {s with toks:=s.toks+1}):
  wpAny (model prog w) A (getAttr (.ref x) name expr) Q E s:=by
 obtain⟨od,J,hl⟩:=I.look;exact PySem.W.get_value X J (PySem.W.plainGet_of hg).1 (PySem.W.findObj_own hh ha rfl (by rw[hl,hv])) iQ h
def zlo{Q:Unit->pX->Prop}(X:K.In s.heap)(I:zho s.heap x dx C mA)
  (hs:B2 K (.ref C) "__setattr__"=dE (dE (.builtin "object.__setattr__"))) (hp:E8 K C=fJ) (ht:FD K C name=dE fC) (hh:Du K C=fJ)
  (hw:Gz mA ns) (hsz:ns.length<=sizeLine)
  (h:∀h',zho h' x dx C (λy=>if y=name then dE v else mA y)->Heap.SameBut dx s.heap h'->Q () {s with heap:=h',toks:=s.toks+2}):
  wpAny (model prog w) A (setAttr (.ref x) name v) Q E s:=by
 obtain⟨od,J,hl⟩:=I.look;refine PySem.W.set_plain X J hs (PySem.W.osa_open (s:={s with toks:=s.toks+1}) (r:=fC) X J hp ht λb=> ?_);obtain⟨cd,hc,g9⟩:=PySem.W.any_some hh;have hx:s.heap.get? x=dE ⟨.ref C,dE dx,.plain,#[]⟩:=I.obj;refine wpAny_bind (wpAny_pure (wpAny_bind (wpAny_bind (wpAny_loadPart hx (wpAny_bind (Ie (s:={s with toks:=s.toks+1}) (PySem.W.looks_clsIn X hc) ?_))))));rw[g9];refine wpAny_pure (a:=dE dx) (wpAny_bind (wpAny_pure (wpAny_bind ?_)));refine wpAny_nsSet1 (s:={s with toks:=s.toks+1}) I.ns λh' eL dP=> ?_;obtain⟨oD,Ah,Aj,tR,uE,uI⟩:=eL.count (PySem.Within.cons name v hw);refine wpAny_bind (wpAny_lookBehind tR (by rw[uE];exact pastItsLine_dict (AA uI (by rw[B7];omega))) ?_);exact wpAny_pure (h _ ⟨(dP.2 _ (BH I.ne)).trans I.obj,eL,I.ne⟩ dP)
def zis{R:Result->pX->Prop}(X:K.In s.heap)(hm:Ey K C=fJ)
  (hi:B2 K (.ref C) "__init__"=dE (dE (.ref f))) (hf:DV K (.ref f)=dE (.type "function"))
  (h:codeAny (model prog w) (A.under (.builtin "type.__call__" ⟨.ref C::vs,kw⟩)) (.call (.ref f) ⟨.ref (s.heap.objs.size+1)::vs,kw⟩) (PySem.W.InitBack (s.heap.objs.size+1) R)
   {s with heap:=(s.heap.push Ck).push (CO C s.heap.objs.size)}):
  codeAny (model prog w) A (.call (.ref C) ⟨vs,kw⟩) R s:=by
 obtain⟨hh,g,d,t,os⟩:=s;exact PySem.W.make_core (PySem.W.makes_of X hm) (Ez X hi) (λself=>PySem.W.bind_fn X self hf) (.inl rfl) h
end
noncomputable def Xl(f:Str)(v:V):mZ (Str×V)->mZ (Str×V)
 |[]=>[(f,v)]
 |(g,x)::r=>if g=f then (g,v)::r else (g,x)::Xl f v r
theorem TW(f g:Str)(v:V):∀fs:mZ (Str×V),(Xl f v fs).lookup g=if g=f then dE v else fs.lookup g
 |[]=>by
  show CN g [(f,v)]=_;by_cases h:g=f;have hb:(g==f)=fJ:=beq_iff_eq.mpr h;simp only[CN,hb,if_pos h];have hb:(g==f)=kb:=beq_eq_false_iff_ne.mpr h;simp only[CN,hb,if_neg h]
 |(k,x)::r=>by
  have ih:=TW f g v r;rw[show Xl f v ((k,x)::r)=(if k=f then (k,v)::r else (k,x)::Xl f v r) from rfl];by_cases hk:k=f;rw[if_pos hk];by_cases h:g=k;have hb:(g==k)=fJ:=beq_iff_eq.mpr h;simp only[CN,hb,if_pos (h.trans hk)];have hb:(g==k)=kb:=beq_eq_false_iff_ne.mpr h;simp only[CN,hb,if_neg (λe:g=f=>h (e.trans hk.symm))];rw[if_neg hk];by_cases h:g=k;have hb:(g==k)=fJ:=beq_iff_eq.mpr h;simp only[CN,hb,if_neg (λe:g=f=>hk (h.symm.trans e))];have hb:(g==k)=kb:=beq_eq_false_iff_ne.mpr h;simp only[CN,hb];exact ih
theorem Tc(f:Str)(v:V):∀fs:mZ (Str×V),f∈(Xl f v fs).map (·.1)/\∀g,g∈fs.map (·.1)->g∈(Xl f v fs).map (·.1)
 |[]=>⟨by simp[Xl],λg h=>by simp at h⟩
 |(k,x)::r=>by
  obtain⟨i1,i2⟩:=Tc f v r;rw[show Xl f v ((k,x)::r)=(if k=f then (k,v)::r else (k,x)::Xl f v r) from rfl];by_cases hk:k=f;rw[if_pos hk];subst hk;exact⟨by simp,λg h=>by simpa using h⟩;rw[if_neg hk];refine⟨?_,λg h=> ?_⟩;rw[AZ];exact B8 _ i1;rw[AZ] at h ⊢;rcases AW.mp h with e|e;exact AW.mpr (.inl e);exact B8 _ (i2 g e)
theorem TX(f:Str)(v:V):∀fs:mZ (Str×V),(Xl f v fs).length<=fs.length+1
 |[]=>by simp[Xl]
 |(k,x)::r=>by
  have ih:=TX f v r;rw[show Xl f v ((k,x)::r)=(if k=f then (k,v)::r else (k,x)::Xl f v r) from rfl];by_cases hk:k=f;rw[if_pos hk,B7,B7];omega;rw[if_neg hk,B7,B7];omega
def Xd.some_of(r:Xd (dE v) o):∃u,o=dE u/\zI v u:=by
 cases o with
 |none=>exact(show False from r).elim
 |some u=>exact⟨u,rfl,r⟩
def Xd.none_of(r:Xd fC o):o=fC:=by
 cases o with
 |none=>rfl
 |some u=>exact(show False from r).elim
def zhq(r:zI v u):Hi u=fJ:=by
 cases v with
 |non=>cases (show u=Value.none from r);rfl
 |bl b=>cases (show u=Value.bool b from r);rfl
 |int i=>obtain⟨t,e⟩:=(show ∃t,u=Value.int i t from r);cases e;rfl
 |str x=>obtain⟨t,e⟩:=(show ∃t,u=Value.str x t from r);cases e;rfl
 |byt b=>obtain⟨t,e⟩:=(show ∃t,u=Value.bytes b t from r);cases e;rfl
 |flt b=>obtain⟨t,e⟩:=(show ∃t,u=Value.float b t from r);cases e;rfl
 |ref a=>cases (show u=Value.ref a from r);rfl
 |ty n=>cases (show u=Value.type n from r);rfl
section
variable{P:Program}
def zcS(hok:HOk P w H h)(e:H a=dE (.ins C dx fs)):∃mA,zho h a dx C mA/\(∀f,Xd (fs.lookup f) (mA f))/\Gz mA (fs.map (·.1))/\fs.length<=1000/\H dx=dE (.own a):=by
 obtain⟨d,z,ne,ob,mA,n,r,q⟩:=(show yL P w H h a (.ins C dx fs) from hok a _ e);exact⟨mA,⟨ob,n,ne⟩,r,q,z,d⟩
end
structure Cls(K:Ar)(C:qm):Prop where
 pg:DA K C Str.empty=fJ
 hd:Du K C=fJ
 po:E8 K C=fJ
 sa:B2 K (.ref C) "__setattr__"=dE (dE (.builtin "object.__setattr__"))
def Cls.get{K:Ar}(c:Cls K C)(f:Str):DA K C f=fJ:=c.pg
def va(K:Ar)(C:qm)(f:Str):Prop:=B2 K (.ref C) f=dE fC
def va.taker{K:Ar}(n:va K C f):FD K C f=dE fC:=by
 unfold FD;rw[show B2 K (.ref C) f=dE fC from n];rfl
structure Con(K:Ar)(C:qm)(f:Str)(v:V)(u:pW):Prop where
 at_:B2 K (.ref C) f=dE (dE u)
 rel:zI v u
 get:E9 K u "__get__"=dE fC
 cp:PySem.W.copiedNames.contains f=kb
structure zqi(K:Ar)(C:qm)(m:Str)(f:qm):Prop where
 at_:B2 K (.ref C) m=dE (dE (.ref f))
 fn:Fg K (.ref f)=fJ
 kp:CI K (.ref f)=fJ
section
def zfc(I:Inv X pins σ H s)(e:H a=dE (.ins C dx fs))(c:Cls X.K C)(n:va X.K C f)(l:fs.lookup f=dE v)
  (h:∀u s',Inv X pins σ H s'->zI v u->Q u s'):wpAny (model X.prog X.w) A (getAttr (.ref a) f b) Q E s:=by
 obtain⟨mA,O,r,_,_,_⟩:=zcS I.hok e;obtain⟨u,hu,ru⟩:=Xd.some_of (v:=v) (o:=mA f) (by rw[<-l];exact r f);exact zln I.kIn O (c.get f) c.hd n hu (zhq ru) (h u _ (I.tok _) ru)
def zfd{Q:Unit->pX->Prop}(I:Inv X pins σ H s)(e:H a=dE (.ins C dx fs))(c:Cls X.K C)(n:va X.K C f)(hl:fs.length<1000)(ry:zI y u)
  (h:∀s',Inv X pins σ (upd H a (.ins C dx (Xl f y fs))) s'->Q () s'):wpAny (model X.prog X.w) A (setAttr (.ref a) f u) Q E s:=by
 obtain⟨mA,O,r,wi,_,ho⟩:=zcS I.hok e;have hz:(fs.map (·.1)).length<=sizeLine:=by rw[Aw,sizeLine_eq];omega
 refine zlo I.kIn O c.sa c.po n.taker c.hd wi hz λh' O' sb=>h _ ?_;have hd:∃o,h'.get? dx=dE o:=let ⟨o,_,_,e',_⟩:=O'.ns;⟨o,e'⟩;refine I.write (x:=a) (e:=dx) (by rw[e];exact Cp) (.inr ho) (λb q hb z=>(sb.2 b hb).trans z) hd ?_;refine⟨by rw[zi O.ne];exact ho,?_,O.ne,O'.obj,_,O'.ns,λg=> ?_,λg hg=> ?_⟩;have:=TX f y fs;omega;show Xd ((Xl f y fs).lookup g) (if g=f then dE u else mA g);rw[TW];by_cases q:g=f;rw[if_pos q,if_pos q];exact ry;rw[if_neg q,if_neg q];exact r g;by_cases q:g=f;rw[q];exact(Tc f y fs).1;refine (Tc f y fs).2 g (wi g λz=>hg ?_);show(if g=f then dE u else mA g)=fC;rw[if_neg q];exact z
def Inv.made(I:Inv X pins σ H s):Inv X pins σ (upd (upd H s.heap.objs.size (.own (s.heap.objs.size+1))) (s.heap.objs.size+1) (.ins C s.heap.objs.size []))
  {s with heap:=(s.heap.push Ck).push (CO C s.heap.objs.size)}:=by
 have e1:(s.heap.push Ck).get? s.heap.objs.size=dE Ck:=Heap.get?_push_size s.heap rfl;have e2:((s.heap.push Ck).push (CO C s.heap.objs.size)).get? (s.heap.objs.size+1)=dE (CO C s.heap.objs.size):=by
  have:=Heap.get?_push_size (s.heap.push Ck) (o:=CO C s.heap.objs.size) rfl;rwa [Heap.size_push] at this
 have e3:(s.heap.push Ck).Ns s.heap.objs.size (λ_=>fC):=⟨Ck,#[],_,e1,rfl,(λe he=>absurd he (by simp)),λ_=>rfl⟩;have I1:=I.laid (a:=s.heap.objs.size) (o:= .own (s.heap.objs.size+1)) (h':=s.heap.push Ck) (t':=s.toks) (λb u q=>Heap.get?_push_of_some _ q) (AF _) ⟨_,e1⟩;refine I1.laid (a:=s.heap.objs.size+1) (o:= .ins C s.heap.objs.size []) (t':=s.toks) (λb u q=>Heap.get?_push_of_some _ q) (Ci (Heap.size_push _ _)) ?_;have ne:s.heap.objs.size≠s.heap.objs.size+1:=B3 (Cd _);refine⟨by rw[zi ne,zw],Cj _,ne,e2,λ_=>fC,(Heap.Ns1.of_empty e3).at λo q=>Heap.get?_push_of_some _ q,λ_=>Cp,λy hy=>absurd rfl hy⟩
def zlp(hb:attributeBase e f env (eval e env)=eval e env)
  (h:wpAny (model prog w) A (eval e env) (λo s₁=>wpAny (model prog w) A (getAttr o f fJ) Q E s₁) E s):wpAny (model prog w) A (eval (.Attribute e f pos) env) Q E s:=
 Attribute_any_ h (by rw[arm_eval_Attribute,hb])
end
def zpg(K:Ar)(ta:TE)(f:Str):TE:=λσ H Q=>ta σ H λx H1=>∃a C dx fs v,x= .ref a/\H1 a=dE (.ins C dx fs)/\Cls K C/\va K C f/\fs.lookup f=dE v/\Q v H1
def zph(K:Ar)(ta tv:TE)(f:Str):TS:=λD σ H=>tv σ H λy H1=>ta σ H1 λx H2=>∃a C dx fs,x= .ref a/\H2 a=dE (.ins C dx fs)/\Cls K C/\va K C f/\fs.length<1000/\
 D.nx σ (upd H2 a (.ins C dx (Xl f y fs)))
section
def vB(he:PE X e ta)(hb:attributeBase e f X.env (eval e X.env)=eval e X.env):PE X (.Attribute e f pos) (zpg X.K ta f):=by
 intro pins s σ H Q I h;refine zlp hb (thn (he pins s σ H _ I h) ?_);rintro u s1 ⟨x,H1,I1,rx,a,C,dx,fs,v,ex,ea,c,n,l,q⟩;subst ex;obtain rfl:u=Value.ref a:=rx;exact zfc I1 ea c n l λu' s2 I2 ru=>⟨v,H1,I2,ru,q⟩
def VG(ha:PE X o ta)(hv:PE X value tv)(hs:swapsWith value (dE (.Attribute o f pos')) pos.line X.env=pure kb):PS X (.Assign [.Attribute o f pos'] value pos) (zph X.K ta tv f):=by
 intro pins s σ H D I h;refine plainObj_wpAny_Assign_Attribute (thn (hv pins s σ H _ I h) ?_) hs;rintro u s1 ⟨y,H1,I1,ry,q⟩;refine thn (ha pins s1 σ H1 _ I1 q) ?_;rintro ov s2 ⟨x,H2,I2,rx,a,C,dx,fs,ex,ea,c,n,l,q2⟩;subst ex;obtain rfl:ov=Value.ref a:=rx;exact zfd I2 ea c n l ry λs3 I3=>⟨σ,_,I3,q2⟩
end
section
variable{c:pW}{b:Bool}
inductive zal(K:Ar)(H:Hp):V->Value->Prop where
 |non:zal K H .non (.type "NoneType")
 |bl (x:Bool):zal K H (.bl x) (.type "bool")
 |int (i:Int):zal K H (.int i) (.type "int")
 |str (x:Str):zal K H (.str x) (.type "str")
 |flt (x:UInt64):zal K H (.flt x) (.type "float")
 |lst {a:Addr} {xs:List V} (e:H a=dE (.lst xs)):zal K H (.ref a) (.type "list")
 |frz {a:Addr} {o:Obj} {xs:List V} (e:H a=dE (.frz o (.lst xs))):zal K H (.ref a) (.type "list")
 |tup {a:Addr} {xs:List V} (e:H a=dE (.tup xs)):zal K H (.ref a) (.type "tuple")
 |dK {a:Addr} {kvs:List (Key×V)} (e:H a=dE (.dK kvs)):zal K H (.ref a) (.type "dict")
 |dT {a:Addr} {kvs:List (List Key×V)} (e:H a=dE (.dT kvs)):zal K H (.ref a) (.type "dict")
 |ins {a C dx:Addr} {fs:List (Str×V)} (e:H a=dE (.ins C dx fs)) (cl:Cls K C) (ha:B2 K (.ref C) "__class__"=dE (dE (.builtin "object.__class__")))
   (hn:E9 K (.builtin "object.__class__") "__get__"=dE (dE (.builtin "getset_descriptor.__get__"))) (htk:FE K (.builtin "object.__class__")=dE fJ)
   (hm:BR K C (.type "object")=dE fJ):zal K H (.ref a) (.ref C)
end
structure xO(k:Nat)(A:Around):Prop where
 hd:A.handled=fC
 dp:A.depth+3*k+5<recursionLimit
 un:A.units+16*k+200<cLine
 gd:A.guards=dE []
def xO.mono(r:xO k A)(h:j<=k):xO j A:=⟨r.hd,by have:=r.dp;omega,by have:=r.un;omega,r.gd⟩
def xO.deeper(r:xO (k+1) A)(env:Env):xO k (A.deeper env):=
 ⟨r.hd,by have:=r.dp;show A.depth+1+3*k+5<_;omega,by have:=r.un;show A.units+3+16*k+200<_;omega,r.gd⟩
def zfe:(A.under (.builtin "type.__call__" ⟨.ref C::us,kw⟩)).depth=A.depth+1:=by
 first|rfl|simp[Around.under,Code.weight,Code.isCreation,Code.isGuard,Code.isCaller,Code.frames,Code.isFrame,guardIds]
def zff:(A.under (.builtin "type.__call__" ⟨.ref C::us,kw⟩)).units=A.units+1:=by
 first|rfl|simp[Around.under,Code.cUnits,Code.frames,Code.isFrame]
def xO.make(r:xO (k+1) A)(C:qm)(us:mZ pW)(kw:mZ (Str×pW)):xO k (A.under (.builtin "type.__call__" ⟨.ref C::us,kw⟩)):=
 ⟨r.hd,by have:=r.dp;rw[zfe];omega,by have:=r.un;rw[zff];omega,r.gd⟩
def xO.depth(r:xO k A):A.depth<recursionLimit:=by have:=r.dp;omega
def xO.units(r:xO k A):A.units+64<cLine:=by have:=r.un;omega
def zfg:TA:=λ_ H Q=>Q [] H
def Uk(ta:TE)(tr:TA):TA:=λσ H Q=>ta σ H λx H1=>tr σ H1 λxs H2=>Q (x::xs) H2
section
variable{e:Expr}{es:mZ Expr}{te:TE}{t:TA}{pos:Pos}
def ze:PA X [] zfg:=λ_ _ _ _ H Q I h=>Calls.spliced_nil ⟨[],H,I,.nil,h⟩
def yg(ha:PE X e te)(hr:PA X es t)(hs:starEach (e::es) X.env=(kb,eval e X.env)::starEach es X.env:=by rfl):PA X (e::es) (Uk te t):=by
 intro pos pins s σ H Q I h;rw[hs];show wpAny _ _ (spliced ((kb,eval e X.env)::backTo pos (starEach es X.env))) _ _ s;refine Calls.spliced_cons (thn (ha pins s σ H _ I h) ?_);rintro u s1 ⟨x,H1,I1,r1,q1⟩;refine thn (hr pos pins s1 σ H1 _ I1 q1) ?_;rintro us s2 ⟨xs,H2,I2,r2,q2⟩;exact⟨x::xs,H2,I2,.cons r1 r2,q2⟩
def zpi(t:TA):TE:=λσ H Q=>t σ H λxs H1=>xs.length<=sizeLine/\∀p,H1 p=fC->Q (.ref p) (upd H1 p (.tup xs))
def zpj(t:TA):TE:=λσ H Q=>t σ H λxs H1=>xs.length<=sizeLine/\∀p,H1 p=fC->Q (.ref p) (upd H1 p (.lst xs))
def znM{x1}(h:PA X es t):PE X (.Tuple es x1 pos) (zpi t):=by
 intro pins s σ H Q I hq;refine wpAny_Tuple_spliced (thn (h pos pins s σ H _ I hq) λus s1 ⟨xs,H1,I1,r,z,q⟩=>⟨by rw[<-r.length];exact z,?_⟩);have hf:H1 s1.heap.objs.size=fC:=I1.hok.fresh (AF _);refine⟨.ref s1.heap.objs.size,upd H1 s1.heap.objs.size (.tup xs),I1.laid (t':=s1.toks) (λb u e=>Heap.get?_push_of_some _ e) (AF _) ?_,rfl,q _ hf⟩;exact⟨z,us,r,⟨_,Heap.get?_push_size _ rfl,rfl,_,rfl,rfl⟩⟩
def xC(h:PA X es t):PE X (.List es pos) (zpj t):=by
 intro pins s σ H Q I hq;refine wpAny_List_spliced (thn (h pos pins s σ H _ I hq) λus s1 ⟨xs,H1,I1,r,z,q⟩=>⟨by rw[<-r.length];exact z,?_⟩);have hf:H1 s1.heap.objs.size=fC:=I1.hok.fresh (AF _);refine⟨.ref s1.heap.objs.size,upd H1 s1.heap.objs.size (.lst xs),I1.laid (t':=s1.toks) (λb u e=>Heap.get?_push_of_some _ e) (AF _) ?_,rfl,q _ hf⟩;exact⟨z,us,0,r,Heap.get?_push_size _ rfl⟩
end
abbrev Sp:=mZ V->Hp->VK->XK->Prop
abbrev CXT:=mZ Env->Hp->pX->XK->pW->pX->Prop
structure Td(P:Program)(w:World)(K:Ar)(mg:Str->pU pW)(base:Heap)(A:Around)(outer:mZ Env)(s:pX)(H:Hp):Prop where
 frames:A.frames=dE outer
 mod:Mod P K mg base
 bs:∀b o,base.get? b=dE o->s.heap.get? b=dE o/\H b=fC
 bsz:base.objs.size<=s.heap.objs.size
 funs:s.heap.FunFrames base outer
 frf:∀b∈frs outer,H b=fC
 hok:HOk P w H s.heap
 bare:AllBare s.gens
def CE(outer:mZ Env)(P:Program)(w:World)(H:Hp)(s:pX)(Q:VK)(u:pW)(s':pX):Prop:=
 ∃v H',s'.os=s.os/\AllBare s'.gens/\Un (frs outer) [] H H' s.heap s'.heap/\HOk P w H' s'.heap/\zI v u/\Q v H'
def CR(CX:CXT)(outer:mZ Env)(P:Program)(w:World)(H:Hp)(s:pX)(Q:VK)(E:XK)(r:Result)(s':pX):Prop:=
 match r with
 | .ok (.ret u)=>CE outer P w H s Q u s'
 | .ok _=>False
 | .error e=>CX outer H s E e s'
structure YM(P:Program)(w:World)(K:Ar)(mg:Str->pU pW)(base:Heap)(CX:CXT)(k:Nat)(f:qm)(fd:FuncData)(ps:mZ Str)(sp:Sp):Prop where
 len:∀vs H Q E,sp vs H Q E->vs.length=ps.length
 run:∀(A:Around) (outer:mZ Env) (s:pX) (H:Hp) (args:Args) (us:mZ pW) (vs:mZ V) (Q:VK) (E:XK),xO k A->Td P w K mg base A outer s H->BindsTo s fd args (ps.zip us)->zR vs us->sp vs H Q E->
  codeAny (model P w) A (.call (.ref f) args) (CR CX outer P w H s Q E) s
def YM.imp{P:Program}{K:Ar}{mg:Str->pU pW}(F:YM P w K mg base CX k f fd ps sp)
  (h:∀vs H Q E,sp' vs H Q E->sp vs H Q E):YM P w K mg base CX k f fd ps sp':=
 ⟨λvs H Q E q=>F.len vs H Q E (h _ _ _ _ q),λA outer s H args us vs Q E hr he hb hv hs=>F.run A outer s H args us vs Q E hr he hb hv (h _ _ _ _ hs)⟩
def Td.make{P:Program}{K:Ar}{mg:Str->pU pW}(e:Td P w K mg base A outer s H)(C:qm)(us:mZ pW)(kw:mZ (Str×pW)):
  Td P w K mg base (A.under (.builtin "type.__call__" ⟨.ref C::us,kw⟩)) outer s H:=⟨by first|exact e.frames|(simpa [Around.under,Code.envs,Code.isFrame,pushEnvs] using e.frames),e.mod,e.bs,e.bsz,e.funs,e.frf,e.hok,e.bare⟩
def Td.in1{P:Program}{K:Ar}{mg:Str->pU pW}(e:Td P w K mg base A outer s H):
  Td P w K mg base A.in1 outer s H:=⟨e.frames,e.mod,e.bs,e.bsz,e.funs,e.frf,e.hok,e.bare⟩
section
def Inv.env0(I:Inv X pins σ H s):Td X.prog X.w X.K X.mg X.base X.A X.stack s H:=
 ⟨I.ok.frames,I.ok.mod,I.bs,AA I.ok.bsz I.sz,I.stack,I.stkFree,I.hok,I.bare⟩
def Inv.after{Q:VK}(I:Inv X pins σ H s)(h:CE X.stack X.prog X.w H s Q u s'):EP X pins σ Q u s':=by
 obtain⟨v,H',os,bare,un,hok,r,q⟩:=h;obtain⟨hh,g,d,t,os'⟩:=s';obtain rfl:os'=s.os:=os;exact⟨v,H',I.call (h':=hh) (g':=g) (d':=d) (t':=t) (ch:=[]) un hok bare (λb z=>absurd z (by simp)),r,q⟩
end
def zit(sp:Sp)(ft:mZ V)(E:XK)(t:TA):TE:=λσ H Q=>t σ H λvs H1=>sp (vs++ft) H1 Q E
def ziu(C:qm)(sp:Sp)(ft:mZ V)(E:XK)(t:TA):TE:=λσ H Q=>t σ H λvs H1=>∀x dx,H1 x=fC->H1 dx=fC->dx≠x->
 sp (.ref x::(vs++ft)) (upd (upd H1 dx (.own x)) x (.ins C dx [])) (λv H2=>v= .non/\Q (.ref x) H2) E
def Ul(K:Ar)(fd:FuncData)(ps:mZ Str)(ds:mZ pW):Prop:=
 ∀(s:pX) (us:mZ pW),K.In s.heap->(us++ds).length=ps.length->BindsTo s fd ⟨us,[]⟩ (ps.zip (us++ds))
def Ul.all{K:Ar}(h:∀us:mZ pW,us.length=ps.length->bindArgs fd ⟨us,[]⟩=pure (ps.zip us)):Ul K fd ps []:=λs us _ hl=>by
 rw[CP] at hl ⊢;exact .of_eq (h us hl)
def Te(CX:CXT)(X:Cx)(E:XK):Prop:=∀(pins:mZ (qm×Obj)) (σ:St) (H:Hp) (s:pX) (e:pW) (s':pX),Inv X pins σ H s->CX X.stack H s E e s'->X.xe e s'
section
variable{CX:CXT}{k:Nat}{f C:qm}{fd:FuncData}{ps:mZ Str}{sp:Sp}{ft:mZ V}{ds:mZ pW}{E:XK}{x m:Str}{p pos apos:Pos}{e o:Expr}{es:mZ Expr}{ta:TE}{t:TA}
def znN{Q:VK}(F:YM X.prog X.w X.K X.mg X.base CX k f fd ps sp)(hr:xO k X.A)(hb:Ul X.K fd ps ds)(hd:zR ft ds)(hx:Te CX X E)
  (I:Inv X pins σ H s) (r:zR vs us) (h:sp (vs++ft) H Q E):wpAny (model X.prog X.w) X.A (call (.ref f) us) (EP X pins σ Q) X.xe s:=by
 have r2:zR (vs++ft) (us++ds):=r.append hd;have hl:(us++ds).length=ps.length:=by rw[<-r2.length];exact F.len _ _ _ _ h
 refine wpAny_call (codeAny_mono (F.run X.A X.stack s H ⟨us,[]⟩ (us++ds) (vs++ft) Q E hr I.env0 (hb s us I.kIn hl) r2 h) λr s' hq=> ?_);cases r with
 |error e=>exact hx pins σ H s e s' I hq
 |ok fl=>
  cases fl with
  |ret u=>exact I.after hq
  |next=>exact Bw hq
  |brk=>exact Bw hq
  |cont=>exact Bw hq
def zlq(F:YM X.prog X.w X.K X.mg X.base CX k f fd ps sp)(hr:xO k X.A)(hg:Gl X x)(hm:X.mg x=dE (.ref f))(hk:CI X.K (.ref f)=fJ)(hb:Ul X.K fd ps ds)(hd:zR ft ds)(hx:Te CX X E)
  (ha:PA X (e::es) t) (gX:(x==("__debug__":Str))=kb:=by decide) (he:starEach (e::es) X.env=(kb,eval e X.env)::starEach es X.env:=by rfl) (fR:(backTo pos (starEach es X.env)).any (·.1)=kb:=by rfl):
  PE X (.Call (.Name x p) (e::es) [] pos) (zit sp ft E t):=by
 intro pins s σ H Q I h;refine wpAny_Call_Name_kw (zcP I hg hm ?_ gX);refine GB (h₀:=X.base) I.ok.mod.kin hk (thn (ha pos pins s σ H _ I h) ?_) he fR;rintro us s1 ⟨vs,H1,I1,r,q⟩;refine⟨I1.kIn,?_⟩;exact znN F hr hb hd hx I1 r q
structure Mk(K:Ar)(C f:qm):Prop where
 makes:Ey K C=fJ
 init:B2 K (.ref C) "__init__"=dE (dE (.ref f))
 fn:Fg K (.ref f)=fJ
 kp:CI K (.ref C)=fJ
def ziv{Q:VK}(M:Mk X.K C f)(F:YM X.prog X.w X.K X.mg X.base CX k f fd ps sp)(hr:xO (k+1) X.A)(hb:Ul X.K fd ps ds)(hd:zR ft ds)
  (hx:Te CX X E) (I:Inv X pins σ H s) (r:zR vs us)
  (h:∀x dx,H x=fC->H dx=fC->dx≠x->sp (.ref x::(vs++ft)) (upd (upd H dx (.own x)) x (.ins C dx [])) (λv H2=>v= .non/\Q (.ref x) H2) E):
  wpAny (model X.prog X.w) X.A (call (.ref C) us) (EP X pins σ Q) X.xe s:=by
 have hq:=h (s.heap.objs.size+1) s.heap.objs.size (I.hok.fresh (C7 _)) (I.hok.fresh (AF _)) (B3 (Cd _));have I2:=Inv.made (C:=C) I;have r2:zR (V.ref (s.heap.objs.size+1)::(vs++ft)) (Value.ref (s.heap.objs.size+1)::(us++ds)):= .cons rfl (r.append hd);have hl:(Value.ref (s.heap.objs.size+1)::us++ds).length=ps.length:=by
  have e:=r2.length;rw[F.len _ _ _ _ hq] at e;exact e.symm
 refine wpAny_call (zis (f:=f) I.kIn M.makes M.init (beq_iff_eq.mp M.fn) (codeAny_mono (F.run _ X.stack _ _ ⟨Value.ref (s.heap.objs.size+1)::us,[]⟩ (Value.ref (s.heap.objs.size+1)::(us++ds)) _ _ E (hr.make C us [])
  (I2.env0.make C us []) (hb _ (Value.ref (s.heap.objs.size+1)::us) I2.kIn hl) r2 hq) λr s' ck=> ?_))
 cases r with
 |error e=>exact hx pins σ _ _ e s' I2 ck
 |ok fl=>
  cases fl with
  |ret u=>
   obtain⟨v,H',I3,rv,ev,q3⟩:=I2.after ck;subst ev;exact⟨rv,⟨V.ref (s.heap.objs.size+1),H',I3,rfl,q3⟩⟩
  |next=>exact Bw ck
  |brk=>exact Bw ck
  |cont=>exact Bw ck
def zgo(M:Mk X.K C f)(F:YM X.prog X.w X.K X.mg X.base CX k f fd ps sp)(hr:xO (k+1) X.A)(hg:Gl X x)(hm:X.mg x=dE (.ref C))(hb:Ul X.K fd ps ds)(hd:zR ft ds)(hx:Te CX X E)
  (ha:PA X (e::es) t) (gX:(x==("__debug__":Str))=kb:=by decide) (he:starEach (e::es) X.env=(kb,eval e X.env)::starEach es X.env:=by rfl) (fR:(backTo pos (starEach es X.env)).any (·.1)=kb:=by rfl):
  PE X (.Call (.Name x p) (e::es) [] pos) (ziu C sp ft E t):=by
 intro pins s σ H Q I h;refine wpAny_Call_Name_kw (zcP I hg hm ?_ gX);refine GB (h₀:=X.base) I.ok.mod.kin M.kp (thn (ha pos pins s σ H _ I h) ?_) he fR;rintro us s1 ⟨vs,H1,I1,r,q⟩;refine⟨I1.kIn,?_⟩;exact ziv M F hr hb hd hx I1 r q
end
section
variable{CX:CXT}{k:Nat}{f C:qm}{fd:FuncData}{ps ks:mZ Str}{sp:Sp}{E:XK}{x m:Str}{p pos apos sU:Pos}{e o:Expr}{es:mZ Expr}{z5:mZ Keyword}{te ta:TE}{t tk:TA}{nm:pU Str}
structure zqj(K:Ar)(fd:FuncData)(ps ks:mZ Str)(g:mZ pW->mZ pW->mZ pW)(gV:mZ V->mZ V->mZ V):Prop where
 to:∀(s:pX) (us ws:mZ pW),K.In s.heap->(g us ws).length=ps.length->BindsTo s fd ⟨us,ks.zip ws⟩ (ps.zip (g us ws))
 rel:∀{vs:mZ V} {us:mZ pW} {zs:mZ V} {ws:mZ pW},zR vs us->zR zs ws->zR (gV vs zs) (g us ws)
variable{g:mZ pW->mZ pW->mZ pW}{gV:mZ V->mZ V->mZ V}
end
structure zC(N P:mZ Str)(sc:Scope):Prop where
 kind:sc.kind= .function
 co:sc.isCoroutine=kb
 gen:sc.isGenerator=kb
 nd:N.Nodup
 pre:N.take P.length=P
 par:∀x∈P,sc.names.lookup x=dE .local\/sc.names.lookup x=dE .cell
 nofree:∀y∈sc.names,y.2≠ .free
theorem zb8{kindOf:Str->pU NameKind}:∀{binds:mZ (Str×pW)} {m:Str->pU pW},(∀v,(x,v)∉binds)->bindL kindOf binds m x=m x
 |[],_,_=>rfl
 |(n,v)::r,m,h=>by
  unfold bindL;rw[zb8 λw hw=>h w (B8 _ hw)];split
  .have:x≠n:=by rintro rfl;exact h v Bu
   simp[this]
  rfl
theorem zb9{kindOf:Str->pU NameKind}:∀{binds:mZ (Str×pW)} {m:Str->pU pW},(∀v,(x,v)∉binds)->bindC kindOf binds m x=m x
 |[],_,_=>rfl
 |(n,v)::r,m,h=>by
  unfold bindC;rw[zb9 λw hw=>h w (B8 _ hw)];split;rfl
  have:x≠n:=by rintro rfl;exact h v Bu
  simp[this]
theorem zca{kindOf:Str->pU NameKind}:∀{P:mZ Str} {vs:mZ pW} {i:Nat} {m:Str->pU pW},P.Nodup->P[i]? =dE x->vs[i]? =dE v->kindOf x=dE .local->
  bindL kindOf (P.zip vs) m x=dE v
 |[],_,_,_,_,h,_,_=>by simp at h
 |_::_,[],_,_,_,_,h,_=>by simp at h
 |p::P,w::vs,0,m,nd,h1,h2,hk=>by
  simp at h1 h2;subst h1;subst h2;show bindL kindOf ((p,w)::P.zip vs) m p=_;unfold bindL;rw[zb8 λv hv=>(BU.mp nd).1 (Dm hv).1,if_pos hk];simp
 |p::P,w::vs,i+1,m,nd,h1,h2,hk=>by
  show bindL kindOf ((p,w)::P.zip vs) m x=_;unfold bindL;exact zca (i:=i) (BU.mp nd).2 (by simpa using h1) (by simpa using h2) hk
theorem zcb{kindOf:Str->pU NameKind}:∀{P:mZ Str} {vs:mZ pW} {i:Nat} {m:Str->pU pW},P.Nodup->P[i]? =dE x->vs[i]? =dE v->kindOf x≠dE .local->
  bindC kindOf (P.zip vs) m x=dE v
 |[],_,_,_,_,h,_,_=>by simp at h
 |_::_,[],_,_,_,_,h,_=>by simp at h
 |p::P,w::vs,0,m,nd,h1,h2,hk=>by
  simp at h1 h2;subst h1;subst h2;show bindC kindOf ((p,w)::P.zip vs) m p=_;unfold bindC;rw[zb9 λv hv=>(BU.mp nd).1 (Dm hv).1,if_neg hk];simp
 |p::P,w::vs,i+1,m,nd,h1,h2,hk=>by
  show bindC kindOf ((p,w)::P.zip vs) m x=_;unfold bindC;exact zcb (i:=i) (BU.mp nd).2 (by simpa using h1) (by simpa using h2) hk
noncomputable def YN(N:mZ Str)(vs:mZ V):St:=vs.map dE++AK (N.length-vs.length) fC
noncomputable def Vm(CX:CXT)(P:Program)(w:World)(K:Ar)(mg:Str->pU pW)(base:Heap)(N:mZ Str)(qual:Str)(scope:Scope)(f:qm)(cd:pW)(A:Around)(outer:mZ Env)(s:pX)(H:Hp)(E:XK):Cx where
 prog:=P
 w:=w
 K:=K
 mg:=mg
 base:=base
 A:=A.deeper (envOfC qual scope s.heap.objs.size f cd)
 N:=N
 s₀:=s
 H₀:=H
 env:=envOfC qual scope s.heap.objs.size f cd
 outer:=outer
 stack:=envOfC qual scope s.heap.objs.size f cd::outer
 ex:=[]
 calm:=fJ
 fn:=λ_=>fJ
 zn:=λ_=>kb
 pn:=[]
 xe:=λe s'=>wpAny (model P w) (A.deeper (envOfC qual scope s.heap.objs.size f cd)) (leaving (envOfC qual scope s.heap.objs.size f cd) e) (λ_ s''=>CX outer H s E e s'') (λe' s''=>CX outer H s E e' s'') s'
def zd2{sc:Scope}(h:sc.names.lookup x=dE .cell):∃c,(cellsFrom n sc.names []).lookup x=dE c:=by
 have q:=Ed sc.names n [] (.inl h);exact Cw.mp q
def zcc{P:Program}{K:Ar}{mg:Str->pU pW}{N ps:mZ Str}{E:XK}
  (S:zC N ps scope) (hd:A.handled=fC) (e0:Td P w K mg base A outer s H) (hl:vs.length=ps.length) (r:zR vs us)
  (x:InCallC s s.heap.objs.size (bindL (envOfC qual scope s.heap.objs.size f cd).kindOf (ps.zip us) λ_=>fC) (cellsFrom (s.heap.objs.size+1) scope.names []) (bindC (envOfC qual scope s.heap.objs.size f cd).kindOf (ps.zip us) λ_=>fC) s1):
  Inv (Vm CX P w K mg base N qual scope f cd A outer s H E) [] (YN N vs) H s1:=by
 have fR:ps.length<=N.length:=by have:=congrArg List.length S.pre;rw[B6] at this;omega
 obtain⟨h1,tk,rfl,hk⟩:=x.done;have gZ:∀b:qm,b∉(Vm CX P w K mg base N qual scope f cd A outer s H E).ex:=λb z=>absurd (show b∈([]:mZ qm) from z) (by simp)
 refine⟨⟨e0.mod,S.kind,rfl,rfl,AF _,λy z c h1 h2=> ?_,λy hy=> ?_,λy c _ h=> ?_,λ_=>hd,Around.frames_deeper e0.frames,.inr ⟨rfl,rfl⟩,λb z=>absurd z (gZ b),e0.bs,e0.bsz,λb _ _=>gZ b,λb z=>absurd z (gZ b),e0.funs,e0.frf⟩,
  rfl,e0.bare,Un.kept hk,⟨_,x.toInCall.ns,λi y v h1 h2 h3=> ?_⟩,λy c h=>⟨_,x.cell y c h⟩,e0.hok.fresh (AF _),λy c h=> ?_,λp hp=>absurd (show p∈([]:mZ (qm×Obj)) from hp) (by simp),e0.hok.kept hk,?_⟩
 .exact name_of_addr x.apart (Bh h1) (Bh h2)
 .have hy:scope.names.lookup y=dE .cell\/scope.names.lookup y=dE .free:=hy;rcases hy with hy|hy;exact zd2 hy;exact absurd rfl (S.nofree _ (Bh hy))
 .exact AX (x.above y c (Bh h))
 .have hi:i<vs.length:=by
   unfold YN at h2;by_cases hi:i<vs.length;exact hi
   rw[AG (by simpa using hi)] at h2;rw[CB] at h2;split at h2<;>cases h2
  have ha:vs[i]? =dE v:=by
   unfold YN at h2;rw[Az (by simpa using hi),Ax] at h2;cases e:vs[i]? with
   |none=>rw[e] at h2;cases h2
   |some a=>rw[e] at h2;cases h2;rfl
  obtain⟨u,hu,rv⟩:=r.get ha;have hp:ps[i]? =dE y:=by
   rw[<-S.pre,BK ⋯];exact h1
  have qk:ps.Nodup:=by rw[<-S.pre];exact S.nd.sublist (List.take_sublist _ _)
  refine⟨u,rv,?_⟩;rcases S.par y (Ay hp) with k|k;exact .inl ⟨k,zca qk hp hu k⟩;obtain⟨c,e⟩:=zd2 (n:=s.heap.objs.size+1) k;refine .inr ⟨.inl k,c,e,?_⟩;have q:=x.cell y c e;rw[zcb qk hp hu (by show scope.names.lookup y≠_;rw[k];decide)] at q;exact q
 .exact .inl (e0.hok.fresh (AX (x.above y c (Bh h))))
 unfold YN;show _=N.length;rw[Ba,Aw,List.length_replicate];omega
def zpk{P:Program}{K:Ar}{mg:Str->pU pW}{dV kV doc pm bR ct oc:pW}{N ps:mZ Str}(lk:K.lookup f=dE ⟨oc,od,.func (D4 name qual params body scope dV kV doc pm an bR ct),fN⟩)(df:DW K bR qual=fJ)(S:zC N ps scope)
  (len:∀vs H Q E,sp vs H Q E->vs.length=ps.length)
  (dC:∀(A:Around) (outer:mZ Env) (s:pX) (H:Hp) (vs:mZ V) (Q:VK) (E:XK),xO k (A.deeper (envOfC qual scope s.heap.objs.size f bR))->sp vs H Q E->
   ∃t,PSs (Vm CX P w K mg base N qual scope f bR A outer s H E) body t/\t {nx:=λ_ H'=>Q .non H',rt:=Q} (YN N vs) H):
  YM P w K mg base CX (k+1) f (D4 name qual params body scope dV kV doc pm an bR ct) ps sp:=by
 refine⟨len,λA outer s H args us vs Q E hr e0 hb r fQ=> ?_⟩;have hl:=len _ _ _ _ fQ;have KX:K.In s.heap:=e0.mod.kin.keeps λb o e=>(e0.bs b o e).1;have lim:s.heap.NoLimit:=e0.mod.nolimit.keeps λb o e=>(e0.bs b o e).1;have gH:∀y∈ps.zip us,scope.names.lookup y.1=dE .local\/(scope.names.lookup y.1=dE .cell/\((cellsFrom (s.heap.objs.size+1) scope.names []).lookup y.1).isSome=fJ):=λ⟨n,v⟩ hy=>by
  rcases S.par n (Dm hy).1 with q|q;exact .inl q;exact .inr ⟨q,Ed _ _ _ (.inl q)⟩
 refine codeAny_call_function hr.depth (KX _ _ lk) rfl S.co S.gen rfl (GC KX df) (hb _ _ _ _ ?_);refine wpAny_newFunctionEnv_cells S.kind gH λenv he s1 x=> ?_;subst he;refine⟨lim.keeps x.toInCall.keep,codeAny_func ?_⟩;obtain⟨t,ht,hq⟩:=dC A outer s H vs Q E (hr.deeper _) fQ;have I:Inv (Vm CX P w K mg base N qual scope f bR A outer s H E) [] (YN N vs) H s1:=zcc S hr.hd e0 hl r x;refine wpAny_mono (ht [] s1 (YN N vs) H _ I hq) (λfl s' hs=> ?_) λe s' hs=>hs;have fin:∀{σ':St} {H':Hp} {v:V} {u:pW},Inv (Vm CX P w K mg base N qual scope f bR A outer s H E) [] σ' H' s'->zI v u->Q v H'->CE outer P w H s Q u s':=
  λ{σ' H' v u} J rv q=>⟨v,H',J.os,J.bare,J.base,J.hok,rv,q⟩
 cases fl with
 |ret u=>
  obtain⟨v,σ',H',J,rv,q⟩:=hs;exact fin J rv q
 |next=>
  obtain⟨σ',H',J,q⟩:=hs;exact fin (v:=V.non) (u:=Value.none) J rfl q
 |brk=>
  obtain⟨_,_,_,q⟩:=hs;exact Bw q
 |cont=>
  obtain⟨_,_,_,q⟩:=hs;exact Bw q
section
variable{x:Str}{p pos:Pos}{e:Expr}{es:mZ Expr}{t:TA}{id T:String}{r:mZ V->Hp->VK->Prop}
def tCB(r:mZ V->Hp->VK->Prop)(t:TA):TE:=λσ H Q=>t σ H λvs H1=>r vs H1 Q
def zE(hc:YK X (.builtin id) r)(hg:Gl X x)(hm:X.mg x=fC)(hv:bootBuiltins x=dE (.builtin id))(ha:PA X (e::es) t)(hn:x≠"__name__":=by decide)(gX:(x==("__debug__":Str))=kb:=by decide)
  (he:starEach (e::es) X.env=(kb,eval e X.env)::starEach es X.env:=by rfl) (fR:(backTo pos (starEach es X.env)).any (·.1)=kb:=by rfl):PE X (.Call (.Name x p) (e::es) [] pos) (tCB r t):=by
 intro pins s σ H Q I h;refine wpAny_Call_Name_kw (Zy I hg hm hv ?_ hn gX);refine PyProof.Rows.callWith_builtin1 (thn (ha pos pins s σ H _ I h) ?_) he fR;rintro us s1 ⟨vs,H1,I1,r1,q1⟩;exact hc pins s1 σ H1 vs us Q I1 r1 q1
def zcd(hc:YK X (.type T) r)(hg:Gl X x)(hm:X.mg x=fC)(hv:bootBuiltins x=dE (.type T))(ha:PA X (e::es) t)(hn:x≠"__name__":=by decide)(gX:(x==("__debug__":Str))=kb:=by decide)
  (he:starEach (e::es) X.env=(kb,eval e X.env)::starEach es X.env:=by rfl) (fR:(backTo pos (starEach es X.env)).any (·.1)=kb:=by rfl):PE X (.Call (.Name x p) (e::es) [] pos) (tCB r t):=by
 intro pins s σ H Q I h;refine wpAny_Call_Name_kw (Zy I hg hm hv ?_ hn gX);refine BJ (thn (ha pos pins s σ H _ I h) ?_) he fR;rintro us s1 ⟨vs,H1,I1,r1,q1⟩;exact hc pins s1 σ H1 vs us Q I1 r1 q1
end
end L2
variable{prog:PySem.Program}{A:PySem.Around}{E:PySem.Value->PySem.Shared->Prop}{X:L2.Cx}{K:uk}{pins:mZ (PySem.Addr×PySem.Obj)}{σ:L2.St}{H:L2.Hp}{s:PySem.Shared}{Q:PySem.Value->PySem.Shared->Prop}
namespace HT
noncomputable def YO:mZ Int->mZ Int->Bool
 |[],[]=>kb
 |[],_::_=>fJ
 |_::_,[]=>kb
 |x::xs,y::ys=>if x=y then YO xs ys else decide (x<y)
def zaO(x y:Int)(xs ys:mZ Int):YO (x::xs) (y::ys)=if x=y then YO xs ys else decide (x<y):=rfl
def zbI:YO [] []=kb:=rfl
def zaP(y:Int)(ys:mZ Int):YO [] (y::ys)=fJ:=rfl
def zaQ(x:Int)(xs:mZ Int):YO (x::xs) []=kb:=rfl
def ziw(A:Around)(s:pX)(a:Int)(t:Tok)(c:Int)(u:Tok):∃e,SeqAt.EqAt A s (.int a t) (.int c u) e/\(e=fJ↔a=c):=
 ⟨(a==c),SeqAt.EqAt.int_int a t c u,by simp⟩
def zix(A:Around)(s:pX)(a:Int)(t:Tok)(c:Int)(u:Tok)(prog:Program)(w:World)(E:pW->pX->Prop)(Q:pW->pX->Prop)(h:Q (.bool (decide (a<c))) s):
  wpAny (model prog w) A (richCompare .Lt (.int a t) (.int c u)) Q E s:=
 (PyProof.Rows.lt_int h:wpAny (model prog w) A (compareOp .Lt (.int a t) (.int c u)) Q E s)
section
open PySem.SeqAt
open PySem.AutoSeq1 (wpAny_loadPart')
open PySem.MeetsSeq PySem.MeetsSeq2 PySem.MeetsSeq3
def zbJ(l b:qm)(items bZ:Array pW)(n n2:Nat)(dd pR:pU qm)(sl kC:Array (pU pW))(ns ms:mZ Int)(hi:IntsAre items.toList ns)(hj:IntsAre bZ.toList ms):
  Meets (Builtin.«tuple.__lt__» ⟨[.ref l,.ref b],[]⟩)
   (λ_ R s=>s.heap.get? l=dE {cls:= .type "tuple",dict:=dd,data:= .seq items n,slots:=sl}/\s.heap.get? b=dE {cls:= .type "tuple",dict:=pR,data:= .seq bZ n2,slots:=kC}/\
    R (.ok (.ret (.bool (YO ns ms)))) s):=
 .of_wp λprog w A R s h=>by
  obtain⟨hp,g,d,tk,os⟩:=s;obtain⟨hl,hb,h⟩:=h;have f2:=AutoSeq1.sub_tuple_tuple;have z1:items.size=ns.length:=by rw[<-hi.length];simp
  have z2:bZ.size=ms.length:=by rw[<-hj.length];simp
  wp_walk using wpAny_loadPart' hl,wpAny_loadPart' hb,wpAny_forIn_list _ (λrest b s'=>b.1=fC/\s'=⟨hp,g,d,tk,os⟩/\∃(vs ws:mZ pW) (ns' ms':mZ Int),rest=vs.zip ws/\
   IntsAre vs ns'/\IntsAre ws ms'/\ns'.length+bZ.size=ms'.length+items.size/\R (.ok (.ret (.bool (YO ns' ms')))) ⟨hp,g,d,tk,os⟩) _
  case turn=>
   rintro⟨y,x⟩ rest b s' ⟨eN,rfl,vs,ws,ns',ms',hz,o5,mD,hlen,hR⟩;cases o5 with
   |nil=>rw[List.zip_nil_left] at hz;cases hz
   |cons a t o4=>
    cases mD with
    |nil=>rw[List.zip_nil_right] at hz;cases hz
    |cons c u nY=>
     rw[DI] at hz;injection hz with t5 lg;injection t5 with hy hx
     subst hy hx;rw[zaO] at hR;simp only[B7] at hlen;obtain⟨e,he,lJ⟩:=ziw A.in1 ⟨hp,g,d,tk,os⟩ a t c u;refine wpAny_bind (he prog w _ _ ?_);cases e with
     |true=>
      rw[if_pos (lJ.mp rfl)] at hR
      wp_walk
      exact⟨rfl,rfl,_,_,_,_,lg,o4,nY,⋯,hR⟩
     |false=>
      rw[if_neg (λq=>absurd (lJ.mpr q) B4)] at hR;have tN:=zix A.in1 ⟨hp,g,d,tk,os⟩ a t c u prog w
      wp_walk using tN
      exact⟨_,rfl,by simpa using hR⟩
  case fin=>
   rintro⟨b1,b2⟩ s' ⟨eN,rfl,vs,ws,ns',ms',hz,o5,mD,hlen,hR⟩;simp only at eN;subst eN;have hv:YO ns' ms'=decide (items.size<bZ.size):=by
    cases o5 with
    |nil=>
     cases mD with
     |nil=>
      simp only[EA] at hlen;rw[zbI];exact(decide_eq_false ⋯).symm
     |cons c u hw=>
      simp only[EA,B7] at hlen;rw[zaP];exact(decide_eq_true ⋯).symm
    |cons a t hv=>
     cases mD with
     |nil=>
      simp only[EA,B7] at hlen;rw[zaQ];exact(decide_eq_false ⋯).symm
     |cons c u hw=>
      rw[DI] at hz;cases hz
   rw[hv] at hR
   wp_walk
   exact⟨_,rfl,by simpa [Builtin.Tuple.tupleCompareSizes] using hR⟩
  case h=>
   exact⟨rfl,rfl,items.toList,bZ.toList,ns,ms,rfl,hi,hj,⋯,h⟩
end
section
def zfh(hl:IsTup s.heap l items)(hb:IsTup s.heap b bZ)(hi:IntsAre items.toList ns)(hj:IntsAre bZ.toList ms)
  (hu:A.units<cLine) (h:Q (.bool (YO ns ms)) s):wpAny (model prog w) A (compareOp .Lt (.ref l) (.ref b)) Q E s:=by
 obtain⟨⟨cls,dd,data,sl⟩,ho,hc,n,hd⟩:=id hl;obtain⟨⟨x9,pR,data2,kC⟩,mI,dW,n2,hd2⟩:=id hb;simp only at hc hd dW hd2;subst hc hd dW hd2;exact richCompare_meets_room (op:= .Lt) ⟨_,ho,rfl⟩ ⟨_,mI,rfl⟩ PySem.F.slot_tuple_lt PySem.F.entry_tuple_lt (PySem.F.args_tuple_lt_2 _ _) (zbJ l b items bZ n n2 dd pR sl kC ns ms hi hj)
  ⟨ho,mI,show Value.bool (YO ns ms)≠Value.notImplemented/\Q (.bool (YO ns ms)) s from ⟨(λx=>nomatch x),h⟩⟩ hu
noncomputable def sIx(n d:Nat):pU Int->Nat
 |none=>d
 |some v=>if v<0 then (v+(n:Int)).toNat else min v.toNat n
def zd3(n d:Nat):sIx n d fC=d:=rfl
def zgp(n d k:Nat):sIx n d (dE (k:Int))=min k n:=by
 show(if (k:Int)<0 then ((k:Int)+(n:Int)).toNat else min (k:Int).toNat n)=min k n;rw[if_neg ⋯,AV]
end
end HT
namespace L2
abbrev TO:=St->Hp->(pU Int->Hp->Prop)->Prop
def PO(X:Cx)(e:pU Expr)(t:TO):Prop:=
 ∀(pins:mZ (qm×Obj)) (s:pX) (σ:St) (H:Hp) (Q:pU Int->Hp->Prop),Inv X pins σ H s->t σ H Q->
  wpAny (model X.prog X.w) X.A (evalPart e X.env) (λu s'=>∃o H',Inv X pins σ H' s'/\IsPart u o/\Q o H') X.xe s
def zgq:TO:=λ_ H Q=>Q fC H
def zm2(t:TE):TO:=λσ H Q=>t σ H λx H1=>∃i,x= .int i/\Q (dE i) H1
def zaR:∀{us:mZ pW},zR (ns.map V.int) us->IntsAre us ns:=by
 induction ns with
 |nil=>intro us r;rw[GD] at r;cases r;exact .nil
 |cons n ns ih=>
  intro us r;rw[AZ] at r;cases r with
  |cons r1 r2=>
   obtain⟨t,e⟩:=r1;subst e;exact .cons n t (ih r2)
section
variable{e:Expr}{te:TE}{lo hi:pU Expr}{tl th:TO}{pos p2:Pos}
def zcT:PO X fC zgq:=by
 intro pins s σ H Q I h;rw[evalPart_none];exact wpAny_pure ⟨fC,H,I,.none,h⟩
def zcU(h:PE X e te):PO X (dE e) (zm2 te):=by
 intro pins s σ H Q I hw;rw[evalPart_some];refine thn (h pins s σ H _ I hw) ?_;rintro u s1 ⟨x,H1,I1,r1,q1⟩;obtain⟨i,rfl,q⟩:=q1;obtain⟨t,rfl⟩:=r1;exact⟨dE i,H1,I1,.int i t,q⟩
def SlR(X:Cx)(r:V->pU Int->pU Int->Hp->VK->Prop):Prop:=
 ∀(pins:mZ (qm×Obj)) (s:pX) (σ:St) (H:Hp) (x:V) (v vl vu:pW) (lo hi:pU Int) (sl:qm) (Q:VK),Inv X pins σ H s->zI x v->s.heap.IsSliceOf sl vl vu .none->IsPart vl lo->IsPart vu hi->r x lo hi H Q->
  ∃T id,typeLookup (.type T) "__getitem__"=pure (dE (.builtin id))/\s.TypeIs v T/\wpAny (model X.prog X.w) X.A (getItem v (.ref sl)) (EP X pins σ Q) X.xe s
def tSl(r:V->pU Int->pU Int->Hp->VK->Prop)(te:TE)(tl th:TO):TE:=λσ H Q=>te σ H λx H1=>tl σ H1 λl H2=>th σ H2 λu H3=>r x l u H3 Q
def zaS{r:V->pU Int->pU Int->Hp->VK->Prop}(hr:SlR X r)(he:PE X e te)(hl:PO X lo tl)(hu:PO X hi th):PE X (.Subscript e (.Slice lo hi fC p2) pos) (tSl r te tl th):=by
 intro pins s σ H Q I h;refine Subscript_ (thn (he pins s σ H _ I h) ?_);rintro v s1 ⟨x,H1,I1,r1,q1⟩;refine wpAny_Slice (thn (hl pins s1 σ H1 _ I1 q1) ?_);rintro vl s2 ⟨l,H2,I2,pl,q2⟩;refine thn (hu pins s2 σ H2 _ I2 q2) ?_;rintro vu s3 ⟨u,H3,I3,pu,q3⟩;rw[evalPart_none];refine wpAny_pure ?_;have I4:Inv X pins σ H3 {s3 with heap:=s3.heap.push {cls:= .type "slice",data:= .fields #[vl,vu,.none]}}:=I3.kept (t':=s3.toks) λb ob q=>Heap.get?_push_of_some _ q;obtain⟨T,id,hT,ht,hg⟩:=hr pins {s3 with heap:=s3.heap.push {cls:= .type "slice",data:= .fields #[vl,vu,.none]}} σ H3 x v vl vu l u s3.heap.objs.size Q I4 r1 (Heap.IsSliceOf.new ..) pl pu q3;show wpAny (model X.prog X.w) X.A (subscriptTail e (.Slice lo hi fC p2) v (.ref s3.heap.objs.size)) (EP X pins σ Q) X.xe {s3 with heap:=s3.heap.push {cls:= .type "slice",data:= .fields #[vl,vu,.none]}};exact tail_any (ops:=[.ref s3.heap.objs.size,v]) ht hT hg (by with_unfolding_all rfl)
noncomputable def zhr(xs:mZ V)(lo hi:pU Int):mZ V:=(xs.drop (HT.sIx xs.length 0 lo)).take (HT.sIx xs.length xs.length hi-HT.sIx xs.length 0 lo)
def zd4(xs:mZ V)(lo hi:pU Int):(zhr xs lo hi).length<=xs.length:=by
 unfold zhr;rw[B6,Fh];omega
end
noncomputable def ixN(n:Nat)(i:Int):pU Nat:=if 0<=i then (if i<n then dE i.toNat else fC) else if -(n:Int)<=i then dE (i+n).toNat else fC
noncomputable def atI{α:Type}(xs:mZ α)(i:Int):pU α:=(ixN xs.length i).bind λj=>xs[j]?
def zgr(h:ixN n i=dE j):seqIndex? i n=dE j/\j<n/\ -(n:Int)<=i/\i<n:=by
 unfold ixN at h;by_cases h0:0<=i;rw[if_pos h0] at h;by_cases h1:i<n;rw[if_pos h1] at h;have e:i.toNat=j:=BF h;exact⟨by rw[seqIndex_of h0 h1,e],⋯,⋯,h1⟩;rw[if_neg h1] at h;cases h;rw[if_neg h0] at h;by_cases h1: -(n:Int)<=i;rw[if_pos h1] at h;have e:(i+n).toNat=j:=BF h;exact⟨by rw[seqIndex_neg ⋯ h1,e],⋯,h1,⋯⟩;rw[if_neg h1] at h;cases h
def zcV{α:Type}{xs:mZ α}{v:α}(h:atI xs i=dE v):∃j,seqIndex? i xs.length=dE j/\xs[j]? =dE v/\j<xs.length/\ -(xs.length:Int)<=i/\i<xs.length:=by
 unfold atI at h;cases e:ixN xs.length i with
 |none=>rw[e] at h;cases h
 |some j=>
  rw[e] at h;obtain⟨h1,h2,h3,h4⟩:=zgr e;exact⟨j,h1,h,h2,h3,h4⟩
def zlr(b:Expr):Prop:=∀o i,subscripted b kb o i=operate [o,i] (getItem o i)
def IxR(X:Cx)(r:R2):Prop:=
 ∀(value slice:Expr) (pins:mZ (qm×Obj)) (s:pX) (σ:St) (H:Hp) (x y:V) (v u:pW) (Q:VK),Inv X pins σ H s->zI x v->zI y u->r x y H Q->
  subscripted slice kb v u=operate [v,u] (getItem v u)->wpAny (model X.prog X.w) X.A (subscriptTail value slice v u) (EP X pins σ Q) X.xe s
def MtR(X:Cx)(id:String)(r:V->mZ V->Hp->VK->Prop):Prop:=
 ∀(pins:mZ (qm×Obj)) (s:pX) (σ:St) (H:Hp) (x:V) (xs:mZ V) (v:pW) (us:mZ pW) (Q:VK),Inv X pins σ H s->zI x v->zR xs us->r x xs H Q->
  wpAny (model X.prog X.w) X.A (call (.builtin id) (v::us)) (EP X pins σ Q) X.xe s
section
variable{a b:Expr}{ta tb:TE}{pos:Pos}
def IxR.or(h:IxR X r)(h':IxR X r'):IxR X (λx y H Q=>r x y H Q\/r' x y H Q):=by
 intro value slice pins s σ H x y v u Q I rx ry q hs;rcases q with q|q;exact h value slice pins s σ H x y v u Q I rx ry q hs;exact h' value slice pins s σ H x y v u Q I rx ry q hs
def zpl(hr:IxR X r)(ha:PE X a ta)(hb:PE X b tb)(hs:zlr b):PE X (.Subscript a b pos) (tOp r ta tb):=by
 intro pins s σ H Q I h;exact Subscript_ (znJ ha hb I h λv u s2 x y H2 I2 rx ry q=>hr a b pins s2 σ H2 x y v u Q I2 rx ry q (hs _ _))
def zls(K:Ar):R2:=λx y H Q=>∃p xs i v,x= .ref p/\y= .int i/\SqL K H p xs/\atI xs i=dE v/\Q v H
def zlt(K:Ar):R2:=λx y H Q=>∃p xs i v,x= .ref p/\y= .int i/\SqT K H p xs/\atI xs i=dE v/\Q v H
def zpm:R2:=λx y H Q=>∃z i c,x= .str z/\y= .int i/\z.length<=sizeLine/\atI z.cps.toList i=dE c/\Q (.str ⟨#[c]⟩) H
def zgs:IxR X (zls X.K):=by
 intro value slice pins s σ H x y v u Q I rx ry h hs;obtain⟨p,xs,i,z,rfl,rfl,hq,he,q⟩:=h;cases rx;obtain⟨t,rfl⟩:=ry;obtain⟨ae,r,pl,hz⟩:=I.list hq;obtain⟨j,h1,h2,h3,h4,h5⟩:=zcV he;obtain⟨w,ew,rw'⟩:=r.get h2;have hl:=r.length;have hn:=zaN;have fin:EP X pins σ Q w s:=⟨z,H,I,rw',q⟩;by_cases h0:0<=i
 .have hj:i.toNat=j:=by
   rw[seqIndex_of h0 h5] at h1;exact BF h1
  exact item_listR pl.isList h0 ⋯ (by rw[hj];simpa using ew) fin hs
 have hj:(i+(ae.toArray.size:Int)).toNat=j:=by
  rw[seqIndex_neg ⋯ h4] at h1;rw[AQ,<-hl];exact BF h1
 exact subscriptTail_builtinR (x:=w) pl.isList.typeIs slot_list_getitem.lookup
  (wpAny_getItem_list_neg (Q:=λr s'=>r=w/\EP X pins σ Q r s') pl.isList ⋯ (by rw[AQ]<;>omega) ⋯ (by rw[hj];simpa using ew) ⟨rfl,fin⟩) hs
def ziy:IxR X (zlt X.K):=by
 intro value slice pins s σ H x y v u Q I rx ry h hs;obtain⟨p,xs,i,z,rfl,rfl,hq,he,q⟩:=h;cases rx;obtain⟨t,rfl⟩:=ry;obtain⟨ae,r,pl,hz⟩:=I.tuple hq;obtain⟨j,h1,h2,h3,h4,h5⟩:=zcV he;obtain⟨w,ew,rw'⟩:=r.get h2;have hl:=r.length;have hn:=zaN;have fin:EP X pins σ Q w s:=⟨z,H,I,rw',q⟩;exact subscriptTail_builtinR (x:=w) pl.typeIs slot_tuple_getitem.lookup
  (getItem_tuple (j:=j) (Q:=λr s'=>r=w/\EP X pins σ Q r s') pl ⋯ ⋯ (by rw[AQ,<-hl];exact h1) (by simpa using ew) ⟨rfl,fin⟩) hs
def znO:IxR X zpm:=by
 intro value slice pins s σ H x y v u Q I rx ry h hs;obtain⟨z,i,c,rfl,rfl,hz,he,q⟩:=h;obtain⟨t,rfl⟩:=rx;obtain⟨t',rfl⟩:=ry;obtain⟨j,h1,h2,h3,h4,h5⟩:=zcV he;have hl:z.cps.toList.length=z.length:=by simp[Str.length]
 rw[hl] at h1 h4 h5;have hn:=zaN
 exact tail_any (typeIs_str s z t) slot_str_getitem.lookup (getItem_str (c:=c) (by
  have e1:decide (i< -(2^63:Int))=kb:=decide_eq_false ⋯;have e2:decide (i≥2^63)=kb:=decide_eq_false ⋯
  rw[e1,e2,HI]) (by rw[h1];simpa using h2) ⟨.str ⟨#[c]⟩,H,I.tok _,⟨_,rfl⟩,q⟩) hs
def rIx(K:Ar):R2:=λx y H Q=>zls K x y H Q\/zlt K x y H Q\/zpm x y H Q
def znP:IxR X (rIx X.K):=zgs.or (ziy.or znO)
def zfi(ae:mZ pW)(n j:Nat)(u:pW):Obj.mapSeq (·.setIfInBounds j u) {cls:= .type "list",data:= .seq ae.toArray n}={cls:= .type "list",data:= .seq (ae.set j u).toArray n}:=by
 simp[Obj.mapSeq]
def Inv.lst{pins:mZ (qm×Obj)}{σ:St}{H:Hp}{s:pX}(I:Inv X pins σ H s)(h:H p=dE (.lst xs)):
  ∃(ae:mZ pW) (n:Nat),zR xs ae/\s.heap.get? p=dE {cls:= .type "list",data:= .seq ae.toArray n}/\xs.length<=sizeLine:=by
 obtain⟨z,ae,n,r,e⟩:=I.hok p _ h;exact⟨ae,n,r,e,z⟩
def Inv.lstUpd{ae its':mZ pW}{f:Obj->Obj}(I:Inv X pins σ H s)(h:H p=dE (.lst xs))
  (ho:s.heap.get? p=dE {cls:= .type "list",data:= .seq ae.toArray n}) (hf:f {cls:= .type "list",data:= .seq ae.toArray n}={cls:= .type "list",data:= .seq its'.toArray n'}) (r:zR ys its') (hz:ys.length<=sizeLine) (t:Nat):
  Inv X pins σ (upd H p (.lst ys)) {s with heap:=s.heap.update p f,toks:=t}:=by
 have e:(s.heap.update p f).get? p=dE {cls:= .type "list",data:= .seq its'.toArray n'}:=by
  rw[Heap.get?_update_self f ho (by rw[hf]<;>rfl),hf]
 refine I.write (x:=p) (e:=p) (by rw[h];trivial) (.inl rfl) (λb u hb q=>(Heap.get?_update_other _ _ (BH hb)).trans q) ⟨_,e⟩ ?_;exact⟨hz,its',n',r,e⟩
def zm3:V->V->V->Hp->(Hp->Prop)->Prop:=λo i v H Q=>∃p xs k j,o= .ref p/\i= .int k/\H p=dE (.lst xs)/\ixN xs.length k=dE j/\Q (upd H p (.lst (xs.set j v)))
def Wo:zo8 X zm3:=by
 intro pins s σ H o i v ov iv u Q I ro ri rv h;obtain⟨p,xs,k,j,rfl,rfl,hp,hj,q⟩:=h;cases ro;obtain⟨t,rfl⟩:=ri;obtain⟨ae,n,r,ho,hz⟩:=I.lst hp;obtain⟨h1,h2,h3,h4⟩:=zgr hj;have hl:=r.length;have hn:=zaN;have I':Inv X pins σ (upd H p (.lst (xs.set j v))) {s with heap:=s.heap.update p (Obj.mapSeq (·.setIfInBounds j u))}:=
  I.lstUpd hp ho (zfi ae n j u) (r.set rv j) (by rw[Cq];exact hz) s.toks
 by_cases h0:0<=k
 .have hk:k.toNat=j:=by
   rw[seqIndex_of h0 h4] at h1;exact BF h1
  exact PySem.W.ki_setAt ho h0 ⋯ (by rw[AQ,<-hl];exact h4) (by rw[hk];exact⟨_,I',q⟩)
 have hk:(k+(ae.toArray.size:Int)).toNat=j:=by
  rw[seqIndex_neg ⋯ h3] at h1;rw[AQ,<-hl];exact BF h1
 exact PySem.W.ki_setBack ho ⋯ (by rw[AQ,<-hl];exact h3) ⋯ (by rw[hk];exact⟨_,I',q⟩)
def zcW(lo hi:pU Int)(n:Nat):(sliceBounds lo hi fC n).1=((HT.sIx n 0 lo:Nat):Int)/\(sliceBounds lo hi fC n).2.1=((HT.sIx n n hi:Nat):Int)/\(sliceBounds lo hi fC n).2.2=1:=by
 refine⟨?_,?_,rfl⟩
 .cases lo with
  |none=>simp[sliceBounds,HT.sIx]
  |some i=>
   simp only[sliceBounds,HT.sIx,Hj,show(1:Int)>0 by decide,if_true];by_cases h:i<0
   .simp only[h,if_true]<;>omega
   simp only[h,if_false]<;>omega
 cases hi with
 |none=>simp[sliceBounds,HT.sIx]
 |some i=>
  simp only[sliceBounds,HT.sIx,Hj,show(1:Int)>0 by decide,if_true];by_cases h:i<0
  .simp only[h,if_true]<;>omega
  simp only[h,if_false]<;>omega
def zbK(ae:mZ pW)(lo hi:pU Int):slicePick ae.toArray lo hi fC=((ae.drop (HT.sIx ae.length 0 lo)).take (HT.sIx ae.length ae.length hi-HT.sIx ae.length 0 lo)).toArray:=by
 obtain⟨h1,h2,h3⟩:=zcW lo hi ae.toArray.size;unfold slicePick;rw[h1,h2,h3];simp only[sliceRange_one,pick_run,AQ]<;>rfl
def ziz(K:Ar):V->pU Int->pU Int->Hp->VK->Prop:=λx lo hi H Q=>∃a xs,x= .ref a/\SqL K H a xs/\∀p,H p=fC->Q (.ref p) (upd H p (.lst (zhr xs lo hi)))
def zlu:SlR X (ziz X.K):=by
 intro pins s σ H x v vl vu lo hi sl Q I rx hs pl pu h;obtain⟨a,xs,rfl,hx,q⟩:=h;cases rx;obtain⟨ae,r,ht,hz⟩:=I.list hx;have hlen:=r.length;refine⟨"list",_,slot_list_getitem.lookup,ht.isList.typeIs,?_⟩;refine wpAny_getItem_list_slice ht.isList hs pl pu .none (by simp) ?_ (by rw[AQ]<;>omega);rw[zbK,<-hlen];refine⟨.ref s.heap.objs.size,_,I.laid (t':=s.toks) (o:= .lst (zhr xs lo hi)) (λb ob q=>Heap.get?_push_of_some _ q) (AF _) ?_,rfl,q _ (I.hok.fresh (AF _))⟩;exact⟨AA (zd4 xs lo hi) hz,_,0,(r.drop (HT.sIx xs.length 0 lo)).take (HT.sIx xs.length xs.length hi-HT.sIx xs.length 0 lo),Heap.get?_push_size _ rfl⟩
noncomputable def Wp:V->Bool
 | .non=>fJ
 | .bl _=>fJ
 | .int _=>fJ
 | .str _=>fJ
 |_=>kb
noncomputable def eqV:V->V->Bool
 | .non,.non=>fJ
 | .bl a,.bl b=>a==b
 | .bl a,.int b=>(if a then 1 else 0)==b
 | .int a,.bl b=>a==(if b then 1 else 0)
 | .int a,.int b=>a==b
 | .str a,.str b=>a==b
 |_,_=>kb
def znQ(ry:zI y u)(rx:zI x v)(fy:Wp y=fJ)(fx:Wp x=fJ):SeqAt.EqAt A s u v (eqV y x):=by
 cases y with
 |non=>
  cases ry;cases x with
  |non=>cases rx;exact SeqAt.EqAt.same _
  |bl b=>cases rx;exact SeqAt.EqAt.none_bool b
  |int b=>obtain⟨t,rfl⟩:=rx;exact SeqAt.EqAt.none_int b t
  |str b=>obtain⟨t,rfl⟩:=rx;exact SeqAt.EqAt.none_str b t
  |_=>exact absurd (show kb=fJ from fx) B4
 |bl a=>
  cases ry;cases x with
  |non=>cases rx;exact SeqAt.EqAt.bool_none a
  |bl b=>cases rx;exact SeqAt.EqAt.bool_bool a b
  |int b=>obtain⟨t,rfl⟩:=rx;exact SeqAt.EqAt.bool_int a b t
  |str b=>obtain⟨t,rfl⟩:=rx;exact SeqAt.EqAt.bool_str a b t
  |_=>exact absurd (show kb=fJ from fx) B4
 |int a=>
  obtain⟨t',rfl⟩:=ry;cases x with
  |non=>cases rx;exact SeqAt.EqAt.int_none a t'
  |bl b=>cases rx;exact SeqAt.EqAt.int_bool a t' b
  |int b=>obtain⟨t,rfl⟩:=rx;exact SeqAt.EqAt.int_int a t' b t
  |str b=>obtain⟨t,rfl⟩:=rx;exact SeqAt.EqAt.int_str a t' b t
  |_=>exact absurd (show kb=fJ from fx) B4
 |str a=>
  obtain⟨t',rfl⟩:=ry;cases x with
  |non=>cases rx;exact SeqAt.EqAt.str_none a t'
  |bl b=>cases rx;exact SeqAt.EqAt.str_bool a t' b
  |int b=>obtain⟨t,rfl⟩:=rx;exact SeqAt.EqAt.str_int a t' b t
  |str b=>obtain⟨t,rfl⟩:=rx;exact SeqAt.EqAt.str_str a t' b t
  |_=>exact absurd (show kb=fJ from fx) B4
 |_=>exact absurd (show kb=fJ from fy) B4
noncomputable def eqU(x:V)(u:pW):Bool:=match u with
 | .none=>eqV .non x
 | .bool b=>eqV (.bl b) x
 | .int i _=>eqV (.int i) x
 | .str z _=>eqV (.str z) x
 |_=>kb
def ziA(r:zI y u)(f:Wp y=fJ):eqU x u=eqV y x:=by
 cases y with
 |non=>cases r;rfl
 |bl b=>cases r;rfl
 |int i=>obtain⟨t,rfl⟩:=r;rfl
 |str z=>obtain⟨t,rfl⟩:=r;rfl
 |_=>exact absurd (show kb=fJ from f) B4
theorem zcX:∀{xs:mZ V} {us:mZ pW},zR xs us->xs.all Wp=fJ->us.any (eqU x)=xs.any λy=>eqV y x
 |_,_,.nil,_=>rfl
 |y::xs,u::us,.cons r t,f=>by
  rw[DC,BV] at f;rw[CZ,CZ,ziA r f.1,zcX t f.2]
theorem zaT(rx:zI x v)(fx:Wp x=fJ):∀{xs:mZ V} {us:mZ pW},zR xs us->xs.all Wp=fJ->∀u∈us,SeqAt.EqAt A s u v (eqU x u)
 |_,_,.nil,_=>λu hu=>by cases hu
 |y::xs,u::us,.cons r t,f=>λu' hu=>by
  rw[DC,BV] at f;rcases AW.mp hu with rfl|hu;rw[ziA r f.1];exact znQ r rx f.1 fx;exact zaT rx fx t f.2 u' hu
noncomputable def inV(x:V)(xs:mZ V):Bool:=xs.any λy=>eqV y x
def rIn(K:Ar)(neg:Bool):R2:=λx y H Q=>∃p xs,y= .ref p/\(SqL K H p xs\/SqT K H p xs)/\Wp x=fJ/\xs.all Wp=fJ/\Q (.bl (if neg then !inV x xs else inV x xs)) H
def zcY:OpR X (compareOp .NotIn) (rIn X.K fJ):=by
 intro pins s σ H x y v u Q I rx ry h;obtain⟨p,xs,rfl,hq,fx,fs,q⟩:=h;cases ry;rcases hq with hq|hq;obtain⟨ae,r,pl,hz⟩:=I.list hq;refine SeqAt.notIn_listAt (eqU x) pl.isList (λw hw=>zaT rx fx r fs w (by simpa using hw)) ⟨.bl _,H,I,rfl,?_⟩;rw[show ae.toArray.any (eqU x)=ae.any (eqU x) by simp,zcX r fs];exact q;obtain⟨ae,r,pl,hz⟩:=I.tuple hq;refine SeqAt.notIn_tupleAt (eqU x) pl (λw hw=>zaT rx fx r fs w (by simpa using hw)) ⟨.bl _,H,I,rfl,?_⟩;rw[show ae.toArray.any (eqU x)=ae.any (eqU x) by simp,zcX r fs];exact q
def zcZ:YK X (.builtin "len") (λxs H Q=>∃p ys,xs=[.ref p]/\(SqL X.K H p ys\/SqT X.K H p ys)/\Q (.int ys.length) H):=by
 intro pins s σ H xs us Q I r h;obtain⟨p,ys,rfl,hq,q⟩:=h;obtain⟨u,rfl,rx⟩:=Wn r;cases rx;have hn:=zaN;rcases hq with hq|hq;obtain⟨ae,r',pl,hz⟩:=I.list hq;have hlen:=r'.length;exact Calls.call_len_list pl.isList (by simp only[AQ]<;>omega) ⟨.int ys.length,H,I.tok _,⟨s.toks+1,by rw[AQ,hlen]⟩,q⟩;obtain⟨ae,r',pl,hz⟩:=I.tuple hq;have hlen:=r'.length;exact len_tuple pl (by simp only[AQ]<;>omega) ⟨.int ys.length,H,I.tok _,⟨s.toks+1,by rw[AQ,hlen]⟩,q⟩
def zc0:YK X (.type "list") (λxs H Q=>∃p ys,xs=[.ref p]/\(SqL X.K H p ys\/SqT X.K H p ys)/\∀l,H l=fC->Q (.ref l) (upd H l (.lst ys))):=by
 intro pins s σ H xs us Q I r h;obtain⟨p,ys,rfl,hq,q⟩:=h;obtain⟨u,rfl,rx⟩:=Wn r;cases rx;have fin:∀(ae:mZ pW),zR ys ae->ys.length<=sizeLine->∀(h':Heap) (c':Nat),(∀b o',s.heap.get? b=dE o'->h'.get? b=dE o')->
   h'.get? s.heap.objs.size=dE {cls:= .type "list",dict:=fC,data:= .seq ae.toArray c',slots:= #[]}->EP X pins σ Q (.ref s.heap.objs.size) {s with heap:=h'}:=λae r' hz h' c' kp e=>
  ⟨.ref s.heap.objs.size,_,I.laid (t':=s.toks) kp (AF _) (show yL X.prog X.w _ h' _ (.lst ys) from ⟨hz,ae,c',r',e⟩),rfl,q _ (I.hok.fresh (AF _))⟩
 rcases hq with hq|hq;obtain⟨ae,r',pl,hz⟩:=I.list hq;have hlen:=r'.length;obtain⟨o,ho,hc,n,hd⟩:=pl.isList;exact call_list_seq p (.inl rfl) ho hc hd (λh' c' kp e=>fin ae r' hz h' c' kp e) (by simp only[AQ]<;>omega);obtain⟨ae,r',pl,hz⟩:=I.tuple hq;have hlen:=r'.length;obtain⟨o,ho,hc,n,hd⟩:=pl;exact call_list_seq p (.inr rfl) ho hc hd (λh' c' kp e=>fin ae r' hz h' c' kp e) (by simp only[AQ]<;>omega)
def tyV(K:Ar)(T:String)(x:V)(H:Hp):Prop:=match x with
 | .str _=>T="str"
 | .int _=>T="int"
 | .ref p=>(T="list"/\∃xs,SqL K H p xs)\/(T="tuple"/\∃o,K.lookup p=dE o/\o.cls= .type "tuple"/\o.dict=fC)\/
   (T="dict"/\((∃kvs,Rd H p (.dK kvs))\/∃kvs,H p=dE (.dT kvs)))\/(T="set"/\∃S n,H p=dE (.set S n))
 |_=>False
def ziB(I:Inv X pins σ H s)(r:zI x v)(ty:tyV X.K T x H):
  s.TypeIs v T/\∀a,v= .ref a->∃ob,s.heap.get? a=dE ob/\ob.dict=fC:=by
 cases x with
 |str z=>
  obtain⟨t,rfl⟩:=r;cases (show T="str" from ty);exact⟨typeIs_str s z t,λ_ e=>nomatch e⟩
 |int i=>
  obtain⟨t,rfl⟩:=r;cases (show T="int" from ty);exact⟨typeIs_int s i t,λ_ e=>nomatch e⟩
 |ref p=>
  cases r;rcases ty with⟨rfl,xs,hq⟩|⟨rfl,o,hk,hc,hd⟩|⟨rfl,hk⟩|⟨rfl,S,n,hk⟩
  .obtain⟨ae,_,pl,_⟩:=I.list hq;refine⟨pl.isList.typeIs,λa e=> ?_⟩;cases e;obtain⟨o,n,e,c,hd,_⟩:=pl;exact⟨o,e,hd⟩
  .refine⟨⟨o,I.kIn p o hk,hc⟩,λa e=> ?_⟩;cases e;exact⟨o,I.kIn _ o hk,hd⟩
  .have z:∃o,s.heap.get? p=dE o/\o.ExactDict:=by
    rcases hk with⟨kvs,hk⟩|⟨kvs,hk⟩
    .obtain⟨_,_,_,_,o,_,_,e,ex,_⟩:=hk.ok I.hok;exact⟨o,e,ex⟩
    obtain⟨_,_,_,_,o,_,_,e,ex,_⟩:=I.hok p _ hk;exact⟨o,e,ex⟩
   obtain⟨o,e,ex⟩:=z;refine⟨⟨o,e,ex.1⟩,λa e2=> ?_⟩;cases e2;exact⟨o,e,ex.2.1⟩
  obtain⟨o,_,_,_,e,ex,_⟩:=I.hok p _ hk;refine⟨⟨o,e,ex.1⟩,λa e2=> ?_⟩;cases e2;exact⟨o,e,ex.2.1⟩
 |_=>exact Bw ty
def znR(K:Ar)(T:String)(r:V->mZ V->Hp->VK->Prop)(to:TE):TE:=λσ H Q=>to σ H λx H1=>tyV K T x H1/\r x [] H1 Q
def tBM(K:Ar)(T:String)(r:V->mZ V->Hp->VK->Prop)(to:TE)(t:TA):TE:=λσ H Q=>to σ H λx H1=>tyV K T x H1/\t σ H1 λxs H2=>r x xs H2 Q
variable{o e:Expr}{es:mZ Expr}{to:TE}{t:TA}{name:Str}{apos bw:Pos}{T id:String}{r:V->mZ V->Hp->VK->Prop}
def zfj(pa:PlainAttrs T)(slot:Slot T name id)(o6:typeOf (.builtin id)=pure (.type "method_descriptor"))(hm:MtR X id r)(ho:PE X o to)
  (gJ:attributeBase o name X.env (eval o X.env)=eval o X.env:=by rfl) (hline:(apos.endLine==bw.line)=fJ:=by rfl):PE X (.Call (.Attribute o name apos) [] [] bw) (znR X.K T r to):=by
 intro pins s σ H Q I h;refine wpAny_Call_method0_late gJ hline (thn (ho pins s σ H _ I h) ?_);rintro v s1 ⟨x,H1,I1,r1,ty,q1⟩;obtain⟨h1,h2⟩:=ziB I1 r1 ty;exact⟨T,id,pa,slot,o6,h1,h2,Calls.callWith_builtin rfl (PySem.evalArgs_none (hm pins s1 σ H1 x [] v [] Q I1 r1 .nil q1))⟩
def Um(pa:PlainAttrs T)(slot:Slot T name id)(o6:typeOf (.builtin id)=pure (.type "method_descriptor"))(hm:MtR X id r)(ho:PE X o to)(ha:PA X (e::es) t)
  (gJ:attributeBase o name X.env (eval o X.env)=eval o X.env:=by rfl)
  (oZ:((backTo bw (starEach (e::es) X.env)).all (λx=> !x.1)&&(backToKw bw (keywordEach [] X.env)).all (λx=>x.1.isSome)
   &&decide ((e::es).length+([]:mZ Keyword).length+(if ([]:mZ Keyword).isEmpty then 0 else 1)<30))=fJ:=by rfl)
  (hline:(apos.endLine==bw.line)=fJ:=by rfl) (hs:starEach (e::es) X.env=(kb,eval e X.env)::starEach es X.env:=by rfl) (jB:(backTo bw (starEach es X.env)).any (·.1)=kb:=by rfl):
  PE X (.Call (.Attribute o name apos) (e::es) [] bw) (tBM X.K T r to t):=by
 intro pins s σ H Q I h;refine wpAny_Call_method_late gJ oZ hline rfl (thn (ho pins s σ H _ I h) ?_);rintro v s1 ⟨x,H1,I1,r1,ty,q1⟩;obtain⟨h1,h2⟩:=ziB I1 r1 ty;refine⟨T,id,pa,slot,o6,h1,h2,?_⟩;have hA:=ha bw pins s1 σ H1 _ I1 q1;rw[hs] at hA ⊢;refine Calls.callWith_builtin (by show(kb||(backTo bw (starEach es X.env)).any (·.1))=kb;rw[jB]<;>rfl) (Calls.evalArgs_plain ?_);refine thn hA ?_;rintro us s2 ⟨vs,H2,I2,r2,q2⟩;exact hm pins s2 σ H2 x vs v us Q I2 r1 r2 q2
end
def MtM(X:Cx)(id:String)(r:V->mZ V->Hp->VK->Prop):Prop:=
 ∀(pins:mZ (qm×Obj)) (s:pX) (σ:St) (H:Hp) (x:V) (xs:mZ V) (v:pW) (us:mZ pW) (Q:VK),Inv X pins σ H s->zI x v->zR xs us->r x xs H Q->
  wpAny (model X.prog X.w) X.A (call (.builtin id) (v::us)) (EP X pins σ Q) X.xe s
def zR.one(h:zR [x] us):∃u,us=[u]/\zI x u:=by
 cases h with
 |cons r t=>cases t;exact⟨_,rfl,r⟩
theorem zR.zero:∀{us:mZ pW},zR [] us->us=[]
 |_,.nil=>rfl
def zR.dropLast(h:zR xs us):zR xs.dropLast us.dropLast:=by
 induction h with
 |nil=>exact .nil
 |cons r t ih=>
  cases t with
  |nil=>exact .nil
  |cons q t'=>exact .cons r ih
theorem zR.rep(h:zR xs us):∀k:Nat,zR (AK k xs).flatten (AK k us).flatten
 |0=> .nil
 |k+1=>by
  rw[BW,BW,CY,CY];exact zR.append h (zR.rep h k)
def zfk{α:Type}(l:mZ α):l.eraseIdx (l.length-1)=l.dropLast:=by
 induction l with
 |nil=>rfl
 |cons a r ih=>
  cases r with
  |nil=>rfl
  |cons b r=>
   have e:(a::b::r).length-1=((b::r).length-1)+1:=by
    have h1:(a::b::r).length=r.length+2:=rfl;have h2:(b::r).length=r.length+1:=rfl;omega
   rw[e,List.eraseIdx_cons_succ,ih]
   all_goals rfl
theorem zce(ae:mZ pW):∀(k:Nat) (acc:mZ pW),
  Ht (λx1 x2=>x1++x2) acc.toArray (AK k ae.toArray)=(acc++(AK k ae).flatten).toArray
 |0,acc=>by simp
 |k+1,acc=>by
  have e:acc.toArray++ae.toArray=(acc++ae).toArray:=by simp
  have e2:(acc++ae)++(AK k ae).flatten=acc++(AK (k+1) ae).flatten:=by
   rw[BW,CY,Eb]
  rw[<-e2,<-zce ae k (acc++ae),<-e,BW,List.foldl_cons]
section
def Inv.lset{ae its':mZ pW}{f:Array pW->Array pW}(I:Inv X pins σ H s)(hH:H l=dE (.lst xs))
  (e:s.heap.get? l=dE {cls:= .type "list",data:= .seq ae.toArray n}) (hf:f ae.toArray=its'.toArray) (hv:zR ys its') (hz:ys.length<=sizeLine):
  Inv X pins σ (upd H l (.lst ys)) {s with heap:=s.heap.update l (Obj.mapSeq f),toks:=t'}:=by
 have q:=PySem.IsL.update e f;rw[hf] at q;refine I.write (x:=l) (e:=l) (by rw[hH];exact trivial) (.inl rfl) (λb' u hb hu=>(Heap.get?_update_other s.heap (Obj.mapSeq f) (BH hb)).trans hu) ⟨_,q⟩ ?_;exact⟨hz,its',_,hv,q⟩
def Inv.lnew(I:Inv X pins σ H s)(hv:zR ys ae)(hz:ys.length<=sizeLine):
  Inv X pins σ (upd H s.heap.objs.size (.lst ys)) {s with heap:=s.heap.push {cls:= .type "list",data:= .seq ae.toArray},toks:=t'}:=
 I.laid (λ_ _ q=>Heap.get?_push_of_some _ q) (AF _) ⟨hz,ae,0,hv,Heap.get?_push_size _ rfl⟩
def Inv.fresh(I:Inv X pins σ H s):H s.heap.objs.size=fC:=I.hok.fresh (AF _)
def Inv.lstM(I:Inv X pins σ H s)(hH:H l=dE (.lst xs)):xs.length<=sizeLine/\∃(ae:mZ pW) (n:Nat),zR xs ae/\xs.length=ae.length/\s.heap.get? l=dE {cls:= .type "list",data:= .seq ae.toArray n}:=by
 obtain⟨z,ae,n,r,e⟩:=I.hok l _ hH;exact⟨z,ae,n,r,r.length,e⟩
def ziC(h:n<=sizeLine):Builtin.List.listTooLong n=kb:=by
 unfold Builtin.List.listTooLong;exact decide_eq_false ⋯
end
def zgt:V->mZ V->Hp->VK->Prop:=λx vs H Q=>∃l xs y,x= .ref l/\vs=[y]/\H l=dE (.lst xs)/\xs.length<sizeLine/\Q .non (upd H l (.lst (xs++[y])))
def xU:MtM X "list.append" zgt:=by
 intro pins s σ H x vs v us Q I rx rv h;obtain⟨l,xs,y,rfl,rfl,hH,hz,q⟩:=h;cases rx;obtain⟨u,rfl,ru⟩:=rv.one;obtain⟨z,ae,n,r,hl,e⟩:=I.lstM hH;refine call_meets F.slot_list_append ⟨_,e,rfl⟩ F.entry_list_append (F.args_list_append_2 _ _) (PySem.list_append l ae.toArray n u (by rw[AQ];omega)) ⟨e,?_⟩;refine⟨.non,_,I.lset (its':=ae++[u]) hH e (by simp) (r.append (.cons ru .nil)) ?_,rfl,q⟩;rw[Ba,CJ];omega
def zpn:V->mZ V->Hp->VK->Prop:=λx vs H Q=>∃l xs y,x= .ref l/\vs=[]/\H l=dE (.lst xs)/\xs[xs.length-1]? =dE y/\Q y (upd H l (.lst xs.dropLast))
def znS:MtM X "list.pop" zpn:=by
 intro pins s σ H x vs v us Q I rx rv h;obtain⟨l,xs,y,rfl,rfl,hH,hy,q⟩:=h;cases rx;have tu:=rv.zero;subst tu;obtain⟨z,ae,n,r,hl,e⟩:=I.lstM hH;obtain⟨u,hu,ru⟩:=r.get hy;have mB:ae.toArray[ae.toArray.size-1]? =dE u:=by
  show ae.toArray[ae.length-1]? =dE u;rw[<-Array.getElem?_toList,<-hl];exact hu
 refine call_meets F.slot_list_pop ⟨_,e,rfl⟩ F.entry_list_pop (F.args_list_pop_1 _) (MeetsSeq.list_pop_last l ae.toArray n u mB (by rw[AQ];omega)) ⟨e,?_⟩;refine⟨y,_,I.lset (its':=ae.dropLast) hH e ?_ r.dropLast ?_,ru,q⟩;show ae.toArray.eraseIdxIfInBounds (ae.toArray.size-1)=ae.dropLast.toArray;rw[AQ,List.eraseIdxIfInBounds_toArray,zfk];rw[Gc];omega
def zlv{α:Type}(xs:mZ α)(k:Nat):(AK k xs).flatten.length=k*xs.length:=by
 induction k with
 |zero=>simp
 |succ k ih=>rw[BW,CY,Ba,ih,GF,GH]
section
variable{w:World}
end
section
variable{κ:Type}[DecidableEq κ]
noncomputable def ZM(kvs:mZ (κ×V))(k:κ):pU V:=(kvs.find? λkv=>decide (kv.1=k)).map (·.2)
noncomputable def Tf(kvs:mZ (κ×V))(k:κ)(v:V):mZ (κ×V):=
 if (kvs.any λkv=>decide (kv.1=k))=fJ then kvs.map (λkv=>if kv.1=k then (kv.1,v) else kv) else kvs++[(k,v)]
noncomputable def TY(kvs:mZ (κ×V))(k:κ):mZ (κ×V):=kvs.filter λkv=>decide (kv.1≠k)
def zaU{p:κ×V}{r:mZ (κ×V)}{k:κ}(e:p.1=k):ZM (p::r) k=dE p.2:=by simp[ZM,C2,e]
def zaV{p:κ×V}{r:mZ (κ×V)}{k:κ}(e:¬p.1=k):ZM (p::r) k=ZM r k:=by simp[ZM,C2,e]
theorem zd5(k:κ):∀kvs:mZ (κ×V),(kvs.any λkv=>decide (kv.1=k))=(ZM kvs k).isSome
 |[]=>rfl
 |p::r=>by
  rw[CZ];by_cases e:p.1=k;simp only[zaU e,decide_eq_true e,Bool.true_or,GI];rw[zaV e,decide_eq_false e,Bool.false_or];exact zd5 k r
def TZ(kvs:mZ (κ×V))(k:κ)(v:V):(Tf kvs k v).length<=kvs.length+1:=by
 unfold Tf;split;rw[Aw];omega;rw[Ba,B7,EA];omega
def Xd.isSome_eq(r:Xd o u):o.isSome=u.isSome:=by
 cases o with
 |none=>cases u with
  |none=>rfl
  |some _=>exact(show False from r).elim
 |some _=>cases u with
  |none=>exact(show False from r).elim
  |some _=>rfl
def Xd.getD(r:Xd o u)(rd:zI d d'):zI (o.getD d) (u.getD d'):=by
 cases o with
 |none=>cases u with
  |none=>exact rd
  |some _=>exact(show False from r).elim
 |some _=>cases u with
  |none=>exact(show False from r).elim
  |some _=>exact r
def KV.val{kvs:mZ (κ×V)}{vs:mZ (κ×pW)}(r:KV kvs vs)(k:κ):Xd (ZM kvs k) (valueAt vs k):=by
 unfold KV at r
 induction r with
 |nil=>exact Cp
 | @cons p q ps qs h t ih=>
  obtain⟨h1,h2⟩:=h;by_cases e:p.1=k
  .have e':q.1=k:=h1.symm.trans e;have b:valueAt (q::qs) k=dE q.2:=by simp[valueAt,C2,e']
   rw[zaU e,b];exact h2
  have e':¬q.1=k:=λz=>e (h1.trans z);have b:valueAt (q::qs) k=valueAt qs k:=by simp[valueAt,C2,e']
  rw[zaV e,b];exact ih
def KV.any{kvs:mZ (κ×V)}{vs:mZ (κ×pW)}(r:KV kvs vs)(k:κ):(kvs.any λkv=>decide (kv.1=k))=vs.any λkv=>decide (kv.1=k):=by
 unfold KV at r
 induction r with
 |nil=>rfl
 |cons h t ih=>rw[CZ,CZ,ih,h.1]
def KV.repl{kvs:mZ (κ×V)}{vs:mZ (κ×pW)}(r:KV kvs vs)(k:κ){y:V}{u:pW}(ry:zI y u):
  KV (kvs.map λkv=>if kv.1=k then (kv.1,y) else kv) (vs.map λkv=>if kv.1=k then (kv.1,u) else kv):=by
 unfold KV at r ⊢
 induction r with
 |nil=>exact .nil
 | @cons p q ps qs h t ih=>
  rw[AZ,AZ];refine .cons ?_ ih;obtain⟨h1,h2⟩:=h;by_cases e:p.1=k;rw[if_pos e,if_pos (h1.symm.trans e)];exact⟨h1,ry⟩;rw[if_neg e,if_neg (λz=>e (h1.trans z))];exact⟨h1,h2⟩
def KV.put{kvs:mZ (κ×V)}{vs:mZ (κ×pW)}(r:KV kvs vs)(k:κ){y:V}{u:pW}(ry:zI y u):KV (Tf kvs k y) (stored vs k u):=by
 unfold Tf stored;rw[r.any k];by_cases e:(vs.any λkv=>decide (kv.1=k))=fJ;rw[if_pos e,if_pos e];exact r.repl k ry;rw[if_neg e,if_neg e];exact Paired.snoc r ⟨rfl,ry⟩
def KV.drop{kvs:mZ (κ×V)}{vs:mZ (κ×pW)}(r:KV kvs vs)(k:κ):KV (TY kvs k) (without vs k):=by
 unfold KV at r ⊢;unfold TY without
 induction r with
 |nil=>exact .nil
 | @cons p q ps qs h t ih=>
  obtain⟨h1,h2⟩:=h;rw[Dc,Dc];by_cases e:p.1=k
  .have a:¬decide (p.1≠k)=fJ:=by simp[e]
   have b:¬decide (q.1≠k)=fJ:=by simp[h1.symm.trans e]
   rw[if_neg a,if_neg b];exact ih
  have e':¬q.1=k:=λz=>e (h1.trans z);have a:decide (p.1≠k)=fJ:=by simp[e]
  have b:decide (q.1≠k)=fJ:=by simp[e']
  rw[if_pos a,if_pos b];exact .cons ⟨h1,h2⟩ ih
def KV.keys{kvs:mZ (κ×V)}{vs:mZ (κ×pW)}(r:KV kvs vs):kvs.map (·.1)=vs.map (·.1):=by
 unfold KV at r
 induction r with
 |nil=>rfl
 |cons h t ih=>rw[AZ,AZ,ih,h.1]
def KV.length{kvs:mZ (κ×V)}{vs:mZ (κ×pW)}(r:KV kvs vs):kvs.length=vs.length:=Paired.length r
def ziD(kvs:mZ (κ×V))(k:κ):(TY kvs k).length<=kvs.length:=Ep _ _
end
def zcf{P:Program}(r:zI (kV k) u):(yu P w).is k u=fJ:=by
 cases k with
 |inl i=>obtain⟨t,e⟩:=(show ∃t,u=Value.int i t from r);subst e;exact zdW P w i t
 |inr x=>obtain⟨t,e⟩:=(show ∃t,u=Value.str x t from r);subst e;exact zdX P w x t
theorem zcg{P:Program}:∀{ks:mZ Key} {us:mZ pW},zR (ks.map kV) us->ItemsAre (yu P w) ks us
 |[],_,r=>by rw[GD] at r;cases r;exact .nil
 |k::ks,_,r=>by
  rw[AZ] at r;cases r with
  |cons h t=>exact .cons (zcf h) (zcg t)
noncomputable abbrev KT(H:Hp):mZ (mZ Key×V)->mZ (mZ Key×qm×pW)->Prop:=Paired λp q=>p.1=q.1/\H q.2.1=dE (.tup (p.1.map kV))/\zI p.2 q.2.2
def KT.val(r:KT H kvs xs)(k:mZ Key):Xd (ZM kvs k) ((atKey xs k).map (·.2)):=by
 induction r with
 |nil=>exact Cp
 | @cons p q ps qs h t ih=>
  obtain⟨h1,_,h2⟩:=h;by_cases e:p.1=k
  .have e':q.1=k:=h1.symm.trans e;have b:atKey (q::qs) k=dE q.2:=by simp[atKey,C2,e']
   rw[zaU e,b];exact h2
  have e':¬q.1=k:=λz=>e (h1.trans z);have b:atKey (q::qs) k=atKey qs k:=by simp[atKey,C2,e']
  rw[zaV e,b];exact ih
def KT.repl(r:KT H kvs xs)(k:mZ Key)(ry:zI y u):
  KT H (kvs.map λkv=>if kv.1=k then (kv.1,y) else kv) (xs.map (putAt k u)):=by
 induction r with
 |nil=>exact .nil
 | @cons p q ps qs h t ih=>
  rw[AZ,AZ];refine .cons ?_ ih;obtain⟨h1,h2,h3⟩:=h;unfold putAt;by_cases e:p.1=k;rw[if_pos e,if_pos (h1.symm.trans e)];exact⟨h1,h2,ry⟩;rw[if_neg e,if_neg (λz=>e (h1.trans z))];exact⟨h1,h2,h3⟩
def KT.put(r:KT H kvs xs)(k:mZ Key)(hb:H b=dE (.tup (k.map kV)))(ry:zI y u):
  KT H (Tf kvs k y) (storedH xs k b u):=by
 have e:(kvs.any λkv=>decide (kv.1=k))=(atKey xs k).isSome:=by
  rw[zd5,(r.val k).isSome_eq,GU]
 unfold Tf storedH;rw[e];by_cases q:(atKey xs k).isSome=fJ;rw[if_pos q,if_pos q];exact r.repl k ry;rw[if_neg q,if_neg q];exact Paired.snoc r ⟨rfl,hb,ry⟩
def KT.keeps(r:KT H kvs xs)(ht:∀b ys,H b=dE (.tup ys)->H' b=dE (.tup ys)):KT H' kvs xs:=
 Paired.mapP r λ_ _ z=>⟨z.1,ht _ _ z.2.1,z.2.2⟩
section
variable{P:Program}
def zm4(ok:HOk P w H h)(e:Rd H a u):yL P w H h a u:=e.ok ok
def zch(ok:HOk P w H h)(e:Rd H a (.dK kvs)):kvs.length<=sizeLine/\(a==sysModules)=kb/\∃vs,KV kvs vs/\h.DictOf (yu P w) a vs:=
 show yL P w H h a (.dK kvs) from zm4 ok e
def zci(ok:HOk P w H h)(e:H a=dE (.dK kvs)):kvs.length<=sizeLine/\(a==sysModules)=kb/\∃vs,KV kvs vs/\h.DictOf (yu P w) a vs:=zch ok (.inl e)
def zc1(ok:HOk P w H h)(e:H a=dE (.tup (ks.map kV))):(tupleKind (yu P w)).is h ks a:=by
 obtain⟨_,ae,r,o,h1,h2,n,h3⟩:=(show yL P w H h a (.tup (ks.map kV)) from ok a _ e);exact⟨o,ae.toArray,n,h1,h2,h3.1,by simpa using zcg r⟩
def zd6(ok:HOk P w H h)(e:Rd H a (.dT kvs)):kvs.length<=sizeLine/\(a==sysModules)=kb/\
  ∃xs,KT H kvs xs/\h.DictOfH (tupleKind (yu P w)) a xs:=by
 obtain⟨z,y,xs,r,o,es,ep,h1,h2,h3,h4,h5⟩:=(show yL P w H h a (.dT kvs) from zm4 ok e);refine⟨z,y,xs,r,o,es,ep,h1,h2,h3,h4,λx hx=> ?_,h5⟩;have all:∀{l:mZ (mZ Key×V)} {m:mZ (mZ Key×qm×pW)},KT H l m->∀x∈m,(tupleKind (yu P w)).is h x.1 x.2.1:=by
  intro l m q
  induction q with
  |nil=>intro x hx;exact nomatch hx
  | @cons p q ps qs hq t ih=>
   intro x hx;rcases AW.mp hx with e|hx;subst e;exact zc1 ok (by rw[<-hq.1];exact hq.2.1);exact ih x hx
 exact all r x hx
def zpo(ok:HOk P w H h)(e:H a=dE (.dT kvs)):kvs.length<=sizeLine/\(a==sysModules)=kb/\
  ∃xs,KT H kvs xs/\h.DictOfH (tupleKind (yu P w)) a xs:=zd6 ok (.inl e)
end
def zam(H:Hp)(a:qm)(y:V)(r:pU V):Prop:=
 (∃kvs k,Rd H a (.dK kvs)/\y=kV k/\r=ZM kvs k)\/∃kvs k b,Rd H a (.dT kvs)/\y= .ref b/\H b=dE (.tup (k.map kV))/\r=ZM kvs k
def ziE(H:Hp)(a:qm)(y v:V)(H':Hp):Prop:=
 (∃kvs k,H a=dE (.dK kvs)/\y=kV k/\kvs.length<sizeLine/\H'=upd H a (.dK (Tf kvs k v)))\/
 ∃kvs k b,H a=dE (.dT kvs)/\y= .ref b/\H b=dE (.tup (k.map kV))/\kvs.length<sizeLine/\H'=upd H a (.dT (Tf kvs k v))
def zam.k{a:qm}{kvs:mZ (Key×V)}{k:Key}(e:H a=dE (.dK kvs)):zam H a (kV k) (ZM kvs k):= .inl ⟨kvs,k,.inl e,rfl,rfl⟩
def ziE.k{a:qm}{kvs:mZ (Key×V)}{k:Key}{v:V}(e:H a=dE (.dK kvs))(hl:kvs.length<sizeLine):ziE H a (kV k) v (upd H a (.dK (Tf kvs k v))):= .inl ⟨kvs,k,e,rfl,hl,rfl⟩
section
def Inv.big(I:Inv X pins σ H s):sysModules<s.heap.objs.size:=by
 have h:mainGlobals<s.heap.objs.size:=(I.mod.glob.keeps I.bk).lt;exact Nat.lt_trans ∅ h
def zhs(hu:A.units+1<cLine)(I:Inv X pins σ H s)(g:zam H a y (dE v))(ry:zI y u)(h:∀w' s',Inv X pins σ H s'->zI v w'->Q w' s'):
  wpAny (model X.prog X.w) A (getItem (.ref a) u) Q E s:=by
 rcases g with⟨kvs,k,e,ey,l⟩|⟨kvs,k,b,e,ey,eb,l⟩
 .subst ey;obtain⟨z,hd,vs,rel,dd⟩:=zch I.hok e;obtain⟨w',hw,rw'⟩:=Xd.some_of (v:=v) (o:=valueAt vs k) (by rw[l];exact rel.val k);exact wpAny_getItem_of (zcf ry) dd.mapOf hw (h w' _ (I.tok _) rw')
 subst ey;cases (show u=Value.ref b from ry);obtain⟨z,hd,xs,rel,dd⟩:=zd6 I.hok e;obtain⟨w',hw,rw'⟩:=Xd.some_of (v:=v) (o:=(atKey xs k).map (·.2)) (by rw[l];exact rel.val k);obtain⟨p,hp,lu⟩:=AB.mp hw;refine wpAny_getItem_heap (tupleKind_room_in1 hu) (zc1 I.hok eb) dd hp ?_;rw[lu];exact h w' _ (I.tok _) rw'
def Uo(I:Inv X pins σ H s)(mu:Mut (H a))(hs:Heap.SameBut a s.heap h')(he:∃q,h'.get? a=dE q)(new:yL X.prog X.w (upd H a ob) h' a ob):
  Inv X pins σ (upd H a ob) {s with heap:=h',toks:=t'}:=
 I.write (x:=a) (e:=a) mu (.inl rfl) (λb q hb z=>(hs.2 b hb).trans z) he new
def ziF{P:Program}(z:kvs.length<=sizeLine)(hd:(a==sysModules)=kb)(rel:KV kvs vs)(dd:h'.DictOf (yu P w) a vs):
  yL P w H' h' a (.dK kvs):=⟨z,hd,vs,rel,dd⟩
def zht{Q:Unit->pX->Prop}(hu:A.units+1<cLine)(I:Inv X pins σ H s)(g:ziE H a y v H')(ry:zI y u)(rv:zI v r)(h:∀s',Inv X pins σ H' s'->Q () s'):
  wpAny (model X.prog X.w) A (setItem (.ref a) u r) Q E s:=by
 rcases g with⟨kvs,k,e,ey,l,eH⟩|⟨kvs,k,b,e,ey,eb,l,eH⟩
 .subst ey eH;obtain⟨z,hd,vs,rel,dd⟩:=zci I.hok e;have hz:vs.length<=sizeLine:=by rw[<-rel.length];exact z
  have hl:(Tf kvs k v).length<=sizeLine:=by have:=TZ kvs k v;omega
  refine wpAny_setItem_pairs (hsz:=hz) (zcf ry) dd λh' dd' hs=>h _ ?_;have he:∃q,h'.get? a=dE q:=let ⟨q,_,_,hq,_⟩:=dd';⟨q,hq⟩;exact Uo I (by rw[e];exact Cp) hs he (ziF hl hd (rel.put k rv) dd')
 subst ey eH;cases (show u=Value.ref b from ry);obtain⟨z,hd,xs,rel,dd⟩:=zpo I.hok e;have hz:xs.length<=sizeLine:=by rw[<-Paired.length rel];exact z
 have hl:(Tf kvs k v).length<=sizeLine:=by have:=TZ kvs k v;omega
 refine wpAny_setItem_heap (hsz:=hz) (tupleKind_room_in1 hu) (zc1 I.hok eb) dd λh' dd' hs=>h _ ?_;obtain⟨q,es,ep,hq,h2,h3,h4,_,h5⟩:=dd';refine Uo I (by rw[e];exact Cp) hs ⟨q,hq⟩ ⟨hl,hd,_,(rel.put k eb rv).keeps λc ys ec=> ?_,q,es,ep,hq,h2,h3,h4,h5⟩;rw[zi (zo0 ec e (λz=>nomatch z))];exact ec
end
section
def zm5(I:Inv X pins σ H s)(e:H a=dE (.dK kvs))(ry:zI (kV k) u)(l:ZM kvs k=dE v)(hm:more=[]\/∃x,more=[x])
  (h:∀w' s',Inv X pins σ (upd H a (.dK (TY kvs k))) s'->zI v w'->Q w' s'):wpAny (model X.prog X.w) A (call (.builtin "dict.pop") (.ref a::u::more)) Q E s:=by
 obtain⟨z,hd,vs,rel,dd⟩:=zci I.hok e;obtain⟨w',hw,rw'⟩:=Xd.some_of (v:=v) (o:=valueAt vs k) (by rw[<-l];exact rel.val k);have hp:(keyPart u).isSome=fJ:=by
  cases k with
  |inl i=>obtain⟨t,q⟩:=(show ∃t,u=Value.int i t from ry);subst q;rfl
  |inr x=>obtain⟨t,q⟩:=(show ∃t,u=Value.str x t from ry);subst q;rfl
 have ha:argsOk "dict.pop" ⟨.ref a::u::more,[]⟩:=by
  rcases hm with q|⟨x,q⟩
  .subst q;exact PySem.F.args_dict_pop_2 _ _
  subst q;exact Fw _ _ _
 refine call_meetsIn Dv dd.typeIs FQ ha (meets_dict_pop_there (yu X.prog X.w) a (zcf ry) more hm hp)
  ⟨vs,w',dd,by rw[<-rel.length];exact z,hw,λh' dd' hs=>h w' _ ?_ rw'⟩
 have he:∃q,h'.get? a=dE q:=let ⟨q,_,_,hq,_⟩:=dd';⟨q,hq⟩;exact Uo I (by rw[e];exact Cp) hs he (ziF (AA (ziD kvs k) z) hd (rel.drop k) dd')
def znT(I:Inv X pins σ H s)(e:H a=dE (.dK kvs))(ry:zI (kV k) u)(l:ZM kvs k=fC)(h:∀s',Inv X pins σ H s'->Q r s'):
  wpAny (model X.prog X.w) A (call (.builtin "dict.pop") [.ref a,u,r]) Q E s:=by
 obtain⟨z,hd,vs,rel,dd⟩:=zci I.hok e;have hn:valueAt vs k=fC:=Xd.none_of (by rw[<-l];exact rel.val k);have hp:(keyPart u).isSome=fJ:=by
  cases k with
  |inl i=>obtain⟨t,q⟩:=(show ∃t,u=Value.int i t from ry);subst q;rfl
  |inr x=>obtain⟨t,q⟩:=(show ∃t,u=Value.str x t from ry);subst q;rfl
 exact call_meetsIn Dv dd.typeIs FQ (Fw _ _ _) (meets_dict_pop_default (yu X.prog X.w) a (zcf ry) hd hp r) ⟨vs,dd,hn,h _ (I.tok _)⟩
def zpp(I:Inv X pins σ H s)(e:Rd H a (.dK kvs))(h:∀t s',Inv X pins σ H s'->Q (.int kvs.length t) s'):wpAny (model X.prog X.w) A (call (.builtin "len") [.ref a]) Q E s:=by
 obtain⟨z,hd,vs,rel,dd⟩:=zch I.hok e;refine call_len_dict hd dd (by rw[<-rel.length];rw[sizeLine_eq] at z;omega) ?_;rw[<-rel.length];exact h _ _ (I.tok _)
end
def zpq(i:Expr):Prop:=∀ov iv,subscripted i kb ov iv=operate [ov,iv] (getItem ov iv)
def zlw{T id:String}
  (hl:typeLookup (.type T) "__getitem__"=pure (dE (.builtin id))) (hs:zpq slice)
  (h:wpAny (model prog w) A (eval value env) (λo s₁=>wpAny (model prog w) A (eval slice env) (λi s₂=>s₂.TypeIs o T/\wpAny (model prog w) A (getItem o i) Q E s₂) E s₁) E s):
  wpAny (model prog w) A (eval (.Subscript value slice pos) env) Q E s:=by
 refine Subscript_ (wpAny_mono h (λo s₁ h₁=>wpAny_mono h₁ (λi s₂ h₂=> ?_) λ_ _ x=>x) λ_ _ x=>x);obtain⟨hT,h₂⟩:=h₂;unfold subscriptTail;refine wpAny_bind ?_;rw[getitemInPython_of_ne hT.not_modules];refine wpAny_bind (wpAny_specialOf hT hl ?_);have fin:wpAny (model prog w) A (subscripted slice kb o i) (λr s₃=>wpAny (model prog w) A (letTemporaryGo value o r>>=λ_=>pure r) Q E s₃) E s₂:=by
  rw[hs o i];exact wpAny_operating (wpAny_mono h₂ (λr s₃ h₃=>wpAny_bind (wpAny_letTemporaryGo (wpAny_pure h₃))) λ_ _ x=>x)
 first
  |exact wpAny_pure (wpAny_bind fin)
  |exact wpAny_bind (wpAny_pure (wpAny_bind fin))
  |exact wpAny_bind fin
def zd7(I:Inv X pins σ H s)(g:zam H a y o):s.TypeIs (.ref a) "dict":=by
 rcases g with⟨kvs,k,e,_,_⟩|⟨kvs,k,b,e,_,_,_⟩
 .obtain⟨_,_,vs,_,dd⟩:=zch I.hok e;exact dd.typeIs
 obtain⟨_,_,xs,_,dd⟩:=zd6 I.hok e;exact dd.typeIs
def zm6(td ty:TE):TE:=λσ H Q=>td σ H λx H1=>ty σ H1 λy H2=>∃a v,x= .ref a/\zam H2 a y (dE v)/\Q v H2
def zm7(td ty tv:TE):TS:=λD σ H=>tv σ H λv H1=>td σ H1 λx H2=>ty σ H2 λy H3=>∃a H4,x= .ref a/\ziE H3 a y v H4/\D.nx σ H4
section
def zlx(hu:X.A.units+1<cLine)(ho:PE X o td)(hi:PE X i ty)(hs:zpq i):PE X (.Subscript o i pos) (zm6 td ty):=by
 intro pins s σ H Q I h;refine zlw PySem.F.slot_dict_getitem.lookup hs (thn (ho pins s σ H _ I h) ?_);rintro u s1 ⟨x,H1,I1,rx,q1⟩;refine thn (hi pins s1 σ H1 _ I1 q1) ?_;rintro iv s2 ⟨y,H2,I2,ry,a,v,ex,g,q2⟩;subst ex;obtain rfl:u=Value.ref a:=rx;exact⟨zd7 I2 g,zhs hu I2 g ry λw' s3 I3 rw'=>⟨v,H2,I3,rw',q2⟩⟩
def zc2(hu:X.A.units+1<cLine)(ho:PE X o td)(hi:PE X i ty)(hv:PE X value tv)(hs:swapsWith value (dE (.Subscript o i pos')) pos.line X.env=pure kb):
  PS X (.Assign [.Subscript o i pos'] value pos) (zm7 td ty tv):=by
 intro pins s σ H D I h;refine wpAny_Assign_Subscript (thn (hv pins s σ H _ I h) ?_) hs;rintro r s1 ⟨v,H1,I1,rv,q1⟩;refine thn (ho pins s1 σ H1 _ I1 q1) ?_;rintro u s2 ⟨x,H2,I2,rx,q2⟩;refine thn (hi pins s2 σ H2 _ I2 q2) ?_;rintro iv s3 ⟨y,H3,I3,ry,a,H4,ex,g,q3⟩;subst ex;obtain rfl:u=Value.ref a:=rx;exact zht hu I3 g ry rv λs4 I4=>⟨σ,H4,I4,q3⟩
end
def ziG{P:Program}(h:Heap)(hb:sysModules<h.objs.size):yL P w H (h.push {cls:= .type "dict",data:= .dict #[]}) h.objs.size (.dK []):=
 ⟨Cj _,beq_eq_false_iff_ne.mpr (BH (B3 hb)),[],.nil,Heap.DictOf.new h⟩
def ziH:TE:=λ_ H Q=>∀p,H p=fC->Q (.ref p) (upd H p (.dK []))
section
def zd8:PE X (.Dict [] [] pos) ziH:=λpins s σ H Q I h=>
 wpAny_Dict_empty ⟨.ref s.heap.objs.size,_,I.laid (a:=s.heap.objs.size) (o:= .dK []) (t':=s.toks) (λ_ _ q=>Heap.get?_push_of_some _ q) (AF _) (ziG s.heap I.big),rfl,h _ (I.hok.fresh (AF _))⟩
end
noncomputable abbrev VV:mZ (V×V)->mZ (pW×pW)->Prop:=Paired λp q=>zI p.1 q.1/\zI p.2 q.2
structure M1(X:Cx)(o:Expr)(m:Str)(apos:Pos)(e:Expr)(bw:Pos):Prop where
 base:attributeBase o m X.env (eval o X.env)=eval o X.env
 few:((backTo bw (starEach [e] X.env)).all (λx=> !x.1)&&(backToKw bw (keywordEach [] X.env)).all (λx=>x.1.isSome)
  &&decide (([e]:mZ Expr).length+([]:mZ Keyword).length+(if ([]:mZ Keyword).isEmpty then 0 else 1)<30))=fJ
 line:(apos.endLine==bw.line)=fJ
 trees:backTo bw (starEach [e] X.env)=[(kb,eval e X.env)]
structure M2(X:Cx)(o:Expr)(m:Str)(apos:Pos)(e f:Expr)(bw:Pos):Prop where
 base:attributeBase o m X.env (eval o X.env)=eval o X.env
 few:((backTo bw (starEach [e,f] X.env)).all (λx=> !x.1)&&(backToKw bw (keywordEach [] X.env)).all (λx=>x.1.isSome)
  &&decide (([e,f]:mZ Expr).length+([]:mZ Keyword).length+(if ([]:mZ Keyword).isEmpty then 0 else 1)<30))=fJ
 line:(apos.endLine==bw.line)=fJ
 trees:backTo bw (starEach [e,f] X.env)=[(kb,eval e X.env),(kb,eval f X.env)]
def IsD(H:Hp)(a:qm):Prop:=(∃kvs,Rd H a (.dK kvs))\/∃kvs,Rd H a (.dT kvs)
def zfl(I:Inv X pins σ H s)(d:IsD H a):
  s.TypeIs (.ref a) "dict"/\(∀b,Value.ref a= .ref b->∃ob,s.heap.get? b=dE ob/\ob.dict=fC)/\(a==sysModules)=kb:=by
 rcases d with⟨kvs,e⟩|⟨kvs,e⟩
 .obtain⟨_,hd,vs,_,dd⟩:=zch I.hok e;refine⟨dd.typeIs,λb q=> ?_,hd⟩;cases q;obtain⟨ob,_,_,h1,h2,_⟩:=dd;exact⟨ob,h1,h2.2.1⟩
 obtain⟨_,hd,xs,_,dd⟩:=zd6 I.hok e;refine⟨dd.typeIs,λb q=> ?_,hd⟩;cases q;obtain⟨ob,_,_,h1,h2,_⟩:=dd;exact⟨ob,h1,h2.2.1⟩
section
def znU(hu:A.units+1<cLine)(I:Inv X pins σ H s)(g:zam H a y o)(ry:zI y u)(rd:zI d r)(h:∀w' s',Inv X pins σ H s'->zI (o.getD d) w'->Q w' s'):
  wpAny (model X.prog X.w) A (call (.builtin "dict.get") [.ref a,u,r]) Q E s:=by
 rcases g with⟨kvs,k,e,ey,l⟩|⟨kvs,k,b,e,ey,eb,l⟩
 .subst ey;obtain⟨z,hd,vs,rel,dd⟩:=zch I.hok e;refine call_meetsIn Er dd.typeIs FR (Fx _ _ _) (meets_dict_get_default (yu X.prog X.w) a (zcf ry) hd r) ⟨_,dd.mapOf,h _ _ (I.tok _) ?_⟩;rw[l];exact(rel.val k).getD rd
 subst ey;cases (show u=Value.ref b from ry);obtain⟨z,hd,xs,rel,dd⟩:=zd6 I.hok e;refine call_meetsIn Er dd.typeIs FR (Fx _ _ _) (meetsH_dict_get_default (tupleKind (yu X.prog X.w)) a b hd r) ⟨tupleKind_room_in1 hu,k,xs,zc1 I.hok eb,dd,h _ _ (I.tok _) ?_⟩;rw[l];exact(rel.val k).getD rd
end
def ziI(td ty tx:TE):TE:=λσ H Q=>td σ H λx H1=>∃a,x= .ref a/\IsD H1 a/\ty σ H1 λy H2=>tx σ H2 λz H3=>∃o,zam H3 a y o/\Q (o.getD z) H3
def ziJ(td ty:TE):TE:=λσ H Q=>td σ H λx H1=>∃a,x= .ref a/\IsD H1 a/\ty σ H1 λy H2=>∃kvs k v,H2 a=dE (.dK kvs)/\y=kV k/\ZM kvs k=dE v/\Q v (upd H2 a (.dK (TY kvs k)))
def ziK(td ty tx:TE):TE:=λσ H Q=>td σ H λx H1=>∃a,x= .ref a/\IsD H1 a/\ty σ H1 λy H2=>tx σ H2 λz H3=>∃kvs k,H3 a=dE (.dK kvs)/\y=kV k/\
 (∀v,ZM kvs k=dE v->Q v (upd H3 a (.dK (TY kvs k))))/\(ZM kvs k=fC->Q z H3)
section
def zd9(hu:X.A.units+1<cLine)(ho:PE X o td)(he:PE X e ty)(hf:PE X f tx)(m:M2 X o "get" apos e f bw):PE X (.Call (.Attribute o "get" apos) [e,f] [] bw) (ziI td ty tx):=by
 intro pins s σ H Q I h;refine wpAny_Call_method m.base m.few m.line D0 Er PySem.F.type_dict_get (thn (ho pins s σ H _ I h) ?_);rintro u s1 ⟨x,H1,I1,rx,a,ex,d,q1⟩;subst ex;obtain rfl:u=Value.ref a:=rx;obtain⟨t1,t2,_⟩:=zfl I1 d;refine⟨t1,t2,?_⟩;rw[m.trees]
 refine Calls.callWith_builtin rfl (Calls.evalArgs_plain (Calls.spliced_cons (thn (he pins s1 σ H1 _ I1 q1) λiv s2 ⟨y,H2,I2,ry,q2⟩=>
  Calls.spliced_cons (thn (hf pins s2 σ H2 _ I2 q2) λfv s3 ⟨z,H3,I3,rz,ov,g,q3⟩=>Calls.spliced_nil ?_))))
 exact znU hu I3 g ry rz λw' s4 I4 rw'=>⟨_,H3,I4,rw',q3⟩
def ziL(ho:PE X o td)(he:PE X e ty)(m:M1 X o "pop" apos e bw):PE X (.Call (.Attribute o "pop" apos) [e] [] bw) (ziJ td ty):=by
 intro pins s σ H Q I h;refine wpAny_Call_method m.base m.few m.line D0 Dv G4 (thn (ho pins s σ H _ I h) ?_);rintro u s1 ⟨x,H1,I1,rx,a,ex,d,q1⟩;subst ex;obtain rfl:u=Value.ref a:=rx;obtain⟨t1,t2,_⟩:=zfl I1 d;refine⟨t1,t2,?_⟩;rw[m.trees];refine Calls.callWith_builtin rfl (Calls.evalArgs_plain (Calls.spliced_cons (thn (he pins s1 σ H1 _ I1 q1) ?_)));rintro iv s2 ⟨y,H2,I2,ry,kvs,k,v,ea,ey,l,q2⟩;refine Calls.spliced_nil ?_;subst ey;exact zm5 I2 ea ry l (.inl rfl) λw' s3 I3 rw'=>⟨v,_,I3,rw',q2⟩
def ziM(ho:PE X o td)(he:PE X e ty)(hf:PE X f tx)(m:M2 X o "pop" apos e f bw):PE X (.Call (.Attribute o "pop" apos) [e,f] [] bw) (ziK td ty tx):=by
 intro pins s σ H Q I h;refine wpAny_Call_method m.base m.few m.line D0 Dv G4 (thn (ho pins s σ H _ I h) ?_);rintro u s1 ⟨x,H1,I1,rx,a,ex,d,q1⟩;subst ex;obtain rfl:u=Value.ref a:=rx;obtain⟨t1,t2,_⟩:=zfl I1 d;refine⟨t1,t2,?_⟩;rw[m.trees]
 refine Calls.callWith_builtin rfl (Calls.evalArgs_plain (Calls.spliced_cons (thn (he pins s1 σ H1 _ I1 q1) λiv s2 ⟨y,H2,I2,ry,q2⟩=>
  Calls.spliced_cons (thn (hf pins s2 σ H2 _ I2 q2) λfv s3 ⟨z,H3,I3,rz,kvs,k,ea,ey,q3,q4⟩=>Calls.spliced_nil ?_))))
 subst ey;cases l:ZM kvs k with
 |some v=>exact zm5 I3 ea ry l (.inr ⟨fv,rfl⟩) λw' s4 I4 rw'=>⟨v,_,I4,rw',q3 v l⟩
 |none=>exact znT I3 ea ry l λs4 I4=>⟨z,H3,I4,rz,q4 l⟩
end
section
variable{a:qm}{kvs:mZ (Key×V)}
end
section
variable{a:qm}{y:V}{u:pW}
end
end L2
namespace Att
open PySem.W PySem.Calls
def zan{P:Params}:∀(ns:mZ Int) (vs:mZ pW),WellAll P h vs (ns.map WData.int)->IntsAre vs ns:=by
 intro ns
 induction ns with
 |nil=>
  intro vs w;rw[GD] at w;cases w;exact .nil
 |cons n ns ih=>
  intro vs w;rw[AZ] at w;cases w with
  |cons a b=>
   cases a;exact .cons _ _ (ih _ b)
def zhu{l:OpenLaw}(hn:l.most=dE n){P:Params}
  (i5:l.row.toRowW.claim.pre args=fJ) (nX:WellAll P h vals args):
  ∃a vs ns,vals=[Value.ref a]/\args=[WData.list (ns.map WData.int)]/\h.get? a=dE {cls:= .type "list",data:= .seq vs.toArray}/\IntsAre vs ns/\ns.length<=n:=by
 have lb:WShape.hasAll [] args [.list .int]=fJ:=(pre_splitW i5).1;have hc:l.pre.holds [] {args:=args}=fJ:=(pre_splitW i5).2;obtain⟨d,r,rfl,h1,h2⟩:=hasAllW_cons lb;obtain rfl:=hasAllW_nil h2;obtain⟨xs,rfl,h3⟩:=hasW_list h1;obtain⟨ns,rfl⟩:=items_int h3;have hlen:ns.length<=n:=by
  unfold OpenLaw.pre at hc;have h4:(WTm.not (.lt (.lit (.int (n:Int))) (.len (.arg 0)))).holds [] {args:=[.list (ns.map .int)]}=fJ:=by
   have h4:=(holds_andW hc).1;rw[hn] at h4;exact h4
  have h5:=condW_of h4 (w_not (w_lt w_lit (w_len_list (w_arg rfl))));rw[Aw] at h5;refine Hk λq=> ?_;have q':(n:Int)<((ns.length:Nat):Int):=by omega
  first
   |(rw[decide_eq_true q'] at h5;exact absurd h5 ∅)
   |(simp at h5;omega)
 cases nX with
 |cons w1 w2=>
  cases w2;cases w1 with
  |list ho cY=>exact⟨_,_,ns,rfl,rfl,ho,zan ns _ cY,hlen⟩
def zhv(l:OpenLaw)(args:mZ WData):l.row.toRowW.claim.post args (.bool fJ) args=fJ:=
 postW_of (r:=l.row.toRowW) (X:=(fJ==fJ))
  (show WShape.has [] (.bool fJ) .bool=fJ by first|rfl|decide|simp[WShape.has,WShape.arms,WShape.armsAll])
  (show(WTm.eq .res (.lit (.bool fJ))).value [] {args:=args,res:=dE (.bool fJ),after:=args}=dE (.bool (fJ==fJ)) from w_eq_bool (w_res rfl) w_lit) rfl
def zea{l:OpenLaw}{XP:(Str->pU pW)->Heap->Prop}{YP:World->Heap->Prop}
  (hn:l.most=dE n) (lM:d.params.defaults=[])
  (call:∀(w:World) (s₀ s₁:pX) (mg mb:Str->pU pW) (fa:qm) (o:Obj) (pm cd doc:pW) (a:qm) (vs:mZ pW) (ns:mZ Int),
   Ground q loose [] XP w s₀ mg mb s₁.heap->YP w s₁.heap->
   s₁.heap.get? fa=dE o->o.data= .func (docDef d.name d.params d.body d.scope pm cd doc)->s₁.heap.CodeRec cd d.name->mg d.name=dE (.ref fa)->
   s₁.heap.get? a=dE {cls:= .type "list",data:= .seq vs.toArray}->IntsAre vs ns->ns.length<=n->s₁.gens= #[]->
   codeAny (model l.prog w) callerA (.call (.ref fa) ⟨[.ref a],[]⟩) (λr s'=>r= .ok (.ret (.bool fJ))/\OldK s₁.heap s'.heap/\s'.os=s₁.os/\AllBare s'.gens) s₁):
  WalkO q loose XP YP l.row.toRowW d [] (λf vs=>Hu f vs):=by
 intro w s₀ s₁ mg mb G Y fa o pm cd doc dV kV ho hd df hD jK hg args vals as i5 u5 qW nX A5;obtain rfl:dV= .none:=Dflts.none hD lM;obtain rfl:kV= .none:=Dflts.noKw hD;obtain⟨a,vs,ns,rfl,rfl,jF,hints,hlen⟩:=zhu hn i5 nX;refine enter_call (codeAny_mono (call w s₀ s₁ mg mb fa o pm cd doc a vs ns G Y ho (fd_plain hd) df jK jF hints hlen hg) λr s' hq=> ?_);obtain⟨rfl,h2,h3,h4⟩:=hq;exact⟨.inl ⟨.bool fJ,.bool fJ,[],rfl,λ_=>rfl,.bool fJ,zhv l _,λ_=>⟨F7,λ_ hm=>(nomatch hm)⟩⟩,h2,h3,h4⟩
section
variable{w:World}{K:Frag}
end
end Att
namespace L2
theorem zcj:∀{vs:mZ pW} {ns:mZ Int},IntsAre vs ns->zR (ns.map V.int) vs
 |_,_,.nil=> .nil
 |_,_,.cons n t h=> .cons ⟨t,rfl⟩ (zcj h)
noncomputable abbrev KOf{K:Ar}{h:Heap}(_:K.In h):Ar:=K
noncomputable def zgu(s:Stmt)(j:Nat):Stmt:=match s with
 | .ClassDef _ _ _ body _ _ _ _ _ _ _=>body.getD j (.Pass ⟨0,0,0,0⟩)
 |_=> .Pass ⟨0,0,0,0⟩
noncomputable def Xm(s:Stmt):Arguments:=match s with
 | .FunctionDef _ a _ _ _ _ _ _ _ _=>a
 |_=>{posonlyargs:=[],args:=[],vararg:=fC,kwonlyargs:=[],kw_defaults:=[],kwarg:=fC,defaults:=[]}
noncomputable def vC(s:Stmt):mZ Stmt:=match s with
 | .FunctionDef _ _ b _ _ _ _ _ _ _=>b
 |_=>[]
noncomputable def zh(s:Stmt):Scope:=match s with
 | .FunctionDef _ _ _ _ _ _ sc _ _ _=>sc
 |_=>{kind:= .function,names:=[],isGenerator:=kb,isCoroutine:=kb}
noncomputable abbrev CX0:CXT:=λ_ _ _ _ _ _=>False
noncomputable abbrev E0:XK:=λ_ _ _=>False
structure Fun(K:Ar)(x qual:Str)(st:Stmt)(f:qm)(fd:FuncData):Prop where
 ex:∃(oc:pW) (od:pU qm) (kV doc pm:pW) (an:pU qm) (bR ct:pW) (fN:Array (pU pW)),
  fd=D4 x qual (Xm st) (vC st) (zh st) .none kV doc pm an bR ct/\K.lookup f=dE ⟨oc,od,.func fd,fN⟩/\DW K bR qual=fJ
 kp:CI K (.ref f)=fJ
section
variable{P:Program}{K:Ar}{mg:Str->pU pW}
def Fun.binds{x qual:Str}{st:Stmt}{f:qm}{fd:FuncData}{ps:mZ Str}(F:Fun K x qual st f fd)
  (h:∀(kV doc pm:pW) (an:pU qm) (bR ct:pW) (us:mZ pW),us.length=ps.length->bindArgs (D4 x qual (Xm st) (vC st) (zh st) .none kV doc pm an bR ct) ⟨us,[]⟩=pure (ps.zip us)):Ul K fd ps []:=by
 obtain⟨oc,od,kV,doc,pm,an,bR,ct,fN,rfl,lk,df⟩:=F.ex;exact .all (h kV doc pm an bR ct)
def ziN{x qual:Str}{st:Stmt}{f:qm}{oc:pW}{od an:pU qm}{fN:Array (pU pW)}{kV doc pm bR ct:pW}(l:K.lookup f=dE ⟨oc,od,.func (D4 x qual (Xm st) (vC st) (zh st) .none kV doc pm an bR ct),fN⟩)
  (c:DW K bR qual=fJ) (k:CI K (.ref f)=fJ):Fun K x qual st f (D4 x qual (Xm st) (vC st) (zh st) .none kV doc pm an bR ct):=⟨⟨oc,od,kV,doc,pm,an,bR,ct,fN,rfl,l,c⟩,k⟩
end
def zck(hr:xO k A):A.units+1<cLine:=B9 (Nat.add_le_add_left (by decide:1<=64) _) hr.units
def pv(i:Nat){x:Str}{pos:Pos}(hN:X.N[i]? =dE x:=by rfl)(hv:Vis X.env.scope x:=by first|exact AH rfl|exact Dd (AH rfl)|exact Dd (Dd rfl))(hd:(x==("__debug__":Str))=kb:=by decide)
  (df:(x==("__classdict__":Str))=kb:=by decide):PE X (.Name x pos) (znx i):=zny hN hv hd df
def zhw:YK X (.builtin "len") (λxs H Q=>∃a kvs,xs=[V.ref a]/\H a=dE (.dK kvs)/\Q (.int kvs.length) H):=by
 intro pins s σ H xs us Q I r h;obtain⟨a,kvs,rfl,ha,q⟩:=h;obtain⟨u,rfl,ru⟩:=Wn r;cases ru;exact zpp I (.inl ha) λt s' I'=>⟨.int kvs.length,H,I',⟨t,rfl⟩,q⟩
def Zz(H H':Hp):Prop:=∀b o,H b=dE o->H' b=dE o
def Zz.refl(H:Hp):Zz H H:=λ_ _ h=>h
section
variable{κ:Type}[DecidableEq κ]
end
def Wq{R:Result->pX->Prop}(I:Nat->pX->Prop)
  (turn:∀n s,I n s->wpAny (model prog w) A (pyNext it) (λr s₁=>match r with
   |none=>R (.ok .next) s₁
   |some v=>wpAny (model prog w) A (letOwnedTupleGo tg it v) (λ_ s₁'=>wpAny (model prog w) A (assign tg env v) (λ_ s₂=>
     wpAny (model prog w) A (forIn ifs fJ λc r=>if r=fJ then do let ok <-isTrue c env (eval c env);pure (Dn ok) else pure (Dn r)) (λok s₃=>
      if ok=fJ then wpAny (model prog w) A (eval elt env) (λx s₄=>
       wpAny (model prog w) A (call (.builtin "list.append") [acc,x]) (λ_ s₅=>∃m,m<n/\I m s₅) (λ_ _=>False) s₄) (λ_ _=>False) s₃
      else ∃m,m<n/\I m s₃) (λ_ _=>False) s₂)
     (λ_ _=>False) s₁') (λ_ _=>False) s₁) (λ_ _=>False) s)
  (n:Nat) (h:I n s):codeAny (model prog w) A (.compLoop (.ListComp elt [⟨tg,iter,ifs,0⟩] scope pos) 0 it acc env) R s:=by
 refine codeAny_loop rfl I (λn s hI=> ?_) n h;show wpAny _ A ((compTurn (.ListComp elt [⟨tg,iter,ifs,0⟩] scope pos) 0 it acc env).onRaise (λx=>do noteFrame x env;theTreesLotGoes x)) _ _ s;refine wpAny_noted ?_;rw[compTurn_list];refine wpAny_bind (wpAny_standAt (wpAny_bind (wpAny_mono (turn n s hI) (λr s₁ h₁=> ?_) λ_ _ h'=>h'.elim)));cases r with
 |none=>exact wpAny_pure h₁
 |some v=>
  refine wpAny_bind (wpAny_mono h₁ (λ_ s₁' h₁'=> ?_) λ_ _ h'=>h'.elim);refine wpAny_bind (wpAny_mono h₁' (λ_ s₂ h₂=>wpAny_bind (wpAny_mono h₂ (λok s₃ h₃=> ?_) λ_ _ h'=>h'.elim)) λ_ _ h'=>h'.elim);cases ok with
  |false=>exact wpAny_pure ⟨rfl,h₃⟩
  |true=>
   exact wpAny_bind (wpAny_bind (wpAny_mono h₃ (λx s₄ h₄=>wpAny_bind (wpAny_mono h₄ (λ_ s₅ h₅=>wpAny_pure (wpAny_pure ⟨rfl,h₅⟩)) λ_ _ h'=>h'.elim)) λ_ _ h'=>h'.elim))
noncomputable def zao(env:Env):mZ (Str×NameKind)->mZ (Str×qm)->mZ (Str×qm)
 |[],cs=>cs
 |(n,k)::r,cs=>zao env r (if k== .free then (match env.cells.lookup n with|some c=>(n,c)::cs|none=>cs) else cs)
noncomputable def Xn(sc:Scope)(env:Env):mZ (Str×qm):=zao env sc.names []
theorem zaW:∀{ns:mZ (Str×NameKind)} {cs:mZ (Str×qm)},(∀p∈cs,env.cells.lookup p.1=dE p.2)->∀p∈zao env ns cs,env.cells.lookup p.1=dE p.2
 |[],_,h=>h
 |(n,k)::r,cs,h=>by
  unfold zao;refine zaW ?_;by_cases hk:(k== .free)=fJ
  .rw[if_pos hk];cases e:env.cells.lookup n with
   |none=>exact h
   |some c=>
    intro p hp;rcases AW.mp hp with rfl|hp;exact e;exact h p hp
  rw[if_neg hk];exact h
theorem zeb:∀{ns:mZ (Str×NameKind)} {cs:mZ (Str×qm)} {p:Str×qm},p∈cs->p∈zao env ns cs
 |[],_,_,h=>h
 |(n,k)::r,cs,p,h=>by
  unfold zao;refine zeb ?_;by_cases hk:(k== .free)=fJ
  .rw[if_pos hk];cases env.cells.lookup n with
   |none=>exact h
   |some c=>exact B8 _ h
  rw[if_neg hk];exact h
theorem zec(e:env.cells.lookup x=dE c):∀{ns:mZ (Str×NameKind)} {cs:mZ (Str×qm)},(x,NameKind.free)∈ns->(x,c)∈zao env ns cs
 |[],_,h=>by cases h
 |(n,k)::r,cs,h=>by
  unfold zao;rcases AW.mp h with h|h;injection h with h1 h2;subst h1 h2;refine zeb ?_;rw[if_pos (by rfl),e];exact Bu;exact zec e h
theorem wQ:∀{l:mZ (Str×qm)} {x:Str} {c:qm},(x,c)∈l->∃d,l.lookup x=dE d
 |[],_,_,h=>by cases h
 |(n,d)::r,x,c,h=>by
  rw[Bx];cases e:x==n with
  |true=>exact⟨d,rfl⟩
  |false=>
   rcases AW.mp h with h|h;injection h with h1 h2;subst h1;simp at e;exact wQ h
def YQ(e:(Xn sc env).lookup x=dE c):env.cells.lookup x=dE c:=
 zaW (cs:=[]) (λp hp=>by cases hp) (x,c) (Bh e)
def zaX(h:(x,NameKind.free)∈sc.names)(e:env.cells.lookup x=dE c):(Xn sc env).lookup x=dE c:=by
 obtain⟨d,hd⟩:=wQ (zec (cs:=[]) e h);have:=YQ (sc:=sc) hd;rw[e] at this;cases this;exact hd
def Vt(h:∀y∈sc.names,y.2= .free->∃c,env.cells.lookup y.1=dE c):closureFor sc env=pure (Xn sc env):=by
 unfold Xn closureFor;generalize sc.names=ns at h
 suffices hh:∀cs:mZ (Str×qm),(forIn ns cs (λ(x:Str×NameKind) (r:mZ (Str×qm))=>
    (match x with
     |(name,kind)=>if (kind==NameKind.free)=fJ then (cellOf env name>>=λc=>pure (Dn ((name,c)::r))) else pure (Dn r):Sem (ForInStep (mZ (Str×qm)))))>>=λr=>pure r:Sem (mZ (Str×qm)))=pure (zao env ns cs) from hh []
 induction ns with
 |nil=>intro cs;rfl
 |cons p r ih=>
  intro cs;obtain⟨n,k⟩:=p;rw[FG];unfold zao;have ih':=ih λy hy=>h y (B8 _ hy);by_cases hk:(k== .free)=fJ
  .obtain⟨c,hc⟩:=h (n,k) Bu (by simpa using hk);have hc:env.cells.lookup n=dE c:=hc;have h1:cellOf env n=pure c:=by unfold cellOf;rw[hc]
   simp only[hk,if_true,h1,hc,pure_bind];exact ih' _
  simp only[hk,if_false,pure_bind];exact ih' _
noncomputable def ziO(X:Cx)(N':mZ Str)(sc:Scope)(C:qm)(s₀:pX)(H₀:Hp)(fp:mZ qm):Cx where
 prog:=X.prog
 w:=X.w
 K:=X.K
 mg:=X.mg
 base:=X.base
 A:=X.A
 N:=N'
 s₀:=s₀
 H₀:=H₀
 env:=compEnvC sc (Xn sc X.env) C X.env
 outer:=X.stack
 stack:=X.stack
 ex:=fp
 fn:=λ_=>kb
 zn:=λ_=>kb
 calm:=X.calm
 pn:=[]
 xe:=λ_ _=>False
theorem wJ{env:Env}:∀{names:mZ (Str×NameKind)} {x:Str},names.lookup x=dE .free->
  (names.map λ(n,k)=>if (k==NameKind.free&&env.scope.kind== .function&&env.kindOf n==dE .cell) then (n,NameKind.cell) else (n,k)).lookup x=dE .cell\/
  (names.map λ(n,k)=>if (k==NameKind.free&&env.scope.kind== .function&&env.kindOf n==dE .cell) then (n,NameKind.cell) else (n,k)).lookup x=dE .free
 |[],_,h=>by simp at h
 |(n,k)::r,x,h=>by
  have ih:= @wJ env r x;show CN x ((if (k==NameKind.free&&env.scope.kind== .function&&env.kindOf n==dE .cell)=fJ then (n,NameKind.cell) else (n,k))::_)=_\/CN x ((if (k==NameKind.free&&env.scope.kind== .function&&env.kindOf n==dE .cell)=fJ then (n,NameKind.cell) else (n,k))::_)=_;cases hx:x==n with
  |true=>
   simp only[Bx,hx] at h;cases h;by_cases hc:(NameKind.free==NameKind.free&&env.scope.kind== .function&&env.kindOf n==dE .cell)=fJ;rw[if_pos hc];left;simp[Bx,hx];rw[if_neg hc];right;simp[Bx,hx]
  |false=>
   simp only[Bx,hx] at h;by_cases hc:(k==NameKind.free&&env.scope.kind== .function&&env.kindOf n==dE .cell)=fJ;rw[if_pos hc];simp only[Bx,hx];exact ih h;rw[if_neg hc];simp only[Bx,hx];exact ih h
def vD(X:Cx)(sc:Scope):mZ (pU Nat)->mZ Str->Prop
 |[],[]=>True
 |none::r,_::n=>vD X sc r n
 |some i::r,x::n=>(X.N[i]? =dE x/\sc.names.lookup x=dE .free)/\vD X sc r n
 |_,_=>False
noncomputable def Zr(cap:mZ (pU Nat))(σ:St):St:=cap.map λo=>o.bind λi=>(σ[i]?).join
theorem vD.at:∀{cap:mZ (pU Nat)} {N':mZ Str},vD X sc cap N'->∀(j i:Nat) (x:Str),cap[j]? =dE (dE i)->N'[j]? =dE x->X.N[i]? =dE x/\sc.names.lookup x=dE .free
 |[],[],_,j,i,x,h,_=>by simp at h
 |none::r,y::n,c,0,i,x,h,_=>by simp at h
 |none::r,y::n,c,j+1,i,x,h,h2=>vD.at (cap:=r) c j i x (by simpa using h) (by simpa using h2)
 |some k::r,y::n,c,0,i,x,h,h2=>by
  simp at h h2;subst h h2;exact c.1
 |some k::r,y::n,c,j+1,i,x,h,h2=>vD.at (cap:=r) c.2 j i x (by simpa using h) (by simpa using h2)
theorem vD.len:∀{cap:mZ (pU Nat)} {N':mZ Str},vD X sc cap N'->cap.length=N'.length
 |[],[],_=>rfl
 |none::r,y::n,c=>by simpa using vD.len (cap:=r) (N':=n) c
 |some k::r,y::n,c=>by simpa using vD.len (cap:=r) (N':=n) c.2
def zcl{cap:mZ (pU Nat)}{j:Nat}{v:V}(h:(Zr cap σ)[j]? =dE (dE v)):∃i,cap[j]? =dE (dE i)/\σ[i]? =dE (dE v):=by
 unfold Zr at h;rw[Ax] at h;cases e:cap[j]? with
 |none=>rw[e] at h;cases h
 |some o=>
  rw[e] at h;cases o with
  |none=>simp at h
  |some i=>
   refine⟨i,rfl,?_⟩;simp only[Cr,AO,Bm] at h;cases q:σ[i]? with
   |none=>rw[q] at h;simp at h
   |some z=>rw[q] at h;simp at h;rw[h]
def PTs(X:Cx)(ifs:mZ Expr)(t:TT):Prop:=
 ∀(pins:mZ (qm×Obj)) (s:pX) (σ:St) (H:Hp) (Q:Bool->Hp->Prop),Inv X pins σ H s->t σ H Q->
  wpAny (model X.prog X.w) X.A (forIn ifs fJ λc r=>if r=fJ then do let ok <-isTrue c X.env (eval c X.env);pure (Dn ok) else pure (Dn r)) (TP X pins σ Q) X.xe s
def yo:PTs X [] (λ_ H Q=>Q fJ H):=λ_ _ _ H _ I h=>wpAny_tests_nil ⟨H,I,h⟩
def zc3(h:PT X c t):PTs X [c] t:=λpins s σ H Q I hw=>wpAny_tests_one (h pins s σ H Q I hw)
def ziP(cap:mZ (pU Nat))(g:TG)(tt:TT)(te:TE)(J:It)(σ:St)(acc:qm)(H0:Hp)(Q:Hp->Prop):Prop:=
 ∃W:Nat->Nat->mZ V->Hp->Prop,(∃m,W 0 m [] (upd H0 acc (.lst [])))/\∀i m ys H,W i m ys H->
  (J.stop i H/\Q H)\/(J.go i H/\∀x H',J.yld i H x H'->g x (Zr cap σ) H' λσ2 H2=>tt σ2 H2 λb H3=>
   if b=fJ then te σ2 H3 λv H4=>H4 acc=dE (.lst ys)/\ys.length<sizeLine/\∃m',m'<m/\W (i+1) m' (ys++[v]) (upd H4 acc (.lst (ys++[v])))
   else ∃m',m'<m/\W (i+1) m' ys H3)
def ziQ(cap:mZ (pU Nat))(wi:TI)(g:TG)(tt:TT)(te:TE):TE:=λσ H Q=>wi σ H λJ H1=>∀acc,H1 acc=fC->ziP cap g tt te J σ acc H1 λH2=>Q (.ref acc) H2
def zed(i:Nat)(cap:mZ (pU Nat))(wi:TI)(g:TG)(tt:TT)(te:TE):TS:=λD σ H=>wi σ H λJ H1=>∀acc,H1 acc=fC->ziP cap g tt te J σ acc H1 λH2=>D.nx (σ.set i (dE (.ref acc))) H2
structure zc4(X:Cx)(sc:Scope):Prop where
 cell:∀y∈sc.names,y.2≠ .cell
 kind:sc.kind= .function
 names:∀y∈sc.names,y.2= .local->sc.names.lookup y.1=dE .local
 free:∀y∈sc.names,y.2= .free->X.env.kindOf y.1=dE .cell\/X.env.kindOf y.1=dE .free
section
def Inv.closure(I:Inv X pins σ H s)(B:zc4 X sc):closureFor sc X.env=pure (Xn sc X.env):=
 Vt λy hy e=>I.ok.has y.1 (B.free y hy e)
def Kp(σ0 σ:St):Prop:=σ.length=σ0.length/\∀(j:Nat) v,σ0[j]? =dE (dE v)->σ[j]? =dE (dE v)
def zhx(cap:mZ (pU Nat))(g:TG):Prop:=∀σ0 σ x H Q,Kp (Zr cap σ0) σ->g x σ H Q->g x σ H λσ2 H2=>Q σ2 H2/\Kp (Zr cap σ0) σ2
def zgv(cap:mZ (pU Nat))(g:TGs):Prop:=∀σ0 σ x H Q,Kp (Zr cap σ0) σ->g x σ H Q->g x σ H λσ2 H2=>Q σ2 H2/\Kp (Zr cap σ0) σ2
def zA(h:cap[i]? =dE fC):zhx cap (zb6 i):=λσ0 σ x H Q k q=>by
 refine⟨q,by rw[Cq];exact k.1,λj v e=> ?_⟩;have:j≠i:=by
  rintro rfl;obtain⟨i',e1,_⟩:=zcl e;rw[h] at e1;cases e1
 rw[Ew (BH this)];exact k.2 j v e
def vm:zgv cap znE:=λσ0 σ x H Q k ⟨e,q⟩=>⟨e,q,k⟩
def yk(h1:zhx cap t)(h2:zgv cap u)(mono:∀v σ H (Q Q':St->Hp->Prop),(∀σ H,Q σ H->Q' σ H)->t v σ H Q->t v σ H Q'):zgv cap (zil t u):=λσ0 σ x H Q k ⟨v,r,e,q⟩=>
 ⟨v,r,e,mono v σ H _ _ (λσ' H' ⟨q',k'⟩=>h2 σ0 σ' r H' Q k' q') (h1 σ0 σ v H _ k q)⟩
def ym:∀v σ H (Q Q':St->Hp->Prop),(∀σ H,Q σ H->Q' σ H)->zb6 i v σ H Q->zb6 i v σ H Q':=λ_ _ _ _ _ f q=>f _ _ q
def Zs{K:Ar}(h:zgv cap t):zhx cap (zll K n t):=λσ0 σ x H Q k ⟨a,xs,e,hq,hl,q⟩=>⟨a,xs,e,hq,hl,h σ0 σ xs H Q k q⟩
end
def wK{α:Type}:Sem α->Prop
 | .pure _=>True
 | .raise _=>True
 | .unsupported _=>True
 | .finish _=>True
 | .rule _ k=>∀u,wK (k u)
 | .at _ k=>∀u,wK (k u)
 | .load _ _ k=>∀o,wK (k o)
 | .update _ _ f k=>(∀o,(f o).dict=o.dict/\(f o).cls=o.cls)/\∀u,wK (k u)
 | .alloc _ k=>∀a,wK (k a)
 | .loadIfAlive _ k=>∀o,wK (k o)
 | .point _ k=>∀u,wK (k u)
 | .stack k=>∀x,wK (k x)
 | .ask k=>∀x,wK (k x)
 |_=>False
def KD(h h':Heap):Prop:=∀(b:Nat) o,h.objs[b]? =dE o->∃o',h'.objs[b]? =dE o'/\o'.dict=o.dict/\o'.cls=o.cls
def KD.refl(h:Heap):KD h h:=λ_ o e=>⟨o,e,rfl,rfl⟩
def KD.trans(x:KD h h1)(y:KD h1 h2):KD h h2:=λb o e=>by
 obtain⟨o1,e1,d1,c1⟩:=x b o e;obtain⟨o2,e2,d2,c2⟩:=y b o1 e1;exact⟨o2,e2,d2.trans d1,c2.trans c1⟩
def KD.push(h:Heap)(o:Obj):KD h (h.push o):=λb o' e=>by
 refine⟨o',?_,rfl,rfl⟩;obtain⟨objs,l⟩:=h;show(objs.push o)[b]? =dE o';have e:objs[b]? =dE o':=e;rw[Array.getElem?_push];have hb:b<objs.size:=(Array.getElem?_eq_some_iff.mp e).1;rw[if_neg (B3 hb)];exact e
def KD.update(h:Heap)(a:qm){f:Obj->Obj}(hf:∀o,(f o).dict=o.dict/\(f o).cls=o.cls):KD h (h.update a f):=λb o e=>by
 obtain⟨objs,l⟩:=h;show ∃o',(objs.modify a f)[b]? =dE o'/\_;rw[Array.getElem?_modify];have e:objs[b]? =dE o:=e;by_cases gf:a=b;rw[if_pos gf,e];exact⟨f o,rfl,hf o⟩;rw[if_neg gf,e];exact⟨o,rfl,rfl,rfl⟩
def zee{h:Heap}(e:h.get? a=dE o):h.objs[a]? =dE o:=by
 unfold Heap.get? at e;split at e;cases e;exact e
def KD.at(k:KD h h')(e:h.get? a=dE o)(e':h'.get? a=dE o'):o'.dict=o.dict/\o'.cls=o.cls:=by
 obtain⟨o1,e1,d⟩:=k a o (zee e);rw[zee e'] at e1;cases e1;exact d
def zly{α:Type}{M:Model}{Γ:PySem.Ctx}{t:Sem α}:∀{Q:α->Pos->pX->Prop} {E:pW->Pos->pX->Prop} {p:Pos} {s:pX} {h₀:Heap},wK t->KD h₀ s.heap->Sem.wp M Γ t Q E p s->
  Sem.wp M Γ t (λa p' s'=>Q a p' s'/\KD h₀ s'.heap) (λe p' s'=>E e p' s'/\KD h₀ s'.heap) p s:=by
 induction t with
 |pure a=>exact λ_ k h=>⟨h,k⟩
 |raise e=>exact λ_ k h=>⟨h,k⟩
 |unsupported w=>exact λ_ _ h=>h.elim
 |finish e=>exact λ_ _ h=>h.elim
 |rule _ k ih=>exact λt z h=>ih () (t ()) z h
 | «at» _ k ih=>exact λt z h=>ih () (t ()) z h
 |load a _ k ih=>
  intro Q E p s h₀ t z h;obtain⟨o,e,h⟩:=h;exact⟨o,e,ih o (t o) z h⟩
 |update a _ f k ih=>
  intro Q E p s h₀ t z h;obtain⟨e,h⟩:=h;exact⟨e,ih () (t.2 ()) (z.trans (KD.update _ _ t.1)) h⟩
 |alloc o k ih=>exact λt z h=>ih _ (t _) (z.trans (KD.push _ _)) h
 |loadIfAlive a k ih=>exact λt z h=>ih _ (t _) z h
 |point _ k ih=>exact λt z h=>ih () (t ()) z h
 |stack k ih=>exact λt z h=>ih _ (t _) z h
 |ask k ih=>exact λt z h=>ih _ (t _) z h
 |register _ _ _=>exact λt=>t.elim
 |fresh _ _=>exact λt=>t.elim
 |choose _ _ _ _=>exact λt=>t.elim
 |os _ _ _ _=>exact λt=>t.elim
 |call _ _ _ _ _ _=>exact λt=>t.elim
 |handled _ _ _=>exact λt=>t.elim
 |newGen _ _ _=>exact λt=>t.elim
 |genState _ _ _=>exact λt=>t.elim
 |resume _ _ _ _ _=>exact λt=>t.elim
 |yield _ _ _ _ _=>exact λt=>t.elim
 |fork _ _ _=>exact λt=>t.elim
 |thread _ _=>exact λt=>t.elim
 |await _ _ _ _ _ _=>exact λt=>t.elim
def ziR{α:Type}{t:Sem α}{Q:α->pX->Prop}(T:wK t)(h:wpAny M A t Q E s):wpAny M A t (λa s'=>Q a s'/\KD s.heap s'.heap) (λe s'=>E e s'/\KD s.heap s'.heap) s:=
 λΓ p hΓ=>zly T (KD.refl _) (h Γ p hΓ)
def zhy{α β:Type}{f:α->Sem β}(hf:∀a,wK (f a)):∀{t:Sem α},wK t->wK (t.bind f):=by
 intro t
 induction t with
 |pure a=>exact λ_=>hf a
 |raise e=>exact λ_=>trivial
 |unsupported w=>exact λ_=>trivial
 |finish e=>exact λ_=>trivial
 |rule _ k ih=>exact λt u=>ih u (t u)
 | «at» _ k ih=>exact λt u=>ih u (t u)
 |load a _ k ih=>exact λt u=>ih u (t u)
 |update a _ f k ih=>exact λt=>⟨t.1,λu=>ih u (t.2 u)⟩
 |alloc o k ih=>exact λt u=>ih u (t u)
 |loadIfAlive a k ih=>exact λt u=>ih u (t u)
 |point _ k ih=>exact λt u=>ih u (t u)
 |stack k ih=>exact λt u=>ih u (t u)
 |ask k ih=>exact λt u=>ih u (t u)
 |register _ _ _=>exact λt=>t.elim
 |fresh _ _=>exact λt=>t.elim
 |choose _ _ _ _=>exact λt=>t.elim
 |os _ _ _ _=>exact λt=>t.elim
 |call _ _ _ _ _ _=>exact λt=>t.elim
 |handled _ _ _=>exact λt=>t.elim
 |newGen _ _ _=>exact λt=>t.elim
 |genState _ _ _=>exact λt=>t.elim
 |resume _ _ _ _ _=>exact λt=>t.elim
 |yield _ _ _ _ _=>exact λt=>t.elim
 |fork _ _ _=>exact λt=>t.elim
 |thread _ _=>exact λt=>t.elim
 |await _ _ _ _ _ _=>exact λt=>t.elim
def tb{α β:Type}{t:Sem α}{f:α->Sem β}(h:wK t)(hf:∀a,wK (f a)):wK (t>>=f):=zhy hf h
def zbL(v:pW):wK (fieldsOf v):=by
 unfold fieldsOf;split
 .refine tb (λo=>trivial) λo=> ?_;split<;>trivial
 trivial
def Xo(v:pW)(i:Nat):wK (field v i):=by
 unfold field;refine tb (zbL v) λa=> ?_;split<;>trivial
def zaY(g:Array pW->Array pW)(o:Obj):(Obj.mapFields g o).dict=o.dict/\(Obj.mapFields g o).cls=o.cls:=by
 obtain⟨c,d,dt,sl⟩:=o;cases dt<;>exact⟨rfl,rfl⟩
def Yu(v:pW)(i:Nat)(x:pW):wK (setField v i x):=by
 unfold setField;split;unfold updateField;refine tb (λo=>trivial) λo=> ?_;split;split;exact⟨λo=>zaY _ o,λ_=>trivial⟩;trivial;trivial;trivial
def zaZ(e:pW)(f:pU qm):wK (setFlight e f):=by
 unfold setFlight;refine tb (Xo _ _) λtb'=> ?_;split;exact Yu _ _ _;trivial
def za0(ty:String)(vs:mZ pW):wK (newFields ty vs):=by
 have h:wK (newObjAsIs (Value.type ty) (Data.fields vs.toArray)):=by
  unfold newObjAsIs;exact tb (λa=>trivial) λa=>trivial
 unfold newFields newObj;show wK (if vs.toArray.size>sizeLine+2 then (unsupported "record:memory">>=λ_=>newObjAsIs (Value.type ty) (Data.fields vs.toArray)) else newObjAsIs (Value.type ty) (Data.fields vs.toArray));split;trivial;exact h
def zef(env:Env)(outer:mZ Env):wK (behindIsImport env outer):=by
 unfold behindIsImport;split;trivial;split;trivial;exact tb (Xo _ _) λ_=>trivial
def zfm:wK underTheClaimsCaller:=tb (λ_=>trivial) λ_=>trivial
def zbM(env:Env)(i:Bool)(outer:mZ Env):wK (keptBack env i outer):=by
 cases outer with
 |nil=>
  unfold keptBack;by_cases h:(env.scope.isGenerator||env.scope.isCoroutine)=fJ;rw[if_pos h];trivial;rw[if_neg h];refine tb zfm λx=> ?_;trivial
 |cons c r=>
  unfold keptBack;trivial
theorem za1:∀l:mZ Env,wK (readyFrames l)
 |[]=>trivial
 |env::outer=>by
  unfold readyFrames;split;refine tb (λo=>trivial) λo=> ?_;split;trivial;exact tb (zef _ _) λi=>tb (zbM _ _ _) λb=>tb ⟨λo=>⟨rfl,rfl⟩,λ_=>trivial⟩ λ_=>za1 outer;trivial
def zc5(env:Env):wK (Gm env):=by
 unfold Gm;refine tb (λx=>trivial) λl=>tb ?_ λo=> ?_
 .generalize List.dropWhile _ l=l';unfold frameObject;cases l' with
  |nil=>trivial
  |cons a r=>exact tb (za1 _) λ_=>trivial
 split<;>trivial
def zap(f:qm)(b:Bool):wK (entryPlaceOf f b):=by
 unfold entryPlaceOf;refine tb (λx=>trivial) λl=> ?_;split<;>trivial
set_option tactic.hygienic true in
def za2(e:pW)(env:Env):wK (noteFrame e env):=by
 unfold noteFrame;split
 .rename_i f _;have last:∀head:pW,wK (do setField e 1 (<-EntryCells.newEntry head (<-Gm env) .none (rawInt f) .none (<-entryPlaceOf f (head != .none)))):=λhead=>
   tb (zc5 env) λa=>tb (zap _ _) λpl=>tb (za0 _ _) λb=>Yu _ _ _
  refine tb (Xo _ _) λhead=> ?_;split;refine tb (Xo _ _) λx=> ?_;split;trivial;exact tb (Yu _ _ _) λ_=>last head;exact last head
 trivial
def zc6(env:Env)(e:pW):wK (leaving env e):=tb (za2 e env) λ_=>zaZ _ _
def yL.there{P:Program}(x:yL P w H h a o):∃ob,h.get? a=dE ob:=by
 cases o with
 |lst xs=>obtain⟨_,_,_,_,e⟩:=x;exact⟨_,e⟩
 |tup xs=>obtain⟨_,_,_,ob,e,_⟩:=x;exact⟨_,e⟩
 |dK kvs=>obtain⟨_,_,_,_,o,_,_,e,_⟩:=x;exact⟨_,e⟩
 |dT kvs=>obtain⟨_,_,_,_,o,_,_,e,_⟩:=x;exact⟨_,e⟩
 |dN kvs=>obtain⟨_,_,_,_,o,_,_,e,_⟩:=x;exact⟨_,e⟩
 |set S n=>obtain⟨o,_,_,_,e,_⟩:=x;exact⟨_,e⟩
 |ins C dx fs=>obtain⟨_,_,_,e,_⟩:=x;exact⟨_,e⟩
 |own y=>obtain⟨_,e⟩:=x;exact⟨_,e⟩
 |xd fs=>obtain⟨_,⟨_,_,_,e,_⟩,_⟩:=x;exact⟨_,e⟩
 |rng lo hi=>obtain⟨_,_,_,e⟩:=x;exact⟨_,e⟩
 |frz ob u=>obtain⟨e,_⟩:=x;exact⟨_,e⟩
 |tbl ps=>exact⟨_,(show h.get? a=dE _ from x)⟩
 |met f y=>exact⟨_,(show h.get? a=dE _ from x)⟩
 |ext φ=>obtain⟨_,⟨_,e⟩,_⟩:=x;exact⟨_,e⟩
def Cov(outer:mZ Env)(H':Hp)(old h' B:Heap):Prop:=
 (∀b o,(∃o0,old.get? b=dE o0)->b∉frs outer->h'.get? b=dE o->B.get? b=dE o)/\∀b u o,H' b=dE u->h'.get? b=dE o->B.get? b=dE o
structure Fly(P:Program)(w:World)(outer:mZ Env)(H:Hp)(s:pX)(e:qm)(cls:pW)(H':Hp)(s':pX):Prop where
 os:s'.os=s.os
 bare:AllBare s'.gens
 un:Un (frs outer) [] H H' s.heap s'.heap
 hok:HOk P w H' s'.heap
 fly:∃B t,Heap.FlyingW B outer e cls (.ref t) s'.heap/\Cov outer H' s.heap s'.heap B
 new:s.heap.get? e=fC
 free:H' e=fC
 nd:∀o,s'.heap.get? e=dE o->o.dict=fC
noncomputable def CXE(P:Program)(w:World):CXT:=λouter H s E ev s'=>∃e cls H',ev= .ref e/\Fly P w outer H s e cls H' s'/\E cls fC H'
def Fly.moved{P:Program}(F:Fly P w outer H s e cls H' s')(fl:Heap.FlyingW B outer e cls a0 s'.heap)(cov:Cov outer H' s.heap s'.heap B)
  (st:B.StaysIn h2) (sm:s'.heap.UpToSlots h2):Un (frs outer) [] H H' s.heap h2/\HOk P w H' h2/\Cov outer H' s.heap h2 B:=by
 have nofs:∀b u,H' b=dE u->∃o,s'.heap.get? b=dE o/\B.get? b=dE o/\h2.get? b=dE o:=λb u q=>by
  obtain⟨o,e1⟩:=(F.hok b u q).there;have e2:=cov.2 b u o q e1;exact⟨o,e1,e2,st b o e2⟩
 have old:∀b o0,s.heap.get? b=dE o0->b∉frs outer->∃o,s'.heap.get? b=dE o/\B.get? b=dE o/\h2.get? b=dE o:=λb o0 q hb=>by
  obtain⟨o,e1⟩:=F.un.there b o0 q (by simp);have e2:=cov.1 b o ⟨o0,q⟩ hb e1;exact⟨o,e1,e2,st b o e2⟩
 have fr:∀b∈frs outer,∃o sl,s'.heap.get? b=dE o/\h2.get? b=dE {o with slots:=sl}:=λb hb=>by
  obtain⟨_,o,e1,d⟩:=fl.2.2.1.mem hb;obtain⟨sl,e2⟩:=sm b o e1 d;exact⟨o,sl,e1,e2⟩
 refine⟨⟨λb o q n hb _=> ?_,λb o q n hb _=> ?_,λb o q n hx=>F.un.free b o q n hx,λb o q _=> ?_,F.un.tups,F.un.frzs,F.un.tbls⟩,λa u q=> ?_,λb o q hb e1=> ?_,λb u o q e1=> ?_⟩;obtain⟨o1,e1,_,e3⟩:=old b o q hb;have e4:=F.un.keep b o q n hb (by simp);rw[e1] at e4;cases e4;exact e3;obtain⟨o1,q9,e1,e2⟩:=fr b hb;obtain⟨sl,e4⟩:=F.un.slot b o q n hb (by simp);rw[e1] at e4;cases e4;exact⟨q9,e2⟩;by_cases hb:b∈frs outer;obtain⟨o1,q9,e1,e2⟩:=fr b hb;exact⟨_,e2⟩;obtain⟨o1,_,_,e3⟩:=old b o q hb;exact⟨_,e3⟩
 .refine (F.hok a u q).stay (λb ob hb eb=> ?_) (λ_ z=>z) λ_ _ z=>z;have:∃u',H' b=dE u':=by
   rcases hb with z|z;exact⟨u,z ▸ q⟩;exact⟨_,z⟩
  obtain⟨u',hu⟩:=this;obtain⟨o1,e1,_,e3⟩:=nofs b u' hu;rw[eb] at e1;cases e1;exact e3
 .obtain⟨o0,q⟩:=q;obtain⟨o1,_,e2,e3⟩:=old b o0 q hb;rw[e1] at e3;cases e3;exact e2
 obtain⟨o1,_,e2,e3⟩:=nofs b u q;rw[e1] at e3;cases e3;exact e2
section
variable{P:Program}{K:Ar}{mg:Str->pU pW}{N:mZ Str}{E:XK}
def zH:Te (CXE P w) (Vm (CXE P w) P w K mg base N qual scope f bR A outer s H E) E:=by
 rintro pins σ H1 s1 ev s' I ⟨e,cls,H',rfl,F,hE⟩;obtain⟨B,t,fl,cov⟩:=F.fly;have oW:∀b∈frs (envOfC qual scope s.heap.objs.size f bR::outer),b∈s.heap.objs.size::frs outer:=I.stkSub;refine wpAny_mono (ziR (zc6 _ _) (wpAny_leaves_onW (E:=λ_ _=>False) (Q:=λ_ s''=>∃h',s''={s' with heap:=h'}/\Heap.FlyingW B outer e cls (.ref t) h'/\s'.heap.UpToSlots h') (L:=s.heap.objs.size) I.ok.frames rfl fl λh' x1 x2=>⟨h',rfl,x1,x2⟩)) (λ_ s3 h3=> ?_) λ_ _ h3=>h3.1.elim;obtain⟨⟨h',rfl,x1,x2⟩,kd⟩:=h3;obtain⟨un,hok,cov'⟩:=F.moved fl cov x1.1 x2;have iC:∀b:qm,b∉(Vm (CXE P w) P w K mg base N qual scope f bR A outer s H E).ex:=λb z=>absurd (show b∈([]:mZ qm) from z) (by simp);have qi:∀b o,s.heap.get? b=dE o->b∉frs outer->b∉frs (envOfC qual scope s.heap.objs.size f bR::outer):=λb o q hb hz=>by
  rcases AW.mp (oW b hz) with z|z;exact B3 (Heap.lt_size q) z;exact hb z
 have sub:∀b∈frs outer,b∈frs (envOfC qual scope s.heap.objs.size f bR::outer):=λb hb=>by
  unfold frs at hb ⊢;rw[Di];exact B8 _ hb
 refine⟨e,cls,H',rfl,⟨F.os.trans I.os,F.bare,⟨λb o q n hb _=> ?_,λb o q n hb _=> ?_,λb o q n _=> ?_,λb o q _=> ?_,λb xs q=>un.tups b xs (I.base.tups b xs q),λb o xs q=>un.frzs b o xs (I.base.frzs b o xs q),λb ps q=> ?_⟩,hok,
  ⟨B,t,x1,λb o q hb e1=> ?_,cov'.2⟩,?_,F.free,λo q=> ?_⟩,hE⟩
 .exact un.keep b o (I.base.keep b o q n hb (iC b)) (I.base.free b o q n (iC b)) (qi b o q hb) (by simp)
 .obtain⟨sl,e1⟩:=I.base.slot b o q n hb (iC b);obtain⟨kC,e2⟩:=un.slot b _ e1 (I.base.free b o q n (iC b)) (sub b hb) (by simp);exact⟨kC,e2⟩
 .obtain⟨o1,e1⟩:=I.base.there b o q (iC b);exact un.free b o1 e1 (I.base.free b o q n (iC b)) (by simp)
 .obtain⟨o1,e1⟩:=I.base.there b o q (iC b);exact un.there b o1 e1 (by simp)
 .obtain⟨m1,e1⟩:=I.base.tbls b ps q;obtain⟨m2,e2⟩:=un.tbls b _ e1;exact⟨m1++m2,by rw[e2,F0]⟩
 .obtain⟨o0,q⟩:=q;obtain⟨o1,q1⟩:=I.base.there b o0 q (iC b);exact cov'.1 b o ⟨o1,q1⟩ (qi b o0 q hb) e1
 .cases q:s.heap.get? e with
  |none=>rfl
  |some o=>
   obtain⟨o',q'⟩:=I.base.there e o q (iC e);have:=F.new;rw[q'] at this;cases this
 obtain⟨ob,rj,_⟩:=fl.there;exact(kd.at rj q).1.trans (F.nd ob rj)
end
structure ziS(K:Ar)(mg:Str->pU pW)(x:Str)(C:qm)(y3:mZ pW)(newId:String):Prop where
 mg:mg x=dE (.ref C)
 z6:Gn K C y3 newId=fJ
def Wr{P:Program}:Te (CXE P w) X E0:=λ_ _ _ _ _ _ _ ⟨_,_,_,_,_,h⟩=>h.elim
abbrev TEx:=St->Hp->VK->(pW->Hp->Prop)->Prop
abbrev TAx:=St->Hp->(mZ V->Hp->Prop)->(pW->Hp->Prop)->Prop
abbrev TSx:=Uj->(pW->Hp->Prop)->St->Hp->Prop
section
variable{e:Expr}{es:mZ Expr}{te:TE}
end
noncomputable def znV(e:qm)(cls:pW):HO:= .ext λh=>∃ob,h.get? e=dE ob/\ob.cls=cls/\ob.dict=fC/\∃vs,ob.data= .fields vs
noncomputable abbrev Cx.hand(X:Cx)(e:qm):Cx:={X with A:=X.A.mark (dE (.ref e)),calm:=kb,xe:=λ_ _=>False}
open PySem.Builtin.Int (intBits)
def zm8(i j:Int):Prop:=∃m n:Nat,intBits i<=m/\intBits j<=n/\m+n<=134217728
def ziT(i j:Int):Prop:=j≠0/\intBits j<=9000
def yv:OpR X (binaryOp .Mult) (rI zm8 λi j=> .int (i*j)):=opI λ_ _ _ _ _ _ _ hc q=>by
 obtain⟨m,n,h1,h2,h3⟩:=hc;exact mul_int q (IntMulOk.of_le h1 h2 h3)
def za3:OpR X (binaryOp .FloorDiv) (rI ziT λi j=> .int (i.fdiv j)):=opI λi j _ _ _ _ _ hc q=>floordiv_int hc.1 q (.inl (PyProof.noPylong_of_log2 (by
 have h:=EB.mp hc.2;by_cases z:j.natAbs=0;rw[z];decide
 exact (Nat.log2_lt z).mpr h)))
section
variable{K:Ar}
def zc7{Q:Unit->pX->Prop}(X:K.In s.heap)(I:EK s.heap x ox D fC)(be:BR K D (.type "BaseException")=dE fJ)(hq:Q () s):
  wpAny M A (checkBuiltinCall "BaseException.__getattribute__" ⟨[.ref x,nameV],[]⟩) Q E s:=by
 obtain⟨hh,g,d,t,os⟩:=s;have hk:builtinKind "BaseException.__getattribute__"=dE .slot:=by decide+kernel
 have hsplit:splitId "BaseException.__getattribute__"=dE ("BaseException","__getattribute__"):=by decide+kernel
 have L0:=I.type (M:=M);have L1:=PySem.W.looks_mroIn (M:=M) X be;have ha:=F.args_bexc_ga (.ref x) nameV;simp only[checkBuiltinCall,hk,hsplit];refine wpAny_bind ?_;unfold isInstance;refine wpAny_bind (L0.at (L1.at ?_))
 repeat (first|wp_step)
 exact hq
def zhz{Q:pU pW->pX->Prop}(X:K.In s.heap)(I:EK s.heap x ox D fC)(ga:B2 K (.ref D) "__getattribute__"=dE (dE (.builtin "BaseException.__getattribute__")))(noga:B2 K (.ref D) "__getattr__"=dE fC)
  (be:BR K D (.type "BaseException")=dE fJ) (hf:FH K D fC "__class__"=dE (.bind (.builtin "getset_descriptor.__get__") (.builtin "object.__class__"))) (hm:BR K D (.type "object")=dE fJ)
  (h:Q (dE (.ref D)) {s with toks:=s.toks+1}):wpAny (model prog w) A (getAttr? (.ref x) "__class__") Q E s:=by
 obtain⟨hh,g,d,t,os⟩:=s;have L0:=I.type (M:=model prog w);have L1:=Ez (M:=model prog w) X ga;have L2:=Ez (M:=model prog w) X noga;have L3:=PySem.W.looks_find (M:=model prog w) X I hf;have hb:=F.attrBase_ValueError.ga.bind (.ref x);unfold getAttr? getAttrBy? getAttrBy;refine wpAny_bind (wpAny_mkText (wpAny_bind (wpAny_attempt (wpAny_holding (wpAny_bind (L0.at (wpAny_bind (L1.at ?_))))))));dsimp only;rw[if_neg (show ¬(onTheHeap (Value.ref D)&&(Value.builtin "BaseException.__getattribute__"==Value.builtin "object.__getattribute__"))=fJ by rw[show(Value.builtin "BaseException.__getattribute__"==Value.builtin "object.__getattribute__")=kb by decide+kernel];simp)];unfold getAttrByItsOwn hookBefore;refine wpAny_bind ?_;show wpAny _ _ (typeLookup (.ref D) "__getattr__") _ _ _;refine L2.at ?_;refine wpAny_bind (wpAny_attempt (wpAny_holding ?_));unfold callGetattribute boundAndCalled;rw[if_neg ∅,hb];refine wpAny_bind (wpAny_pure ?_);dsimp only;refine wpAny_call (codeAny_call_builtin F.attrBase_ValueError.ga.plain F.entry_bexc_ga (zc7 (ox:=ox) X I be ?_));unfold Builtin.«object.__getattribute__»;refine wpAny_bind (wpAny_of_eq (show slotArgs "__getattribute__" 1 {pos:=[Value.ref x]++[Value.str (Str.ofString "__class__") t]}=pure (.ref x,[Value.str (Str.ofString "__class__") t]) from rfl) ?_);dsimp only;refine wpAny_bind (wpAny_of_eq (show Builtin.ObjectAttr.attrName (Value.str (Str.ofString "__class__") t)=pure (Str.ofString "__class__") from rfl) ?_);refine wpAny_bind (L0.at (wpAny_bind (L3.at ?_)));dsimp only;show wpAny _ _ (do ret (<-holding [Value.builtin "object.__class__"] (call (.builtin "getset_descriptor.__get__") [.builtin "object.__class__",.ref x,.ref D]))) _ _ _;refine wpAny_bind (wpAny_holding (wpAny_call (PySem.W.class_get (ox:=ox) (od:=fC) X I hm ?_)));exact wpAny_pure (PySem.W.handed_on rfl (wpAny_pure h))
end
structure zgw(K:Ar)(D:qm):Prop where
 ga:B2 K (.ref D) "__getattribute__"=dE (dE (.builtin "BaseException.__getattribute__"))
 noga:B2 K (.ref D) "__getattr__"=dE fC
 be:BR K D (.type "BaseException")=dE fJ
 hc:(Gp K D).isSome=fJ
 ha:B2 K (.ref D) "__class__"=dE (dE (.builtin "object.__class__"))
 hn:E9 K (.builtin "object.__class__") "__get__"=dE (dE (.builtin "getset_descriptor.__get__"))
 htk:FE K (.builtin "object.__class__")=dE fJ
 hm:BR K D (.type "object")=dE fJ
set_option tactic.hygienic true in
def ziU{K:Ar}(e:zgw K D):HW K (.ref x) (.ref D) (λh=>∃ox,EK h x ox D fC) where
 ty:=λ_ _ _ ⟨_,I⟩=>I.type
 it:=λ_ _ X _=>by
  obtain⟨cd,df⟩:=Cw.mp e.hc;unfold Gp at df;split at df;rename_i ho;intro A' Q' E' s' k q;unfold isType loadHead;exact wpAny_bind (wpAny_loadPart (k _ _ (X _ _ ho)) (wpAny_pure q));cases df
 ne:=λh tp dd ae n sl X tF=>by
  obtain⟨cd,df⟩:=Cw.mp e.hc;refine Bool.eq_false_iff.mpr λq=> ?_;have z:D=tp:=Value.ref.inj (beq_iff_eq.mp q);subst z;unfold Gp at df;split at df;rename_i ho;have y:=(X _ _ ho).symm.trans tF;cases y;cases df
 ca:=λ{_ _ _ _ _ s} X I k=>by
  obtain⟨ox,I⟩:=I;obtain⟨cd,df⟩:=Cw.mp e.hc;have hf:FH K D fC "__class__"=dE (.bind (.builtin "getset_descriptor.__get__") (.builtin "object.__class__")):=by
   unfold FH;rw[df,AO,e.ha,AO];simp[e.hn,e.htk]
  exact zhz X I e.ga e.noga e.be hf e.hm k
inductive TyX(K:Ar)(H:Hp):V->Value->Prop where
 |of {x:V} {t:Value} (h:zal K H x t):TyX K H x t
 |exc {e D:Addr} (h:H e=dE (znV e (.ref D))) (k:zgw K D):TyX K H (.ref e) (.ref D)
 |sqt {a:Addr} {xs:List V} (h:SqT K H a xs):TyX K H (.ref a) (.type "tuple")
 |sql {a:Addr} {xs:List V} (h:SqL K H a xs):TyX K H (.ref a) (.type "list")
def TyX.kit(I:Inv X pins σ H s)(rx:zI x u)(ty:TyX X.K H x t):∃Hh,HW X.K u t Hh/\Hh s.heap:=by
 cases ty with
 |of ty=>
  cases ty with
  |non=>cases (show u=Value.none from rx);exact⟨_,PySem.W.kitx_none,Cp⟩
  |bl y=>cases (show u=Value.bool y from rx);exact⟨_,PySem.W.kitx_bool,Cp⟩
  |int i=>obtain⟨t,q⟩:=(show ∃t,u=Value.int i t from rx);cases q;exact⟨_,PySem.W.kitx_int,Cp⟩
  |str y=>obtain⟨t,q⟩:=(show ∃t,u=Value.str y t from rx);cases q;exact⟨_,PySem.W.kitx_str,Cp⟩
  |flt y=>obtain⟨t,q⟩:=(show ∃t,u=Value.float y t from rx);cases q;exact⟨_,PySem.W.kitx_float,Cp⟩
  | @lst a xs ea=>
   cases (show u=Value.ref a from rx);obtain⟨_,_,n,_,h1⟩:=(show yL X.prog X.w H s.heap a (.lst xs) from I.hok a _ ea);exact⟨_,F8,⟨_,h1,rfl⟩⟩
  | @frz a ob xs ea=>
   cases (show u=Value.ref a from rx);obtain⟨_,_,_,n,_,h1⟩:=(show yL X.prog X.w H s.heap a (.frz ob (.lst xs)) from I.hok a _ ea);exact⟨_,F8,⟨_,h1,rfl⟩⟩
  | @tup a xs ea=>
   cases (show u=Value.ref a from rx);obtain⟨_,_,_,p⟩:=(show yL X.prog X.w H s.heap a (.tup xs) from I.hok a _ ea);obtain⟨o,h1,h2,_⟩:=p;exact⟨_,GJ,⟨o,h1,h2⟩⟩
  | @dK a kvs ea=>
   cases (show u=Value.ref a from rx);obtain⟨_,_,vs,_,p⟩:=(show yL X.prog X.w H s.heap a (.dK kvs) from I.hok a _ ea);obtain⟨o,es,ep,h1,h2,_⟩:=p;exact⟨_,GV,⟨o,h1,h2.1⟩⟩
  | @dT a kvs ea=>
   cases (show u=Value.ref a from rx);obtain⟨_,_,xs,_,o,es,ep,h1,h2,_⟩:=(show yL X.prog X.w H s.heap a (.dT kvs) from I.hok a _ ea);exact⟨_,GV,⟨o,h1,h2.1⟩⟩
  | @ins a C dx fs ea cl ha hn htk hm=>
   cases (show u=Value.ref a from rx);obtain⟨mA,O,_⟩:=zcS I.hok ea;obtain⟨od,J,_⟩:=O.look;exact⟨_,PySem.W.kitx_own (cl.get _) cl.hd ha hn htk hm,J⟩
 | @sqt a xs h=>
  cases (show u=Value.ref a from rx);obtain⟨ae,_,⟨o,h1,h2,_⟩,_⟩:=I.tuple h;exact⟨_,GJ,⟨o,h1,h2⟩⟩
 | @sql a xs h=>
  cases (show u=Value.ref a from rx);obtain⟨ae,_,⟨o,n,h1,h2,_⟩,_⟩:=I.list h;exact⟨_,F8,⟨o,h1,h2⟩⟩
 | @exc e D h k=>
  cases (show u=Value.ref e from rx);obtain⟨⟨ob,h1,h2,h3,vs,h4⟩,_⟩:=(show yL X.prog X.w H s.heap e (znV e (.ref D)) from I.hok e _ h);refine⟨_,ziU k,ob,h1,h2,?_,?_⟩;unfold PySem.W.notCls;rw[h4];rw[h3];trivial
noncomputable def zpr:V->pU pW
 | .ref a=>dE (.ref a)
 | .ty n=>dE (.type n)
 |_=>fC
def ziV(h:zpr c=dE cv)(r:zI c u):u=cv:=by
 cases c with
 |ref a=>cases h;exact r
 |ty n=>cases h;exact r
 |_=>cases h
def zI.nb(r:zI x u):u≠ .builtin "__main__.__loader__#opaque":=by
 cases x with
 |non=>rintro rfl;cases r
 |bl b=>rintro rfl;cases r
 |int i=>rintro rfl;obtain⟨_,q⟩:=r;cases q
 |str i=>rintro rfl;obtain⟨_,q⟩:=r;cases q
 |byt i=>rintro rfl;obtain⟨_,q⟩:=r;cases q
 |flt i=>rintro rfl;obtain⟨_,q⟩:=r;cases q
 |ref a=>rintro rfl;cases r
 |ty a=>rintro rfl;cases r
def zlz(K:Ar):mZ V->Hp->VK->Prop:=λxs H Q=>∃x c cv t b,xs=[x,c]/\zpr c=dE cv/\TyX K H x t/\BI K t cv=dE b/\Q (.bl b) H
def ziW:YK X (.builtin "isinstance") (zlz X.K):=by
 intro pins s σ H xs us Q I r h;obtain⟨x,c,cv,t,b,rfl,hc,ty,e,q⟩:=h;obtain⟨u,w',rfl,ru,rw'⟩:=zgn r;obtain rfl:=ziV hc rw';obtain⟨Hh,Z,p⟩:=ty.kit I ru;exact PySem.W.kia_one Z I.kIn p e ru.nb λtk=>⟨.bl b,H,I.tok tk,rfl,q⟩
def Ws{K:Ar}:BI K t t=dE fJ:=by unfold BI;rw[if_pos (by simp)]
def zc8{K:Ar}:BI K (.type "bool") (.type "int")=dE fJ:=by
 have h:(fastBuiltinMro "bool").map (·.contains (.type "int"))=dE fJ:=by decide+kernel
 have hm:D5 "int"=fJ:=by decide+kernel
 unfold BI G5;rw[if_neg ∅];show(if D5 "int"=fJ then F4 K (.type "bool") (.type "int") else fC)=_;rw[if_pos hm];exact h
def zc9{K:Ar}:BI K (.type "int") (.type "bool")=dE kb:=by
 have h:(fastBuiltinMro "int").map (·.contains (.type "bool"))=dE kb:=by decide+kernel
 have hm:D5 "bool"=fJ:=by decide+kernel
 unfold BI G5;rw[if_neg ∅];show(if D5 "bool"=fJ then F4 K (.type "int") (.type "bool") else fC)=_;rw[if_pos hm];exact h
end L2
namespace L2
inductive D where
 |non|bl (b:Bool)|int (i:Int)|str (x:Str)|tup (l:List D)|lst (l:List D)|ins (C:Addr) (ns:List Str) (l:List D)
mutual
inductive Is(K:Ar)(H:Hp):V->D->Prop where
 |non:Is K H .non .non
 |bl (b:Bool):Is K H (.bl b) (.bl b)
 |int (i:Int):Is K H (.int i) (.int i)
 |str (x:Str):Is K H (.str x) (.str x)
 |tup {a:Addr} {xs:List V} {ds:List D}:SqT K H a xs->IsL K H xs ds->Is K H (.ref a) (.tup ds)
 |lst {a:Addr} {xs:List V} {ds:List D}:SqL K H a xs->IsL K H xs ds->Is K H (.ref a) (.lst ds)
 |ins {a C dx:Addr} {ns:List Str} {xs:List V} {ds:List D}:H a=dE (.ins C dx (ns.zip xs))->ns.length=xs.length->IsL K H xs ds->Is K H (.ref a) (.ins C ns ds)
inductive IsL(K:Ar)(H:Hp):List V->List D->Prop where
 |nil:IsL K H [] []
 |cons {v:V} {d:D} {vs:List V} {ds:List D}:Is K H v d->IsL K H vs ds->IsL K H (v::vs) (d::ds)
end
def yN(h:H p=fC):Zz H (upd H p o):=λb u e=>by rw[zi (wY e h)];exact e
theorem IsL.len{K:Ar}:∀{vs:mZ V} {ds:mZ D},IsL K H vs ds->vs.length=ds.length
 |_,_,.nil=>rfl
 |_,_,.cons _ l=>by rw[B7,B7,l.len]
theorem IsL.get{K:Ar}:∀{vs:mZ V} {ds:mZ D} {i:Nat} {d:D},IsL K H vs ds->ds[i]? =dE d->∃v,vs[i]? =dE v/\Is K H v d
 |_,_,_,_,.nil,e=>by simp at e
 |_,_,0,_,.cons h _,e=>by simp at e;subst e;exact⟨_,rfl,h⟩
 |_,_,i+1,d,.cons _ l,e=>by
  obtain⟨v,e1,e2⟩:=l.get (i:=i) (d:=d) (by simpa using e);exact⟨v,by simpa using e1,e2⟩
def Is.int_inv{K:Ar}(h:Is K H v (.int i)):v= .int i:=by cases h;rfl
def Is.bl_inv{K:Ar}(h:Is K H v (.bl b)):v= .bl b:=by cases h;rfl
def Is.str_inv{K:Ar}(h:Is K H v (.str b)):v= .str b:=by cases h;rfl
def Is.non_inv{K:Ar}(h:Is K H v .non):v= .non:=by cases h;rfl
def Is.tup_inv{K:Ar}(h:Is K H v (.tup ds)):∃a xs,v= .ref a/\SqT K H a xs/\IsL K H xs ds:=by cases h with|tup a b=>exact⟨_,_,rfl,a,b⟩
def Is.lst_inv{K:Ar}(h:Is K H v (.lst ds)):∃a xs,v= .ref a/\SqL K H a xs/\IsL K H xs ds:=by cases h with|lst a b=>exact⟨_,_,rfl,a,b⟩
noncomputable abbrev dQ(a b:Int):D:= .tup [.int a,.int b]
section
variable{Q:VK}{ta tb tc:TE}{D':Uj}{v:V}{i:Nat}
end
local macro_rules|`(tactic|walk_at "rd")=>do
 let g(s:String):=(s.splitOn " ").toArray.mapM fun n=>`(tacticSeq|refine $(Lean.mkIdent (.mkSimple n)) ?_)
 let a<-g "qw qH my"
 let b<-g "z7 sX sZ z8 sV qG A0 z9 sY qA qI sW nQ qz nJ qF nL nM qx nG qE qB nN nO t4 qu qC qy nH mx"
 `(tactic|repeat first $[| $a]*|refine qq rfl ?_ $[| $b]*)
end L2
namespace L2
section
variable{Q:VK}{D':Uj}{E:XK}
end
def Fun.okE{P:Program}{w:World}{K:Ar}{mg:Str->pU pW}{base:Heap}{x qual:Str}{st:Stmt}{f:qm}{fd:FuncData}{N ps:mZ Str}{k:Nat}{sp:Sp}(F:Fun K x qual st f fd)(S:zC N ps (zh st))(len:∀vs H Q E,sp vs H Q E->vs.length=ps.length)
  (dC:∀(bR:pW) (A:Around) (outer:mZ Env) (s:pX) (H:Hp) (vs:mZ V) (Q:VK) (E:XK),xO k (A.deeper (envOfC qual (zh st) s.heap.objs.size f bR))->sp vs H Q E->
   ∃t,PSs (Vm (CXE P w) P w K mg base N qual (zh st) f bR A outer s H E) (vC st) t/\t {nx:=λ_ H'=>Q .non H',rt:=Q} (YN N vs) H):YM P w K mg base (CXE P w) (k+1) f fd ps sp:=by
 obtain⟨oc,od,kV,doc,pm,an,bR,ct,fN,rfl,lk,df⟩:=F.ex;exact zpk lk df S len λA outer s H vs Q E hr fQ=>dC bR A outer s H vs Q E hr fQ
section
variable{Q:VK}{D':Uj}{E:XK}{EX:pW->Hp->Prop}
end
section
variable{K:Ar}
def zS(h:X.K=K:=by rfl):IxR X (zlt K):=h ▸ ziy
def yi(h:X.K=K:=by rfl):IxR X (zls K):=h ▸ zgs
def vo(h:X.K=K:=by rfl):YK X (.builtin "isinstance") (zlz K):=h ▸ ziW
def yd(h:X.K=K:=by rfl):YK X (.builtin "len") (λxs H Q=>∃p ys,xs=[.ref p]/\(SqL K H p ys\/SqT K H p ys)/\Q (.int ys.length) H):=h ▸ zcZ
def zfn(h:X.K=K:=by rfl):YK X (.type "list") (λxs H Q=>∃p ys,xs=[.ref p]/\(SqL K H p ys\/SqT K H p ys)/\∀l,H l=fC->Q (.ref l) (upd H l (.lst ys))):=h ▸ zc0
def zhA(h:X.K=K:=by rfl):OpR X (compareOp .NotIn) (rIn K fJ):=h ▸ zcY
def za4(h:X.K=K:=by rfl):SlR X (ziz K):=h ▸ zlu
def ya(hl:PE X l tl)(h:X.K=K:=by rfl):PI X tg l (zin K tl):=h ▸ zlm hl
def xu{es:mZ Expr}{k:Nat}{t:TGs}{n:Nat}{pos:Pos}(hc:X.calm=fJ)(h:PGs X es t)(hK:X.K=K:=by rfl)
  (hn:(assignEach es X.env).length=n:=by rfl) (dY:(assignEach es X.env).findIdx? (·.1)=fC:=by rfl):PG X (.Tuple es k pos) (zll K n t):=hK ▸ znF hc h hn dY
def yc:vD X sc [] []:=trivial
def zO(h:vD X sc r n):vD X sc (fC::r) (x::n):=h
def yw(h1:X.N[i]? =dE x)(h2:sc.names.lookup x=dE .free)(h:vD X sc r n):vD X sc (dE i::r) (x::n):=⟨⟨h1,h2⟩,h⟩
end
noncomputable def ziX(osc sc:Scope):Bool:=sc.names.all (λy=>y.2 != .cell)&&sc.kind== .function&&sc.names.all (λy=>y.2 != .local||sc.names.lookup y.1==dE .local)&&
 sc.names.all (λy=>y.2 != .free||(osc.names.lookup y.1==dE .cell||osc.names.lookup y.1==dE .free))
def blk(hs:X.env.scope=osc)(h:ziX osc sc=fJ):zc4 X sc:=by
 unfold ziX at h;simp only[BV,Cy,bne_iff_ne,ne_eq,beq_iff_eq,EC] at h;obtain⟨⟨⟨h1,h2⟩,h3⟩,h4⟩:=h;refine⟨h1,h2,λy hy e=>(h3 y hy).resolve_left λz=>z e,λy hy e=> ?_⟩;show X.env.scope.names.lookup y.1=_\/X.env.scope.names.lookup y.1=_;rw[hs];exact(h4 y hy).resolve_left λz=>z e
section
variable{g:TG}{tb:TS}{nx:St->Hp->Prop}{rt:VK}
end
mutual
noncomputable def D.depth:D->Nat
 | .tup l=>D.depths l+1
 | .lst l=>D.depths l+1
 | .ins _ _ _=>1000
 |_=>0
noncomputable def D.depths:mZ D->Nat
 |[]=>0
 |d::r=>max (D.depth d) (D.depths r)
end
section
variable{Q:VK}{D':Uj}{cap:mZ (pU Nat)}{wi:TI}{g:TG}{tt:TT}{te:TE}
variable{acc:qm}{H0:Hp}{Qh:Hp->Prop}
end
section
variable{σ:mZ (pU V)}
def Inv.turnedL{t':Nat}{fp:mZ qm}(I:Inv X pins σ H s)(k:∀b o,b∉fp->s.heap.get? b=dE o->h'.get? b=dE o)(hf:∀b∈fp,UZ X pins H b):Inv X pins σ H {s with heap:=h',toks:=t'}:=by
 have fX:∀b u,H b=dE u->b∉fp:=λb u e z=>by rw[(hf b z).1] at e;cases e
 refine I.step (g':=s.gens) (d':=s.drawn) (ch:=fp) (λb hb=> ?_) (λb o _ _ hc e _=>k b o hc e) (λb o _ _ hc e _=>⟨o.slots,k b o hc e⟩) (λ_ _ _ _ n=>n)
  (λb o hc e=>⟨o,k b o hc e⟩) (λ_ _ e=>e) (λ_ _ _ e=>e) (λb ps e=>⟨#[],by rw[e];simp⟩) (λm hm=> ?_) (λb u e=> ?_) I.bare
 .obtain⟨f0,f1,f2,f3,f4,f5⟩:=hf b hb;exact⟨f3,f1,f4,f5⟩
 .obtain⟨o,es,ep,ho,r⟩:=hm;exact⟨o,es,ep,k _ o (λz=>(hf _ z).2.1 rfl) ho,r⟩
 refine (I.hok b u e).stay (λc v hc q=>k c v ?_ q) (λ_ q=>q) λ_ _ q=>q;rcases hc with z|z;rw[z];exact fX b u e;exact fX c _ z
def Inv.turnedT{t':Nat}{fp:mZ qm}{ys:mZ V}{us:mZ pW}(I:Inv X pins σ H s)(hv:zR ys us)(hl:ys.length<=sizeLine)(k:∀b o,b∉fp->s.heap.get? b=dE o->h'.get? b=dE o)
  (hp:h'.get? s.heap.objs.size=dE {cls:= .type "tuple",data:= .seq us.toArray}) (hf:∀b∈fp,UZ X pins H b) (hx:∀b∈fp,∃o,s.heap.get? b=dE o):
  Inv X pins σ (upd H s.heap.objs.size (.tup ys)) {s with heap:=h',toks:=t'}/\H s.heap.objs.size=fC/\∀b∈fp,upd H s.heap.objs.size (.tup ys) b=fC:=by
 have fr:H s.heap.objs.size=fC:=I.hok.fresh (AF _);have nb:∀b∈fp,b≠s.heap.objs.size:=λb hb z=>by
  obtain⟨o,e⟩:=hx b hb;exact absurd (Heap.lt_size e) (by rw[z];exact C0 _)
 have fb:∀b∈fp,upd H s.heap.objs.size (.tup ys) b=fC:=λb hb=>by rw[zi (nb b hb)];exact(hf b hb).1
 have I0:Inv X pins σ (upd H s.heap.objs.size (.tup ys)) {s with heap:=s.heap.push {cls:= .type "tuple",data:= .seq us.toArray}}:=
  I.laid (t':=s.toks) (λb o e=>Heap.get?_push_of_some _ e) (AF _) ⟨hl,us,hv,UW.new _ _⟩
 refine⟨Inv.turnedL (s:={s with heap:=s.heap.push {cls:= .type "tuple",data:= .seq us.toArray}}) (t':=t') (fp:=fp) I0 (λb o hb e=> ?_) (λb hb=> ?_),fr,fb⟩;by_cases z:b=s.heap.objs.size;subst z;rw[Heap.get?_push_size _ rfl] at e;cases e;exact hp;refine k b o hb ?_;rwa [Heap.get?_push_ne _ _ _ z] at e;obtain⟨f0,f1,f2,f3,f4,f5⟩:=hf b hb;exact⟨fb b hb,f1,f2,f3,f4,f5⟩
end
noncomputable def Ite(K:Ar)(a:qm):It:=
 ⟨λi H=>∃xs x,SqL K H a xs/\xs[i]? =dE x,λi H x H'=>∃p y,x= .ref p/\H p=fC/\H'=upd H p (.tup [.int i,y])/\∀xs,SqL K H a xs->xs[i]? =dE y,λi H=>∃xs,SqL K H a xs/\xs.length<=i⟩
def zhB{P:Program}{K:Ar}(a e it:qm)(cu:e≠it):
  zd1 P w K (.Tuple elts k tp) (Ite K a) [e,it] e (λi h=>(∃old,IsEnum h e it i old)/\h.IsListIter it a i) where
 mem:=by simp
 obj:=λi h st b hb=>by
  obtain⟨⟨old,he⟩,o,e',c,d⟩:=st;rcases(by simpa using hb:b=e\/b=it) with rfl|rfl;exact⟨_,he,λv z=>by cases z⟩;exact⟨o,e',λv z=>by rw[d] at z;cases z⟩
 keep:=λi h h' st k=>⟨let ⟨old,he⟩:=st.1;⟨old,k e (by simp) _ he⟩,st.2.at λo e=>k it (by simp) o e⟩
 item:=by
  walk_at "!b";obtain⟨xs,x,hq,hx⟩:=hg;obtain⟨ae,rv,p,hz⟩:=I.list hq;obtain⟨u,hu,ru⟩:=rv.get hx;obtain⟨⟨old,he⟩,hit⟩:=st;refine wpAny_pyNext_enum_item he hit p.isList (x:=u) (by simpa using hu) cu λh1 j7 ic o9 k6 jN=> ?_;refine⟨_,rfl,?_⟩;refine wpAny_letOwnedTupleGo_enum (s:={s with heap:=h1,toks:=s.toks+1}) j7 λh2 kg dP=> ?_;have dP:Heap.SameBut e h1 h2:=dP;have nA:e<s.heap.objs.size:=Heap.lt_size he;have vv:zR [V.int i,x] [.int i s.toks,u]:= .cons ⟨_,rfl⟩ (.cons ru .nil);have T:=Inv.turnedT (h':=h2) (t':=s.toks+1) (fp:=[e,it]) I vv (by show 2<=sizeLine;decide) (λb o hb eb=> ?_) ((dP.2 _ (Bo nA)).trans o9) hf (λb hb=> ?_);obtain⟨I2,fr,fb⟩:=T;exact⟨.ref s.heap.objs.size,_,I2,rfl,⟨_,x,rfl,fr,rfl,λys hy=>by rw[I.list_inj hy hq];exact hx⟩,⟨⟨_,kg⟩,ic.at λo eo=>(dP.2 it cu.symm).trans eo⟩,fb⟩
  .have hb:b≠e/\b≠it:=by simpa using hb
   exact(dP.2 b hb.1).trans (jN b o hb.1 hb.2 eb)
  obtain⟨o,eo,_⟩:=hit;rcases(by simpa using hb:b=e\/b=it) with rfl|rfl;exact⟨_,he⟩;exact⟨o,eo⟩
 done:=by
  walk_at "!b";obtain⟨xs,hq,hx⟩:=hg;obtain⟨ae,rv,p,hz⟩:=I.list hq;have hl:=rv.length;obtain⟨⟨old,he⟩,hit⟩:=st;exact wpAny_pyNext_enum_end (I.ok.hd hc) he hit p.isList (by simp;omega) λh' eb=>⟨rfl,Inv.turnedL (t':=s.toks) (fp:=[e,it]) I (λb o hb eo=>eb b o (λz=>hb (by simp[z])) eo) hf⟩
 self:=λ_ _ _ _ _ st h=>let ⟨⟨_,he⟩,_⟩:=st;wpAny_pyIter_enum he h
def zm9(K:Ar)(ta:TA):TI:=λσ H R=>ta σ H λvs H1=>∃a,vs=[.ref a]/\(∃xs,SqL K H1 a xs)/\R (Ite K a) H1
def zgx{K:Ar}{elts:mZ Expr}{k:Nat}{tp:Pos}{l:Expr}{ta:TA}{p pos:Pos}(hg:Gl X "enumerate")(hm:X.mg "enumerate"=fC)(ha:PA X [l] ta)(hK:X.K=K:=by rfl)(hs:starEach [l] X.env=[(kb,eval l X.env)]:=by rfl):
  PI X (.Tuple elts k tp) (.Call (.Name "enumerate" p) [l] [] pos) (zm9 K ta):=by
 subst hK;intro pins s σ H R I h;refine Call_ (Zy I hg hm Boot.«enumerate» (BJ (thn (ha pos pins s σ H _ I h) ?_) hs rfl));rintro us s1 ⟨vs,H1,I1,r1,q1⟩;obtain⟨a,e,⟨xs,hq⟩,q⟩:=q1;subst e;obtain⟨u,rfl,ru⟩:=Wn r1;cases ru;obtain⟨ae,rv,p,hz⟩:=I1.list hq;refine call_enumerate_list p.isList λh' he hit hsz hk=> ?_;have I2:Inv X pins σ H1 {s1 with heap:=h'}:=I1.kept (t':=s1.toks) hk;refine wpAny_pyIter_enum (s:={s1 with heap:=h'}) he ?_;refine⟨s1.heap.objs.size+1,[s1.heap.objs.size+1,s1.heap.objs.size],_,_,H1,rfl,I2,zhB a (s1.heap.objs.size+1) s1.heap.objs.size (Fj _),⟨⟨_,he⟩,hit⟩,λb hb=> ?_,q⟩;have hb:s1.heap.objs.size<=b:=by
  rcases(by simpa using hb:b=s1.heap.objs.size+1\/b=s1.heap.objs.size) with rfl|rfl;exact C7 _;exact AF _
 exact Inv.fpOk I1 hb (I1.hok.fresh hb)|>λ⟨f0,f1,f2,f3,f4,f5⟩=>⟨f0,f1,f2,f3,f4,f5⟩
noncomputable def Itz(K:Ar)(a b:qm):It:=
  ⟨λi H=>∃xs ys x y,SqL K H a xs/\SqL K H b ys/\xs[i]? =dE x/\ys[i]? =dE y,
   λi H x H'=>∃p u v,x= .ref p/\H p=fC/\H'=upd H p (.tup [u,v])/\(∀xs,SqL K H a xs->xs[i]? =dE u)/\∀ys,SqL K H b ys->ys[i]? =dE v,
   λi H=>∃xs ys,SqL K H a xs/\SqL K H b ys/\(xs.length<=i\/ys.length<=i)⟩
structure ZA(z TI TO i1 i2:qm):Prop where
 TIz:TI≠z
 TOz:TO≠z
 i1z:i1≠z
 i2z:i2≠z
 TITO:TI≠TO
 TIi1:TI≠i1
 TIi2:TI≠i2
 TOi1:TO≠i1
 TOi2:TO≠i2
 i12:i1≠i2
def ziY{P:Program}{K:Ar}(a b z TI TO i1 i2:qm)(D:ZA z TI TO i1 i2):
  zd1 P w K (.Tuple elts k tp) (Itz K a b) [z,TI,TO,i1,i2] z (λi h=>IsZip h z TI TO .none/\IsPair h TI (.ref i1) (.ref i2)/\(∃u v,IsPair h TO u v)/\h.IsListIter i1 a i/\h.IsListIter i2 b i) where
 mem:=by simp
 obj:=λi h st c hb=>by
  obtain⟨hz,dF,⟨u,v,dH⟩,⟨o1,e1,_,d1⟩,o2,e2,_,d2⟩:=st;rcases(by simpa using hb:c=z\/c=TI\/c=TO\/c=i1\/c=i2) with rfl|rfl|rfl|rfl|rfl;exact⟨_,hz,λv z=>by cases z⟩;exact⟨_,dF,λv z=>by cases z⟩;exact⟨_,dH,λv z=>by cases z⟩;exact⟨o1,e1,λv z=>by rw[d1] at z;cases z⟩;exact⟨o2,e2,λv z=>by rw[d2] at z;cases z⟩
 keep:=λi h h' st k=>by
  obtain⟨hz,dF,⟨u,v,dH⟩,h1,h2⟩:=st;exact⟨k z (by simp) _ hz,k TI (by simp) _ dF,⟨u,v,k TO (by simp) _ dH⟩,h1.at λo e=>k i1 (by simp) o e,h2.at λo e=>k i2 (by simp) o e⟩
 item:=by
  walk_at "!b";obtain⟨xs,ys,x,y,hq,ck,hx,hy⟩:=hg;obtain⟨ae,rv,p,gx⟩:=I.list hq;obtain⟨its',rv',p',nT⟩:=I.list ck;obtain⟨u,hu,ru⟩:=rv.get hx;obtain⟨u',tD,ru'⟩:=rv'.get hy;obtain⟨hz,dF,⟨w1,w2,dH⟩,h1,h2⟩:=st;have nf:∀(c:qm) (l:qm) (zs:mZ V),SqL X.K H l zs->c∈[z,TI,TO,i1,i2]->l≠c:=λc l zs hl hc e=>by
   subst e;obtain⟨_,_,⟨o,n,eo,ec,_,_⟩,_⟩:=I.list hl;obtain⟨o1,e1,c1,_⟩:=id h1;obtain⟨o2,e2,c2,_⟩:=id h2;rcases(by simpa using hc:l=z\/l=TI\/l=TO\/l=i1\/l=i2) with rfl|rfl|rfl|rfl|rfl;rw[hz] at eo;cases eo;exact absurd (show Value.type "zip"= .type "list" from ec) ∅;rw[dF] at eo;cases eo;exact absurd (show Value.type "tuple"= .type "list" from ec) ∅;rw[dH] at eo;cases eo;exact absurd (show Value.type "tuple"= .type "list" from ec) ∅;rw[e1] at eo;cases eo;rw[c1] at ec;exact absurd ec ∅;rw[e2] at eo;cases eo;rw[c2] at ec;exact absurd ec ∅
  have D':ZipApart z TI TO i1 i2 a b:=⟨D.TIz,D.TOz,D.i1z,D.i2z,D.TITO,D.TIi1,D.TIi2,D.TOi1,D.TOi2,D.i12,nf _ _ _ hq (by simp),nf _ _ _ hq (by simp),nf _ _ _ hq (by simp),nf _ _ _ hq (by simp),nf _ _ _ ck (by simp),nf _ _ _ ck (by simp),nf _ _ _ ck (by simp),nf _ _ _ ck (by simp)⟩;refine wpAny_pyNext_zip_item D' hz dF dH h1 h2 p.isList p'.isList (x:=u) (y:=u') (by simpa using hu) (by simpa using tD) λh3 kP pH uZ uY tG A2 rp=> ?_;refine⟨_,rfl,?_⟩;refine wpAny_letOwnedTupleGo_zip (s:={s with heap:=h3}) kP λh4 jr iS=> ?_;have iS:Heap.SameBut z h3 h4:=iS;have ltZ:z<s.heap.objs.size:=Heap.lt_size hz;have vv:zR [x,y] [u,u']:= .cons ru (.cons ru' .nil);have T:=Inv.turnedT (h':=h4) (t':=s.toks) (fp:=[z,TI,TO,i1,i2]) I vv (by show 2<=sizeLine;decide) (λc o hb eb=> ?_) ((iS.2 _ (Bo ltZ)).trans tG) hf (λc hb=> ?_);obtain⟨I2,fr,fb⟩:=T;refine⟨.ref s.heap.objs.size,_,I2,rfl,⟨_,x,y,rfl,fr,rfl,λys hy=>by rw[I.list_inj hy hq];exact hx,λys hz=>by rw[I.list_inj hz ck];exact hy⟩,⟨jr,?_,⟨_,_,(iS.2 TO D.TOz).trans pH⟩,uZ.at λo eo=>(iS.2 i1 D.i1z).trans eo,uY.at λo eo=>(iS.2 i2 D.i2z).trans eo⟩,fb⟩;exact(iS.2 TI D.TIz).trans (rp TI _ D.TIz D.TITO D.TIi1 D.TIi2 dF)
  .have hb:c≠z/\c≠TI/\c≠TO/\c≠i1/\c≠i2:=by simpa using hb
   exact(iS.2 c hb.1).trans (rp c o hb.1 hb.2.2.1 hb.2.2.2.1 hb.2.2.2.2 eb)
  obtain⟨o1,e1,_⟩:=h1;obtain⟨o2,e2,_⟩:=h2;rcases(by simpa using hb:c=z\/c=TI\/c=TO\/c=i1\/c=i2) with rfl|rfl|rfl|rfl|rfl;exact⟨_,hz⟩;exact⟨_,dF⟩;exact⟨_,dH⟩;exact⟨o1,e1⟩;exact⟨o2,e2⟩
 done:=by
  walk_at "!b";obtain⟨xs,ys,hq,ck,hx⟩:=hg;obtain⟨ae,rv,p,gx⟩:=I.list hq;obtain⟨its',rv',p',nT⟩:=I.list ck;obtain⟨hz,dF,⟨w1,w2,dH⟩,h1,h2⟩:=st;have hl:=rv.length;have g7:=rv'.length;have nf:∀(c:qm) (l:qm) (zs:mZ V),SqL X.K H l zs->c∈[z,TI,TO,i1,i2]->l≠c:=λc l zs hl hc e=>by
   subst e;obtain⟨_,_,⟨o,n,eo,ec,_,_⟩,_⟩:=I.list hl;obtain⟨o1,e1,c1,_⟩:=id h1;obtain⟨o2,e2,c2,_⟩:=id h2;rcases(by simpa using hc:l=z\/l=TI\/l=TO\/l=i1\/l=i2) with rfl|rfl|rfl|rfl|rfl;rw[hz] at eo;cases eo;exact absurd (show Value.type "zip"= .type "list" from ec) ∅;rw[dF] at eo;cases eo;exact absurd (show Value.type "tuple"= .type "list" from ec) ∅;rw[dH] at eo;cases eo;exact absurd (show Value.type "tuple"= .type "list" from ec) ∅;rw[e1] at eo;cases eo;rw[c1] at ec;exact absurd ec ∅;rw[e2] at eo;cases eo;rw[c2] at ec;exact absurd ec ∅
  have D':ZipApart z TI TO i1 i2 a b:=⟨D.TIz,D.TOz,D.i1z,D.i2z,D.TITO,D.TIi1,D.TIi2,D.TOi1,D.TOi2,D.i12,nf _ _ _ hq (by simp),nf _ _ _ hq (by simp),nf _ _ _ hq (by simp),nf _ _ _ hq (by simp),nf _ _ _ ck (by simp),nf _ _ _ ck (by simp),nf _ _ _ ck (by simp),nf _ _ _ ck (by simp)⟩
  exact wpAny_pyNext_zip_end (I.ok.hd hc) D' hz dF dH h1 h2 p.isList p'.isList (by simp;omega) λh' eb=>⟨rfl,Inv.turnedL (t':=s.toks) (fp:=[z,TI,TO,i1,i2]) I (λc o hb eo=>by
   have hb:c≠z/\c≠TI/\c≠TO/\c≠i1/\c≠i2:=by simpa using hb
   exact eb c o hb.1 hb.2.2.1 hb.2.2.2.1 hb.2.2.2.2 eo) hf⟩
 self:=λ_ _ _ _ _ st h=>wpAny_pyIter_zip st.1 h
def zna(K:Ar)(ta:TA):TI:=λσ H R=>ta σ H λvs H1=>∃a b,vs=[.ref a,.ref b]/\(∃xs,SqL K H1 a xs)/\(∃ys,SqL K H1 b ys)/\R (Itz K a b) H1
def Up{K:Ar}{elts:mZ Expr}{k:Nat}{tp:Pos}{l m:Expr}{ta:TA}{p pos:Pos}(hg:Gl X "zip")(hm:X.mg "zip"=fC)(ha:PA X [l,m] ta)(hK:X.K=K:=by rfl)(hs:starEach [l,m] X.env=[(kb,eval l X.env),(kb,eval m X.env)]:=by rfl)(dP:starEach [m] X.env=[(kb,eval m X.env)]:=by rfl):
  PI X (.Tuple elts k tp) (.Call (.Name "zip" p) [l,m] [] pos) (zna K ta):=by
 subst hK;intro pins s σ H R I h;refine Call_ (Zy I hg hm Boot.«zip» (BJ (thn (ha pos pins s σ H _ I h) λus s1 ⟨vs,H1,I1,r1,q1⟩=> ?_) (by rw[hs,dP]) (by rw[dP];rfl)));obtain⟨a,b,e,⟨xs,hq⟩,⟨ys,ck⟩,q⟩:=q1;subst e;obtain⟨u,u',rfl,ru,ru'⟩:=zgn r1;cases ru;cases ru';obtain⟨ae,rv,p,hz⟩:=I1.list hq;obtain⟨its',rv',p',nV⟩:=I1.list ck;refine call_zip_2 p.isList p'.isList λh' hz dF dH h1 h2 hsz hk=> ?_;have I2:Inv X pins σ H1 {s1 with heap:=h'}:=I1.kept (t':=s1.toks) hk;generalize hn:s1.heap.objs.size=n at hz dF dH h1 h2 hsz;refine wpAny_pyIter_zip (s:={s1 with heap:=h'}) hz ?_;refine⟨n+4,[n+4,n+2,n+3,n,n+1],_,_,H1,rfl,I2,ziY a b (n+4) (n+2) (n+3) n (n+1) ⟨by simp,by simp,by simp,by simp,by simp,by simp,by simp,by simp,by simp,by simp⟩,⟨hz,dF,⟨_,_,dH⟩,h1,h2⟩,λc hb=> ?_,q⟩;have hb:s1.heap.objs.size<=c:=by
  rw[hn];rcases(by simpa using hb:c=n+4\/c=n+2\/c=n+3\/c=n\/c=n+1) with rfl|rfl|rfl|rfl|rfl<;>simp
 exact Inv.fpOk I1 hb (I1.hok.fresh hb)|>λ⟨f0,f1,f2,f3,f4,f5⟩=>⟨f0,f1,f2,f3,f4,f5⟩
section
variable{cap:mZ (pU Nat)}{g:TG}{tt:TT}{te:TE}{acc:qm}{H0:Hp}{Qh:Hp->Prop}
structure zqt(J:It)(n:Nat)(f:Nat->pU (V×V))(ok:Hp->Prop):Prop where
 go:∀i H,ok H->i<n->J.go i H
 stop:∀H,ok H->J.stop n H
 yld:∀i H x H',ok H->i<n->J.yld i H x H'->∃p u v,x= .ref p/\H p=fC/\H'=upd H p (.tup [u,v])/\f i=dE (u,v)
end
section
variable{Q:VK}{D':Uj}
end
section
variable{Q:VK}
end
open Classical in
noncomputable def frG(H H':Hp):Hp:=λb=>match H' b with
 |some (.lst xs)=>if H b=fC then dE (.lst xs) else fC
 |o=>o
def Dom(H H':Hp):Prop:=∀b,H' b=fC->H b=fC
structure Acc(K:Ar)(H0:Hp)(acc:qm)(ys:mZ V)(ds:mZ D)(H:Hp):Prop where
 at_:H acc=dE (.lst ys)
 new:IsL K (frG (upd H0 acc (.lst [])) H) ys ds
 same:Zz H0 H
 dom:Dom (upd H0 acc (.lst [])) H
theorem zcm(ns:mZ Int):∀k,preSum (λi=>ns.getD i 0) k=(ns.take k).sum
 |0=>by simp[preSum]
 |k+1=>by
  unfold preSum;rw[zcm ns k,List.take_add_one,List.sum_append];cases h:ns[k]? <;>simp[Av,h]
def zps(K:Ar):mZ V->Hp->VK->Prop:=λxs H Q=>∃(p:qm) (ns:mZ Int),xs=[.ref p]/\SqL K H p (ns.map V.int)/\Q (.int ns.sum) H
def Tg{K:Ar}(hc:X.calm=fJ)(hK:X.K=K:=by rfl):YK X (.builtin "sum") (zps K):=by
 subst hK;intro pins s σ H xs us Q I r h;obtain⟨p,ns,rfl,hq,q⟩:=h;obtain⟨u,rfl,ru⟩:=Wn r;cases ru;obtain⟨ae,rv,pl,hz⟩:=I.list hq;have lt:p<s.heap.objs.size:=by
  obtain⟨o,n,e,_⟩:=id pl;exact Heap.lt_size e
 have hl:=rv.length;rw[Aw] at hl;refine call_sum_walkAnyS (wpAny_pyIter_list pl.isList ?_);have W:=(Walks.list (prog:=X.prog) (w:=X.w) (A:=X.A.in1) (I.ok.hd hc) s.heap.objs.size p (B3 lt) ae.toArray).toS;refine⟨s.heap.objs.size,_,_,_,_,_,_,λi=>ns.getD i 0,rfl,W,?_,?_,?_,?_⟩;exact⟨⟨_,Heap.get?_push_size _ rfl,rfl,rfl⟩,Heap.IsList.push pl.isList _⟩;intro b hb;rw[Heap.size_push];rcases(by simpa using hb:b=s.heap.objs.size\/b=p) with rfl|rfl;exact Cd _;exact BZ lt
 .intro i v hv;have hv:ae[i]? =dE v:=by simpa using hv
  have hi:i<ns.length:=by rw[hl];exact(Au.1 hv).1
  obtain⟨u,hu,t,ru⟩:=rv.get (i:=i) (x:=V.int ns[i]) (by rw[Ax,As hi];rfl);rw[hu] at hv;cases hv;refine⟨t,?_⟩;rw[ru];show Value.int ns[i] t=Value.int (ns.getD i 0) t;rw[Av,As hi,By]
 intro s' t' m
 have I1:Inv X pins σ H {s with heap:=s'.heap,toks:=s'.toks}:=I.kept λb o e=>m.heap b o (λz=>by
  have z:b=s.heap.objs.size:=by simpa using z
  exact absurd (Heap.lt_size e) (by rw[z];exact C0 _)) (Heap.get?_push_of_some _ e)
 have e:({s with heap:=s'.heap,toks:=s'.toks}:pX)=s':=by
  have h1:=m.gens;have h2:=m.drawn;have h3:=m.os;cases s';simp only at h1 h2 h3;subst h1 h2 h3;rfl
 rw[e] at I1;refine⟨.int ns.sum,H,I1,⟨t',?_⟩,q⟩;rw[zcm];have:ae.toArray.size=ns.length:=by rw[AQ,<-hl]
 rw[this,Bq]
section
variable{Q:VK}
end
section
variable{v:V}
end
open PyProof
def znW{K:Ar}(h1:(Value.type a==Value.type b)=kb)(h:(fastBuiltinMro a).map (·.contains (.type b))=dE kb)(hm:D5 b=fJ)(hs:F4 K (.type a) (.type b)=(fastBuiltinMro a).map (·.contains (.type b))):BI K (.type a) (.type b)=dE kb:=by
 unfold BI G5;rw[if_neg (by rw[h1];decide)];show(if D5 b=fJ then F4 K (.type a) (.type b) else fC)=_;rw[if_pos hm,hs,h]
end L2
namespace L2
open AutoSeq1 (wpAny_loadPart')
section
variable{w:World}
end
end L2
namespace L2
section
variable{w:World}
noncomputable abbrev zT1(h:Heap)(l1:qm):Heap:=h.push {cls:= .type "tuple_iterator",data:= .fields #[.ref l1,.int 0 0]}
noncomputable abbrev zT2(h:Heap)(l1 l2:qm):Heap:=(zT1 h l1).push {cls:= .type "tuple_iterator",data:= .fields #[.ref l2,.int 0 0]}
noncomputable abbrev zT3(h:Heap)(l1 l2:qm):Heap:=(zT2 h l1 l2).push {cls:= .type "tuple",data:= .seq #[.ref h.objs.size,.ref (zT1 h l1).objs.size]}
noncomputable abbrev zT4(h:Heap)(l1 l2:qm):Heap:=(zT3 h l1 l2).push {cls:= .type "tuple",data:= .seq #[.none,.none]}
noncomputable abbrev zT5(h:Heap)(l1 l2:qm):Heap:=(zT4 h l1 l2).push {cls:= .type "zip",data:= .fields #[.none,.bool kb,.bool kb,.ref (zT2 h l1 l2).objs.size,.ref (zT3 h l1 l2).objs.size]}
end
mutual
def D.small(n:Nat):D->Prop
 | .int i=>i.natAbs<2^n
 | .tup l=>D.smalls n l
 | .lst l=>D.smalls n l
 | .non=>True
 | .bl _=>True
 | .str _=>False
 | .ins _ _ _=>False
def D.smalls(n:Nat):mZ D->Prop
 |[]=>True
 |d::r=>D.small n d/\D.smalls n r
end
mutual
noncomputable def D.wt(n:Nat):D->Nat
 | .tup l=>D.wts n l
 | .lst l=>D.wts n l
 | .int _=>n
 |_=>0
noncomputable def D.wts(n:Nat):mZ D->Nat
 |[]=>0
 |d::r=>D.wt n d+1+D.wts n r
end
structure zqk(n:Nat)(d:D):Prop where
 seq:∃l,d= .tup l\/d= .lst l
 small:D.small n d
 n0:8<=n
 n1:n<=1900
 deep:D.depth d<=40
 size:(n+3)*D.wt n d+n+1<=16777216
noncomputable abbrev zpt(t:qm)(i:Int):Obj:={cls:= .type "reversed",data:= .fields #[.ref t,rawInt i]}
noncomputable abbrev zqy(h:Heap)(a t:qm)(i:Int):Prop:=h.get? a=dE (zpt t i)
section
variable{w:World}
end
section
variable{tg:Expr}
end
open PyProof
end L2
namespace L2
def zpu(K:Ar):mZ V->Hp->VK->Prop:=λxs H Q=>∃(p:qm) (bs:mZ Bool),xs=[.ref p]/\SqL K H p (bs.map V.bl)/\Q (.bl (bs.all id)) H
def zhC:∀(bs:mZ Bool),(BD bs.length).all (λi=>bs.getD i kb)=bs.all id:=λbs=>by
 rw[Dl,Cy,Cy];constructor;intro h b hb;obtain⟨i,hi,e⟩:=ED.1 hb;have:=h i (Ca.2 hi);rw[Av,As hi,By,e] at this;exact this;intro h i hi;have hi:=Ca.1 hi;rw[Av,As hi,By];exact h _ (C8 hi)
def zfo{bs:mZ Bool}(hc:X.calm=fJ)(I:Inv X pins σ H s)(hq:SqL X.K H p (bs.map V.bl)){R:pW->pX->Prop}
  (k:∀Ia fp wr G n P St tr (s₂:pX),WalksS X.prog X.w X.A.in1 Ia fp wr G n P St->St 0 s₂->TruthOf X.prog X.w X.A.in1 P tr->n=bs.length->(tr=λi=>bs.getD i kb)->(∀s',Moved wr G s₂ s'->Inv X pins σ H s')->R (.ref Ia) s₂):
  wpAny (model X.prog X.w) X.A.in1 (pyIter (.ref p)) R X.xe s:=by
 obtain⟨ae,rv,pl,hz⟩:=I.list hq;have lt:p<s.heap.objs.size:=by
  obtain⟨o,n,e,_⟩:=id pl;exact Heap.lt_size e
 have hl:=rv.length;rw[Aw] at hl;refine wpAny_pyIter_list pl.isList ?_;have W:=(Walks.list (prog:=X.prog) (w:=X.w) (A:=X.A.in1) (I.ok.hd hc) s.heap.objs.size p (B3 lt) ae.toArray).toS;refine k s.heap.objs.size _ _ _ _ _ _ (λi=>bs.getD i kb) _ W ?_ ?_ ?_ rfl ?_;exact⟨⟨_,Heap.get?_push_size _ rfl,rfl,rfl⟩,Heap.IsList.push pl.isList _⟩
 .intro i v s Q E hv hQ;have hv:ae[i]? =dE v:=by simpa using hv
  have hi:i<bs.length:=by rw[hl];exact(Au.1 hv).1
  obtain⟨u,hu,ru⟩:=rv.get (i:=i) (x:=V.bl bs[i]) (by rw[Ax,As hi];rfl);have e0:u=v:=by
   rw[hu] at hv;exact BF hv
  have ru:u=Value.bool bs[i]:=ru;rw[<-e0,ru];refine wpAny_truthy_bool ?_;have e:bs.getD i kb=bs[i]:=by rw[Av,As hi,By]
  rw[<-e];exact hQ
 .rw[AQ,<-hl]
 intro s' m
 have I1:Inv X pins σ H {s with heap:=s'.heap,toks:=s'.toks}:=I.kept λb o e=>m.heap b o (λz=>by
  have z:b=s.heap.objs.size:=by simpa using z
  exact absurd (Heap.lt_size e) (by rw[z];exact C0 _)) (Heap.get?_push_of_some _ e)
 have e:({s with heap:=s'.heap,toks:=s'.toks}:pX)=s':=by
  have h1:=m.gens;have h2:=m.drawn;have h3:=m.os;cases s';simp only at h1 h2 h3;subst h1 h2 h3;rfl
 rw[e] at I1;exact I1
def zhD{K:Ar}(hc:X.calm=fJ)(hK:X.K=K:=by rfl):YK X (.builtin "all") (zpu K):=by
 subst hK;intro pins s σ H xs us Q I r h;obtain⟨p,bs,rfl,hq,q⟩:=h;obtain⟨u,rfl,ru⟩:=Wn r;cases ru;refine call_all_walkS (zfo hc I hq λIa fp wr G n P St tr s₂ W h0 ht hn hU hm=>⟨Ia,fp,wr,G,n,P,St,tr,rfl,W,h0,ht,λs' m=>⟨.bl _,H,hm s' m,rfl,?_⟩⟩);rw[hn,hU,zhC];exact q
def Inv.lstR(I:Inv X pins σ H s)(hH:SqX X.K H l xs):xs.length<=sizeLine/\∃(ae:mZ pW) (n:Nat),zR xs ae/\xs.length=ae.length/\s.heap.get? l=dE {cls:= .type "list",data:= .seq ae.toArray n}:=by
 rcases hH with hH|⟨ae,n,hk,hz,r⟩
 .obtain⟨z,ae,n,r,e⟩:=hH.ok I.hok;exact⟨z,ae,n,r,r.length,e⟩
 have hl:=r.length;have hl2:ae.toList.length=ae.size:=D1;exact⟨⋯,ae.toList,n,r,r.length,I.kIn l _ hk⟩
def znb(K:Ar):R2:=λx y H Q=>∃l b xs zs,x= .ref l/\y= .ref b/\SqX K H l xs/\SqX K H b zs/\xs.length+zs.length<=sizeLine/\∀p,H p=fC->Q (.ref p) (upd H p (.lst (xs++zs)))
def Xp{K:Ar}(hK:X.K=K:=by rfl):OpR X (binaryOp .Add) (znb K):=by
 subst hK;intro pins s σ H x y v u Q I rx ry h;obtain⟨l,b,xs,zs,rfl,rfl,hH,hB,hz,q⟩:=h;cases rx;cases ry;obtain⟨z,ae,n,r,hl,e⟩:=I.lstR hH;obtain⟨z2,bY,n2,r2,hl2,e2⟩:=I.lstR hB;refine PySem.P.add_list e e2 ?_ (by rw[AQ,AQ];omega);have ea:ae.toArray++bY.toArray=(ae++bY).toArray:=by simp
 rw[ea];exact⟨.ref _,_,I.lnew (t':=s.toks) (r.append r2) (by rw[Ba];omega),rfl,q _ I.fresh⟩
def znc(K:Ar):R2:=λx y H Q=>∃l k xs,x= .ref l/\y= .int k/\SqX K H l xs/\ -(2^63)<=k/\k<2^63/\xs.length*k.toNat<=sizeLine/\
 ∀p,H p=fC->Q (.ref p) (upd H p (.lst (AK k.toNat xs).flatten))
def zgy{K:Ar}(hK:X.K=K:=by rfl):OpR X (binaryOp .Mult) (znc K):=by
 subst hK;intro pins s σ H x y v u Q I rx ry h;obtain⟨l,k,xs,rfl,rfl,hH,h1,h2,hz,q⟩:=h;cases rx;obtain⟨t,rfl⟩:=ry;obtain⟨z,ae,n,r,hl,e⟩:=I.lstR hH;have hlen:ae.toArray.size*k.toNat<=sizeLine:=by rw[AQ,<-hl];exact hz
 have jR:¬ae.toArray.size*k.toNat>(2^63-1) / 8:=by
  have:(sizeLine:Nat)<=(2^63-1) / 8:=by decide
  omega
 have oY:¬(!Builtin.List.listFitsIndex k)=fJ:=by
  rw[fitsIndex_both h1 h2];exact B4
 have lC:¬Builtin.List.listTooLong (ae.toArray.size*k.toNat)=fJ:=by
  rw[ziC hlen];exact B4
 have eK:Ht (λx1 x2=>x1++x2) #[] (AK (if ae.toArray.isEmpty=fJ then 0 else k.toNat) ae.toArray)=(AK k.toNat ae).flatten.toArray:=by
  have f0:∀m:Nat,Ht (λx1 x2=>x1++x2) #[] (AK m ae.toArray)=(AK m ae).flatten.toArray:=λm=>by
   have:=zce ae m [];rw[Hv] at this;exact this
  rw[f0];cases ae with
  |nil=>simp
  |cons a r'=>rw[if_neg (by simp)]
 refine wpAny_binaryOp_repeat_ref (T:="list") (U:="int") ∅ ⟨_,e,rfl⟩ (λs'=>typeIs_int s' k t) noFill_list_mul F.fills_int_mul F.slot_int_rmul repeat_list F.slot_int_index.lookup
  (call_meets F.slot_int_rmul (typeIs_int s k t) F.entry_int_rmul (F.args_int_rmul_2 _ _) (int___rmul___int_list k t l ae.toArray n)
   ⟨e,rfl,⟨_,e,rfl⟩,call_meets F.slot_list_mul ⟨_,e,rfl⟩ F.entry_list_mul (F.args_list_mul_2 _ _) (AutoListH.list___mul___list_int_3 l ae.toArray n k t oY jR lC) ⟨e,?_⟩⟩)
 rw[eK];exact⟨.ref _,_,I.lnew (t':=s.toks) (r.rep k.toNat) (by rw[zlv,DJ];exact hz),rfl,q _ I.fresh⟩
section
variable{w:World}
end
end L2
namespace HT
section
variable{w:World}
end
end HT
namespace L2
noncomputable def zpv(K:Ar)(a:qm)(n:Nat):It:=
 ⟨λi H=>i<n/\∃xs,SqL K H a xs/\xs.length=n,λi H x H'=>H'=H/\∀xs,SqL K H a xs->xs[n-1-i]? =dE x,λi H=>i=n⟩
def ziZ{P:Program}{K:Ar}(a it:qm)(n:Nat):zd1 P w K tg (zpv K a n) [it] it (λi h=>h.IsRevIter it a ((n:Int)-1-(i:Int))) where
 mem:=by simp
 obj:=λi h st b hb=>by
  have e:b=it:=by simpa using hb
  subst e;obtain⟨o,ho,_,hd⟩:=st;exact⟨_,ho,λv z=>by rw[hd] at z;cases z⟩
 keep:=λi h h' st k=>st.at λo e=>k it (by simp) _ e
 item:=by
  walk_at "!b";obtain⟨hi,xs,hq,hl⟩:=hg;have hx:xs[n-1-i]? =dE (xs[n-1-i]'⋯):=As ⋯;obtain⟨ae,rv,p,hz⟩:=I.list hq;obtain⟨u,hu,ru⟩:=rv.get hx;obtain⟨f0,f1,f2,f3,f4,f5⟩:=hf it (by simp);have e:(n:Int)-1-(i:Int)=((n-1-i:Nat):Int):=by omega
  rw[e] at st;refine wpAny_pyNext_rev_item st p.isList (x:=u) (by simpa using hu) λh' st' sb=> ?_;have I1:Inv X pins σ H {s with heap:=h',toks:=s.toks}:=I.turned (t':=s.toks) (λb o hb e=>(sb.2 b hb).trans e) f0 f1 f3 f4 f5;have e2:((n-1-i:Nat):Int)-1=(n:Int)-1-((i+1:Nat):Int):=by omega
  rw[e2] at st';obtain⟨oo,ho,eM,hd⟩:=id st';exact⟨u,rfl,zgi (s:={s with heap:=h',toks:=s.toks}) (n:="list_reverseiterator") ho eM hd ∅ ⟨_,H,I1,ru,⟨rfl,λys hy=>by rw[I.list_inj hy hq];exact hx⟩,st',λb hb=>(hf b hb).1⟩⟩
 done:=by
  walk_at "!b";have hg:i=n:=hg;obtain⟨f0,f1,f2,f3,f4,f5⟩:=hf it (by simp);have e:(n:Int)-1-(i:Int)= -1:=by omega
  rw[e] at st;exact wpAny_pyNext_rev_end (I.ok.hd hc) st λh' eb=>⟨rfl,I.turned (t':=s.toks) (λb o hb e=>eb b o hb e) f0 f1 f3 f4 f5⟩
 self:=λ_ _ _ _ _ st h=>wpAny_pyIter_revIter st h
section
variable{tg:Expr}
def zpw(K:Ar)(ta:TA):TI:=λσ H R=>ta σ H λvs H1=>∃a xs,vs=[.ref a]/\SqL K H1 a xs/\R (zpv K a xs.length) H1
def znX{K:Ar}{l:Expr}{ta:TA}{p pos:Pos}(hg:Gl X "reversed")(hm:X.mg "reversed"=fC)(ha:PA X [l] ta)(hK:X.K=K:=by rfl)(hs:starEach [l] X.env=[(kb,eval l X.env)]:=by rfl):
  PI X tg (.Call (.Name "reversed" p) [l] [] pos) (zpw K ta):=by
 subst hK;intro pins s σ H R I h;refine Call_ (Zy I hg hm Boot.«reversed» (BJ (thn (ha pos pins s σ H _ I h) ?_) hs rfl));rintro us s1 ⟨vs,H1,I1,r1,q1⟩;obtain⟨a,xs,e,hq,q⟩:=q1;subst e;obtain⟨u,rfl,ru⟩:=Wn r1;cases ru;obtain⟨ae,rv,p,hz⟩:=I1.list hq;have hl:=rv.length;refine call_reversed_list p.isList ?_;have I2:Inv X pins σ H1 {s1 with heap:=s1.heap.push (revObj a ((ae.toArray.size:Int)-1)),toks:=s1.toks}:=I1.kept (t':=s1.toks) λb o e=>Heap.get?_push_of_some _ e;refine wpAny_pyIter_revIter (s:={s1 with heap:=s1.heap.push (revObj a ((ae.toArray.size:Int)-1))}) ⟨_,Heap.get?_push_size _ rfl,rfl,rfl⟩ ?_;refine⟨s1.heap.objs.size,[s1.heap.objs.size],_,_,H1,rfl,I2,ziZ a s1.heap.objs.size xs.length,?_,λb hb=> ?_,q⟩
 .have e:((ae.toArray.size:Nat):Int)-1=(xs.length:Int)-1-((0:Nat):Int):=by rw[AQ];omega
  show Heap.IsRevIter _ _ _ _;rw[<-e];exact⟨_,Heap.get?_push_size _ rfl,rfl,rfl⟩
 have e:b=s1.heap.objs.size:=by simpa using hb
 subst e;exact Inv.fpOk I1 (AF _) (I1.hok.fresh (AF _))
end
section
def zi0{a b c}:starEach (.Tuple a b c::r) env=(kb,eval (.Tuple a b c) env)::starEach r env:=by rw[starEach];simp
def zlA{a b}:starEach (.List a b::r) env=(kb,eval (.List a b) env)::starEach r env:=by rw[starEach];simp
def zeg{a b c}:starEach (.Constant a b c::r) env=(kb,eval (.Constant a b c) env)::starEach r env:=by rw[starEach];simp
def zlB{a b}:starEach (.Name a b::r) env=(kb,eval (.Name a b) env)::starEach r env:=by rw[starEach];simp
def zda{a b c}:starEach (.Subscript a b c::r) env=(kb,eval (.Subscript a b c) env)::starEach r env:=by rw[starEach];simp
def zi1{a b c d}:starEach (.BinOp a b c d::r) env=(kb,eval (.BinOp a b c d) env)::starEach r env:=by rw[starEach];simp
def zfp{a b c}:starEach (.UnaryOp a b c::r) env=(kb,eval (.UnaryOp a b c) env)::starEach r env:=by rw[starEach];simp
def zlC{a b c d}:starEach (.Call a b c d::r) env=(kb,eval (.Call a b c d) env)::starEach r env:=by rw[starEach];simp
def zdb{a b c}:starEach (.Attribute a b c::r) env=(kb,eval (.Attribute a b c) env)::starEach r env:=by rw[starEach];simp
end
open PySem.Builtin
end L2
namespace L2
open PySem.Calls
section
variable{w:World}{T:String}{r d:qm}{n:Nat}{P:Nat->pW->Prop}{OK:Heap->Prop}
end
def znY(h:n<64):n<=sizeLine:=AA (AX h) ∅
section
variable{w:World}{T:String}{r d:qm}{n:Nat}{P:Nat->pW->Prop}{OK:Heap->Prop}
end
end L2
namespace L2
structure Vn where
 C:pU Str
 m:Str
 d:Str
structure xK where
 id:Nat
 par:Arguments
 body:Hw
 sc:Scope
 t:Vn
 fr:mZ Str
noncomputable def Vn.q(t:Vn):Str:=(t.d++".<locals>.")++"<lambda>"
noncomputable abbrev xK.q(L:xK):Str:=L.t.q
noncomputable def zi2(K:Ar):pU Str->Str->pU qm
 |none,m=>(match AY K mainGlobals m with
  |some (dE (.ref f))=>dE f
  |_=>fC)
 |some C,m=>(match AY K mainGlobals C with
  |some (dE (.ref g))=>(match B2 K (.ref g) m with
   |some (dE (.ref f))=>dE f
   |_=>fC)
  |_=>fC)
noncomputable def zi3(K:Ar)(f:qm):pU (qm×qm):=match K.lookup f with
 |some ⟨_,_,.func fd,_⟩=>(match fd.code with
  | .ref c=>(match K.lookup c with
   |some ⟨_,_,.fields vs,_⟩=>(match (vs[11]? :pU pW) with
    |some (.ref P)=>if DB K c P then dE (c,P) else fC
    |_=>fC)
   |_=>fC)
  |_=>fC)
 |_=>fC
noncomputable def Vo(K:Ar)(t:Vn):pU (qm×qm):=(zi2 K t.C t.m).bind (zi3 K)
inductive Xv where
 |non|bl (b:Bool)|int (i:Int)|str (x:Str)|tup (xs:List Xv)|ct (xs:List Xv)|ref (n:Nat)|lam (L:xK) (xs:List Xv)
inductive Ce where
 |lst (xs:List Xv)
 |frz (xs:List Xv)
 |dk (kvs:List (Key×Xv))
 |dt (kvs:List (List Key×Xv))
 |ins (nm:Str) (fs:List (Str×Xv))
 |fdk (kvs:List (Key×Xv))
 |dn (kvs:List (NK×Xv×Xv))
 |exc (nm:Str)
 |tab (t:Vn)
 |fdn (kvs:List (NK×Xv×Xv))
abbrev Sto:=mZ Ce
abbrev Rho:=mZ (pU Xv)
noncomputable def Ce.fz:Ce->Bool
 | .frz _=>fJ
 | .fdk _=>fJ
 | .fdn _=>fJ
 | .exc _=>fJ
 |_=>kb
noncomputable def HO.mu:HO->Bool
 | .lst _=>fJ
 | .dK _=>fJ
 | .dT _=>fJ
 | .dN _=>fJ
 | .ins _ _ _=>fJ
 | .set _ _=>fJ
 | .tbl _=>fJ
 |_=>kb
def wb(H H':Hp):Prop:=∀b u,H b=dE u->u.mu=kb->H' b=dE u
def wb.refl(H:Hp):wb H H:=λ_ _ e _=>e
def wb.trans(a:wb H H1)(b:wb H1 H2):wb H H2:=λx u e m=>b x u (a x u e m) m
def wb.same(S:Zz H H'):wb H H':=λb u e _=>S b u e
structure Ext(j:mZ qm)(H:Hp)(j':mZ qm)(H':Hp):Prop where
 pre:∀(n:Nat) a,j[n]? =dE a->j'[n]? =dE a
 imm:wb H H'
def Ext.refl:Ext j H j H:=⟨λ_ _ e=>e,wb.refl _⟩
def Ext.trans(a:Ext j H j1 H1)(b:Ext j1 H1 j2 H2):Ext j H j2 H2:=⟨λn x e=>b.pre n x (a.pre n x e),a.imm.trans b.imm⟩
def Ext.same(S:Zz H H'):Ext j H j H':=⟨λ_ _ e=>e,wb.same S⟩
def YR(H:Hp)(q:Str)(c:qm):Prop:=∃(oc:Obj) (fs:Array pW) (t:Tok),H c=dE (.frz oc (.own 0))/\oc.data= .fields fs/\fs[1]? =dE (.str q t)
structure Vu(H:Hp)(L:xK)(f:qm)(vs:mZ V):Prop where
 ex:∃(aO:mZ (Str×qm)) (pm dc:pW) (c:qm),H f=dE (.frz (CQ "<lambda>" L.q L.par L.body L.sc aO pm c dc) (.own 0))/\YR H L.q c/\
  (∀(i:Nat) x v,L.fr[i]? =dE x->vs[i]? =dE v->∃(a:qm) (o:Obj) (u:pW),aO.lookup x=dE a/\H a=dE (.frz o (.own 0))/\o.data= .cell (dE u)/\zI v u)/\
  (∀x y a,aO.lookup x=dE a->aO.lookup y=dE a->x=y)/\(∀y∈L.sc.names,y.2= .free->∃a,aO.lookup y.1=dE a)/\
  ∀x a,aO.lookup x=dE a->∃(o:Obj) (u:pU pW),H a=dE (.frz o (.own 0))/\o.data= .cell u
def YR.mono(k:wb H H')(h:YR H q c):YR H' q c:=by
 obtain⟨oc,fs,t,e,r⟩:=h;exact⟨oc,fs,t,k _ _ e rfl,r⟩
def Vu.mono(k:wb H H')(h:Vu H L f vs):Vu H' L f vs:=by
 obtain⟨aO,pm,dc,c,h1,h2,h3,h4,h5,h6⟩:=h.ex;refine⟨aO,pm,dc,c,k _ _ h1 rfl,h2.mono k,λi x v e1 e2=> ?_,h4,h5,λx a e=> ?_⟩;obtain⟨a,o,u,e3,e4,r⟩:=h3 i x v e1 e2;exact⟨a,o,u,e3,k _ _ e4 rfl,r⟩;obtain⟨o,u,e3,r⟩:=h6 x a e;exact⟨o,u,k _ _ e3 rfl,r⟩
mutual
inductive Xis(K:Ar)(j:List Addr)(H:Hp):Xv->V->Prop where
 |non:Xis K j H .non .non
 |bl (b:Bool):Xis K j H (.bl b) (.bl b)
 |int (i:Int):Xis K j H (.int i) (.int i)
 |str (x:Str):Xis K j H (.str x) (.str x)
 |tup {a:Addr} {vs:List V} {xs:List Xv}:H a=dE (.tup vs)->zL K j H xs vs->Xis K j H (.tup xs) (.ref a)
 |ct {a:Addr} {vs:List V} {xs:List Xv}:(∀H,SqT K H a vs)->zL K j H xs vs->Xis K j H (.ct xs) (.ref a)
 |ref {n:Nat} {a:Addr}:j[n]? =dE a->Xis K j H (.ref n) (.ref a)
 |lam {f:Addr} {vs:List V} {L:xK} {xs:List Xv}:Vu H L f vs->zL K j H xs vs->Xis K j H (.lam L xs) (.ref f)
inductive zL(K:Ar)(j:List Addr)(H:Hp):List Xv->List V->Prop where
 |nil:zL K j H [] []
 |cons {x:Xv} {v:V} {xs:List Xv} {vs:List V}:Xis K j H x v->zL K j H xs vs->zL K j H (x::xs) (v::vs)
end
def Xis.mono{K:Ar}(S:Ext j H j' H')(h:Xis K j H x v):Xis K j' H' x v:=
 Xis.rec (motive_1:=λx v _=>Xis K j' H' x v) (motive_2:=λxs vs _=>zL K j' H' xs vs) .non .bl .int .str (λh _ l=> .tup (S.imm _ _ h rfl) l) (λh _ l=> .ct h l) (λh=> .ref (S.pre _ _ h)) (λh _ l=> .lam (h.mono S.imm) l) .nil (λ_ _ h l=> .cons h l) h
def zL.ind{K:Ar}{m:mZ Xv->mZ V->Prop}(h0:m [] [])(h1:∀{x:Xv} {v:V} {xs:mZ Xv} {vs:mZ V},Xis K j H x v->zL K j H xs vs->m xs vs->m (x::xs) (v::vs)){xs:mZ Xv}{vs:mZ V}(h:zL K j H xs vs):m xs vs:=
 zL.rec (motive_1:=λ_ _ _=>True) (motive_2:=λxs vs _=>m xs vs) trivial (λ_=>trivial) (λ_=>trivial) (λ_=>trivial) (λ_ _ _=>trivial) (λ_ _ _=>trivial) (λ_=>trivial) (λ_ _ _=>trivial) h0 (λa b _ c=>h1 a b c) h
def zL.mono{K:Ar}(S:Ext j H j' H')(h:zL K j H xs vs):zL K j' H' xs vs:=h.ind (m:=zL K j' H') .nil λa _ c=> .cons (a.mono S) c
section
variable{K:Ar}
def zL.len(h:zL K j H xs vs):vs.length=xs.length:=h.ind (m:=λxs vs=>vs.length=xs.length) rfl λ_ _ e=>congrArg (· +1) e
def zL.get{xs:mZ Xv}{vs:mZ V}{i:Nat}{x:Xv}(h:zL K j H xs vs):xs[i]? =dE x->∃v,vs[i]? =dE v/\Xis K j H x v:=
 h.ind (m:=λxs vs=>∀i,xs[i]? =dE x->∃v,vs[i]? =dE v/\Xis K j H x v) (λi e=>by simp at e) (λa _ ih i e=>by
  cases i with
  |zero=>simp at e;subst e;exact⟨_,rfl,a⟩
  |succ i=>exact ih i e) i
def zL.getV{xs:mZ Xv}{vs:mZ V}{i:Nat}{v:V}(h:zL K j H xs vs):vs[i]? =dE v->∃x,xs[i]? =dE x/\Xis K j H x v:=
 h.ind (m:=λxs vs=>∀i,vs[i]? =dE v->∃x,xs[i]? =dE x/\Xis K j H x v) (λi e=>by simp at e) (λa _ ih i e=>by
  cases i with
  |zero=>simp at e;subst e;exact⟨_,rfl,a⟩
  |succ i=>exact ih i e) i
def zL.append(h:zL K j H xs vs)(k:zL K j H ys ws):zL K j H (xs++ys) (vs++ws):=h.ind (m:=λxs vs=>zL K j H (xs++ys) (vs++ws)) k λa _ c=> .cons a c
def zL.one(h:Xis K j H x v):zL K j H [x] [v]:= .cons h .nil
def zL.take(n:Nat)(h:zL K j H xs vs):zL K j H (xs.take n) (vs.take n):=
 h.ind (m:=λxs vs=>∀n,zL K j H (xs.take n) (vs.take n)) (λn=>by cases n<;>exact .nil) (λa _ ih n=>by
  cases n with
  |zero=>exact .nil
  |succ n=>exact .cons a (ih n)) n
def zL.drop(n:Nat)(h:zL K j H xs vs):zL K j H (xs.drop n) (vs.drop n):=
 h.ind (m:=λxs vs=>∀n,zL K j H (xs.drop n) (vs.drop n)) (λn=>by cases n<;>exact .nil) (λa b ih n=>by
  cases n with
  |zero=>exact .cons a b
  |succ n=>exact ih n) n
def zL.ints(ns:mZ Int):zL K j H (ns.map Xv.int) (ns.map V.int):=by
 induction ns with
 |nil=>exact .nil
 |cons n r ih=>exact .cons (.int n) ih
def zL.set(hv:Xis K j H x v)(n:Nat)(h:zL K j H xs vs):zL K j H (xs.set n x) (vs.set n v):=
 h.ind (m:=λxs vs=>∀n,zL K j H (xs.set n x) (vs.set n v)) (λ_=> .nil) (λa b ih n=>by
  cases n with
  |zero=>exact .cons hv b
  |succ n=>exact .cons a (ih n)) n
def zL.dropLast(h:zL K j H xs vs):zL K j H xs.dropLast vs.dropLast:=by
 rw[Es,Es,h.len];exact h.take _
def zL.at_(h:zL K j H xs vs)(e:atI xs i=dE x):∃v,atI vs i=dE v/\Xis K j H x v:=by
 unfold atI at e ⊢;rw[h.len];cases e1:ixN xs.length i with
 |none=>rw[e1] at e;cases e
 |some m=>
  rw[e1] at e;obtain⟨v,e3,e4⟩:=h.get (i:=m) e;exact⟨v,e3,e4⟩
def Xis.int_inv(h:Xis K j H (.int i) v):v= .int i:=by cases h;rfl
def Xis.bl_inv(h:Xis K j H (.bl b) v):v= .bl b:=by cases h;rfl
def Xis.non_inv(h:Xis K j H .non v):v= .non:=by cases h;rfl
def Xis.ref_inv(h:Xis K j H (.ref n) v):∃a,v= .ref a/\j[n]? =dE a:=by cases h with|ref e=>exact⟨_,rfl,e⟩
def Xis.tup_inv(h:Xis K j H (.tup xs) v):∃a vs,v= .ref a/\H a=dE (.tup vs)/\zL K j H xs vs:=by cases h with|tup a b=>exact⟨_,_,rfl,a,b⟩
def zL.cons_inv(h:zL K j H (x::xs) vs):∃v r,vs=v::r/\Xis K j H x v/\zL K j H xs r:=by cases h with|cons a b=>exact⟨_,_,rfl,a,b⟩
def zL.nil_inv(h:zL K j H [] vs):vs=[]:=by cases h;rfl
def zL.d1(h:zL K j H [a] vs):∃x,vs=[x]/\Xis K j H a x:=by
 obtain⟨x,r,rfl,hx,h⟩:=h.cons_inv;obtain rfl:=h.nil_inv;exact⟨x,rfl,hx⟩
def zL.d2(h:zL K j H [a,b] vs):∃x y,vs=[x,y]/\Xis K j H a x/\Xis K j H b y:=by
 obtain⟨x,r,rfl,hx,h⟩:=h.cons_inv;obtain⟨y,rfl,hy⟩:=h.d1;exact⟨x,y,rfl,hx,hy⟩
noncomputable def Xv.tupOf:Xv->pU (mZ Xv)
 | .tup xs=>dE xs
 | .ct xs=>dE xs
 |_=>fC
def Xis.tupO(h:Xis K j H x v)(e:x.tupOf=dE xs):∃a vs,v= .ref a/\SqT K H a vs/\zL K j H xs vs:=by
 cases h with
 |tup h l=>simp[Xv.tupOf] at e;subst e;exact⟨_,_,rfl,SqT.of h,l⟩
 |ct h l=>simp[Xv.tupOf] at e;subst e;exact⟨_,_,rfl,h H,l⟩
 |_=>simp[Xv.tupOf] at e
end
inductive KX{κ:Type}(K:Ar)(j:List Addr)(H:Hp):List (κ×Xv)->List (κ×V)->Prop where
 |nil:KX K j H [] []
 |cons {k:κ} {x:Xv} {v:V} {r:List (κ×Xv)} {rs:List (κ×V)}:Xis K j H x v->KX K j H r rs->KX K j H ((k,x)::r) ((k,v)::rs)
def KX.mono{κ:Type}{K:Ar}(S:Ext j H j' H'){xs:mZ (κ×Xv)}{vs:mZ (κ×V)}(h:KX K j H xs vs):KX K j' H' xs vs:=by
 induction h with
 |nil=>exact .nil
 |cons h _ ih=>exact .cons (h.mono S) ih
mutual
noncomputable def zpx:Xv->pU NK
 | .int i=>dE (.int i)
 | .str x=>dE (.str x)
 | .tup l=>(zi4 l).map .tup
 | .ct l=>(zi4 l).map .tup
 | .non=>fC
 | .bl _=>fC
 | .ref _=>fC
 | .lam _ _=>fC
noncomputable def zi4:mZ Xv->pU (mZ NK)
 |[]=>dE []
 |x::r=>(zpx x).bind λk=>(zi4 r).map (k:: ·)
end
inductive NX(K:Ar)(j:List Addr)(H:Hp):List (NK×Xv×Xv)->List (NK×Addr×V)->Prop where
 |nil:NX K j H [] []
 |cons {k:NK} {x y:Xv} {b:Addr} {v:V} {r:List (NK×Xv×Xv)} {rs:List (NK×Addr×V)}:zpx x=dE k/\zlg k<=8->Xis K j H x (.ref b)->Xis K j H y v->NX K j H r rs->NX K j H ((k,x,y)::r) ((k,b,v)::rs)
def NX.mono{K:Ar}(S:Ext j H j' H')(h:NX K j H xs vs):NX K j' H' xs vs:=by
 induction h with
 |nil=>exact .nil
 |cons e h1 h2 _ ih=>exact .cons e (h1.mono S) (h2.mono S) ih
def Uq(K:Ar)(j:mZ qm)(H:Hp)(a:qm):Ce->Prop
 | .lst xs=>∃vs,H a=dE (.lst vs)/\zL K j H xs vs
 | .frz xs=>∃vs,((∃o,H a=dE (.frz o (.lst vs)))\/∀H,SqX K H a vs)/\zL K j H xs vs
 | .dk kvs=>∃ks:mZ (Key×V),H a=dE (.dK ks)/\KX K j H kvs ks
 | .dt kvs=>∃ks:mZ (mZ Key×V),H a=dE (.dT ks)/\KX K j H kvs ks
 | .ins nm fs=>∃(C dx:qm) (vs:mZ (Str×V)),AY K mainGlobals nm=dE (dE (.ref C))/\H a=dE (.ins C dx vs)/\KX K j H fs vs
 | .fdk kvs=>∃(o:Obj) (ks:mZ (Key×V)),H a=dE (.frz o (.dK ks))/\KX K j H kvs ks
 | .dn kvs=>∃ks:mZ (NK×qm×V),H a=dE (.dN ks)/\NX K j H kvs ks
 | .fdn kvs=>∃(o:Obj) (ks:mZ (NK×qm×V)),H a=dE (.frz o (.dN ks))/\NX K j H kvs ks
 | .exc nm=>∃C:qm,AY K mainGlobals nm=dE (dE (.ref C))/\H a=dE (znV a (.ref C))
 | .tab t=>∃(ps:Array pW) (d:qm),H a=dE (.tbl ps)/\Vo K t=dE (d,a)/\TriplesOk ps.toList/\∀pos cv,codeAmong pos ps.toList=dE cv->∃c,cv= .ref c/\YR H t.q c
def Uq.mu{K:Ar}(h:Uq K j H a c)(z:c.fz=kb):∃o,H a=dE o/\o.mu=fJ:=by
 cases c with
 |lst l=>obtain⟨_,e,_⟩:=h;exact⟨_,e,rfl⟩
 |dk l=>obtain⟨_,e,_⟩:=h;exact⟨_,e,rfl⟩
 |dt l=>obtain⟨_,e,_⟩:=h;exact⟨_,e,rfl⟩
 |ins n l=>obtain⟨_,_,_,_,e,_⟩:=h;exact⟨_,e,rfl⟩
 |dn l=>obtain⟨_,e,_⟩:=h;exact⟨_,e,rfl⟩
 |tab t=>obtain⟨_,_,e,_⟩:=h;exact⟨_,e,rfl⟩
 |_=>cases z
def Uq.mono{K:Ar}(S:Ext j H j' H')(h:c.fz=kb->H' a=H a)(k:Uq K j H a c):Uq K j' H' a c:=by
 cases c with
 |lst l=>obtain⟨_,e,l⟩:=k;exact⟨_,(h rfl).trans e,l.mono S⟩
 |frz l=>
  obtain⟨_,e,l⟩:=k;rcases e with⟨o,e⟩|e;exact⟨_,.inl ⟨o,S.imm _ _ e rfl⟩,l.mono S⟩;exact⟨_,.inr e,l.mono S⟩
 |dk l=>obtain⟨_,e,l⟩:=k;exact⟨_,(h rfl).trans e,l.mono S⟩
 |dt l=>obtain⟨_,e,l⟩:=k;exact⟨_,(h rfl).trans e,l.mono S⟩
 |ins n l=>obtain⟨_,_,_,n,e,l⟩:=k;exact⟨_,_,_,n,(h rfl).trans e,l.mono S⟩
 |fdk l=>obtain⟨_,_,e,l⟩:=k;exact⟨_,_,S.imm _ _ e rfl,l.mono S⟩
 |dn l=>obtain⟨_,e,l⟩:=k;exact⟨_,(h rfl).trans e,l.mono S⟩
 |fdn l=>obtain⟨_,_,e,l⟩:=k;exact⟨_,_,S.imm _ _ e rfl,l.mono S⟩
 |exc c=>obtain⟨C,n,e⟩:=k;exact⟨C,n,S.imm _ _ e rfl⟩
 |tab t=>
  obtain⟨ps,d,e,x,t,r⟩:=k;refine⟨ps,d,(h rfl).trans e,x,t,λpos cv q=> ?_⟩;obtain⟨c,e1,e2⟩:=r pos cv q;exact⟨c,e1,e2.mono S.imm⟩
structure Fm where
 H0:Hp
 j0:mZ qm
 S0:Sto
structure En(K:Ar)(F:Fm)(j:mZ qm)(H:Hp)(σ:St)(ρ:Rho)(S:Sto):Prop where
 len:σ.length=ρ.length
 slot:∀(i:Nat) x,ρ[i]? =dE (dE x)->∃v,σ[i]? =dE (dE v)/\Xis K j H x v
 jl:j.length=S.length
 inj:∀(n m:Nat) a c d,j[n]? =dE a->j[m]? =dE a->S[n]? =dE c->S[m]? =dE d->c.fz=kb->d.fz=kb->n=m
 cel:∀(n:Nat) c a,S[n]? =dE c->j[n]? =dE a->Uq K j H a c
 ext:Ext F.j0 F.H0 j H
 old:∀(n:Nat) c,F.S0[n]? =dE c->∃c',S[n]? =dE c'/\(c'.fz=kb->c.fz=kb)/\(c.fz=fJ->c'=c)
 l0:F.j0.length=F.S0.length
 keep:∀b u,F.H0 b=dE u->H b=dE u\/∃(n:Nat) (c:Ce),F.j0[n]? =dE b/\F.S0[n]? =dE c/\c.fz=kb
 fresh:∀(n:Nat) a,F.j0.length<=n->j[n]? =dE a->F.H0 a=fC
 dom:∀b,H b=fC->F.H0 b=fC
section
variable{K:Ar}{F:Fm}{j j':mZ qm}{H':Hp}{σ':St}{ρ ρ':Rho}{S S':Sto}{v:V}{x:Xv}{a p:qm}{o:HO}{i n:Nat}{c c':Ce}
def En.heap(E:En K F j H σ ρ S)(Sm:Zz H H'):En K F j H' σ ρ S:=by
 have X:Ext j H j H':=Ext.same Sm;refine⟨E.len,λi x e=> ?_,E.jl,E.inj,λn c a e1 e2=> ?_,E.ext.trans X,E.old,E.l0,λb u e=> ?_,E.fresh,λb e=>E.dom b ?_⟩;obtain⟨v,e1,e2⟩:=E.slot i x e;exact⟨v,e1,e2.mono X⟩;have h:=E.cel n c a e1 e2;refine h.mono X λz=> ?_;obtain⟨o,e,_⟩:=h.mu z;exact(Sm _ _ e).trans e.symm;rcases E.keep b u e with h|h;exact .inl (Sm _ _ h);exact .inr h
 cases e':H b with
 |none=>rfl
 |some u=>rw[Sm b u e'] at e;cases e
def En.new(E:En K F j H σ ρ S)(h:H p=fC):En K F j (upd H p o) σ ρ S/\Ext j H j (upd H p o):=⟨E.heap (yN h),Ext.same (yN h)⟩
def En.cell(E:En K F j H σ ρ S)(h:H p=fC)(hc:Uq K (j++[p]) (upd H p o) p c):En K F (j++[p]) (upd H p o) σ ρ (S++[c])/\Ext j H (j++[p]) (upd H p o):=by
 have X:Ext j H (j++[p]) (upd H p o):=⟨λn a e=>by rw[Az (Au.1 e).1];exact e,wb.same (yN h)⟩;have iO:∀{n:Nat} {a:qm},(j++[p])[n]? =dE a->j[n]? =dE a\/(n=j.length/\a=p):=λ{n a} e=>by
  by_cases hn:n<j.length;rw[Az hn] at e;exact .inl e
  rw[AG ⋯] at e;cases hm:n-j.length with
  |zero=>rw[hm] at e;simp at e;exact .inr ⟨⋯,e.symm⟩
  |succ m=>rw[hm] at e;simp at e
 have sat:∀{n:Nat} {d:Ce},(S++[c])[n]? =dE d->S[n]? =dE d\/(n=S.length/\d=c):=λ{n d} e=>by
  by_cases hn:n<S.length;rw[Az hn] at e;exact .inl e
  rw[AG ⋯] at e;cases hm:n-S.length with
  |zero=>rw[hm] at e;simp at e;exact .inr ⟨⋯,e.symm⟩
  |succ m=>rw[hm] at e;simp at e
 have lt:∀{n:Nat} {d:Ce},S[n]? =dE d->n<S.length:=λe=>(Au.1 e).1;have jm:∀{n:Nat} {a:qm} {d:Ce},j[n]? =dE a->S[n]? =dE d->d.fz=kb->a≠p:=λ{n a d} e1 e2 z q=>by
  subst q;obtain⟨o',e,_⟩:=(E.cel n d a e2 e1).mu z;rw[h] at e;cases e
 refine⟨⟨E.len,λi x e=> ?_,by simp[E.jl],λn m a c1 c2 e1 e2 e3 e4 z1 z2=> ?_,λn d a e1 e2=> ?_,E.ext.trans X,λn d e=> ?_,E.l0,λb u e=> ?_,λn a hn e=> ?_,λb e=> ?_⟩,X⟩;obtain⟨v,e1,e2⟩:=E.slot i x e;exact⟨v,e1,e2.mono X⟩
 .rcases sat e3 with e3|⟨e3,_⟩
  .have h1:j[n]? =dE a:=by
    rcases iO e1 with h1|⟨h1,_⟩
    .exact h1
    have:=lt e3;rw[E.jl] at h1;omega
   rcases sat e4 with e4|⟨e4,_⟩
   .have h2:j[m]? =dE a:=by
     rcases iO e2 with h2|⟨h2,_⟩
     .exact h2
     have:=lt e4;rw[E.jl] at h2;omega
    exact E.inj n m a c1 c2 h1 h2 e3 e4 z1 z2
   have:a=p:=by
    rcases iO e2 with h2|⟨_,h2⟩
    .have:=(Au.1 h2).1;rw[E.jl] at this;omega
    exact h2
   exact absurd this (jm h1 e3 z1)
  have:a=p:=by
   rcases iO e1 with h2|⟨_,h2⟩
   .have:=(Au.1 h2).1;rw[E.jl] at this;omega
   exact h2
  rcases sat e4 with e4|⟨e4,_⟩
  .have h2:j[m]? =dE a:=by
    rcases iO e2 with h2|⟨h2,_⟩
    .exact h2
    have:=lt e4;rw[E.jl] at h2;omega
   exact absurd this (jm h2 e4 z2)
  rw[e3,e4]
 .rcases sat e1 with e1|⟨e1,rfl⟩
  .have h2:j[n]? =dE a:=by
    rcases iO e2 with h2|⟨h2,_⟩
    .exact h2
    have:=lt e1;rw[E.jl] at h2;omega
   have hh:=E.cel n d a e1 h2;exact hh.mono X λz=>zi (jm h2 e1 z)
  have:a=p:=by
   rcases iO e2 with h2|⟨_,h2⟩
   .have:=(Au.1 h2).1;rw[E.jl] at this;omega
   exact h2
  subst this;exact hc
 .obtain⟨d',e1,e2⟩:=E.old n d e;exact⟨d',by rw[Az (lt e1)];exact e1,e2⟩
 .rcases E.keep b u e with h'|h';exact .inl (yN h _ _ h');exact .inr h'
 .rcases iO e with e|⟨_,rfl⟩
  .exact E.fresh n a hn e
  exact E.dom _ h
 refine E.dom b ?_;cases e':H b with
 |none=>rfl
 |some u=>rw[yN h b u e'] at e;cases e
set_option tactic.hygienic true in
def En.writeF(E:En K F j H σ ρ S)(hs:S[n]? =dE c)(z:c.fz=kb)(hj:j[n]? =dE a)(hc:∀X:Ext j H j (upd H a o),Uq K j (upd H a o) a c'):En K F j (upd H a o) σ ρ (S.set n c')/\Ext j H j (upd H a o):=by
 obtain⟨o0,h0,m0⟩:=(E.cel n c a hs hj).mu z
 have X:Ext j H j (upd H a o):=⟨λ_ _ e=>e,λb u e m=>by
  have:b≠a:=λq=>by subst q;rw[h0] at e;cases e;rw[m] at m0;cases m0
  rw[zi this];exact e⟩
 have sat:∀{m:Nat} {d:Ce},(S.set n c')[m]? =dE d->(m=n/\d=c')\/(m≠n/\S[m]? =dE d):=λ{m d} e=>by
  rw[Bc] at e;split at e;rename_i q;split at e;cases e;exact .inl ⟨q.symm,rfl⟩;cases e;rename_i q;exact .inr ⟨λr=>q r.symm,e⟩
 have sd:∀{m:Nat} {d:Ce},(S.set n c')[m]? =dE d->∃d',S[m]? =dE d'/\(d.fz=kb->d'.fz=kb):=λ{m d} e=>by
  rcases sat e with⟨rfl,rfl⟩|⟨_,e⟩
  .exact⟨c,hs,λ_=>z⟩
  exact⟨d,e,λy=>y⟩
 refine⟨⟨E.len,λi x e=> ?_,by simp[E.jl],λk m b c1 c2 e1 e2 e3 e4 z1 z2=> ?_,λm d b e1 e2=> ?_,E.ext.trans X,λm d e=> ?_,E.l0,λb u e=> ?_,E.fresh,λb e=> ?_⟩,X⟩;obtain⟨v,e1,e2⟩:=E.slot i x e;exact⟨v,e1,e2.mono X⟩;obtain⟨d1,f1,g1⟩:=sd e3;obtain⟨d2,f2,g2⟩:=sd e4;exact E.inj k m b d1 d2 e1 e2 f1 f2 (g1 z1) (g2 z2)
 .rcases sat e1 with⟨rfl,rfl⟩|⟨q,e1⟩
  .rw[hj] at e2;cases e2;exact hc X
  refine (E.cel m d b e1 e2).mono X λzd=>zi λr=> ?_;subst r;exact q (E.inj m n b d c e2 hj e1 hs zd z)
 .obtain⟨d',e1,e2,e3⟩:=E.old m d e;by_cases q:m=n;subst q;rw[hs] at e1;cases e1;refine⟨c',by rw[Bc,if_pos rfl,if_pos (Au.1 hs).1],λ_=>e2 z,λy=> ?_⟩;rw[e2 z] at y;cases y;exact⟨d',by rw[Bc,if_neg (λr=>q r.symm)];exact e1,e2,e3⟩
 .by_cases q:b=a
  .subst q;by_cases hn:n<F.j0.length
   .have lI:F.j0[n]? =dE b:=by
     have e1:F.j0[n]? =dE F.j0[n]:=As hn;have e2:=E.ext.pre n _ e1;rw[hj] at e2;cases e2;exact e1
    have eL:n<F.S0.length:=by rw[<-E.l0];exact hn
    obtain⟨d',f1,f2,_⟩:=E.old n _ (As eL);rw[hs] at f1;cases f1;exact .inr ⟨n,_,lI,As eL,f2 z⟩
   rw[E.fresh n b ⋯ hj] at e;cases e
  rcases E.keep b u e with h|h;exact .inl (by rw[zi q];exact h);exact .inr h
 by_cases q:b=a;subst q;rw[zw] at e;cases e;rw[zi q] at e;exact E.dom b e
def En.write(E:En K F j H σ ρ S)(hs:S[n]? =dE c)(z:c.fz=kb)(hj:j[n]? =dE a)(_:c'.fz=kb)(hc:∀X:Ext j H j (upd H a o),Uq K j (upd H a o) a c'):En K F j (upd H a o) σ ρ (S.set n c')/\Ext j H j (upd H a o):=E.writeF hs z hj hc
def En.slots(E:En K F j H σ ρ S)(hl:σ'.length=ρ'.length)(h:∀(i:Nat) x,ρ'[i]? =dE (dE x)->∃v,σ'[i]? =dE (dE v)/\Xis K j H x v):En K F j H σ' ρ' S:=
 ⟨hl,h,E.jl,E.inj,E.cel,E.ext,E.old,E.l0,E.keep,E.fresh,E.dom⟩
set_option tactic.hygienic true in
def En.set(E:En K F j H σ ρ S)(h:Xis K j H x v):En K F j H (σ.set i (dE v)) (ρ.set i (dE x)) S:=E.slots (by simp[E.len]) λk y e=>by
 rw[Bc] at e ⊢;split at e;rename_i q;subst q;split at e;rename_i hl;cases e;rw[if_pos rfl,if_pos (by rw[E.len];exact hl)];exact⟨v,rfl,h⟩;cases e;rename_i q;rw[if_neg q];exact E.slot k y e
def En.enter(E:En K F j H σ ρ S)(hl:σ'.length=ρ'.length)(h:∀(i:Nat) x,ρ'[i]? =dE (dE x)->∃v,σ'[i]? =dE (dE v)/\Xis K j H x v):En K ⟨H,j,S⟩ j H σ' ρ' S:=
 ⟨hl,h,E.jl,E.inj,E.cel,Ext.refl,λn c e=>⟨c,e,λz=>z,λ_=>rfl⟩,E.jl,λb u e=> .inl e,λn a hn e=>by have:=(Au.1 e).1;dsimp only at hn;omega,λb e=>e⟩
def En.leave(E:En K F j H σ ρ S)(X:En K ⟨H,j,S⟩ j' H' σ' ρ' S'):En K F j' H' σ ρ S'/\Ext j H j' H':=by
 have e:Ext j H j' H':=X.ext;refine⟨⟨E.len,λi x h=> ?_,X.jl,X.inj,X.cel,E.ext.trans e,λn c h=> ?_,E.l0,λb u h=> ?_,λn a hn h=> ?_,λb h=>E.dom b (X.dom b h)⟩,e⟩;obtain⟨v,e1,e2⟩:=E.slot i x h;exact⟨v,e1,e2.mono e⟩;obtain⟨c1,e1,e2,e3⟩:=E.old n c h;obtain⟨c2,f1,f2,f3⟩:=X.old n c1 e1;refine⟨c2,f1,λz=>e2 (f2 z),λz=> ?_⟩;obtain rfl:=e3 z;exact f3 z
 .rcases E.keep b u h with h1|h1
  .rcases X.keep b u h1 with h2|⟨n,c,h2,h3,h4⟩
   .exact .inl h2
   by_cases hn:n<F.j0.length
   .have e1:F.j0[n]? =dE F.j0[n]:=As hn;have e2:=E.ext.pre n _ e1;have mY:j[n]? =dE b:=h2;rw[mY] at e2;cases e2;have eL:n<F.S0.length:=by rw[<-E.l0];exact hn
    obtain⟨c1,f1,f2,_⟩:=E.old n _ (As eL);have pM:S[n]? =dE c:=h3;rw[pM] at f1;cases f1;exact .inr ⟨n,_,e1,As eL,f2 h4⟩
   have:=E.fresh n b ⋯ h2;rw[this] at h;cases h
  exact .inr h1
 by_cases hm:n<j.length;have e1:j[n]? =dE j[n]:=As hm;have e2:=e.pre n _ e1;rw[h] at e2;cases e2;exact E.fresh n _ hn e1;exact E.dom a (X.fresh n a (by dsimp only;omega) h)
def En.grow(E:En K F j H σ ρ S):En K F j H (σ++AK k fC) (ρ++AK k fC) S:=E.slots (by simp[E.len]) λi x e=>by
 by_cases hi:i<ρ.length;rw[Az hi] at e;rw[Az (by rw[E.len];exact hi)];exact E.slot i x e;rw[AG ⋯,CB] at e;split at e;cases e;cases e
end
inductive Rs(α:Type) where
 |ok (a:α) (S:Sto)
 |ex (c:Str) (S:Sto)
abbrev TwE:=Rho->Sto->pU (Rs Xv)
abbrev TwT:=Rho->Sto->pU (Rs Bool)
abbrev TwL:=Rho->Sto->pU (Rs (mZ Xv))
abbrev TwO:=Rho->Sto->pU (Rs (pU Int))
abbrev TwG:=Xv->Rho->Sto->pU (Rs Rho)
abbrev zfq:=mZ Xv->Rho->Sto->pU (Rs Rho)
abbrev TwI:=Rho->Sto->pU (Rs (Sto->pU (mZ Xv)))
inductive Fl where
 |nx (ρ:Rho) (S:Sto)
 |bk (ρ:Rho) (S:Sto)
 |ct (ρ:Rho) (S:Sto)
 |rt (x:Xv) (S:Sto)
 |ex (c:Str) (S:Sto)
abbrev TwS:=Rho->Sto->pU Fl
noncomputable def rb{α β:Type}(m:pU (Rs α))(f:α->Sto->pU (Rs β)):pU (Rs β):=match m with
 |some (.ok a S)=>f a S
 |some (.ex c S)=>dE (.ex c S)
 |none=>fC
noncomputable def sb{α:Type}(m:pU (Rs α))(f:α->Sto->pU Fl):pU Fl:=match m with
 |some (.ok a S)=>f a S
 |some (.ex c S)=>dE (.ex c S)
 |none=>fC
def zt{α β:Type}{m:pU (Rs α)}{f:α->Sto->pU (Rs β)}{r:Rs β}(h:rb m f=dE r):(∃a S,m=dE (.ok a S)/\f a S=dE r)\/∃c S,m=dE (.ex c S)/\r= .ex c S:=by
 unfold rb at h;split at h;exact .inl ⟨_,_,rfl,h⟩;cases h;exact .inr ⟨_,_,rfl,rfl⟩;cases h
def xP{α:Type}{m:pU (Rs α)}{f:α->Sto->pU Fl}(h:sb m f=dE r):(∃a S,m=dE (.ok a S)/\f a S=dE r)\/∃c S,m=dE (.ex c S)/\r= .ex c S:=by
 unfold sb at h;split at h;exact .inl ⟨_,_,rfl,h⟩;cases h;exact .inr ⟨_,_,rfl,rfl⟩;cases h
def PX(K:Ar)(F:Fm)(j:mZ qm)(H:Hp)(E:XK)(c:Str)(S':Sto):Prop:=
 ∀j' H' σ' ρ' C,Ext j H j' H'->En K F j' H' σ' ρ' S'->AY K mainGlobals c=dE (dE (.ref C))->E (.ref C) fC H'
def PX.mono{K:Ar}{E:XK}(h:PX K F j H E c S')(e:Ext j H j1 H1):PX K F j1 H1 E c S':=λj' H' σ' ρ' C x y z=>h j' H' σ' ρ' C (e.trans x) y z
def Po{α:Type}(K:Ar)(F:Fm)(j:mZ qm)(H:Hp)(σ:St)(ρ:Rho)(E:XK)(P:α->mZ qm->Hp->Prop):Rs α->Prop
 | .ok a S'=>∀j' H',Ext j H j' H'->En K F j' H' σ ρ S'->P a j' H'
 | .ex c S'=>PX K F j H E c S'
theorem Po.step{α:Type}{K:Ar}{ρ:Rho}{E:XK}{P:α->mZ qm->Hp->Prop}:∀{r:Rs α},Po K F j H σ ρ E P r->Ext j H j1 H1->Po K F j1 H1 σ ρ E P r
 | .ok a S',h,e=>λj' H' x y=>h j' H' (e.trans x) y
 | .ex c S',h,e=>PX.mono h e
noncomputable abbrev PoV(K:Ar)(Q:VK):Xv->mZ qm->Hp->Prop:=λx j' H'=>∀v,Xis K j' H' x v->Q v H'
def RE(K:Ar)(E:XK)(t:TE)(m:TwE):Prop:=∀{F:Fm} {j:mZ qm} {σ:St} {H:Hp} {ρ:Rho} {S:Sto} {r:Rs Xv} {Q:VK},En K F j H σ ρ S->m ρ S=dE r->Po K F j H σ ρ E (PoV K Q) r->t σ H Q
def RT(K:Ar)(E:XK)(t:TT)(m:TwT):Prop:=∀{F:Fm} {j:mZ qm} {σ:St} {H:Hp} {ρ:Rho} {S:Sto} {r:Rs Bool} {Q:Bool->Hp->Prop},En K F j H σ ρ S->m ρ S=dE r->Po K F j H σ ρ E (λb _ H'=>Q b H') r->t σ H Q
def RL(K:Ar)(E:XK)(t:TA)(m:TwL):Prop:=∀{F:Fm} {j:mZ qm} {σ:St} {H:Hp} {ρ:Rho} {S:Sto} {r:Rs (mZ Xv)} {Q:mZ V->Hp->Prop},En K F j H σ ρ S->m ρ S=dE r->Po K F j H σ ρ E (λxs j' H'=>∀vs,zL K j' H' xs vs->Q vs H') r->t σ H Q
def RO(K:Ar)(E:XK)(t:TO)(m:TwO):Prop:=∀{F:Fm} {j:mZ qm} {σ:St} {H:Hp} {ρ:Rho} {S:Sto} {r:Rs (pU Int)} {Q:pU Int->Hp->Prop},En K F j H σ ρ S->m ρ S=dE r->Po K F j H σ ρ E (λo _ H'=>Q o H') r->t σ H Q
def PoG(K:Ar)(F:Fm)(j:mZ qm)(H:Hp)(E:XK)(R:St->Hp->Prop):Rs Rho->Prop
 | .ok ρ' S'=>∀σ' j' H',Ext j H j' H'->En K F j' H' σ' ρ' S'->R σ' H'
 | .ex c S'=>PX K F j H E c S'
theorem PoG.step{K:Ar}{E:XK}{R:St->Hp->Prop}:∀{r:Rs Rho},PoG K F j H E R r->Ext j H j1 H1->PoG K F j1 H1 E R r
 | .ok a S',h,e=>λσ' j' H' x y=>h σ' j' H' (e.trans x) y
 | .ex c S',h,e=>PX.mono h e
def RG(K:Ar)(E:XK)(t:TG)(g:TwG):Prop:=∀{F:Fm} {j:mZ qm} {σ:St} {H:Hp} {ρ:Rho} {S:Sto} {r:Rs Rho} {x:Xv} {v:V} {R:St->Hp->Prop},En K F j H σ ρ S->Xis K j H x v->g x ρ S=dE r->PoG K F j H E R r->t v σ H R
def RGs(K:Ar)(E:XK)(t:TGs)(g:zfq):Prop:=∀{F:Fm} {j:mZ qm} {σ:St} {H:Hp} {ρ:Rho} {S:Sto} {r:Rs Rho} {xs:mZ Xv} {vs:mZ V} {R:St->Hp->Prop},En K F j H σ ρ S->zL K j H xs vs->g xs ρ S=dE r->PoG K F j H E R r->t vs σ H R
def zlD(K:Ar)(F:Fm)(j:mZ qm)(H:Hp)(E:XK)(D':Uj):Fl->Prop
 | .nx ρ S=>∀σ j' H',Ext j H j' H'->En K F j' H' σ ρ S->D'.nx σ H'
 | .bk ρ S=>∀σ j' H',Ext j H j' H'->En K F j' H' σ ρ S->D'.bk σ H'
 | .ct ρ S=>∀σ j' H',Ext j H j' H'->En K F j' H' σ ρ S->D'.ct σ H'
 | .rt x S=>∀v σ ρ j' H',Ext j H j' H'->En K F j' H' σ ρ S->Xis K j' H' x v->D'.rt v H'
 | .ex c S=>PX K F j H E c S
theorem zlD.step{K:Ar}{E:XK}:∀{fl:Fl},zlD K F j H E D' fl->Ext j H j1 H1->zlD K F j1 H1 E D' fl
 | .nx _ _,h,e=>λσ j' H' x y=>h σ j' H' (e.trans x) y
 | .bk _ _,h,e=>λσ j' H' x y=>h σ j' H' (e.trans x) y
 | .ct _ _,h,e=>λσ j' H' x y=>h σ j' H' (e.trans x) y
 | .rt _ _,h,e=>λv σ ρ j' H' x y z=>h v σ ρ j' H' (e.trans x) y z
 | .ex _ _,h,e=>PX.mono h e
def RS(K:Ar)(E:XK)(t:TS)(m:TwS):Prop:=∀{F:Fm} {j:mZ qm} {D':Uj} {σ:St} {H:Hp} {ρ:Rho} {S:Sto} {fl:Fl},En K F j H σ ρ S->m ρ S=dE fl->zlD K F j H E D' fl->t D' σ H
def zpy(K:Ar)(j:mZ qm)(H:Hp)(J:It)(get:Sto->pU (mZ Xv)):Prop:=∀{F:Fm} {j':mZ qm} {H':Hp} {σ:St} {ρ:Rho} {S:Sto} {xs:mZ Xv} (i:Nat),Ext j H j' H'->En K F j' H' σ ρ S->get S=dE xs->
 (∀x,xs[i]? =dE x->J.go i H'/\∀v H'',J.yld i H' v H''->Zz H' H''/\Xis K j' H'' x v)/\(i=xs.length->J.stop i H')
def RI(K:Ar)(E:XK)(t:TI)(m:TwI):Prop:=∀{F:Fm} {j:mZ qm} {σ:St} {H:Hp} {ρ:Rho} {S:Sto} {r:Rs (Sto->pU (mZ Xv))} {R:It->Hp->Prop},En K F j H σ ρ S->m ρ S=dE r->Po K F j H σ ρ E (λget j' H'=>∀J,zpy K j' H' J get->R J H') r->t σ H R
abbrev Op2:=Xv->Xv->Sto->pU (Xv×Sto)
abbrev Opn:=mZ Xv->Sto->pU (Xv×Sto)
def Yv(K:Ar)(r:R2)(f:Op2):Prop:=∀{F:Fm} {j:mZ qm} {σ:St} {H:Hp} {ρ:Rho} {S S':Sto} {x y z:Xv} {u v:V} {Q:VK},En K F j H σ ρ S->Xis K j H x u->Xis K j H y v->f x y S=dE (z,S')->(∀w j' H',Ext j H j' H'->En K F j' H' σ ρ S'->Xis K j' H' z w->Q w H')->r u v H Q
def zpz(K:Ar)(r:V->Hp->VK->Prop)(f:Xv->Sto->pU (Xv×Sto)):Prop:=∀{F:Fm} {j:mZ qm} {σ:St} {H:Hp} {ρ:Rho} {S S':Sto} {x z:Xv} {u:V} {Q:VK},En K F j H σ ρ S->Xis K j H x u->f x S=dE (z,S')->(∀w j' H',Ext j H j' H'->En K F j' H' σ ρ S'->Xis K j' H' z w->Q w H')->r u H Q
def zdc(K:Ar)(r:mZ V->Hp->VK->Prop)(f:Opn):Prop:=∀{F:Fm} {j:mZ qm} {σ:St} {H:Hp} {ρ:Rho} {S S':Sto} {xs:mZ Xv} {z:Xv} {vs:mZ V} {Q:VK},En K F j H σ ρ S->zL K j H xs vs->f xs S=dE (z,S')->(∀w j' H',Ext j H j' H'->En K F j' H' σ ρ S'->Xis K j' H' z w->Q w H')->r vs H Q
noncomputable def za(i:Nat):TwE:=λρ S=>match ρ[i]? with
 |some (dE x)=>dE (.ok x S)
 |_=>fC
noncomputable def eC(x:Xv):TwE:=λ_ S=>dE (.ok x S)
noncomputable abbrev sj(n:Int):=eC (.int n)
noncomputable abbrev sC(z:Str):=eC (.str z)
noncomputable def okP(o:pU (Xv×Sto)):pU (Rs Xv):=o.map λp=> .ok p.1 p.2
def YS(h:okP o=dE r):∃z S,o=dE (z,S)/\r= .ok z S:=by
 cases o with
 |none=>cases h
 |some p=>cases h;exact⟨_,_,rfl,rfl⟩
def eOp(f:Op2)(a b:TwE):TwE:=λρ S=>rb (a ρ S) λx S1=>rb (b ρ S1) λy S2=>okP (f x y S2)
def eUn(f:Xv->Sto->pU (Xv×Sto))(a:TwE):TwE:=λρ S=>rb (a ρ S) λx S1=>okP (f x S1)
noncomputable def bE(m:TwE):TwT:=λρ S=>rb (m ρ S) λx S1=>match x with
 | .bl b=>dE (.ok b S1)
 |_=>fC
noncomputable def eB(m:TwT):TwE:=λρ S=>rb (m ρ S) λb S1=>dE (.ok (.bl b) S1)
noncomputable def zlE(a b:TwT):TwT:=λρ S=>rb (a ρ S) λx S1=>if x then b ρ S1 else dE (.ok kb S1)
noncomputable def bOr(a b:TwT):TwT:=λρ S=>rb (a ρ S) λx S1=>if x then dE (.ok fJ S1) else b ρ S1
noncomputable def VH(a:TwT):TwT:=λρ S=>rb (a ρ S) λx S1=>dE (.ok (!x) S1)
def zi5(a b:TwE):TwE:=λρ S=>rb (bE a ρ S) λx S1=>if x then b ρ S1 else dE (.ok (.bl kb) S1)
noncomputable def eIf(c:TwT)(a b:TwE):TwE:=λρ S=>rb (c ρ S) λx S1=>if x then a ρ S1 else b ρ S1
noncomputable def evL:mZ TwE->TwL
 |[]=>λ_ S=>dE (.ok [] S)
 |m::r=>λρ S=>rb (m ρ S) λx S1=>rb (evL r ρ S1) λxs S2=>dE (.ok (x::xs) S2)
noncomputable def wS(ms:mZ TwE):TwE:=λρ S=>rb (evL ms ρ S) λxs S1=>dE (.ok (.tup xs) S1)
noncomputable def Yg(ms:mZ TwE):TwE:=λρ S=>rb (evL ms ρ S) λxs S1=>dE (.ok (.ref S1.length) (S1++[.lst xs]))
def eFn(f:Opn)(ms:mZ TwE):TwE:=λρ S=>rb (evL ms ρ S) λxs S1=>okP (f xs S1)
noncomputable def zpA(f:Xv->pU Xv):Xv->Sto->pU (Xv×Sto):=λx S=>(f x).map λz=>(z,S)
section
variable{K:Ar}{E:XK}{F:Fm}{j:mZ qm}{ρ:Rho}{S:Sto}
def Po.val{Q:VK}(k:Po K F j H σ ρ E (PoV K Q) (.ok x S))(En0:En K F j H σ ρ S)(h:Xis K j H x v):Q v H:=k j H Ext.refl En0 v h
set_option tactic.hygienic true in
def zk(i:Nat):RE K E (znx i) (za i):=by
 intro F j σ H ρ S r Q En0 e k;unfold za at e;split at e;rename_i x ex;cases e;obtain⟨v,e1,e2⟩:=En0.slot i _ ex;exact⟨v,e1,k.val En0 e2⟩;cases e
def zbN(h:∀j H,Xis K j H x v):RE K E (tC v) (eC x):=λEn0 e k=>by
 cases e;exact k.val En0 (h _ _)
def wL(i:Int):RE K E (tC (.int i)) (sj i):=zbN λ_ _=> .int i
def znZ(x:Str):RE K E (tC (.str x)) (eC (.str x)):=zbN λ_ _=> .str x
def znd(b:Bool):RE K E (tC (.bl b)) (eC (.bl b)):=zbN λ_ _=> .bl b
def zi6:RE K E (tC .non) (eC .non):=zbN λ_ _=> .non
def yV{ta tb:TE}(ho:Yv K r f)(ha:RE K E ta a)(hb:RE K E tb b):RE K E (tOp r ta tb) (eOp f a b):=by
 walk_at "!a"
 .refine ha En0 e1 λj1 H1 X1 E1 u hu=> ?_;rcases zt e with⟨y,S2,e2,e⟩|⟨c,S2,e2,rfl⟩
  .obtain⟨z,S3,e3,rfl⟩:=YS e;exact hb E1 e2 λj2 H2 X2 E2 v hv=>ho E2 (hu.mono X2) hv e3 λw j3 H3 X3 E3 hw=>k _ _ (X1.trans (X2.trans X3)) E3 _ hw
  exact hb E1 e2 (PX.mono k X1)
 exact ha En0 e1 k
def zgz{r:V->Hp->VK->Prop}{f:Xv->Sto->pU (Xv×Sto)}(ho:zpz K r f)(ha:RE K E ta a):RE K E (tUn r ta) (eUn f a):=by
 walk_at "!a"
 .obtain⟨z,S3,e3,rfl⟩:=YS e;exact ha En0 e1 λj1 H1 X1 E1 u hu=>ho E1 hu e3 λw j3 H3 X3 E3 hw=>k _ _ (X1.trans X3) E3 _ hw
 exact ha En0 e1 k
def zdd(h:RE K E t m):RT K E (tB t) (bE m):=by
 walk_at "!a"
 .split at e
  .cases e;exact h En0 e1 λj1 H1 X1 E1 u hu=>⟨_,hu.bl_inv,k _ _ X1 E1⟩
  cases e
 exact h En0 e1 k
def zgA(h:RE K E t m):RT K E (zm1 t) (bE m):=zdd h
def zn0(ha:RT K E t a)(hb:RT K E u b):RT K E (zo4 t u) (zlE a b):=by
 walk_at "!a"
 .refine ha En0 e1 λj1 H1 X1 E1=> ?_;cases x with
  |true=>exact hb E1 e (k.step X1)
  |false=>cases e;exact k _ _ X1 E1
 exact ha En0 e1 k
def zpB(ha:RT K E t a)(hb:RT K E u b):RT K E (tOr t u) (bOr a b):=by
 walk_at "!a"
 .refine ha En0 e1 λj1 H1 X1 E1=> ?_;cases x with
  |true=>cases e;exact k _ _ X1 E1
  |false=>exact hb E1 e (k.step X1)
 exact ha En0 e1 k
def zn1(ha:RT K E t a):RT K E (zo5 t) (VH a):=by
 walk_at "!a"
 .cases e;exact ha En0 e1 λj1 H1 X1 E1=>k _ _ X1 E1
 exact ha En0 e1 k
def zn2{ta tb:TE}(ha:RE K E ta a)(hb:RE K E tb b):RE K E (zmW ta tb) (zi5 a b):=by
 walk_at "!a"
 .rcases zt e1 with⟨y,S2,e2,e1⟩|⟨c,S2,e2,z⟩
  .split at e1
   .cases e1;refine ha En0 e2 λj1 H1 X1 E1 u hu=>⟨_,hu.bl_inv,?_⟩;cases x with
    |true=>exact hb E1 e (k.step X1)
    |false=>cases e;exact k _ _ X1 E1 _ (.bl kb)
   cases e1
  cases z
 rcases zt e1 with⟨y,S2,e2,e1⟩|⟨c,S2,e2,z⟩
 .split at e1<;>cases e1
 cases z;exact ha En0 e2 k
def zn3(ha:RE K E ta a):RE K E (zmX ta) (eB (VH (bE a))):=by
 walk_at "!a"
 .rcases zt e1 with⟨y,S2,e2,e1⟩|⟨c,S2,e2,z⟩
  .rcases zt e2 with⟨z,S3,e3,e2⟩|⟨c,S3,e3,z⟩
   .split at e2
    .cases e2;cases e1;cases e;exact ha En0 e3 λj1 H1 X1 E1 u hu=>⟨_,hu.bl_inv,k _ _ X1 E1 _ (.bl _)⟩
    cases e2
   cases z
  cases z
 rcases zt e1 with⟨y,S2,e2,e1⟩|⟨c,S2,e2,z⟩
 .cases e1
 cases z;rcases zt e2 with⟨z,S3,e3,e2⟩|⟨c,S3,e3,z⟩
 .split at e2<;>cases e2
 cases z;exact ha En0 e3 k
def zne{ta tb:TE}(hc:RT K E t c)(ha:RE K E ta a)(hb:RE K E tb b):RE K E (tIf t ta tb) (eIf c a b):=by
 walk_at "!a"
 .refine hc En0 e1 λj1 H1 X1 E1=> ?_;cases x with
  |true=>exact ha E1 e (k.step X1)
  |false=>exact hb E1 e (k.step X1)
 exact hc En0 e1 k
noncomputable def Xv.isNon:Xv->Bool
 | .non=>fJ
 |_=>kb
noncomputable def za5:Xv->Sto->pU (Xv×Sto):=zpA λx=>dE (.bl x.isNon)
noncomputable def zgB:Xv->Sto->pU (Xv×Sto):=zpA λx=>dE (.bl (!x.isNon))
def zgC(h:Xis K j H x v):decide (v= .non)=x.isNon:=by cases h<;>simp[Xv.isNon]
def zi7(ha:RE K E ta a):RE K E (zo3 ta) (eUn za5 a):=by
 walk_at "!a"
 .cases e;exact ha En0 e1 λj1 H1 X1 E1 u hu=>k _ _ X1 E1 _ (by rw[zgC hu];exact .bl _)
 exact ha En0 e1 k
def zlF(ha:RE K E ta a):RE K E (zmV ta) (eUn zgB a):=by
 walk_at "!a"
 .cases e;exact ha En0 e1 λj1 H1 X1 E1 u hu=>k _ _ X1 E1 _ (by rw[zgC hu];exact .bl _)
 exact ha En0 e1 k
def yB:RL K E zfg (evL []):=λEn0 e k=>by
 cases e;exact k _ _ Ext.refl En0 [] .nil
def zG(ha:RE K E ta m)(hr:RL K E tr (evL ms)):RL K E (Uk ta tr) (evL (m::ms)):=by
 walk_at "!a"
 .refine ha En0 e1 λj1 H1 X1 E1 u hu=> ?_;rcases zt e with⟨xs,S2,e2,e⟩|⟨c,S2,e2,rfl⟩
  .cases e;exact hr E1 e2 λj2 H2 X2 E2 vs hv=>k _ _ (X1.trans X2) E2 (u::vs) (.cons (hu.mono X2) hv)
  exact hr E1 e2 (PX.mono k X1)
 exact ha En0 e1 k
theorem Xq:∀{ms:mZ TwE} {ρ:Rho} {S S':Sto} {xs:mZ Xv},evL ms ρ S=dE (.ok xs S')->xs.length=ms.length
 |[],_,_,_,_,h=>by cases h;rfl
 |m::ms,ρ,S,S',xs,h=>by
  rcases zt h with⟨x,S1,e1,h⟩|⟨c,S1,e1,z⟩
  .rcases zt h with⟨ys,S2,e2,h⟩|⟨c,S2,e2,z⟩
   .cases h;simp[Xq e2]
   cases z
  cases z
def zfr(h:RL K E t (evL ms))(hl:ms.length<=1000:=by simp):RE K E (zpi t) (wS ms):=by
 walk_at "!c"
 .cases e;refine h En0 e1 λj1 H1 X1 E1 vs hv=>⟨?_,λp hp=> ?_⟩
  .rw[hv.len,Xq e1];exact AA hl ∅
  obtain⟨E2,X2⟩:=E1.new (o:= .tup vs) hp;exact k _ _ (X1.trans X2) E2 _ (.tup zw (hv.mono X2))
 exact h En0 e1 k
def En.lst(En0:En K F j H σ ρ S)(hv:zL K j H xs vs)(hp:H p=fC):En K F (j++[p]) (upd H p (.lst vs)) σ ρ (S++[.lst xs])/\Ext j H (j++[p]) (upd H p (.lst vs))/\Xis K (j++[p]) (upd H p (.lst vs)) (.ref S.length) (.ref p):=by
 have X:Ext j H (j++[p]) (upd H p (.lst vs)):=⟨λn a e=>by rw[Az (Au.1 e).1];exact e,wb.same (yN hp)⟩;obtain⟨E1,_⟩:=En0.cell (o:= .lst vs) (c:= .lst xs) hp ⟨vs,zw,hv.mono X⟩;exact⟨E1,X,.ref (by rw[<-En0.jl];simp)⟩
def Wt(h:RL K E t (evL ms))(hl:ms.length<=1000:=by simp):RE K E (zpj t) (Yg ms):=by
 walk_at "!c"
 .cases e;refine h En0 e1 λj1 H1 X1 E1 vs hv=>⟨?_,λp hp=> ?_⟩
  .rw[hv.len,Xq e1];exact AA hl ∅
  obtain⟨E2,X2,h2⟩:=E1.lst hv hp;exact k _ _ (X1.trans X2) E2 _ h2
 exact h En0 e1 k
def zcn{r:mZ V->Hp->VK->Prop}(hr:zdc K r f)(h:RL K E t (evL ms)):RE K E (tCB r t) (eFn f ms):=by
 walk_at "!c"
 .obtain⟨z,S3,e3,rfl⟩:=YS e;exact h En0 e1 λj1 H1 X1 E1 vs hv=>hr E1 hv e3 λw j3 H3 X3 E3 hw=>k _ _ (X1.trans X3) E3 _ hw
 exact h En0 e1 k
end
noncomputable def zF(S:Sto):Xv->pU (mZ Xv)
 | .ref n=>match S[n]? with
  |some (.lst xs)=>dE xs
  |some (.frz xs)=>dE xs
  |_=>fC
 |_=>fC
noncomputable def YT(S:Sto)(x:Xv):pU (mZ Xv):=match x.tupOf with
 |some xs=>dE xs
 |none=>zF S x
noncomputable def Ur(S:Sto):Xv->pU (Nat×mZ Xv)
 | .ref n=>match S[n]? with
  |some (.lst xs)=>dE (n,xs)
  |_=>fC
 |_=>fC
section
variable{K:Ar}{E:XK}{F:Fm}{j:mZ qm}{ρ:Rho}{S:Sto}{x:Xv}{v:V}
def En.lstAt(E0:En K F j H σ ρ S)(hx:Xis K j H x v)(h:L2.zF S x=dE xs):∃a vs,v= .ref a/\SqX K H a vs/\zL K j H xs vs:=by
 cases x<;>simp only[L2.zF,reduceCtorEq] at h
 obtain⟨a,rfl,hj⟩:=hx.ref_inv;split at h;cases h;obtain⟨vs,e1,e2⟩:=E0.cel _ _ _ (by assumption) hj;exact⟨a,vs,rfl,SqX.of e1,e2⟩;cases h;obtain⟨vs,e1,e2⟩:=E0.cel _ _ _ (by assumption) hj;refine⟨a,vs,rfl,?_,e2⟩;rcases e1 with⟨o,e1⟩|e1;exact .inl (.inr ⟨o,e1⟩);exact e1 H;cases h
def En.seqAt(E0:En K F j H σ ρ S)(hx:Xis K j H x v)(h:L2.YT S x=dE xs):∃a vs,v= .ref a/\(SqX K H a vs\/SqT K H a vs)/\zL K j H xs vs:=by
 unfold L2.YT at h;split at h;cases h;obtain⟨a,vs,e1,e2,e3⟩:=hx.tupO (by assumption);exact⟨a,vs,e1,.inr e2,e3⟩;obtain⟨a,vs,e1,e2,e3⟩:=E0.lstAt hx h;exact⟨a,vs,e1,.inl e2,e3⟩
def zco(h:Ur S x=dE (n,xs)):x= .ref n/\S[n]? =dE (.lst xs):=by
 cases x<;>simp only[Ur,reduceCtorEq] at h
 split at h;cases h;exact⟨rfl,by assumption⟩;cases h
def En.wl(E0:En K F j H σ ρ S)(hx:Xis K j H x v)(h:Ur S x=dE (n,xs)):∃a vs,v= .ref a/\j[n]? =dE a/\H a=dE (.lst vs)/\zL K j H xs vs:=by
 obtain⟨rfl,hs⟩:=zco h;obtain⟨a,rfl,hj⟩:=hx.ref_inv;obtain⟨vs,e1,e2⟩:=E0.cel _ _ _ hs hj;exact⟨a,vs,rfl,hj,e1,e2⟩
def En.wr(E0:En K F j H σ ρ S)(h:Ur S x=dE (n,xs))(hj:j[n]? =dE a)(hw:zL K j H ys ws):En K F j (upd H a (.lst ws)) σ ρ (S.set n (.lst ys))/\Ext j H j (upd H a (.lst ws)):=
 E0.write (zco h).2 rfl hj rfl λX=>⟨ws,zw,hw.mono X⟩
def tyL(h:SqL K H a vs):tyV K "list" (.ref a) H:= .inl ⟨rfl,vs,h⟩
noncomputable def xD:Op2:=λx y S=>match x.tupOf,y with
 |some xs,.int i=>(atI xs i).map λz=>(z,S)
 |_,_=>fC
noncomputable def wT:Op2:=λx y S=>match zF S x,y with
 |some xs,.int i=>(atI xs i).map λz=>(z,S)
 |_,_=>fC
set_option tactic.hygienic true in
def zi8:Yv K (zlt K) xD:=by
 intro F j σ H ρ S S' x y z u v Q E0 hx hy h k;unfold xD at h;split at h
 .rename_i xs i ex;cases e:atI xs i with
  |none=>rw[e] at h;cases h
  |some z'=>
   rw[e] at h;cases h;obtain⟨a,vs,rfl,h1,h2⟩:=hx.tupO ex;obtain⟨w,e1,e2⟩:=h2.at_ e;exact⟨a,vs,_,w,rfl,hy.int_inv,h1,e1,k _ _ _ Ext.refl E0 e2⟩
 cases h
set_option tactic.hygienic true in
def ZB:Yv K (zls K) wT:=by
 intro F j σ H ρ S S' x y z u v Q E0 hx hy h k;unfold wT at h;split at h
 .rename_i xs i ex;cases e:atI xs i with
  |none=>rw[e] at h;cases h
  |some z'=>
   rw[e] at h;cases h;obtain⟨a,vs,rfl,h1,h2⟩:=E0.lstAt hx ex;obtain⟨w,e1,e2⟩:=h2.at_ e;exact⟨a,vs,_,w,rfl,hy.int_inv,h1.sql,e1,k _ _ _ Ext.refl E0 e2⟩
 cases h
noncomputable def Th:Op2:=λx y S=>match YT S x,y with
 |some xs,.int i=>(atI xs i).map λz=>(z,S)
 |_,_=>fC
set_option tactic.hygienic true in
def zde:Yv K (rIx K) Th:=by
 intro F j σ H ρ S S' x y z u v Q E0 hx hy h k;unfold Th at h;split at h
 .rename_i xs i ex;cases e:atI xs i with
  |none=>rw[e] at h;cases h
  |some z'=>
   rw[e] at h;cases h;obtain⟨a,vs,rfl,h1,h2⟩:=E0.seqAt hx ex;obtain⟨w,e1,e2⟩:=h2.at_ e;rcases h1 with h1|h1;exact .inl ⟨a,vs,_,w,rfl,hy.int_inv,h1.sql,e1,k _ _ _ Ext.refl E0 e2⟩;exact .inr (.inl ⟨a,vs,_,w,rfl,hy.int_inv,h1,e1,k _ _ _ Ext.refl E0 e2⟩)
 cases h
noncomputable def oNo:TwO:=λ_ S=>dE (.ok fC S)
noncomputable def zeh(m:TwE):TwO:=λρ S=>rb (m ρ S) λx S1=>match x with
 | .int i=>dE (.ok (dE i) S1)
 |_=>fC
def znf:RO K E zgq oNo:=λE0 e k=>by
 cases e;exact k _ _ Ext.refl E0
def zgD(h:RE K E t m):RO K E (zm2 t) (zeh m):=by
 walk_at "!a"
 .split at e
  .cases e;exact h En0 e1 λj1 H1 X1 E1 u hu=>⟨_,hu.int_inv,k _ _ X1 E1⟩
  cases e
 exact h En0 e1 k
noncomputable def zei{α:Type}(xs:mZ α)(lo' hi:pU Int):mZ α:=(xs.drop (HT.sIx xs.length 0 lo')).take (HT.sIx xs.length xs.length hi-HT.sIx xs.length 0 lo')
def zL.cut(h:zL K j H xs vs)(lo' hi:pU Int):zL K j H (zei xs lo' hi) (zhr vs lo' hi):=by
 unfold zhr zei;rw[h.len];exact(h.drop _).take _
def eSl(f:Xv->pU Int->pU Int->Sto->pU (Xv×Sto))(m:TwE)(lo' hi:TwO):TwE:=λρ S=>rb (m ρ S) λx S1=>rb (lo' ρ S1) λy S2=>rb (hi ρ S2) λz S3=>okP (f x y z S3)
def zng(K:Ar)(r:V->pU Int->pU Int->Hp->VK->Prop)(f:Xv->pU Int->pU Int->Sto->pU (Xv×Sto)):Prop:=∀{F:Fm} {j:mZ qm} {σ:St} {H:Hp} {ρ:Rho} {S S':Sto} {x z:Xv} {lo' hi:pU Int} {u:V} {Q:VK},En K F j H σ ρ S->Xis K j H x u->f x lo' hi S=dE (z,S')->(∀w j' H',Ext j H j' H'->En K F j' H' σ ρ S'->Xis K j' H' z w->Q w H')->r u lo' hi H Q
def zpC{r:V->pU Int->pU Int->Hp->VK->Prop}{f:Xv->pU Int->pU Int->Sto->pU (Xv×Sto)}(ho:zng K r f)(hm:RE K E te m)(hl:RO K E tl lo')(hh:RO K E th hi):RE K E (tSl r te tl th) (eSl f m lo' hi):=by
 walk_at "!a"
 .refine hm En0 e1 λj1 H1 X1 E1 u hu=> ?_;rcases zt e with⟨y,S2,e2,e⟩|⟨c,S2,e2,rfl⟩
  .refine hl E1 e2 λj2 H2 X2 E2=> ?_;rcases zt e with⟨z,S3,e3,e⟩|⟨c,S3,e3,rfl⟩
   .obtain⟨w,S4,e4,rfl⟩:=YS e;exact hh E2 e3 λj3 H3 X3 E3=>ho E3 (hu.mono (X2.trans X3)) e4 λw j4 H4 X4 E4 hw=>k _ _ (X1.trans (X2.trans (X3.trans X4))) E4 _ hw
   exact hh E2 e3 (PX.mono k (X1.trans X2))
  exact hl E1 e2 (PX.mono k X1)
 exact hm En0 e1 k
noncomputable def zdf:Xv->pU Int->pU Int->Sto->pU (Xv×Sto):=λx lo' hi S=>(zF S x).map λxs=>(.ref S.length,S++[.lst (zei xs lo' hi)])
def zpD:zng K (ziz K) zdf:=by
 intro F j σ H ρ S S' x z lo' hi u Q E0 hx h k;unfold zdf at h;cases e:zF S x with
 |none=>rw[e] at h;cases h
 |some xs=>
  rw[e] at h;cases h;obtain⟨a,vs,rfl,h1,h2⟩:=E0.lstAt hx e;refine⟨a,vs,rfl,h1.sql,λp hp=> ?_⟩;obtain⟨E1,X1,h3⟩:=E0.lst (h2.cut lo' hi) hp;exact k _ _ _ X1 E1 h3
def zi9(hm:RE K E te m)(hl:RO K E tl lo')(hh:RO K E th hi):RE K E (tSl (ziz K) te tl th) (eSl zdf m lo' hi):=zpC (r:=ziz K) (f:=zdf) zpD hm hl hh
abbrev OpM:=Xv->mZ Xv->Sto->pU (Xv×Sto)
def zlG(K:Ar)(r:V->mZ V->Hp->VK->Prop)(f:OpM):Prop:=∀{F:Fm} {j:mZ qm} {σ:St} {H:Hp} {ρ:Rho} {S S':Sto} {x z:Xv} {ys:mZ Xv} {u:V} {vs:mZ V} {Q:VK},En K F j H σ ρ S->Xis K j H x u->zL K j H ys vs->f x ys S=dE (z,S')->(∀w j' H',Ext j H j' H'->En K F j' H' σ ρ S'->Xis K j' H' z w->Q w H')->r u vs H Q
def eMt(f:OpM)(o:TwE)(ms:mZ TwE):TwE:=λρ S=>rb (o ρ S) λx S1=>(zF S1 x).bind λ_=>rb (evL ms ρ S1) λys S2=>okP (f x ys S2)
def za6{r:V->mZ V->Hp->VK->Prop}(hr:zlG K r f)(ho:RE K E to o)(ht:RL K E t (evL ms)):RE K E (tBM K "list" r to t) (eMt f o ms):=by
 walk_at "!a"
 .refine ho En0 e1 λj1 H1 X1 E1 u hu=> ?_;cases el:L2.zF S1 x with
  |none=>rw[el] at e;cases e
  |some l=>
   rw[el] at e;obtain⟨a,vs,rfl,h1,_⟩:=E1.lstAt hu el;refine⟨tyL h1.sql,?_⟩;rcases zt e with⟨ys,S2,e2,e⟩|⟨c,S2,e2,rfl⟩
   .obtain⟨z,S3,e3,rfl⟩:=YS e;exact ht E1 e2 λj2 H2 X2 E2 ws hw=>hr E2 (hu.mono X2) hw e3 λw j3 H3 X3 E3 hz=>k _ _ (X1.trans (X2.trans X3)) E3 _ hz
   exact ht E1 e2 (PX.mono k X1)
 exact ho En0 e1 k
def zja{r:V->mZ V->Hp->VK->Prop}(hr:zlG K r f)(ho:RE K E to o):RE K E (znR K "list" r to) (eMt f o []):=by
 intro F j σ H ρ S r Q En0 e k;exact za6 hr ho yB En0 e k
noncomputable def xw:OpM:=λx ys S=>match Ur S x,ys with
 |some (n,xs),[y]=>if xs.length<sizeLine then dE (.non,S.set n (.lst (xs++[y]))) else fC
 |_,_=>fC
set_option tactic.hygienic true in
def ZQ:zlG K zgt xw:=by
 intro F j σ H ρ S S' x z ys u vs Q E0 hx hy h k;unfold xw at h;split at h;rename_i n xs y e;split at h;rename_i hl;cases h;obtain⟨a,ws,rfl,hj,h1,h2⟩:=E0.wl hx e;obtain⟨w,rfl,hw⟩:=hy.d1;obtain⟨E1,X1⟩:=E0.wr e hj (h2.append (.one hw));exact⟨a,ws,w,rfl,rfl,h1,by rw[h2.len];exact hl,k _ _ _ X1 E1 .non⟩;cases h;cases h
noncomputable def zjb:OpM:=λx ys S=>match Ur S x,ys with
 |some (n,xs),[]=>(xs[xs.length-1]?).map λy=>(y,S.set n (.lst xs.dropLast))
 |_,_=>fC
set_option tactic.hygienic true in
def zjc:zlG K zpn zjb:=by
 intro F j σ H ρ S S' x z ys u vs Q E0 hx hy h k;unfold zjb at h;split at h
 .rename_i n xs e;cases e1:xs[xs.length-1]? with
  |none=>rw[e1] at h;cases h
  |some y=>
   rw[e1] at h;cases h;obtain⟨a,ws,rfl,hj,h1,h2⟩:=E0.wl hx e;obtain rfl:=hy.nil_inv;obtain⟨w,f1,f2⟩:=h2.get e1;obtain⟨E1,X1⟩:=E0.wr e hj h2.dropLast;exact⟨a,ws,w,rfl,rfl,h1,by rw[h2.len];exact f1,k _ _ _ X1 E1 (f2.mono X1)⟩
 cases h
noncomputable def zq(a b:TwS):TwS:=λρ S=>match a ρ S with
 |some (.nx ρ1 S1)=>b ρ1 S1
 |r=>r
noncomputable def yC:TwS:=λρ S=>dE (.nx ρ S)
noncomputable def zfs:TwS:=λ_ _=>fC
def zB(m:TwE)(g:TwG):TwS:=λρ S=>sb (m ρ S) λx S1=>sb (g x ρ S1) λρ1 S2=>dE (.nx ρ1 S2)
def YU(m:TwE):TwS:=λρ S=>sb (m ρ S) λ_ S1=>dE (.nx ρ S1)
def yj(m:TwE):TwS:=λρ S=>sb (m ρ S) λx S1=>dE (.rt x S1)
def sIf(c:TwT)(a b:TwS):TwS:=λρ S=>sb (c ρ S) λx S1=>if x then a ρ S1 else b ρ S1
def zlH(i k:Nat)(ms:mZ TwE):TwS:=λρ S=>sb (evL ms ρ S) λxs S1=>match xs with
 |[a,b]=>dE (.nx ((ρ.set i (dE a)).set k (dE b)) S1)
 |_=>fC
noncomputable def turn(r:pU Fl)(go:Rho->Sto->pU Fl):pU Fl:=match r with
 |some (.nx ρ S)=>go ρ S
 |some (.ct ρ S)=>go ρ S
 |some (.bk ρ S)=>dE (.nx ρ S)
 |r=>r
noncomputable def Vv(get:Sto->pU (mZ Xv))(g:TwG)(b:TwS):Nat->Nat->Rho->Sto->pU Fl
 |0,_,_,_=>fC
 |f+1,i,ρ,S=>(get S).bind λxs=>match xs[i]? with
  |none=>if i=xs.length then dE (.nx ρ S) else fC
  |some x=>sb (g x ρ S) λρ1 S1=>turn (b ρ1 S1) λρ2 S2=>Vv get g b f (i+1) ρ2 S2
def YV(m:TwI)(g:TwG)(b:TwS):TwS:=λρ S=>sb (m ρ S) λget S1=>(get S1).bind λxs=>Vv get g b (xs.length+1) 0 ρ S1
noncomputable def Xr(c:TwT)(b:TwS):Nat->Rho->Sto->pU Fl
 |0,_,_=>fC
 |n+1,ρ,S=>sb (c ρ S) λx S1=>if x then turn (b ρ S1) λρ2 S2=>Xr c b n ρ2 S2 else dE (.nx ρ S1)
noncomputable def sWh(n:Nat)(c:TwT)(b:TwS):TwS:=λρ S=>Xr c b n ρ S
noncomputable def gN(i:Nat):TwG:=λx ρ S=>dE (.ok (ρ.set i (dE x)) S)
noncomputable def wI:zfq:=λxs ρ S=>match xs with
 |[]=>dE (.ok ρ S)
 |_=>fC
noncomputable def zV(g:TwG)(gs:zfq):zfq:=λxs ρ S=>match xs with
 |x::r=>rb (g x ρ S) λρ1 S1=>gs r ρ1 S1
 |_=>fC
noncomputable def gT(n:Nat)(gs:zfq):TwG:=λx ρ S=>x.tupOf.bind λl=>if l.length=n then gs l ρ S else fC
noncomputable def VI(o mi:TwE):TwG:=λd ρ S=>rb (o ρ S) λx S1=>rb (mi ρ S1) λy S2=>match Ur S2 x,y with
 |some (n,xs),.int i=>(ixN xs.length i).map λk=> .ok ρ (S2.set n (.lst (xs.set k d)))
 |_,_=>fC
def zY:RG K E (zb6 i) (gN i):=λE0 hx e k=>by
 cases e;exact k _ _ _ Ext.refl (E0.set hx)
def zav:RGs K E znE wI:=by
 intro F j σ H ρ S r xs vs R E0 hv e k;unfold wI at e;split at e;cases e;obtain rfl:=hv.nil_inv;exact⟨rfl,k _ _ _ Ext.refl E0⟩;cases e
def ZU(h1:RG K E t g)(h2:RGs K E u gs):RGs K E (zil t u) (zV g gs):=by
 intro F j σ H ρ S r xs vs R E0 hv e k;unfold zV at e;split at e
 .obtain⟨w,ws,rfl,hw,tf⟩:=hv.cons_inv;rcases zt e with⟨ρ1,S1,e1,e⟩|⟨c,S1,e1,rfl⟩
  .exact⟨w,ws,rfl,h1 E0 hw e1 λσ1 j1 H1 X1 E1=>h2 E1 (tf.mono X1) e (k.step X1)⟩
  exact⟨w,ws,rfl,h1 E0 hw e1 k⟩
 cases e
set_option tactic.hygienic true in
def zdg(h:RGs K E t gs):RG K E (zll K n t) (gT n gs):=by
 intro F j σ H ρ S r x v R E0 hx e k;unfold gT at e;cases ex:x.tupOf with
 |none=>rw[ex] at e;cases e
 |some l=>
  rw[ex] at e;dsimp only[Ee] at e;split at e;rename_i hn;obtain⟨a,vs,rfl,h1,h2⟩:=hx.tupO ex;exact⟨a,vs,rfl,h1,by rw[h2.len];exact hn,h E0 h2 e k⟩;cases e
set_option tactic.hygienic true in
def zjd(ho:RE K E to o)(hi:RE K E ti mi):RG K E (zo9 to ti zm3) (VI o mi):=by
 intro F j σ H ρ S r d vd R E0 hd e k;rcases zt e with⟨x,S1,e1,e⟩|⟨c,S1,e1,rfl⟩
 .refine ho E0 e1 λj1 H1 X1 E1 u hu=> ?_;rcases zt e with⟨y,S2,e2,e⟩|⟨c,S2,e2,rfl⟩
  .refine hi E1 e2 λj2 H2 X2 E2 w hw=> ?_;split at e
   .rename_i n xs i ex;cases e3:ixN xs.length i with
    |none=>rw[e3] at e;cases e
    |some m=>
     rw[e3] at e;cases e;obtain⟨a,vs,rfl,hj,h1,h2⟩:=E2.wl (hu.mono X2) ex;obtain⟨E3,X3⟩:=E2.wr ex hj (h2.set (hd.mono (X1.trans X2)) m);exact⟨a,vs,i,m,rfl,hw.int_inv,h1,by rw[h2.len];exact e3,k _ _ _ (X1.trans (X2.trans X3)) E3⟩
   cases e
  exact hi E1 e2 (PX.mono k X1)
 exact ho E0 e1 k
def Us:RS K E zmY yC:=λE0 e k=>by
 cases e;exact k _ _ _ Ext.refl E0
def zje:RS K E t zfs:=λ_ e _=>by cases e
set_option tactic.hygienic true in
def yJ(ha:RS K E t a)(hb:RS K E u b):RS K E (znB t u) (zq a b):=by
 intro F j D' σ H ρ S fl E0 e k;unfold zq at e;split at e;rename_i ρ1 S1 e1;exact ha (D':={D' with nx:=u D'}) E0 e1 λσ1 j1 H1 X1 E1=>hb E1 e (k.step X1)
 rename_i hn;refine ha (D':={D' with nx:=u D'}) E0 e ?_;cases fl with
 |nx ρ1 S1=>exact absurd e (hn ρ1 S1)
 |bk ρ1 S1=>exact k
 |ct ρ1 S1=>exact k
 |rt x S1=>exact k
 |ex c S1=>exact k
def vc(h:RE K E te m)(hg:RG K E g g'):RS K E (znG te g) (zB m g'):=by
 walk_at "!f"
 .refine h E0 e1 λj1 H1 X1 E1 u hu=> ?_;rcases xP e with⟨ρ1,S2,e2,e⟩|⟨c,S2,e2,rfl⟩
  .cases e;exact hg E1 hu e2 λσ2 j2 H2 X2 E2=>k _ _ _ (X1.trans X2) E2
  exact hg E1 hu e2 (PX.mono k X1)
 exact h E0 e1 k
def Ut(h:RE K E te m):RS K E (zmZ te) (YU m):=by
 walk_at "!f"
 .cases e;exact h E0 e1 λj1 H1 X1 E1 u hu=>k _ _ _ X1 E1
 exact h E0 e1 k
def VJ(h:RE K E te m):RS K E (zo6 te) (yj m):=by
 walk_at "!f"
 .cases e;exact h E0 e1 λj1 H1 X1 E1 u hu=>k _ _ _ _ _ X1 E1 hu
 exact h E0 e1 k
def zej(hc:RT K E c m)(ha:RS K E t a)(hb:RS K E u b):RS K E (zo7 c t u) (sIf m a b):=by
 walk_at "!f"
 .refine hc E0 e1 λj1 H1 X1 E1=> ?_;cases x with
  |true=>exact ha E1 e (k.step X1)
  |false=>exact hb E1 e (k.step X1)
 exact hc E0 e1 k
def zn4(h:RL K E t (evL ms)):RS K E (zpa i m t) (zlH i m ms):=by
 intro F j D' σ H ρ S fl E0 e k;rcases xP e with⟨xs,S1,e1,e⟩|⟨c,S1,e1,rfl⟩
 .split at e;cases e;refine h E0 e1 λj1 H1 X1 E1 vs hv=> ?_;obtain⟨x,y,rfl,hx,hy⟩:=hv.d2;exact⟨x,y,rfl,k _ _ _ X1 ((E1.set hx).set hy)⟩;cases e
 exact h E0 e1 k
set_option tactic.hygienic true in
def zcp{go:Rho->Sto->pU Fl}(h:turn r go=dE fl):∃f,r=dE f/\((∃ρ S,(f= .nx ρ S\/f= .ct ρ S)/\go ρ S=dE fl)\/(∃ρ S,f= .bk ρ S/\fl= .nx ρ S)\/(f=fl/\((∃x S,fl= .rt x S)\/∃c S,fl= .ex c S))):=by
 unfold turn at h;split at h;exact⟨_,rfl,.inl ⟨_,_,.inl rfl,h⟩⟩;exact⟨_,rfl,.inl ⟨_,_,.inr rfl,h⟩⟩;cases h;exact⟨_,rfl,.inr (.inl ⟨_,_,rfl,rfl⟩)⟩
 rename_i n1 n2 n3;refine⟨fl,h,.inr (.inr ⟨rfl,?_⟩)⟩;cases fl with
 |nx ρ S=>exact absurd h (n1 ρ S)
 |ct ρ S=>exact absurd h (n2 ρ S)
 |bk ρ S=>exact absurd h (n3 ρ S)
 |rt x S=>exact .inl ⟨x,S,rfl⟩
 |ex c S=>exact .inr ⟨c,S,rfl⟩
set_option tactic.hygienic true in
def zjf{tb:TS}(hi:RI K E wi m)(hg:RG K E g g')(hb:RS K E tb b):RS K E (zpb wi g tb) (YV m g' b):=by
 intro F j D' σ H ρ S fl E0 e k;rcases xP e with⟨get,S1,e1,e⟩|⟨c,S1,e1,rfl⟩
 .refine hi E0 e1 λj1 H1 X1 E1 J ok=> ?_;cases eg:get S1 with
  |none=>rw[eg] at e;cases e
  |some xs=>
   rw[eg] at e;refine⟨λi n σ H=>∃j2 ρ2 S2,Ext j1 H1 j2 H/\En K F j2 H σ ρ2 S2/\Vv get g' b n i ρ2 S2=dE fl,⟨xs.length+1,j1,ρ,S1,Ext.refl,E1,e⟩,?_⟩;rintro i n σ2 H2 ⟨j2,ρ2,S2,X2,E2,e2⟩;cases n with
   |zero=>cases e2
   |succ n=>
    unfold Vv at e2;cases jW:get S2 with
    |none=>rw[jW] at e2;cases e2
    |some ys=>
     rw[jW] at e2;dsimp only[Ee] at e2;obtain⟨go,stop⟩:=ok i X2 E2 jW;split at e2;split at e2;rename_i hl;cases e2;exact .inl ⟨stop hl,k _ _ _ (X1.trans X2) E2⟩;cases e2
     rename_i x ex;obtain⟨g1,g2⟩:=go x ex;refine .inr ⟨g1,λσ' H'=>∃j3 ρ3 S3,Ext j1 H1 j3 H'/\En K F j3 H' σ' ρ3 S3/\Vv get g' b n (i+1) ρ3 S3=dE fl,λ_ _ z=>⟨n,Cd _,z⟩,λv H3 hy=> ?_⟩;obtain⟨Sm,hv⟩:=g2 v H3 hy;have E3:=E2.heap Sm;have X3:Ext j2 H2 j2 H3:=Ext.same Sm;rcases xP e2 with⟨ρ4,S4,e4,e2⟩|⟨c,S4,e4,rfl⟩
     .refine hg E3 hv e4 λσ4 j4 H4 X4 E4=> ?_;obtain⟨f5,e5,h5⟩:=zcp e2;refine hb E4 e5 ?_;have X14:=X2.trans (X3.trans X4);rcases h5 with⟨ρ6,S6,h6,e6⟩|⟨ρ6,S6,rfl,rfl⟩|⟨rfl,h6⟩
      .rcases h6 with rfl|rfl
       .exact λσ5 j5 H5 X5 E5=>⟨j5,ρ6,S6,X14.trans X5,E5,e6⟩
       exact λσ5 j5 H5 X5 E5=>⟨j5,ρ6,S6,X14.trans X5,E5,e6⟩
      .exact λσ5 j5 H5 X5 E5=>k _ _ _ (X1.trans (X14.trans X5)) E5
      rcases h6 with⟨x6,S6,rfl⟩|⟨c6,S6,rfl⟩
      .exact λv σ5 ρ5 j5 H5 X5 E5 hv=>k v σ5 ρ5 _ _ (X1.trans (X14.trans X5)) E5 hv
      exact PX.mono k (X1.trans X14)
     exact hg E3 hv e4 (PX.mono k (X1.trans (X2.trans X3)))
 exact hi E0 e1 k
def zek{tb:TS}(hc:RT K E c m)(hb:RS K E tb b):RS K E (zim c tb) (sWh n m b):=by
 intro F j D' σ H ρ S fl E0 e k;refine⟨λn σ2 H2=>∃j2 ρ2 S2,Ext j H j2 H2/\En K F j2 H2 σ2 ρ2 S2/\Xr m b n ρ2 S2=dE fl,⟨n,j,ρ,S,Ext.refl,E0,e⟩,?_⟩;rintro n σ2 H2 ⟨j2,ρ2,S2,X2,E2,e2⟩;cases n with
 |zero=>cases e2
 |succ n=>
  unfold Xr at e2;rcases xP e2 with⟨x,S3,e3,e2⟩|⟨c,S3,e3,rfl⟩
  .refine hc E2 e3 λj3 H3 X3 E3=> ?_;have X13:=X2.trans X3;cases x with
   |false=>cases e2;exact k _ _ _ X13 E3
   |true=>
    obtain⟨f5,e5,h5⟩:=zcp e2;refine⟨λσ' H'=>∃j3 ρ3 S3,Ext j H j3 H'/\En K F j3 H' σ' ρ3 S3/\Xr m b n ρ3 S3=dE fl,λσ' H' z=>⟨n,Cd _,z⟩,hb E3 e5 ?_⟩;rcases h5 with⟨ρ6,S6,h6,e6⟩|⟨ρ6,S6,rfl,rfl⟩|⟨rfl,h6⟩
    .rcases h6 with rfl|rfl
     .exact λσ5 j5 H5 X5 E5=>⟨j5,ρ6,S6,X13.trans X5,E5,e6⟩
     exact λσ5 j5 H5 X5 E5=>⟨j5,ρ6,S6,X13.trans X5,E5,e6⟩
    .exact λσ5 j5 H5 X5 E5=>k _ _ _ (X13.trans X5) E5
    rcases h6 with⟨x6,S6,rfl⟩|⟨c6,S6,rfl⟩
    .exact λv σ5 ρ5 j5 H5 X5 E5 hv=>k v σ5 ρ5 _ _ (X13.trans X5) E5 hv
    exact PX.mono k X13
  exact hc E2 e3 (PX.mono k X2)
noncomputable def iL(m:TwE):TwI:=λρ S=>rb (m ρ S) λx S1=>(zF S1 x).map λ_=> .ok (λS=>zF S x) S1
def Yj(h:RE K E t m):RI K E (zin K t) (iL m):=by
 walk_at "!d"
 .cases el:zF S1 x with
  |none=>rw[el] at e;cases e
  |some l=>
   rw[el] at e;cases e;refine h En0 e1 λj1 H1 X1 E1 u hu=> ?_;obtain⟨a,vs,rfl,h1,_⟩:=E1.lstAt hu el;refine⟨a,rfl,⟨vs,h1.sql⟩,k _ _ X1 E1 _ ?_⟩;intro F2 j2 H2 σ2 ρ2 S2 xs i X2 E2 e2;obtain⟨a',ws,ea,g1,g2⟩:=E2.lstAt (hu.mono X2) e2;cases ea;refine⟨λy ey=> ?_,λhle=>⟨ws,g1.sql,by rw[g2.len];omega⟩⟩;obtain⟨w,f1,f2⟩:=g2.get ey;refine⟨⟨ws,w,g1.sql,f1⟩,?_⟩;rintro v' H' ⟨rfl,hx⟩;have:=hx ws g1.sql;rw[f1] at this;cases this;exact⟨Zz.refl _,f2⟩
 exact h En0 e1 k
noncomputable def yK(lo':Int)(n:Nat):mZ Xv:=(BD n).map λ(k:Nat)=>Xv.int (lo'+(k:Int))
def iR1(m:TwE):TwI:=λρ S=>rb (m ρ S) λx S1=>match x with
 | .int j=>if -(2^62)<=j/\j<2^62 then dE (.ok (λ_=>dE (yK 0 j.toNat)) S1) else fC
 |_=>fC
def zjg:zpy K j H (Itr lo' n) (λ_=>dE (yK lo' n)):=by
 intro F2 j2 H2 σ2 ρ2 S2 xs i X2 E2 e2;cases e2;refine⟨λd hd=> ?_,λhle=> ?_⟩
 .unfold yK at hd;rw[Ax] at hd;have hi:i<n:=by
   apply Bg;intro hn;rw[BQ (by simp;omega)] at hd;cases hd
  rw[BX hi] at hd;cases hd;refine⟨hi,?_⟩;rintro x H' ⟨rfl,rfl⟩;exact⟨Zz.refl _,.int _⟩
 unfold yK at hle;simp at hle;show n<=i;omega
set_option tactic.hygienic true in
def Vf(h:RE K E t m):RI K E (zm0 (Uk t zfg)) (iR1 m):=by
 walk_at "!d"
 .split at e
  .split at e
   .rename_i hb;cases e;exact h En0 e1 λj1 H1 X1 E1 u hu=>⟨_,by rw[hu.int_inv],hb.1,hb.2,k _ _ X1 E1 _ zjg⟩
   cases e
  cases e
 exact h En0 e1 k
end
noncomputable def rn{α β:Type}(m:pU (Rs α))(f:α->Sto->pU β):pU β:=match m with
 |some (.ok a S)=>f a S
 |_=>fC
def zdh{α β:Type}{m:pU (Rs α)}{f:α->Sto->pU β}{r:β}(h:rn m f=dE r):∃a S,m=dE (.ok a S)/\f a S=dE r:=by
 unfold rn at h;split at h;exact⟨_,_,rfl,h⟩;cases h
noncomputable def za7(cap:mZ (pU Nat))(ρ:Rho):Rho:=cap.map λo=>o.bind λi=>(ρ[i]?).join
noncomputable def vE(get:Sto->pU (mZ Xv))(g:TwG)(c:TwT)(e:TwE)(ρc:Rho):Nat->Nat->mZ Xv->Sto->pU (Rs Xv)
 |0,_,_,_=>fC
 |f+1,i,es,S=>(get S).bind λxs=>match xs[i]? with
  |none=>if i=xs.length then dE (.ok (.ref S.length) (S++[.lst es])) else fC
  |some x=>rn (g x ρc S) λρ1 S1=>rn (c ρ1 S1) λb S2=>if b then rn (e ρ1 S2) λy S3=>if es.length<sizeLine then vE get g c e ρc f (i+1) (es++[y]) S3 else fC
    else vE get g c e ρc f (i+1) es S2
noncomputable def yO(cap:mZ (pU Nat))(m:TwI)(g:TwG)(c:TwT)(e:TwE):TwE:=λρ S=>rb (m ρ S) λget S1=>(get S1).bind λxs=>vE get g c e (za7 cap ρ) (xs.length+1) 0 [] S1
noncomputable def xa:TwT:=λ_ S=>dE (.ok fJ S)
section
variable{K:Ar}{E:XK}{ρ ρ':Rho}{S S':Sto}
def wW:RT K E (λ_ H Q=>Q fJ H) xa:=λE1 e k=>by
 cases e;exact k _ _ Ext.refl E1
def zaa(j:mZ qm)(S:Sto)(a:qm):Prop:=∀(n:Nat) c,j[n]? =dE a->S[n]? =dE c->c.fz=fJ
def En.notIn(E1:En K F j H σ ρ S)(h:H a=fC):zaa j S a:=λn c e1 e2=>by
 cases z:c.fz with
 |true=>rfl
 |false=>
  obtain⟨o,e,_⟩:=(E1.cel n c a e2 e1).mu z;rw[h] at e;cases e
def En.outside(E1:En K F j H σ ρ S)(h:zaa j S a)(h0:H a=dE o0)(m0:o0.mu=fJ)(hf:F.H0 a=fC):En K F j (upd H a o) σ ρ S/\Ext j H j (upd H a o):=by
 have X:Ext j H j (upd H a o):=⟨λ_ _ e=>e,λb u e m=>by
  have:b≠a:=λq=>by subst q;rw[h0] at e;cases e;rw[m] at m0;cases m0
  rw[zi this];exact e⟩
 refine⟨⟨E1.len,λi x e=> ?_,E1.jl,E1.inj,λn c b e1 e2=> ?_,E1.ext.trans X,E1.old,E1.l0,λb u e=> ?_,E1.fresh,λb e=> ?_⟩,X⟩;obtain⟨v,e1,e2⟩:=E1.slot i x e;exact⟨v,e1,e2.mono X⟩;refine (E1.cel n c b e1 e2).mono X λz=>zi λq=> ?_;subst q;rw[h n c e2 e1] at z;cases z
 .have hb:b≠a:=λq=>by subst q;rw[hf] at e;cases e
  rcases E1.keep b u e with h|h;exact .inl (by rw[zi hb];exact h);exact .inr h
 have hb:b≠a:=λq=>by subst q;rw[zw] at e;cases e
 rw[zi hb] at e;exact E1.dom b e
def En.adopt(E1:En K F j H σ ρ S)(h:zaa j S a)(hf:F.H0 a=fC)(hc:Uq K (j++[a]) H a c):En K F (j++[a]) H σ ρ (S++[c])/\Ext j H (j++[a]) H:=by
 have X:Ext j H (j++[a]) H:=⟨λn b e=>by rw[Az (Au.1 e).1];exact e,wb.refl _⟩;have lt:∀{n:Nat} {d:Ce},S[n]? =dE d->n<S.length:=λe=>(Au.1 e).1;have at_:∀{n:Nat} {b:qm} {d:Ce},(j++[a])[n]? =dE b->(S++[c])[n]? =dE d->(j[n]? =dE b/\S[n]? =dE d)\/(n=S.length/\b=a/\d=c):=λ{n b d} e1 e2=>by
  by_cases hn:n<S.length;rw[Az hn] at e2;rw[Az (by rw[E1.jl];exact hn)] at e1;exact .inl ⟨e1,e2⟩
  rw[AG ⋯] at e2;rw[AG (by rw[E1.jl];omega),E1.jl] at e1;cases hm:n-S.length with
  |zero=>rw[hm] at e1 e2;simp at e1 e2;exact .inr ⟨⋯,e1.symm,e2.symm⟩
  |succ m=>rw[hm] at e1;simp at e1
 refine⟨⟨E1.len,λi x e=> ?_,by simp[E1.jl],λn m b c1 c2 e1 e2 e3 e4 z1 z2=> ?_,λn d b e1 e2=> ?_,E1.ext.trans X,λn d e=> ?_,E1.l0,E1.keep,λn b hn e=> ?_,E1.dom⟩,X⟩;obtain⟨v,e1,e2⟩:=E1.slot i x e;exact⟨v,e1,e2.mono X⟩
 .rcases at_ e1 e3 with⟨f1,f2⟩|⟨f1,f2,f3⟩
  .rcases at_ e2 e4 with⟨g1,g2⟩|⟨g1,g2,g3⟩
   .exact E1.inj n m b c1 c2 f1 g1 f2 g2 z1 z2
   subst g2;rw[h n c1 f1 f2] at z1;cases z1
  rcases at_ e2 e4 with⟨g1,g2⟩|⟨g1,g2,g3⟩
  .subst f2;rw[h m c2 g1 g2] at z2;cases z2
  rw[f1,g1]
 .rcases at_ e2 e1 with⟨f1,f2⟩|⟨f1,rfl,rfl⟩
  .exact (E1.cel n d b f2 f1).mono X λ_=>rfl
  exact hc
 .obtain⟨d',e1,e2⟩:=E1.old n d e;exact⟨d',by rw[Az (lt e1)];exact e1,e2⟩
 by_cases hm:n<j.length;rw[Az hm] at e;exact E1.fresh n b hn e
 rw[AG ⋯] at e;cases hk:n-j.length with
 |zero=>rw[hk] at e;simp at e;subst e;exact hf
 |succ m=>rw[hk] at e;simp at e
def zhE(E1:En K F j H σ ρ S):(Zr cap σ).length=(za7 cap ρ).length/\∀(i:Nat) x,(za7 cap ρ)[i]? =dE (dE x)->∃v,(Zr cap σ)[i]? =dE (dE v)/\Xis K j H x v:=by
 refine⟨by simp[Zr,za7],λi x h=> ?_⟩;unfold za7 at h;unfold Zr;rw[Ax] at h ⊢;cases e:cap[i]? with
 |none=>rw[e] at h;cases h
 |some o=>
  rw[e] at h;cases o with
  |none=>simp at h
  |some k=>
   simp only[Cr,AO,Bm] at h ⊢;cases q:ρ[k]? with
   |none=>rw[q] at h;simp at h
   |some z=>
    rw[q] at h;simp at h;subst h;obtain⟨v,e1,e2⟩:=E1.slot k x q;exact⟨v,by rw[e1];rfl,e2⟩
set_option tactic.hygienic true in
def wB(hi:RI K E wi m)(hg:RG K E0 g g')(hc:RT K E0 tt c)(he:RE K E0 te e):RE K E (ziQ cap wi g tt te) (yO cap m g' c e):=by
 intro F j σ H ρ S r Q En0 h k;rcases zt h with⟨get,S1,e1,h⟩|⟨c1,S1,e1,rfl⟩
 .refine hi En0 e1 λj1 H1 X1 E1 J ok acc cA=> ?_;cases eg:get S1 with
  |none=>rw[eg] at h;cases h
  |some xs=>
   rw[eg] at h;have hf:F.H0 acc=fC:=E1.dom acc cA;obtain⟨Ea,Xa⟩:=E1.new (o:= .lst []) cA
   refine⟨λi n ys H2=>∃j2 S2 es,Ext j1 H1 j2 H2/\En K F j2 H2 σ ρ S2/\H2 acc=dE (.lst ys)/\zL K j2 H2 es ys/\zaa j2 S2 acc/\vE get g' c e (za7 cap ρ) n i es S2=dE r,
    ⟨xs.length+1,j1,S1,[],Xa,Ea,zw,.nil,E1.notIn cA,h⟩,?_⟩
   rintro i n ys H2 ⟨j2,S2,es,X2,E2,h2,ig,nin,e2⟩;cases n with
   |zero=>cases e2
   |succ n=>
    unfold vE at e2;cases jW:get S2 with
    |none=>rw[jW] at e2;cases e2
    |some zs=>
     rw[jW] at e2;dsimp only[Ee] at e2;obtain⟨go,stop⟩:=ok i X2 E2 jW;split at e2;split at e2;rename_i hl;cases e2;obtain⟨E3,X3⟩:=E2.adopt (c:= .lst es) nin hf ⟨ys,h2,ig.mono ⟨λn b e=>by rw[Az (Au.1 e).1];exact e,wb.refl _⟩⟩;exact .inl ⟨stop hl,k _ _ (X1.trans (X2.trans X3)) E3 _ (.ref (by rw[<-E2.jl];simp))⟩;cases e2
     rename_i x ex;obtain⟨g1,g2⟩:=go x ex;refine .inr ⟨g1,λv H3 hy=> ?_⟩;obtain⟨Sm,hv⟩:=g2 v H3 hy;have E3:=E2.heap Sm;have X3:Ext j2 H2 j2 H3:=Ext.same Sm;have h3:H3 acc=dE (.lst ys):=Sm _ _ h2;obtain⟨cl,cs⟩:=zhE (cap:=cap) E3;have I0:=E3.enter cl cs;obtain⟨ρ4,S4,e4,e2⟩:=zdh e2;obtain⟨b,S5,e5,e2⟩:=zdh e2;have behind:∀{j6:mZ qm} {H6:Hp} {σ6:St} {ρ6:Rho} {S6:Sto},En K ⟨H3,j2,S2⟩ j6 H6 σ6 ρ6 S6->En K F j6 H6 σ ρ S6/\Ext j2 H2 j6 H6/\H6 acc=dE (.lst ys)/\zaa j6 S6 acc:=λ{j6 H6 σ6 ρ6 S6} X=>by
      obtain⟨E6,X6⟩:=E3.leave X;refine⟨E6,X3.trans X6,?_,λn d q1 q2=> ?_⟩
      .rcases X.keep acc _ h3 with q|⟨n,d,q1,q2,q3⟩
       .exact q
       rw[nin n d q1 q2] at q3;cases q3
      by_cases hn:n<j2.length
      .have p1:j2[n]? =dE j2[n]:=As hn;have p2:=X6.pre n _ p1;rw[q1] at p2;cases p2;have eL:n<S2.length:=by rw[<-E2.jl];exact hn
       obtain⟨d',f1,_,f3⟩:=X.old n _ (As eL);rw[q2] at f1;cases f1;have hz:=nin n _ p1 (As eL);rw[f3 hz];exact hz
      have q:=X.fresh n acc (by dsimp only;omega) q1;have q:H3 acc=fC:=q;rw[h3] at q;cases q
     refine hg I0 hv e4 λσ4 j4 H4 X4 I4=>hc I4 e5 λj5 H5 X5 I5=> ?_;cases b with
     |true=>
      rw[if_pos rfl];rw[if_pos rfl] at e2;obtain⟨y,S6,e6,e2⟩:=zdh e2;split at e2;rename_i hsz;refine he I5 e6 λj6 H6 X6 I6 w hw=> ?_;obtain⟨E6,X26,h6,h9⟩:=behind I6;obtain⟨E7,X7⟩:=E6.outside (o:= .lst (ys++[w])) h9 h6 rfl hf;refine⟨h6,by rw[ig.len];exact hsz,n,Cd _,j6,S6,es++[y],X2.trans (X26.trans X7),E7,zw,((ig.mono X26).append (.one hw)).mono X7,h9,e2⟩;cases e2
     |false=>
      rw[if_neg (by simp)];rw[if_neg (by simp)] at e2;obtain⟨E6,X26,h6,h9⟩:=behind I5;exact⟨n,Cd _,j5,S5,es,X2.trans X26,E6,h6,ig.mono X26,h9,e2⟩
 exact hi En0 e1 k
def wc(h:RE K E (ziQ cap wi g tt te) m):RS K E (zed i cap wi g tt te) (zB m (gN i)):=by
 intro F j D' σ H ρ S fl E1 e k;rcases xP e with⟨x,S1,e1,e⟩|⟨c,S1,e1,rfl⟩
 .cases e;exact h (Q:=λv H2=>D'.nx (σ.set i (dE v)) H2) E1 e1 λj1 H1 X1 E1 u hu=>k _ _ _ X1 (E1.set hu)
 exact h (Q:=λv H2=>D'.nx (σ.set i (dE v)) H2) E1 e1 k
abbrev TwF:=mZ Xv->Sto->pU (Rs Xv)
noncomputable def yb(n k:Nat)(b:TwS):TwF:=λxs S=>if xs.length=n then match b (xs.map dE++AK k fC) S with
  |some (.rt x S')=>dE (.ok x S')
  |some (.nx _ S')=>dE (.ok .non S')
  |some (.ex c S')=>dE (.ex c S')
  |_=>fC
 else fC
def zpE(K:Ar)(F:Fm)(Q:VK)(E:XK):Rs Xv->Prop
 | .ok x S'=>∀v j' H' σ ρ,En K F j' H' σ ρ S'->Xis K j' H' x v->Q v H'
 | .ex c S'=>∀j' H' σ ρ C,En K F j' H' σ ρ S'->AY K mainGlobals c=dE (dE (.ref C))->E (.ref C) fC H'
def sTw(K:Ar)(n:Nat)(tw:TwF):Sp:=λvs H Q E=>vs.length=n/\∃(j:mZ qm) (S:Sto) (xs:mZ Xv) (r:Rs Xv),En K ⟨H,j,S⟩ j H (vs.map dE) (xs.map dE) S/\tw xs S=dE r/\zpE K ⟨H,j,S⟩ Q E r
set_option tactic.hygienic true in
def znh{N:mZ Str}{Q:VK}(hN:N.length=n+k)(h:RS K E t b)(hs:sTw K n (yb n k b) vs H Q E):t {nx:=λ_ H'=>Q .non H',rt:=Q} (YN N vs) H:=by
 obtain⟨hn,j,S,xs,r,E1,e,ret⟩:=hs;have es:YN N vs=vs.map dE++AK k fC:=by
  unfold YN;rw[hN,hn,Nat.add_sub_cancel_left]
 rw[es];unfold yb at e;split at e;split at e;rename_i x S' e1;cases e;exact h E1.grow e1 λv σ ρ j' H' X E' hv=>ret _ _ _ _ _ E' hv;rename_i ρ' S' e1;cases e;exact h E1.grow e1 λσ j' H' X E'=>ret _ _ _ _ _ E' .non;rename_i c S' e1;cases e;exact h E1.grow e1 λj' H' σ' ρ' C X E' hC=>ret _ _ _ _ _ E' hC;cases e;cases e
noncomputable def zy(tw:TwF)(ms:mZ TwE):TwE:=λρ S=>rb (evL ms ρ S) λxs S1=>tw xs S1
noncomputable def za8(tw:TwF)(ms:mZ TwE):TwE:=λρ S=>rb (evL ms ρ S) λxs S1=>match tw xs S1 with
 |some (.ok x S2)=>dE (.ok x S2)
 |_=>fC
def VL(hv:zL K j H xs vs):(vs.map dE).length=(xs.map dE).length/\∀(i:Nat) x,(xs.map dE)[i]? =dE (dE x)->∃v,(vs.map dE)[i]? =dE (dE v)/\Xis K j H x v:=by
 refine⟨by simp[hv.len],λi x h=> ?_⟩;rw[Ax] at h ⊢;cases e:xs[i]? with
 |none=>rw[e] at h;cases h
 |some y=>
  rw[e] at h;simp at h;subst h;obtain⟨v,e1,e2⟩:=hv.get e;exact⟨v,by rw[e1];rfl,e2⟩
def Vg{Q:VK}(E1:En K F j H σ ρ S)(hv:zL K j H xs vs)(hn:vs.length=n)(et:tw xs S=dE r)(k:Po K F j H σ ρ E' (PoV K Q) r):sTw K n tw vs H Q E':=by
 obtain⟨l,s⟩:=VL hv;refine⟨hn,j,S,xs,r,E1.enter l s,et,?_⟩;cases r with
 |ok x S'=>
  intro v j' H' σ' ρ' X hx;obtain⟨E2,X2⟩:=E1.leave X;exact k j' H' X2 E2 v hx
 |ex c S'=>
  intro j' H' σ' ρ' C X hC;obtain⟨E2,X2⟩:=E1.leave X;exact k j' H' σ ρ C X2 E2 hC
def Vh(h:RL K E t (evL ms))(hn:ms.length=n:=by rfl):RE K E (zit (sTw K n tw) [] E t) (zy tw ms):=by
 walk_at "!c"
 .refine h En0 e1 λj1 H1 X1 E1 vs hv=> ?_;rw[CP];exact Vg E1 hv (by rw[hv.len,Xq e1,hn]) e (k.step X1)
 exact h En0 e1 k
set_option tactic.hygienic true in
def za9(h:RL K E t (evL ms))(hn:ms.length=n:=by rfl):RE K E (zit (sTw K n tw) [] E0 t) (za8 tw ms):=by
 walk_at "!c"
 .refine h En0 e1 λj1 H1 X1 E1 vs hv=> ?_;rw[CP];split at e;rename_i x S2 e2;cases e;exact Vg E1 hv (by rw[hv.len,Xq e1,hn]) e2 (λj' H' X E2 v hw=>k _ _ (X1.trans X) E2 v hw);cases e
 exact h En0 e1 k
end
end L2
variable{ρ:L2.Rho}{S:L2.Sto}{P:L2.Xv->L2.Sto->Prop}{N:L2.Rho->L2.Sto->Prop}{R:L2.Xv->L2.Sto->Prop}
namespace L2
open PySem.Builtin.Int (intBits)
noncomputable def xI(g:Int->Int->Xv):Op2:=λx y S=>match x,y with
 | .int a,.int b=>dE (g a b,S)
 |_,_=>fC
noncomputable def xIC(c:Int->Int->Bool)(g:Int->Int->Xv):Op2:=λx y S=>match x,y with
 | .int a,.int b=>if c a b then dE (g a b,S) else fC
 |_,_=>fC
def vw:Op2:=xI λi j=> .int (i+j)
def Yh:Op2:=xI λi j=> .int (i-j)
def zaq:Op2:=xIC (λi j=>decide ((-(2^64)<i/\i<2^64)\/(-(2^64)<j/\j<2^64))) λi j=> .int (i*j)
def yP:Op2:=xIC (λi j=>decide (intBits i+intBits j<=134217728)) λi j=> .int (i*j)
def vZ:Op2:=xIC (λ_ j=>decide (0<j)) λi j=> .int (i % j)
def zab:Op2:=xIC (λ_ j=>decide (0<j/\j<1073741824)) λi j=> .int (i / j)
def Wu:Op2:=xIC (λ_ j=>decide (j≠0/\intBits j<=9000)) λi j=> .int (i.fdiv j)
def zel:Op2:=xIC (λi j=>decide (0<=j/\j<=1000000/\i.natAbs<2^64)) λi j=> .int (i^j.toNat)
def dLt:Op2:=xI λi j=> .bl (decide (i<j))
def dGt:Op2:=xI λi j=> .bl (decide (j<i))
def zbO:Op2:=xI λi j=> .bl (decide (i=j))
def Uu:Op2:=xI λi j=> .bl (!decide (i=j))
noncomputable def Uv:Xv->Sto->pU (Xv×Sto):=λx S=>match x with
 | .int i=>dE (.int (-i),S)
 |_=>fC
section
variable{K:Ar}{E:XK}{F:Fm}{j j':mZ qm}{H':Hp}{σ':St}{ρ':Rho}{S':Sto}{x:Xv}{v:V}{ta tb:TE}{a b:TwE}
def zjh{g:Int->Int->V}{g':Int->Int->Xv}(hg:∀i k j H,Xis K j H (g' i k) (g i k)):Yv K (rI0 g) (xI g'):=by
 walk_at "!e";unfold xI at h;split at h;cases h;exact⟨_,_,hx.int_inv,hy.int_inv,k _ _ _ Ext.refl E1 (hg _ _ _ _)⟩;cases h
def zft{C:Int->Int->Prop}{c:Int->Int->Bool}{g:Int->Int->V}{g':Int->Int->Xv}(hc:∀i j,c i j=fJ->C i j)(hg:∀i k j H,Xis K j H (g' i k) (g i k)):Yv K (rI C g) (xIC c g'):=by
 walk_at "!e";unfold xIC at h;split at h;split at h;cases h;exact⟨_,_,hx.int_inv,hy.int_inv,hc _ _ (by assumption),k _ _ _ Ext.refl E1 (hg _ _ _ _)⟩;cases h;cases h
def zdi{p:Int->Int->Bool}(ha:RE K E ta a)(hb:RE K E tb b):RE K E (zd0 p ta tb) (eOp (xI λi j=> .bl (p i j)) a b):=
 yV (r:=rI0 λi j=> .bl (p i j)) (zjh λi k _ _=> .bl _) ha hb
def zba:Yv K (rI0 λi j=> .int (i+j)) vw:=zjh λ_ _ _ _=> .int _
def zdj:Yv K (rI0 λi j=> .int (i-j)) Yh:=zjh λ_ _ _ _=> .int _
def zfu:Yv K (rI ziq λi j=> .int (i*j)) zaq:=zft (λi j h=>by simpa [ziq] using h) λ_ _ _ _=> .int _
def Uw:Yv K (rI zm8 λi j=> .int (i*j)) yP:=zft (λi j h=>⟨intBits i,intBits j,AF _,AF _,by simpa using h⟩) λ_ _ _ _=> .int _
def zfv:Yv K (rI (λ_ j=>0<j) λi j=> .int (i % j)) vZ:=zft (λi j h=>by simpa using h) λ_ _ _ _=> .int _
def zgE:Yv K (rI znK λi j=> .int (i / j)) zab:=zft (λi j h=>by simpa [znK] using h) λ_ _ _ _=> .int _
def zbb:Yv K (rI ziT λi j=> .int (i.fdiv j)) Wu:=zft (λi j h=>by simpa [ziT] using h) λ_ _ _ _=> .int _
def zji:Yv K (rI znL λi j=> .int (i^j.toNat)) zel:=zft (λi j h=>by simpa [znL] using h) λ_ _ _ _=> .int _
def zpF(ha:RE K E ta a)(hb:RE K E tb b):RE K E (tLt ta tb) (eOp dLt a b):=zdi ha hb
def zjj(ha:RE K E ta a)(hb:RE K E tb b):RE K E (tGt ta tb) (eOp dGt a b):=zdi ha hb
def zjk(ha:RE K E ta a)(hb:RE K E tb b):RE K E (zo1 ta tb) (eOp zbO a b):=zdi ha hb
def zn5(ha:RE K E ta a)(hb:RE K E tb b):RE K E (zo2 ta tb) (eOp Uu a b):=zdi ha hb
def zbc:zpz K (rU λi=> .int (-i)) Uv:=by
 intro F j σ H ρ S S' x z u Q E1 hx h k;unfold Uv at h;split at h;cases h;exact⟨_,hx.int_inv,k _ _ _ Ext.refl E1 (.int _)⟩;cases h
noncomputable def Wv:Op2:=λx y S=>match zF S x,zF S y with
 |some a,dE b=>if a.length+b.length<=sizeLine then dE (.ref S.length,S++[.lst (a++b)]) else fC
 |_,_=>fC
set_option tactic.hygienic true in
def Vi:Yv K (znb K) Wv:=by
 walk_at "!e";unfold Wv at h;split at h;rename_i l1 l2 e1 e2;split at h;rename_i hz;cases h;obtain⟨p,xs,rfl,h1,h2⟩:=E1.lstAt hx e1;obtain⟨q,ys,rfl,g1,g2⟩:=E1.lstAt hy e2;refine⟨p,q,xs,ys,rfl,rfl,h1,g1,by rw[h2.len,g2.len];exact hz,λl hl=> ?_⟩;obtain⟨E2,X2,h3⟩:=E1.lst (h2.append g2) hl;exact k _ _ _ X2 E2 h3;cases h;cases h
noncomputable def zjl(g:Int->Xv):Opn:=λxs S=>match xs with
 |[.int i]=>dE (g i,S)
 |_=>fC
def zlI{g:Int->V}{g':Int->Xv}(hg:∀i j H,Xis K j H (g' i) (g i)):zdc K (λxs H Q=>∃i,xs=[V.int i]/\Q (g i) H) (zjl g'):=by
 walk_at "!h";unfold zjl at h;split at h;cases h;obtain⟨x,rfl,hx⟩:=hv.d1;exact⟨_,by rw[hx.int_inv],k _ _ _ Ext.refl E1 (hg _ _ _)⟩;cases h
def zdk:Opn:=zjl λi=> .int (if i<0 then -i else i)
def zjm:zdc K (λxs H Q=>∃i,xs=[V.int i]/\Q (.int (if i<0 then -i else i)) H) zdk:=zlI λ_ _ _=> .int _
noncomputable def vF:Opn:=λxs S=>match xs with
 |[x]=>(YT S x).map λl=>(.int l.length,S)
 |_=>fC
set_option tactic.hygienic true in
def zbd:zdc K (λxs H Q=>∃p ys,xs=[V.ref p]/\(SqL K H p ys\/SqT K H p ys)/\Q (.int ys.length) H) vF:=by
 walk_at "!h";unfold vF at h;split at h
 .rename_i x;cases e:YT S x with
  |none=>rw[e] at h;cases h
  |some l=>
   rw[e] at h;cases h;obtain⟨w,rfl,hx⟩:=hv.d1;obtain⟨a,ws,rfl,h1,h2⟩:=E1.seqAt hx e;refine⟨a,ws,rfl,?_,k _ _ _ Ext.refl E1 (by rw[h2.len];exact .int _)⟩;rcases h1 with h1|h1;exact .inl h1.sql;exact .inr h1
 cases h
noncomputable def zem:Opn:=λxs S=>match xs with
 |[x]=>(YT S x).map λl=>(.ref S.length,S++[.lst l])
 |_=>fC
set_option tactic.hygienic true in
def zgF:zdc K (λxs H Q=>∃p ys,xs=[V.ref p]/\(SqL K H p ys\/SqT K H p ys)/\∀l,H l=fC->Q (.ref l) (upd H l (.lst ys))) zem:=by
 walk_at "!h";unfold zem at h;split at h
 .rename_i x;cases e:YT S x with
  |none=>rw[e] at h;cases h
  |some l=>
   rw[e] at h;cases h;obtain⟨w,rfl,hx⟩:=hv.d1;obtain⟨a,ws,rfl,h1,h2⟩:=E1.seqAt hx e;refine⟨a,ws,rfl,?_,λp hp=> ?_⟩;rcases h1 with h1|h1;exact .inl h1.sql;exact .inr h1;obtain⟨E2,X2,h3⟩:=E1.lst h2 hp;exact k _ _ _ X2 E2 h3
 cases h
noncomputable def Ww:mZ Xv->pU (mZ Int)
 |[]=>dE []
 | .int i::r=>(Ww r).map (i:: ·)
 |_::_=>fC
theorem zbe:∀{xs:mZ Xv} {ns:mZ Int} {vs:mZ V},Ww xs=dE ns->zL K j H xs vs->vs=ns.map V.int
 |[],ns,vs,e,h=>by cases e;exact h.nil_inv
 |x::r,ns,vs,e,h=>by
  obtain⟨v,ws,rfl,h1,h2⟩:=h.cons_inv;cases x<;>simp only[Ww,reduceCtorEq] at e
  cases e2:Ww r with
  |none=>rw[e2] at e;cases e
  |some ms=>
   rw[e2] at e;cases e;rw[h1.int_inv,zbe e2 h2];rfl
def zhF(ns:mZ Int):Ww (ns.map Xv.int)=dE ns:=by
 induction ns with
 |nil=>rfl
 |cons n r ih=>simp[Ww,ih]
noncomputable def Ux:mZ Xv->pU (mZ Bool)
 |[]=>dE []
 | .bl i::r=>(Ux r).map (i:: ·)
 |_::_=>fC
theorem zen:∀{xs:mZ Xv} {ns:mZ Bool} {vs:mZ V},Ux xs=dE ns->zL K j H xs vs->vs=ns.map V.bl
 |[],ns,vs,e,h=>by cases e;exact h.nil_inv
 |x::r,ns,vs,e,h=>by
  obtain⟨v,ws,rfl,h1,h2⟩:=h.cons_inv;cases x<;>simp only[Ux,reduceCtorEq] at e
  cases e2:Ux r with
  |none=>rw[e2] at e;cases e
  |some ms=>
   rw[e2] at e;cases e;rw[h1.bl_inv,zen e2 h2];rfl
noncomputable def zeo:Opn:=λxs S=>match xs with
 |[x]=>((zF S x).bind Ww).map λns=>(.int ns.sum,S)
 |_=>fC
set_option tactic.hygienic true in
def zjn:zdc K (zps K) zeo:=by
 walk_at "!h";unfold zeo at h;split at h
 .rename_i x;cases e:zF S x with
  |none=>rw[e] at h;cases h
  |some l=>
   rw[e] at h;cases e2:Ww l with
   |none=>simp[e2] at h
   |some ns=>
    simp[e2] at h;obtain⟨rfl,rfl⟩:=h;obtain⟨w,rfl,hx⟩:=hv.d1;obtain⟨p,ws,rfl,h1,h2⟩:=E1.lstAt hx e;refine⟨p,ns,rfl,?_,k _ _ _ Ext.refl E1 (.int _)⟩;rw[<-zbe e2 h2];exact h1.sql
 cases h
noncomputable def zlJ:Opn:=λxs S=>match xs with
 |[x]=>((zF S x).bind Ux).map λns=>(.bl (ns.all id),S)
 |_=>fC
set_option tactic.hygienic true in
def zjo:zdc K (zpu K) zlJ:=by
 walk_at "!h";unfold zlJ at h;split at h
 .rename_i x;cases e:zF S x with
  |none=>rw[e] at h;cases h
  |some l=>
   rw[e] at h;cases e2:Ux l with
   |none=>simp[e2] at h
   |some ns=>
    simp only[AO,e2,Cr,Bm,Gq] at h;obtain⟨rfl,rfl⟩:=h;obtain⟨w,rfl,hx⟩:=hv.d1;obtain⟨p,ws,rfl,h1,h2⟩:=E1.lstAt hx e;refine⟨p,ns,rfl,?_,k _ _ _ Ext.refl E1 (.bl _)⟩;rw[<-zen e2 h2];exact h1.sql
 cases h
noncomputable def zfw(neg:Bool):Op2:=λx y S=>match x,y with
 | .int a,.int b=>dE (.bl (neg !=decide (a=b)),S)
 | .str a,.str b=>dE (.bl (neg !=decide (a=b)),S)
 | .bl a,.bl b=>dE (.bl (neg !=decide (a=b)),S)
 | .non,.non=>dE (.bl (neg !=fJ),S)
 | .int _,.str _=>dE (.bl (neg !=kb),S)
 | .str _,.int _=>dE (.bl (neg !=kb),S)
 |_,_=>fC
def zjp:Yv K rEq (zfw kb):=by
 walk_at "!e";cases hx<;>cases hy<;>simp only[zfw,reduceCtorEq,Bm,Gq,Bool.false_bne] at h<;>obtain⟨rfl,rfl⟩:=h<;>refine⟨rfl,k _ _ _ Ext.refl E1 ?_⟩<;>simp<;>exact .bl _
def zjq:Yv K rNe (zfw fJ):=by
 walk_at "!e";cases hx<;>cases hy<;>simp only[zfw,reduceCtorEq,Bm,Gq,Bool.true_bne] at h<;>obtain⟨rfl,rfl⟩:=h<;>refine⟨rfl,k _ _ _ Ext.refl E1 ?_⟩<;>simp<;>exact .bl _
noncomputable def Yk:Xv->Bool
 | .non=>fJ
 | .bl _=>fJ
 | .int _=>fJ
 | .str _=>fJ
 |_=>kb
noncomputable def zep:Xv->Xv->Bool
 | .non,.non=>fJ
 | .bl a,.bl b=>a==b
 | .bl a,.int b=>(if a then 1 else 0)==b
 | .int a,.bl b=>a==(if b then 1 else 0)
 | .int a,.int b=>a==b
 | .str a,.str b=>a==b
 |_,_=>kb
noncomputable def dIn(neg:Bool):Op2:=λx y S=>(YT S y).bind λl=>if Yk x&&l.all Yk then dE (.bl (neg !=l.any λz=>zep z x),S) else fC
def zeq(h:Xis K j H x v):Wp v=Yk x:=by cases h<;>rfl
def zn6(h:Xis K j H x v)(g:Xis K j H y w)(fx:Yk x=fJ)(fy:Yk y=fJ):eqV v w=zep x y:=by cases h<;>cases g<;>first|rfl|cases fx|cases fy
def zlK(h:zL K j H xs vs):vs.all Wp=xs.all Yk:=
 h.ind (m:=λxs vs=>vs.all Wp=xs.all Yk) rfl λh _ ih=>by rw[DC,DC,zeq h,ih]
def zlL(hx:Xis K j H x v)(fx:Yk x=fJ)(h:zL K j H xs vs):xs.all Yk=fJ->inV v vs=xs.any λz=>zep z x:=
 h.ind (m:=λxs vs=>xs.all Yk=fJ->inV v vs=xs.any λz=>zep z x) (λ_=>rfl) λh _ ih f=>by
  rw[DC,BV] at f;have:=ih f.2;unfold inV at this ⊢;rw[CZ,CZ,zn6 h hx f.1 fx,this]
set_option tactic.hygienic true in
def zpG:Yv K (rIn K neg) (dIn neg):=by
 walk_at "!e";unfold dIn at h;cases e:YT S y with
 |none=>rw[e] at h;cases h
 |some l=>
  rw[e] at h;dsimp only[Ee] at h;split at h
  .rename_i hf;have hf:=Bool.and_eq_true_iff.1 hf;cases h;obtain⟨p,ws,rfl,h1,h2⟩:=E1.seqAt hy e;refine⟨p,ws,rfl,?_,by rw[zeq hx];exact hf.1,by rw[zlK h2];exact hf.2,k _ _ _ Ext.refl E1 ?_⟩;rcases h1 with h1|h1;exact .inl h1.sql;exact .inr h1
   rw[zlL hx hf.1 h2 hf.2];cases neg<;>simp<;>exact .bl _
  cases h
noncomputable def vX(f:Xv->pU D):mZ Xv->pU (mZ D)
 |[]=>dE []
 |x::r=>(f x).bind λd=>(vX f r).map (d:: ·)
noncomputable def wU(S:Sto):Nat->Xv->pU D
 |0,x=>match x with
  | .non=>dE .non
  | .bl b=>dE (.bl b)
  | .int i=>dE (.int i)
  | .str s=>dE (.str s)
  |_=>fC
 |n+1,x=>match x with
  | .non=>dE .non
  | .bl b=>dE (.bl b)
  | .int i=>dE (.int i)
  | .str s=>dE (.str s)
  | .tup l=>(vX (wU S n) l).map .tup
  | .ct l=>(vX (wU S n) l).map .tup
  | .ref m=>(zF S (.ref m)).bind λl=>(vX (wU S n) l).map .lst
  | .lam _ _=>fC
def zbf{f:Xv->pU D}(hf:∀x v d,Xis K j H x v->f x=dE d->Is K H v d/\D.depth d<=n)(h:zL K j H xs vs):vX f xs=dE ds->IsL K H vs ds/\D.depths ds<=n:=
 h.ind (m:=λxs vs=>∀ds,vX f xs=dE ds->IsL K H vs ds/\D.depths ds<=n) (λds e=>by cases e;exact⟨.nil,by simp[D.depths]⟩) (λ{x v r vs} h l ih ds e=>by
  unfold vX at e;cases e1:f x with
  |none=>rw[e1] at e;cases e
  |some d=>
   rw[e1] at e;cases e2:vX f r with
   |none=>simp[e2] at e
   |some es=>
    simp[e2] at e;subst e;obtain⟨a1,a2⟩:=hf _ _ _ h e1;obtain⟨b1,b2⟩:=ih es e2
    exact⟨.cons a1 b1,by unfold D.depths;omega⟩) ds
theorem zdl(E1:En K F j H σ ρ S):∀(n:Nat) (x:Xv) (v:V) (d:D),Xis K j H x v->wU S n x=dE d->Is K H v d/\D.depth d<=n
 |0,x,v,d,h,e=>by
  cases h<;>simp only[wU,Bm,reduceCtorEq] at e<;>subst e<;>refine⟨by constructor,by simp[D.depth]⟩
 |n+1,x,v,d,h,e=>by
  have ih:=zdl E1 n;cases h with
  |non=>simp only[wU,Bm] at e;subst e;exact⟨.non,by simp[D.depth]⟩
  |bl b=>simp only[wU,Bm] at e;subst e;exact⟨.bl b,by simp[D.depth]⟩
  |int b=>simp only[wU,Bm] at e;subst e;exact⟨.int b,by simp[D.depth]⟩
  |str b=>simp only[wU,Bm] at e;subst e;exact⟨.str b,by simp[D.depth]⟩
  |lam h l=>simp only[wU,reduceCtorEq] at e
  | @tup a vs l h1 h2=>
   simp only[wU] at e;cases e2:vX (wU S n) l with
   |none=>rw[e2] at e;cases e
   |some ds=>
    rw[e2] at e;cases e;obtain⟨a1,a2⟩:=zbf ih h2 e2;exact⟨.tup (SqT.of h1) a1,by unfold D.depth;omega⟩
  | @ct a vs l h1 h2=>
   simp only[wU] at e;cases e2:vX (wU S n) l with
   |none=>rw[e2] at e;cases e
   |some ds=>
    rw[e2] at e;cases e;obtain⟨a1,a2⟩:=zbf ih h2 e2;exact⟨.tup (h1 H) a1,by unfold D.depth;omega⟩
  | @ref m a h1=>
   simp only[wU] at e;cases e1:zF S (.ref m) with
   |none=>rw[e1] at e;cases e
   |some l=>
    rw[e1] at e;cases e2:vX (wU S n) l with
    |none=>simp[e2] at e
    |some ds=>
     simp[e2] at e;subst e;obtain⟨a',vs,ea,g1,g2⟩:=E1.lstAt (.ref h1) e1;cases ea;obtain⟨a1,a2⟩:=zbf ih g2 e2;exact⟨.lst g1.sql a1,by unfold D.depth;omega⟩
noncomputable def D.many:D->Bool
 | .tup _=>fJ
 | .lst _=>fJ
 |_=>kb
noncomputable def zjr(c:String)(S:Sto):Xv->pU Bool
 | .non=>dE kb
 | .int _=>dE (c=="int")
 | .bl _=>dE (c=="bool"||c=="int")
 | .str _=>dE (c=="str")
 | .tup _=>dE (c=="tuple")
 | .ct _=>dE (c=="tuple")
 | .ref n=>(zF S (.ref n)).map λ_=>c=="list"
 | .lam _ _=>fC
structure zbg(c:String):Prop where
 non:∀K,BI K (.type "NoneType") (.type c)=dE kb
 bl:∀K,BI K (.type "bool") (.type c)=dE (c=="bool"||c=="int")
 int:∀K,BI K (.type "int") (.type c)=dE (c=="int")
 str:∀K,BI K (.type "str") (.type c)=dE (c=="str")
 tup:∀K,BI K (.type "tuple") (.type c)=dE (c=="tuple")
 lst:∀K,BI K (.type "list") (.type c)=dE (c=="list")
def ZV(a b:String)(K:Ar)(h1:(Value.type a==Value.type b)=kb)(h:(fastBuiltinMro a).map (·.contains (.type b))=dE kb)(hm:D5 b=fJ):BI K (.type a) (.type b)=dE kb:=znW h1 h hm rfl
def zgG:zbg "int":=⟨λK=>ZV _ _ K ∅ (*...*) (*...*),λK=>zc8,λK=>Ws,λK=>ZV _ _ K ∅ (*...*) (*...*),λK=>ZV _ _ K ∅ (*...*) (*...*),λK=>ZV _ _ K ∅ (*...*) (*...*)⟩
def zer:zbg "bool":=⟨λK=>ZV _ _ K ∅ (*...*) (*...*),λK=>Ws,λK=>zc9,λK=>ZV _ _ K ∅ (*...*) (*...*),λK=>ZV _ _ K ∅ (*...*) (*...*),λK=>ZV _ _ K ∅ (*...*) (*...*)⟩
def zgH:zbg "str":=⟨λK=>ZV _ _ K ∅ (*...*) (*...*),λK=>ZV _ _ K ∅ (*...*) (*...*),λK=>ZV _ _ K ∅ (*...*) (*...*),λK=>Ws,λK=>ZV _ _ K ∅ (*...*) (*...*),λK=>ZV _ _ K ∅ (*...*) (*...*)⟩
def zcq:zbg "tuple":=⟨λK=>ZV _ _ K ∅ (*...*) (*...*),λK=>ZV _ _ K ∅ (*...*) (*...*),λK=>ZV _ _ K ∅ (*...*) (*...*),λK=>ZV _ _ K ∅ (*...*) (*...*),λK=>Ws,λK=>ZV _ _ K ∅ (*...*) (*...*)⟩
def zes:zbg "list":=⟨λK=>ZV _ _ K ∅ (*...*) (*...*),λK=>ZV _ _ K ∅ (*...*) (*...*),λK=>ZV _ _ K ∅ (*...*) (*...*),λK=>ZV _ _ K ∅ (*...*) (*...*),λK=>ZV _ _ K ∅ (*...*) (*...*),λK=>Ws⟩
noncomputable def zar(c:String):Xv->Sto->pU (Xv×Sto):=λx S=>(zjr c S x).map λb=>(.bl b,S)
def zlM{c:String}(ok:zbg c)(E1:En K F j H σ ρ S){b:Bool}{Q:VK}(h:Xis K j H x v)(e:zjr c S x=dE b)(k:Q (.bl b) H):zlz K [v,.ty c] H Q:=by
 cases h with
 |non=>cases e;exact⟨_,_,_,_,_,rfl,rfl,.of .non,ok.non K,k⟩
 |bl b=>cases e;exact⟨_,_,_,_,_,rfl,rfl,.of (.bl b),ok.bl K,k⟩
 |int i=>cases e;exact⟨_,_,_,_,_,rfl,rfl,.of (.int i),ok.int K,k⟩
 |str z=>cases e;exact⟨_,_,_,_,_,rfl,rfl,.of (.str z),ok.str K,k⟩
 |tup h l=>cases e;exact⟨_,_,_,_,_,rfl,rfl,.sqt (SqT.of h),ok.tup K,k⟩
 |ct h l=>cases e;exact⟨_,_,_,_,_,rfl,rfl,.sqt (h H),ok.tup K,k⟩
 |lam h l=>cases e
 | @ref n a h=>
  simp only[zjr] at e;cases e1:zF S (.ref n) with
  |none=>rw[e1] at e;cases e
  |some l=>
   rw[e1] at e;cases e;obtain⟨a',vs,ea,g1,g2⟩:=E1.lstAt (.ref h) e1;cases ea;exact⟨_,_,_,_,_,rfl,rfl,.sql g1.sql,ok.lst K,k⟩
def zn7(ok:zbg c)(h:RE K E t m):RE K E (tCB (zlz K) (Uk t (Uk (tC (.ty c)) zfg))) (eUn (zar c) m):=by
 walk_at "!a"
 .obtain⟨z,S3,e3,rfl⟩:=YS e;unfold zar at e3;cases e4:zjr c S1 x with
  |none=>rw[e4] at e3;cases e3
  |some b=>
   rw[e4] at e3;cases e3;exact h En0 e1 λj1 H1 X1 E1 u hu=>zlM ok E1 hu e4 (k _ _ X1 E1 _ (.bl _))
 exact h En0 e1 k
noncomputable def ZK(xs:mZ Xv):mZ Xv:=xs.zipIdx.map λp=> .tup [.int (p.2:Int),p.1]
def zet{xs:mZ Xv}{i:Nat}{y:Xv}(h:(ZK xs)[i]? =dE y):∃x,xs[i]? =dE x/\y= .tup [.int (i:Int),x]:=by
 unfold ZK at h;rw[Ax,Ge] at h;cases e:xs[i]? with
 |none=>rw[e] at h;cases h
 |some x=>
  rw[e] at h;simp at h;exact⟨x,rfl,h.symm⟩
def zcr(xs:mZ Xv):(ZK xs).length=xs.length:=by simp[ZK]
def iEn(m:TwE):TwI:=λρ S=>rb (m ρ S) λx S1=>(zF S1 x).map λ_=> .ok (λS=>(zF S x).map ZK) S1
def zql(Sm:Zz H H')(hp:H' p=dE (.tup [.int i,w]))(h:Xis K j H y w):Xis K j H' (.tup [.int i,y]) (.ref p):=
 .tup hp (.cons (.int i) (.one (h.mono (Ext.same Sm))))
def zlN(h:RE K E t m):RI K E (zm9 K (Uk t zfg)) (iEn m):=by
 walk_at "!d"
 .cases el:zF S1 x with
  |none=>rw[el] at e;cases e
  |some l=>
   rw[el] at e;cases e;refine h En0 e1 λj1 H1 X1 E1 u hu=> ?_;obtain⟨a,vs,rfl,h1,_⟩:=E1.lstAt hu el;refine⟨a,rfl,⟨vs,h1.sql⟩,k _ _ X1 E1 _ ?_⟩;intro F2 j2 H2 σ2 ρ2 S2 xs i X2 E2 e2;dsimp only at e2;cases gg:zF S2 x with
   |none=>rw[gg] at e2;cases e2
   |some l2=>
    rw[gg] at e2;cases e2;obtain⟨a',ws,ea,g1,g2⟩:=E2.lstAt (hu.mono X2) gg;cases ea;refine⟨λy ey=> ?_,λhle=>⟨ws,g1.sql,by rw[g2.len];rw[zcr] at hle;omega⟩⟩;obtain⟨y',ey',rfl⟩:=zet ey;obtain⟨w,f1,f2⟩:=g2.get ey';refine⟨⟨ws,w,g1.sql,f1⟩,?_⟩;rintro v' H' ⟨p,w',rfl,hp,rfl,hx⟩;have:=hx ws g1.sql;rw[f1] at this;cases this;exact⟨yN hp,zql (yN hp) zw f2⟩
 exact h En0 e1 k
noncomputable def iRv(m:TwE):TwI:=λρ S=>rb (m ρ S) λx S1=>(zF S1 x).map λl=> .ok (λS=>(zF S x).bind λl2=>if l2.length=l.length then dE l2.reverse else fC) S1
set_option tactic.hygienic true in
def zlO(h:RE K E t m):RI K E (zpw K (Uk t zfg)) (iRv m):=by
 walk_at "!d"
 .cases el:zF S1 x with
  |none=>rw[el] at e;cases e
  |some l=>
   rw[el] at e;cases e;refine h En0 e1 λj1 H1 X1 E1 u hu=> ?_;obtain⟨a,vs,rfl,h1,nZ⟩:=E1.lstAt hu el;refine⟨a,vs,rfl,h1.sql,k _ _ X1 E1 _ ?_⟩;intro F2 j2 H2 σ2 ρ2 S2 xs i X2 E2 e2;dsimp only at e2;cases gg:zF S2 x with
   |none=>rw[gg] at e2;cases e2
   |some l2=>
    rw[gg] at e2;dsimp only[Ee] at e2;split at e2
    .rename_i hl;cases e2;obtain⟨a',ws,ea,g1,g2⟩:=E2.lstAt (hu.mono X2) gg;cases ea;have n1:=nZ.len;have n2:=g2.len;refine⟨λy ey=> ?_,λhle=> ?_⟩
     .have hi:i<l2.length:=by
       have:=(Au.1 ey).1;simpa using this
      rw[G6 hi] at ey;obtain⟨w,f1,f2⟩:=g2.get ey;refine⟨⟨⋯,ws,g1.sql,⋯⟩,?_⟩;rintro v' H' ⟨rfl,hx⟩;have:=hx ws g1.sql;rw[show vs.length-1-i=l2.length-1-i by omega,f1] at this;cases this;exact⟨Zz.refl _,f2⟩
     show i=vs.length;simp at hle;omega
    cases e2
 exact h En0 e1 k
end
end L2
namespace L2
noncomputable def Uy:Xv->pU Key
 | .int i=>dE (.inl i)
 | .str z=>dE (.inr z)
 |_=>fC
noncomputable def wC(S:Sto):Xv->pU (Nat×mZ (Key×Xv))
 | .ref n=>match S[n]? with
  |some (.dk kvs)=>dE (n,kvs)
  |_=>fC
 |_=>fC
noncomputable def zhG(S:Sto):Xv->pU (Nat×mZ (Key×Xv))
 | .ref n=>match S[n]? with
  |some (.dk kvs)=>dE (n,kvs)
  |some (.fdk kvs)=>dE (n,kvs)
  |_=>fC
 |_=>fC
noncomputable def vT{κ:Type}[DecidableEq κ](kvs:mZ (κ×Xv))(k:κ):pU Xv:=(kvs.find? λkv=>decide (kv.1=k)).map (·.2)
noncomputable def zhH{κ:Type}[DecidableEq κ](kvs:mZ (κ×Xv))(k:κ)(x:Xv):mZ (κ×Xv):=
 if (kvs.any λkv=>decide (kv.1=k))=fJ then kvs.map (λkv=>if kv.1=k then (kv.1,x) else kv) else kvs++[(k,x)]
section
variable{K:Ar}{E:XK}{F:Fm}{j:mZ qm}{x:Xv}{v:V}{κ:Type}
def Uz(h:Xis K j H x v)(e:Uy x=dE k):v=kV k:=by
 cases h<;>simp only[Uy,Bm,reduceCtorEq] at e<;>subst e<;>rfl
def YW(h:wC S x=dE (n,kvs)):x= .ref n/\S[n]? =dE (.dk kvs):=by
 cases x<;>simp only[wC,reduceCtorEq] at h
 split at h;cases h;exact⟨rfl,by assumption⟩;cases h
def En.dk(E1:En K F j H σ ρ S)(hx:Xis K j H x v)(h:wC S x=dE (n,kvs)):∃a ks,v= .ref a/\j[n]? =dE a/\H a=dE (.dK ks)/\KX K j H kvs ks:=by
 obtain⟨rfl,hs⟩:=YW h;obtain⟨a,rfl,hj⟩:=hx.ref_inv;obtain⟨ks,e1,e2⟩:=E1.cel _ _ _ hs hj;exact⟨a,ks,rfl,hj,e1,e2⟩
def zlP(h:wC S x=dE p):zhG S x=dE p:=by
 obtain⟨n,kvs⟩:=p;obtain⟨rfl,e⟩:=YW h;unfold zhG;dsimp only;rw[e]
set_option tactic.hygienic true in
def En.dr(E1:En K F j H σ ρ S)(hx:Xis K j H x v)(h:zhG S x=dE (n,kvs)):∃a ks,v= .ref a/\j[n]? =dE a/\Rd H a (.dK ks)/\KX K j H kvs ks:=by
 cases x<;>simp only[zhG,reduceCtorEq] at h
 obtain⟨a,rfl,hj⟩:=hx.ref_inv;split at h;rename_i hs;cases h;obtain⟨ks,e1,e2⟩:=E1.cel _ _ _ hs hj;exact⟨a,ks,rfl,hj,.inl e1,e2⟩;rename_i hs;cases h;obtain⟨o,ks,e1,e2⟩:=E1.cel _ _ _ hs hj;exact⟨a,ks,rfl,hj,.inr ⟨o,e1⟩,e2⟩;cases h
def zam.r{k:Key}(e:Rd H a (.dK kvs)):zam H a (kV k) (ZM kvs k):= .inl ⟨kvs,k,e,rfl,rfl⟩
def KX.len{kvs:mZ (κ×Xv)}{ks:mZ (κ×V)}(h:KX K j H kvs ks):ks.length=kvs.length:=by
 induction h with
 |nil=>exact rfl
 |cons h _ ih=>exact congrArg (· +1) ih
def KX.keys{kvs:mZ (κ×Xv)}{ks:mZ (κ×V)}(h:KX K j H kvs ks):ks.map (·.1)=kvs.map (·.1):=by
 induction h with
 |nil=>exact rfl
 |cons h _ ih=>exact by rw[AZ,AZ,ih]
def KX.val[DecidableEq κ]{k:κ}{kvs:mZ (κ×Xv)}{ks:mZ (κ×V)}(h:KX K j H kvs ks):(∀y,vT kvs k=dE y->∃w,ZM ks k=dE w/\Xis K j H y w)/\(vT kvs k=fC->ZM ks k=fC):=by
 induction h with
 |nil=>exact⟨λ_ e=>by simp[vT] at e,λ_=>rfl⟩
 | @cons k1 y1 w1 r rs h l ih=>
  obtain⟨i1,i2⟩:=ih;by_cases e:k1=k;subst e;refine⟨λy ey=> ?_,λey=> ?_⟩;simp[vT] at ey;subst ey;exact⟨w1,by simp[ZM],h⟩;simp[vT] at ey
  have e1:vT ((k1,y1)::r) k=vT r k:=by simp[vT,C2,e]
  have e2:ZM ((k1,w1)::rs) k=ZM rs k:=by simp[ZM,C2,e]
  rw[e1,e2];exact⟨i1,i2⟩
def KX.append{kvs r:mZ (κ×Xv)}{ks rs:mZ (κ×V)}(h:KX K j H kvs ks)(g:KX K j H r rs):KX K j H (kvs++r) (ks++rs):=by
 induction h with
 |nil=>exact g
 |cons h _ ih=>exact .cons h ih
def KX.any{f:κ->Bool}(h:KX K j H kvs ks):(ks.any λp=>f p.1)=kvs.any λp=>f p.1:=by
 induction h with
 |nil=>rfl
 |cons h _ ih=>rw[CZ,CZ,ih]
set_option tactic.hygienic true in
def KX.put[DecidableEq κ]{k:κ}(hx:Xis K j H x v){kvs:mZ (κ×Xv)}{ks:mZ (κ×V)}(h:KX K j H kvs ks):KX K j H (zhH kvs k x) (Tf ks k v):=by
 unfold zhH Tf;rw[h.any (f:=λa=>decide (a=k))];split
 .rename_i hc;clear hc
  induction h with
  |nil=>exact .nil
  | @cons k1 y w r rs h l ih=>
   rw[AZ,AZ];by_cases e:k1=k;rw[if_pos e,if_pos e];exact .cons hx ih;rw[if_neg e,if_neg e];exact .cons h ih
 exact h.append (.cons hx .nil)
def En.wdk(E1:En K F j H σ ρ S)(h:wC S x=dE (n,kvs))(hj:j[n]? =dE a)(hw:KX K j H kvs' ws):En K F j (upd H a (.dK ws)) σ ρ (S.set n (.dk kvs'))/\Ext j H j (upd H a (.dK ws)):=
 E1.write (YW h).2 rfl hj rfl λX=>⟨ws,zw,hw.mono X⟩
noncomputable def zdm:TwE:=λ_ S=>dE (.ok (.ref S.length) (S++[.dk []]))
def zlQ:RE K E ziH zdm:=by
 intro F j σ H ρ S r Q En0 e k p hp;cases e;have X:Ext j H (j++[p]) (upd H p (.dK [])):=⟨λn a e=>by rw[Az (Au.1 e).1];exact e,wb.same (yN hp)⟩;obtain⟨E1,_⟩:=En0.cell (o:= .dK []) (c:= .dk []) hp ⟨[],zw,.nil⟩;exact k _ _ X E1 _ (.ref (by rw[<-En0.jl];simp))
def zgI(d k:TwE):TwE:=λρ S=>rb (d ρ S) λx S1=>rb (k ρ S1) λy S2=>match zhG S2 x,Uy y with
 |some (_,kvs),dE key=>(vT kvs key).map λz=> .ok z S2
 |_,_=>fC
set_option tactic.hygienic true in
def zlR(hd:RE K E td d)(hk:RE K E ty k):RE K E (zm6 td ty) (zgI d k):=by
 walk_at "!g"
 .refine hd En0 e1 λj1 H1 X1 E1 u hu=> ?_;rcases zt e with⟨y,S2,e2,e⟩|⟨c,S2,e2,rfl⟩
  .refine hk E1 e2 λj2 H2 X2 E2 w hw=> ?_;split at e
   .rename_i n kvs key ed ek;cases ev:vT kvs key with
    |none=>rw[ev] at e;cases e
    |some z=>
     rw[ev] at e;cases e;obtain⟨a,ks,rfl,hj,f1,f2⟩:=E2.dr (hu.mono X2) ed;obtain⟨z',g1,g2⟩:=f2.val.1 _ ev;refine⟨a,z',rfl,?_,kk _ _ (X1.trans X2) E2 _ g2⟩;rw[Uz hw ek,<-g1];exact zam.r f1
   cases e
  exact hk E1 e2 (PX.mono kk X1)
 exact hd En0 e1 kk
def zlS(f1:H a=dE (.dK ks))(f2:KX K j H kvs ks):∃o,zam H a (kV key) o/\o.isSome=(vT kvs key).isSome/\∀z zd,Xis K j H z zd->Xis K j H ((vT kvs key).getD z) (o.getD zd):=by
 refine⟨_,zam.k f1,?_,λz zd hz=> ?_⟩
 .cases ev:vT kvs key with
  |none=>rw[f2.val.2 ev];rfl
  |some y=>obtain⟨w,g1,_⟩:=f2.val.1 _ ev;rw[g1];rfl
 cases ev:vT kvs key with
 |none=>rw[f2.val.2 ev];exact hz
 |some y=>obtain⟨w,g1,g2⟩:=f2.val.1 _ ev;rw[g1];exact g2
def zbh(d k z:TwE):TwE:=λρ S=>rb (d ρ S) λx S1=>(wC S1 x).bind λ_=>rb (k ρ S1) λy S2=>rb (z ρ S2) λw S3=>match wC S3 x,Uy y with
 |some (_,kvs),dE key=>dE (.ok ((vT kvs key).getD w) S3)
 |_,_=>fC
set_option tactic.hygienic true in
def zjs(hd:RE K E td d)(hk:RE K E ty k)(hz:RE K E tx z):RE K E (ziI td ty tx) (zbh d k z):=by
 walk_at "!g"
 .refine hd En0 e1 λj1 H1 X1 E1 u hu=> ?_;cases fW:wC S1 x with
  |none=>rw[fW] at e;cases e
  |some p0=>
   rw[fW] at e;obtain⟨n0,jo⟩:=p0;obtain⟨a,k5,rfl,lI,f0,_⟩:=E1.dk hu fW;refine⟨a,rfl,.inl ⟨k5,.inl f0⟩,?_⟩;rcases zt e with⟨y,S2,e2,e⟩|⟨c,S2,e2,rfl⟩
   .refine hk E1 e2 λj2 H2 X2 E2 w hw=> ?_;rcases zt e with⟨q,S3,e3,e⟩|⟨c,S3,e3,rfl⟩
    .refine hz E2 e3 λj3 H3 X3 E3 wq hq=> ?_;split at e;rename_i n kvs key ed ek;cases e;obtain⟨a',ks,ea,hj,f1,f2⟩:=E3.dk (hu.mono (X2.trans X3)) ed;cases ea;obtain⟨o,g1,_,g3⟩:=zlS (key:=key) f1 f2;exact⟨o,by rw[Uz hw ek];exact g1,kk _ _ (X1.trans (X2.trans X3)) E3 _ (g3 _ _ hq)⟩;cases e
    exact hz E2 e3 (PX.mono kk (X1.trans X2))
   exact hk E1 e2 (PX.mono kk X1)
 exact hd En0 e1 kk
def Ti(d k v:TwE):TwS:=λρ S=>sb (v ρ S) λz S1=>sb (d ρ S1) λx S2=>sb (k ρ S2) λy S3=>match wC S3 x,Uy y with
 |some (n,kvs),dE key=>if kvs.length<sizeLine then dE (.nx ρ (S3.set n (.dk (zhH kvs key z)))) else fC
 |_,_=>fC
set_option tactic.hygienic true in
def zlT{td ty tv:TE}{d k v:TwE}(hd:RE K E td d)(hk:RE K E ty k)(hv:RE K E tv v):RS K E (zm7 td ty tv) (Ti d k v):=by
 intro F j D' σ H ρ S fl E0 e kk;rcases xP e with⟨z,S1,e1,e⟩|⟨c,S1,e1,rfl⟩
 .refine hv E0 e1 λj1 H1 X1 E1 wz t8=> ?_;rcases xP e with⟨x,S2,e2,e⟩|⟨c,S2,e2,rfl⟩
  .refine hd E1 e2 λj2 H2 X2 E2 u hu=> ?_;rcases xP e with⟨y,S3,e3,e⟩|⟨c,S3,e3,rfl⟩
   .refine hk E2 e3 λj3 H3 X3 E3 w hw=> ?_;split at e;rename_i n kvs key ed ek;split at e;rename_i hl;cases e;obtain⟨a,ks,rfl,hj,f1,f2⟩:=E3.dk (hu.mono X3) ed;obtain⟨E4,X4⟩:=E3.wdk ed hj (f2.put (k:=key) (t8.mono (X2.trans X3)));refine⟨a,_,rfl,?_,kk _ _ _ (X1.trans (X2.trans (X3.trans X4))) E4⟩;rw[Uz hw ek];exact ziE.k f1 (by rw[f2.len];exact hl);cases e;cases e
   exact hk E2 e3 (PX.mono kk (X1.trans X2))
  exact hd E1 e2 (PX.mono kk X1)
 exact hv E0 e1 kk
noncomputable def zeu:Opn:=λxs S=>match xs with
 |[x]=>(wC S x).map λp=>(.int p.2.length,S)
 |_=>fC
set_option tactic.hygienic true in
def zlU:zdc K (λxs H Q=>∃a kvs,xs=[V.ref a]/\H a=dE (.dK kvs)/\Q (.int kvs.length) H) zeu:=by
 walk_at "!h";unfold zeu at h;split at h
 .rename_i x;cases e:wC S x with
  |none=>rw[e] at h;cases h
  |some p=>
   obtain⟨n,kvs⟩:=p;rw[e] at h;cases h;obtain⟨w,rfl,hx⟩:=hv.d1;obtain⟨a,ks,rfl,hj,h1,h2⟩:=E1.dk hx e;exact⟨a,ks,rfl,h1,k _ _ _ Ext.refl E1 (by rw[h2.len];exact .int _)⟩
 cases h
def zqm(h:Rd H a (.dK ks)):tyV K "dict" (.ref a) H:= .inr (.inr (.inl ⟨rfl,.inl ⟨ks,h⟩⟩))
def tyD(h:H a=dE (.dK ks)):tyV K "dict" (.ref a) H:=zqm (.inl h)
end
open PySem.Builtin.Int (intBits)
def W{α:Type}(r:pU (Rs α))(P:α->Sto->Prop):Prop:=∃a S,r=dE (.ok a S)/\P a S
def WO(r:pU (Xv×Sto))(P:Xv->Sto->Prop):Prop:=∃a S,r=dE (a,S)/\P a S
def WS(r:pU Fl)(N:Rho->Sto->Prop)(R:Xv->Sto->Prop):Prop:=(∃ρ S,r=dE (.nx ρ S)/\N ρ S)\/∃x S,r=dE (.rt x S)/\R x S
section
variable{S':Sto}{d x y:Xv}{a b m o:TwE}{c:TwT}{s t:TwS}{i k:Nat}{PB:Bool->Sto->Prop}{PL:mZ Xv->Sto->Prop}{PO:pU Int->Sto->Prop}
def W.of{α:Type}{r:pU (Rs α)}{a:α}{P:α->Sto->Prop}(e:r=dE (.ok a S))(h:P a S):W r P:=⟨a,S,e,h⟩
def WO.of(e:r=dE (x,S))(h:P x S):WO r P:=⟨x,S,e,h⟩
def W.imp{α:Type}{r:pU (Rs α)}{P Q:α->Sto->Prop}(h:W r P)(k:∀a S,P a S->Q a S):W r Q:=by
 obtain⟨a,S,e,h⟩:=h;exact⟨a,S,e,k _ _ h⟩
def WS.nx(e:r=dE (.nx ρ S))(h:N ρ S):WS r N R:= .inl ⟨ρ,S,e,h⟩
def WS.rt(e:r=dE (.rt x S))(h:R x S):WS r N R:= .inr ⟨x,S,e,h⟩
def W.bind{α β:Type}{r:pU (Rs α)}{f:α->Sto->pU (Rs β)}{P:β->Sto->Prop}(h:W r λa S=>W (f a S) P):W (rb r f) P:=by
 obtain⟨a,S,rfl,h⟩:=h;exact h
def WS.bind{α:Type}{r:pU (Rs α)}{f:α->Sto->pU Fl}(h:W r λa S=>WS (f a S) N R):WS (sb r f) N R:=by
 obtain⟨a,S,rfl,h⟩:=h;exact h
def W.okP(h:WO r P):W (okP r) P:=by
 obtain⟨a,S,rfl,h⟩:=h;exact⟨a,S,rfl,h⟩
def zjt(h:ρ[i]? =dE (dE d))(k:P d S):W (za i ρ S) P:= .of (by unfold za;rw[h]) k
def zqn(k:P d S):W (eC d ρ S) P:= .of rfl k
def vp(h:W (a ρ S) λx S1=>W (b ρ S1) λy S2=>WO (f x y S2) P):W (eOp f a b ρ S) P:=W.bind (h.imp λ_ _ h=>W.bind (h.imp λ_ _ h=>W.okP h))
def zpH{f:Xv->Sto->pU (Xv×Sto)}(h:W (a ρ S) λx S1=>WO (f x S1) P):W (eUn f a ρ S) P:=W.bind (h.imp λ_ _ h=>W.okP h)
def zju(h:W (a ρ S) λx S1=>∃v,x= .bl v/\PB v S1):W (bE a ρ S) PB:=W.bind (h.imp λx S1 h=>by obtain⟨v,rfl,k⟩:=h;exact .of rfl k)
def zpI(h:W (c ρ S) λv S1=>P (.bl v) S1):W (eB c ρ S) P:=W.bind (h.imp λ_ _ k=> .of rfl k)
def zn8(h:W (c ρ S) λv S1=>PB (!v) S1):W (VH c ρ S) PB:=W.bind (h.imp λ_ _ k=> .of rfl k)
def zjv(h:W (c ρ S) λv S1=>(v=fJ->W (c2 ρ S1) PB)/\(v=kb->PB kb S1)):W (zlE c c2 ρ S) PB:=W.bind (h.imp λv S1 k=>by
 cases v with
 |true=>rw[if_pos rfl];exact k.1 rfl
 |false=>exact .of rfl (k.2 rfl))
def YX(h:W (c ρ S) λv S1=>(v=fJ->PB fJ S1)/\(v=kb->W (c2 ρ S1) PB)):W (bOr c c2 ρ S) PB:=W.bind (h.imp λv S1 k=>by
 cases v with
 |true=>exact .of rfl (k.1 rfl)
 |false=>rw[if_neg (by simp)];exact k.2 rfl)
def zdn(h:W (a ρ S) λx S1=>∃v,x= .bl v/\(v=fJ->W (b ρ S1) P)/\(v=kb->P (.bl kb) S1)):W (zi5 a b ρ S) P:=W.bind ((zju h).imp λv S1 k=>by
 cases v with
 |true=>rw[if_pos rfl];exact k.1 rfl
 |false=>exact .of rfl (k.2 rfl))
def Yw(h:W (c ρ S) λv S1=>(v=fJ->W (a ρ S1) P)/\(v=kb->W (b ρ S1) P)):W (eIf c a b ρ S) P:=W.bind (h.imp λv S1 k=>by
 cases v with
 |true=>rw[if_pos rfl];exact k.1 rfl
 |false=>rw[if_neg (by simp)];exact k.2 rfl)
def zfx(k:PL [] S):W (evL [] ρ S) PL:= .of rfl k
def xy(h:W (m ρ S) λd S1=>W (evL ms ρ S1) λds S2=>PL (d::ds) S2):W (evL (m::ms) ρ S) PL:=W.bind (h.imp λ_ _ h=>W.bind (h.imp λ_ _ k=> .of rfl k))
def zjw(h:W (evL ms ρ S) λds S1=>P (.tup ds) S1):W (wS ms ρ S) P:=W.bind (h.imp λ_ _ k=> .of rfl k)
def zn9(h:W (evL ms ρ S) λds S1=>P (.ref S1.length) (S1++[.lst ds])):W (Yg ms ρ S) P:=W.bind (h.imp λ_ _ k=> .of rfl k)
def zcs(h:W (evL ms ρ S) λds S1=>WO (f ds S1) P):W (eFn f ms ρ S) P:=W.bind (h.imp λ_ _ h=>W.okP h)
def zaw(h:W (evL ms ρ S) λds S1=>W (tw ds S1) P):W (zy tw ms ρ S) P:=W.bind h
def zoa(k:PO fC S):W (oNo ρ S) PO:= .of rfl k
def zjx(h:W (m ρ S) λx S1=>∃k,x= .int k/\PO (dE k) S1):W (zeh m ρ S) PO:=W.bind (h.imp λx S1 h=>by obtain⟨v,rfl,k⟩:=h;exact .of rfl k)
def zpJ{f:Xv->pU Int->pU Int->Sto->pU (Xv×Sto)}{lo hi:TwO}(h:W (m ρ S) λx S1=>W (lo ρ S1) λu S2=>W (hi ρ S2) λv S3=>WO (f x u v S3) P):W (eSl f m lo hi ρ S) P:=
 W.bind (h.imp λ_ _ h=>W.bind (h.imp λ_ _ h=>W.bind (h.imp λ_ _ h=>W.okP h)))
def Vw(h:W (o ρ S) λx S1=>(∃l,zF S1 x=dE l)/\W (evL ms ρ S1) λys S2=>WO (f x ys S2) P):W (eMt f o ms ρ S) P:=W.bind (h.imp λx S1 h=>by
 obtain⟨⟨l,e⟩,h⟩:=h;rw[e,AO]
 exact W.bind (h.imp λ_ _ h=>W.okP h))
def zjy(k:P (.ref S.length) (S++[.dk []])):W (zdm ρ S) P:= .of rfl k
def zjz(h:W (a ρ S) λx S1=>W (b ρ S1) λy S2=>∃n kvs k z,zhG S2 x=dE (n,kvs)/\Uy y=dE k/\vT kvs k=dE z/\P z S2):W (zgI a b ρ S) P:=
 W.bind (h.imp λ_ _ h=>W.bind (h.imp λ_ _ h=>by obtain⟨n,kvs,k,z,e1,e2,e3,q⟩:=h;rw[e1,e2];dsimp only;rw[e3];exact .of rfl q))
def zlV(h:W (a ρ S) λx S1=>W (b ρ S1) λy S2=>∃n kvs k z,wC S2 x=dE (n,kvs)/\Uy y=dE k/\vT kvs k=dE z/\P z S2):W (zgI a b ρ S) P:=zjz (h.imp λ_ _ h=>h.imp λ_ _ ⟨n,kvs,k,z,e,r⟩=>⟨n,kvs,k,z,zlP e,r⟩)
def zev(h:W (a ρ S) λx S1=>(∃p,wC S1 x=dE p)/\W (b ρ S1) λy S2=>W (z ρ S2) λw S3=>∃n kvs k,wC S3 x=dE (n,kvs)/\Uy y=dE k/\P ((vT kvs k).getD w) S3):W (zbh a b z ρ S) P:=
 W.bind (h.imp λx S1 h=>by
  obtain⟨⟨p,e0⟩,h⟩:=h;rw[e0,AO]
  exact W.bind (h.imp λ_ _ h=>W.bind (h.imp λ_ _ h=>by obtain⟨n,kvs,k,e1,e2,q⟩:=h;rw[e1,e2];exact .of rfl q)))
def zdo(h:W (m ρ S) λz S1=>W (a ρ S1) λx S2=>W (b ρ S2) λy S3=>∃n kvs k,wC S3 x=dE (n,kvs)/\Uy y=dE k/\kvs.length<sizeLine/\N ρ (S3.set n (.dk (zhH kvs k z)))):WS (Ti a b m ρ S) N R:=
 WS.bind (h.imp λ_ _ h=>WS.bind (h.imp λ_ _ h=>WS.bind (h.imp λ_ _ h=>by obtain⟨n,kvs,k,e1,e2,e3,q⟩:=h;rw[e1,e2];dsimp only;rw[if_pos e3];exact .nx rfl q)))
def zQ(h:WS (s ρ S) (λρ1 S1=>WS (t ρ1 S1) N R) R):WS (zq s t ρ S) N R:=by
 unfold zq;rcases h with⟨ρ1,S1,e,h⟩|⟨x,S1,e,h⟩
 .rw[e];exact h
 rw[e];exact .rt rfl h
def yh(h:N ρ S):WS (yC ρ S) N R:= .nx rfl h
def zob(h:W (m ρ S) λd S1=>W (g d ρ S1) N):WS (zB m g ρ S) N R:=WS.bind (h.imp λ_ _ h=>WS.bind (h.imp λ_ _ k=> .nx rfl k))
def xQ(h:W (m ρ S) λd S1=>N (ρ.set i (dE d)) S1):WS (zB m (gN i) ρ S) N R:=WS.bind (h.imp λ_ _ k=> .nx rfl k)
def Wx(h:W (m ρ S) λd S1=>W (a ρ S1) λx S2=>W (b ρ S2) λy S3=>∃n l q j,Ur S3 x=dE (n,l)/\y= .int q/\ixN l.length q=dE j/\N ρ (S3.set n (.lst (l.set j d)))):WS (zB m (VI a b) ρ S) N R:=
 WS.bind (h.imp λd S1 h=>WS.bind (W.bind (h.imp λx S2 h=>W.bind (h.imp λy S3 h=>by
  obtain⟨n,l,q,j,e1,rfl,e2,k⟩:=h;rw[e1];dsimp only;rw[e2]
  exact .of rfl (.nx rfl k)))))
def Xs(h:W (m ρ S) λ_ S1=>N ρ S1):WS (YU m ρ S) N R:=WS.bind (h.imp λ_ _ k=> .nx rfl k)
def vG(h:W (m ρ S) λd S1=>R d S1):WS (yj m ρ S) N R:=WS.bind (h.imp λ_ _ k=> .rt rfl k)
def yA(h:W (c ρ S) λv S1=>(v=fJ->WS (s ρ S1) N R)/\(v=kb->WS (t ρ S1) N R)):WS (sIf c s t ρ S) N R:=WS.bind (h.imp λv S1 k=>by
 cases v with
 |true=>rw[if_pos rfl];exact k.1 rfl
 |false=>rw[if_neg (by simp)];exact k.2 rfl)
def zjA(h:W (evL ms ρ S) λl S1=>∃x y,l=[x,y]/\N ((ρ.set i (dE x)).set k (dE y)) S1):WS (zlH i k ms ρ S) N R:=WS.bind (h.imp λl S1 h=>by
 obtain⟨x,y,rfl,q⟩:=h
 exact .nx rfl q)
def VM(I:Rho->Sto->Prop)(h:WS r I R)(k:∀ρ S,I ρ S->N ρ S):WS r N R:=by
 rcases h with⟨ρ,S,e,h⟩|h;exact .inl ⟨ρ,S,e,k ρ S h⟩;exact .inr h
def zjB(h:WS (Xr c s n ρ S) N R):WS (sWh n c s ρ S) N R:=h
def Xt(h:W (c ρ S) λv S1=>(v=fJ->WS (s ρ S1) (λρ2 S2=>WS (Xr c s n ρ2 S2) N R) R)/\(v=kb->N ρ S1)):WS (Xr c s (n+1) ρ S) N R:=by
 unfold Xr;refine WS.bind (h.imp λv S1 k=> ?_);cases v with
 |true=>
  rw[if_pos rfl];rcases k.1 rfl with⟨ρ2,S2,e2,h⟩|⟨x,S2,e2,h⟩
  .rw[e2];exact h
  rw[e2];exact .rt rfl h
 |false=>exact .nx rfl (k.2 rfl)
def wd(h:W (n ρ S) λget S1=>∃xs,get S1=dE xs/\WS (Vv get g s (xs.length+1) 0 ρ S1) N R):WS (YV n g s ρ S) N R:=WS.bind (h.imp λget S1 h=>by
 obtain⟨xs,e,h⟩:=h;rw[e,AO]
 exact h)
def xk{get:Sto->pU (mZ Xv)}(J:Nat->Rho->Sto->Prop)(hg:∀i ρ S,i<=xs.length->J i ρ S->get S=dE xs)
  (h:∀(i:Nat) (x:Xv) ρ S,xs[i]? =dE x->J i ρ S->W (g x ρ S) λρ1 S1=>WS (s ρ1 S1) (λρ2 S2=>J (i+1) ρ2 S2) R) (h0:J 0 ρ S) (k:∀ρ S,J xs.length ρ S->N ρ S):WS (Vv get g s (xs.length+1) 0 ρ S) N R:=by
 have aux:∀(n i:Nat) (ρ:Rho) (S:Sto),i+n=xs.length->J i ρ S->WS (Vv get g s (n+1) i ρ S) N R:=by
  intro n
  induction n with
  |zero=>
   intro i ρ S e hj;unfold Vv;rw[hg i ρ S ⋯ hj,AO,BQ ⋯];dsimp only;rw[if_pos ⋯];exact .nx rfl (k ρ S (by rw[show xs.length=i by omega];exact hj))
  |succ n ih=>
   intro i ρ S e hj;unfold Vv;have hi:i<xs.length:=by omega
   rw[hg i ρ S ⋯ hj,AO,As hi];refine WS.bind ((h i _ ρ S (As hi) hj).imp λρ1 S1 h1=> ?_);rcases h1 with⟨ρ2,S2,e2,h2⟩|⟨x,S2,e2,h2⟩
   .rw[e2];exact ih (i+1) ρ2 S2 ⋯ h2
   rw[e2];exact .rt rfl h2
 exact aux xs.length 0 ρ S ⋯ h0
def vq(h:W (m ρ S) λx S1=>∃l,zF S1 x=dE l/\Q' (λS=>zF S x) S1):W (iL m ρ S) Q':=W.bind (h.imp λx S1 h=>by
 obtain⟨l,e,k⟩:=h;rw[e]
 exact .of rfl k)
def zjC{Q':(Sto->pU (mZ Xv))->Sto->Prop}(h:W (m ρ S) λx S1=>∃l,zF S1 x=dE l/\Q' (λS=>(zF S x).map ZK) S1):W (iEn m ρ S) Q':=W.bind (h.imp λx S1 h=>by
 obtain⟨l,e,k⟩:=h;rw[e]
 exact .of rfl k)
def Xu{Q':(Sto->pU (mZ Xv))->Sto->Prop}(h:W (m ρ S) λx S1=>∃k:Int,x= .int k/\(-(2^62)<=k/\k<2^62)/\Q' (λ_=>dE (yK 0 k.toNat)) S1):W (iR1 m ρ S) Q':=W.bind (h.imp λx S1 h=>by
 obtain⟨k,rfl,hk,q⟩:=h;dsimp only;rw[if_pos hk]
 exact .of rfl q)
def vt{lo:Int}(h:(yK lo n)[i]? =dE x):i<n/\x= .int (lo+i):=by
 unfold yK at h;rw[Ax] at h;have hi:i<n:=by
  apply Bg;intro hn;rw[BQ (by simp;omega)] at h;cases h
 rw[BX hi] at h;cases h;exact⟨hi,rfl⟩
def yD{lo:Int}:(yK lo n).length=n:=by simp[yK]
def yx(h:W (n ρ S) λget S1=>∃xs,get S1=dE xs/\W (vE get g c m (za7 cap ρ) (xs.length+1) 0 [] S1) P):W (yO cap n g c m ρ S) P:=W.bind (h.imp λget S1 h=>by
 obtain⟨xs,e,h⟩:=h;rw[e,AO]
 exact h)
def yp{get:Sto->pU (mZ Xv)}(hl:xs.length<=sizeLine)(J:Nat->mZ Xv->Sto->Prop)(hg:∀i es S,i<=xs.length->J i es S->get S=dE xs)
  (h:∀(i:Nat) (x:Xv) es S,xs[i]? =dE x->es.length=i->J i es S->W (g x ρc S) λρ1 S1=>W (c ρ1 S1) λb S2=>b=fJ/\W (m ρ1 S2) λy S3=>J (i+1) (es++[y]) S3) (h0:J 0 [] S)
  (k:∀es S,es.length=xs.length->J xs.length es S->P (.ref S.length) (S++[.lst es])):W (vE get g c m ρc (xs.length+1) 0 [] S) P:=by
 have aux:∀(n i:Nat) (es:mZ Xv) (S:Sto),i+n=xs.length->es.length=i->J i es S->W (vE get g c m ρc (n+1) i es S) P:=by
  intro n
  induction n with
  |zero=>
   intro i es S e el hj;unfold vE;rw[hg i es S ⋯ hj,AO,BQ ⋯];dsimp only;rw[if_pos ⋯];exact .of rfl (k es S ⋯ (by rw[show xs.length=i by omega];exact hj))
  |succ n ih=>
   intro i es S e el hj;unfold vE;have hi:i<xs.length:=by omega
   rw[hg i es S ⋯ hj,AO,As hi];obtain⟨ρ1,S1,e1,b,S2,e2,rfl,y,S3,e3,q⟩:=h i _ es S (As hi) el hj;dsimp only[rn];rw[e1];dsimp only[rn];rw[e2];dsimp only[rn];rw[if_pos rfl,e3];dsimp only[rn];rw[if_pos ⋯];exact ih (i+1) (es++[y]) S3 ⋯ (by simp[el]) q
 exact aux xs.length 0 [] S ⋯ rfl h0
def zlW(k:PB fJ S):W (xa ρ S) PB:= .of rfl k
def zoc{ρ0:Rho}(hn:xs.length=n)(h0:xs.map dE++AK k fC=ρ0)(h:WS (s ρ0 S) (λ_ S1=>P .non S1) P):W (yb n k s xs S) P:=by
 unfold yb;rw[if_pos hn,h0];rcases h with⟨ρ,S1,e,h⟩|⟨x,S1,e,h⟩
 .rw[e];exact .of rfl h
 rw[e];exact .of rfl h
def zod(k:P (.int (p+q)) S):WO (vw (.int p) (.int q) S) P:= .of rfl k
def zoe(k:P (.int (p-q)) S):WO (Yh (.int p) (.int q) S) P:= .of rfl k
def zof(k:P (.int (-p)) S):WO (Uv (.int p) S) P:= .of rfl k
def zpK(k:P (.bl (decide (p<q))) S):WO (dLt (.int p) (.int q) S) P:= .of rfl k
def zpL(k:P (.bl (decide (q<p))) S):WO (dGt (.int p) (.int q) S) P:= .of rfl k
def zog(k:P (.bl (decide (p=q))) S):WO (zbO (.int p) (.int q) S) P:= .of rfl k
def zoh(k:P (.bl (!decide (p=q))) S):WO (Uu (.int p) (.int q) S) P:= .of rfl k
def xR(h:0<q)(k:P (.int (p % q)) S):WO (vZ (.int p) (.int q) S) P:= .of (by unfold vZ xIC;exact if_pos (by simpa using h)) k
def zlX(h:intBits p+intBits q<=134217728)(k:P (.int (p*q)) S):WO (yP (.int p) (.int q) S) P:= .of (by unfold yP xIC;exact if_pos (by simpa using h)) k
def zoi(h:(-(2^64)<p/\p<2^64)\/(-(2^64)<q/\q<2^64))(k:P (.int (p*q)) S):WO (zaq (.int p) (.int q) S) P:= .of (by unfold zaq xIC;exact if_pos (decide_eq_true h)) k
def zoj(h:0<=q/\q<=1000000/\p.natAbs<2^64)(k:P (.int (p^q.toNat)) S):WO (zel (.int p) (.int q) S) P:= .of (by unfold zel xIC;exact if_pos (decide_eq_true h)) k
def zgJ(h:0<q/\q<1073741824)(k:P (.int (p / q)) S):WO (zab (.int p) (.int q) S) P:= .of (by unfold zab xIC;exact if_pos (decide_eq_true h)) k
def zjD(h:q≠0/\intBits q<=9000)(k:P (.int (p.fdiv q)) S):WO (Wu (.int p) (.int q) S) P:= .of (by unfold Wu xIC;exact if_pos (decide_eq_true h)) k
def we(h:zF S x=dE l)(k:P (.int l.length) S):WO (vF [x] S) P:= .of (by
 unfold vF YT;dsimp only;have:x.tupOf=fC:=by cases x<;>first|rfl|cases h
 rw[this];dsimp only;rw[h]
 rfl) k
def wf(h:zF S x=dE l)(e:atI l p=dE z)(k:P z S):WO (wT x (.int p) S) P:= .of (by unfold wT;rw[h];dsimp only;rw[e];rfl) k
def wM(h:x.tupOf=dE l)(e:atI l p=dE z)(k:P z S):WO (xD x (.int p) S) P:= .of (by unfold xD;rw[h];dsimp only;rw[e];rfl) k
def zjE{β:Type}{x:β}{l:mZ β}:atI (x::l) 0=dE x:=by
 unfold atI ixN;rw[if_pos (show(0:Int)<=0 by decide),if_pos (by simp only[B7];omega)];rfl
def zpM{β:Type}{x y:β}{l:mZ β}:atI (x::y::l) 1=dE y:=by
 unfold atI ixN;rw[if_pos (show(0:Int)<=1 by decide),if_pos (by simp only[B7];omega)];rfl
def zok(k:P x S):WO (xD (.tup (x::l)) (.int 0) S) P:=wM rfl zjE k
def zol(k:P y S):WO (xD (.tup (x::y::l)) (.int 1) S) P:=wM rfl zpM k
def ZW{β:Type}{l:mZ β}{k:Int}{z:β}(h0:0<=k)(h:l[k.toNat]? =dE z):atI l k=dE z:=by
 have hk:=(Au.1 h).1;unfold atI ixN;rw[if_pos h0,if_pos ⋯];exact h
def wD(h:Ur S x=dE (n,l))(hz:l.length<sizeLine)(k:P .non (S.set n (.lst (l++[y])))):WO (xw x [y] S) P:= .of (by unfold xw;rw[h];dsimp only;rw[if_pos hz]) k
def zfy{lo hi:pU Int}(h:zF S x=dE l)(k:P (.ref S.length) (S++[.lst (zei l lo hi)])):WO (zdf x lo hi S) P:= .of (by unfold zdf;rw[h];rfl) k
def zlY(h:zF S x=dE l)(k:P (.ref S.length) (S++[.lst l])):WO (zem [x] S) P:= .of (by
 unfold zem YT;dsimp only;have:x.tupOf=fC:=by cases x<;>first|rfl|cases h
 rw[this];dsimp only;rw[h]
 rfl) k
def zpN(h:YT S y=dE l)(hf:(Yk x&&l.all Yk)=fJ)(k:P (.bl (neg !=l.any λz=>zep z x)) S):WO (dIn neg x y S) P:= .of (by unfold dIn;rw[h,AO,if_pos hf]) k
def Wy{c:String}(h:zjr c S x=dE v)(k:P (.bl v) S):WO (zar c x S) P:= .of (by unfold zar;rw[h];rfl) k
end
def xz(h:S[n]? =dE (.lst l)):Ur S (.ref n)=dE (n,l):=by simp[Ur,h]
def zb(h:S[n]? =dE (.lst l)):zF S (.ref n)=dE l:=by simp[zF,h]
def xm(h:S[n]? =dE (.dk l)):wC S (.ref n)=dE (n,l):=by simp[wC,h]
end L2
namespace L2
open PySem.Calls
section
variable{K:Ar}{E:XK}
noncomputable def Xw(xs ys:mZ Xv):mZ Xv:=(xs.zip ys).map λp=> .tup [p.1,p.2]
def Xx{xs ys:mZ Xv}{i:Nat}{z:Xv}(h:(Xw xs ys)[i]? =dE z):∃x y,xs[i]? =dE x/\ys[i]? =dE y/\z= .tup [x,y]:=by
 unfold Xw at h;rw[Ax] at h;cases e:(xs.zip ys)[i]? with
 |none=>rw[e] at h;cases h
 |some p=>
  rw[e] at h;cases h;have:=Ct.1 e;exact⟨p.1,p.2,this.1,this.2,rfl⟩
def ZX(xs ys:mZ Xv):(Xw xs ys).length=min xs.length ys.length:=by simp[Xw]
def zdp(m n:TwE):TwI:=λρ S=>rb (m ρ S) λx S1=>rb (n ρ S1) λy S2=>match zF S2 x,zF S2 y with
 |some _,dE _=>dE (.ok (λS=>match zF S x,zF S y with
  |some l,dE k=>dE (Xw l k)
  |_,_=>fC) S2)
 |_,_=>fC
def zfz{ta tb:TE}(ha:RE K E ta m)(hb:RE K E tb n):RI K E (zna K (Uk ta (Uk tb zfg))) (zdp m n):=by
 walk_at "!d"
 .refine ha En0 e1 λj1 H1 X1 E1 u hu=> ?_;rcases zt e with⟨y,S2,e2,e⟩|⟨c,S2,e2,rfl⟩
  .cases el:zF S2 x with
   |none=>rw[el] at e;cases e
   |some l=>
    cases em:zF S2 y with
    |none=>rw[el,em] at e;cases e
    |some l'=>
     rw[el,em] at e;cases e;refine hb E1 e2 λj2 H2 X2 E2 v hv=> ?_;have qS:=hu.mono X2;obtain⟨a,vs,rfl,h1,_⟩:=E2.lstAt qS el;obtain⟨b,ws,rfl,h2,_⟩:=E2.lstAt hv em;refine⟨a,b,rfl,⟨vs,h1.sql⟩,⟨ws,h2.sql⟩,k _ _ (X1.trans X2) E2 _ ?_⟩;intro F3 j3 H3 σ3 ρ3 S3 xs i X3 E3 e3;dsimp only at e3;cases gg:zF S3 x with
     |none=>rw[gg] at e3;cases e3
     |some p1=>
      cases pQ:zF S3 y with
      |none=>rw[gg,pQ] at e3;cases e3
      |some p2=>
       rw[gg,pQ] at e3;cases e3;obtain⟨a',vs',ea,g1,g2⟩:=E3.lstAt (qS.mono X3) gg;cases ea;obtain⟨b',ws',eb,g3,g4⟩:=E3.lstAt (hv.mono X3) pQ;cases eb;refine⟨λz ez=> ?_,λhle=>⟨vs',ws',g1.sql,g3.sql,by rw[g2.len,g4.len];rw[ZX] at hle;omega⟩⟩;obtain⟨z1,z2,v8,v7,rfl⟩:=Xx ez;obtain⟨w1,f1,f2⟩:=g2.get v8;obtain⟨w2,f3,f4⟩:=g4.get v7;refine⟨⟨vs',ws',w1,w2,g1.sql,g3.sql,f1,f3⟩,?_⟩;rintro v' H' ⟨p,u',w',rfl,hp,rfl,hx,hy⟩;have q1:=hx vs' g1.sql;have q2:=hy ws' g3.sql;rw[f1] at q1;rw[f3] at q2;cases q1;cases q2;exact⟨yN hp,.tup zw (.cons (f2.mono (Ext.same (yN hp))) (.one (f4.mono (Ext.same (yN hp)))))⟩
  exact hb E1 e2 (PX.mono k X1)
 exact ha En0 e1 k
def UA{Q':(Sto->pU (mZ Xv))->Sto->Prop} (h:W (m ρ S) λx S1=>W (n ρ S1) λy S2=>(∃l,zF S2 x=dE l)/\(∃k,zF S2 y=dE k)/\Q' (λS=>match zF S x,zF S y with
  |some l,dE k=>dE (Xw l k)
  |_,_=>fC) S2):W (zdp m n ρ S) Q':=W.bind (h.imp λx S1 h=>W.bind (h.imp λy S2 h=>by
 obtain⟨⟨l,e1⟩,⟨k,e2⟩,q⟩:=h;rw[e1,e2]
 exact .of rfl q))
def Zo(h1:zF S x=dE l)(h2:zF S y=dE k):(match zF S x,zF S y with
  |some l,dE k=>dE (Xw l k)
  |_,_=>fC)=dE (Xw l k):=by rw[h1,h2]
end
noncomputable def Wz(f:D->D->pU Bool):mZ D->mZ D->pU Bool
 |a::l,b::m=>(f a b).bind λx=>(Wz f l m).map (x&& ·)
 |_,_=>dE fJ
theorem Yl{f:D->D->pU Bool}:∀{l m:mZ D} {b:Bool},Wz f l m=dE b->∃e:Nat->Bool,(∀(j:Nat) a c,l[j]? =dE a->m[j]? =dE c->f a c=dE (e j))/\b=(BD (min l.length m.length)).all e
 |[],m,b,h=>by
  unfold Wz at h;cases h;exact⟨λ_=>fJ,λj a c ha=>by simp at ha,by simp⟩
 |a::l,[],b,h=>by
  unfold Wz at h;cases h;exact⟨λ_=>fJ,λj a c ha hc=>by simp at hc,by simp⟩
 |a::l,c::m,b,h=>by
  unfold Wz at h;cases e1:f a c with
  |none=>rw[e1] at h;cases h
  |some x=>
   rw[e1,AO] at h;cases e2:Wz f l m with
   |none=>rw[e2] at h;cases h
   |some y=>
    rw[e2] at h;cases h;obtain⟨e,k,rfl⟩:=Yl e2
    refine⟨λj=>match j with
     |0=>x
     |j+1=>e j,λj p q hp hq=> ?_,?_⟩
    .cases j with
     |zero=>simp at hp hq;subst hp hq;exact e1
     |succ j=>exact k j p q (by simpa using hp) (by simpa using hq)
    rw[B7,B7,Nat.succ_min_succ,FT,DC,HX];rfl
noncomputable def eqG:Nat->D->D->pU Bool
 |0,d,e=>match d,e with
  | .non,.non=>dE fJ
  | .bl a,.bl b=>dE (a==b)
  | .int a,.int b=>dE (a==b)
  | .str a,.str b=>dE (a==b)
  |_,_=>fC
 |n+1,d,e=>match d,e with
  | .non,.non=>dE fJ
  | .bl a,.bl b=>dE (a==b)
  | .int a,.int b=>dE (a==b)
  | .str a,.str b=>dE (a==b)
  | .tup l,.tup m=>(Wz (eqG n) l m).map (· &&(l.length==m.length))
  | .lst l,.lst m=>if l.length=m.length then Wz (eqG n) l m else dE kb
  |_,_=>fC
def zhI{e:Nat->Bool}(h:∀j,j<n->e j=fJ):(BD n).all e=fJ:=Cy.2 λj hj=>h j (Ca.1 hj)
set_option tactic.hygienic true in
def zjF(I:Inv X pins σ H s):∀(n:Nat) {d e:D} {x:V} {b:Bool},eqG n d e=dE b->Is X.K H x d->Is X.K H x e->b=fJ:=by
 intro n
 induction n with
 |zero=>
  intro d e x b h hx hy;unfold eqG at h;split at h;cases h;rfl;rw[hx.bl_inv] at hy;cases hy;cases h;simp;rw[hx.int_inv] at hy;cases hy;cases h;simp;rw[hx.str_inv] at hy;cases hy;cases h;simp;cases h
 |succ n ih=>
  intro d e x b h hx hy;unfold eqG at h;have items:∀{xs:mZ V} {l m:mZ D} {b:Bool},Wz (eqG n) l m=dE b->IsL X.K H xs l->IsL X.K H xs m->b=fJ:=λ{xs l m b} ha hl hm=>by
   obtain⟨e,k,rfl⟩:=Yl ha;refine zhI λj hj=> ?_;have h1:j<l.length:=by omega
   have h2:j<m.length:=by omega
   obtain⟨x,js,fh⟩:=hl.get (As h1);obtain⟨y,mz,fZ⟩:=hm.get (As h2);rw[js] at mz;cases mz;exact ih (k j _ _ (As h1) (As h2)) fh fZ
  split at h;cases h;rfl;rw[hx.bl_inv] at hy;cases hy;cases h;simp;rw[hx.int_inv] at hy;cases hy;cases h;simp;rw[hx.str_inv] at hy;cases hy;cases h;simp
  .rename_i l m;cases ha:Wz (eqG n) l m with
   |none=>rw[ha] at h;cases h
   |some b'=>
    rw[ha] at h;cases h;obtain⟨a,xs,rfl,h1,h2⟩:=hx.tup_inv;obtain⟨a',ys,e,g1,g2⟩:=hy.tup_inv;cases e;obtain rfl:=I.tuple_inj h1 g1;rw[items ha h2 g2];have e3:=h2.len;have e4:=g2.len;simp;omega
  .rename_i l m;obtain⟨a,xs,rfl,h1,h2⟩:=hx.lst_inv;obtain⟨a',ys,e,g1,g2⟩:=hy.lst_inv;cases e;obtain rfl:=I.list_inj h1 g1;have e3:=h2.len;have e4:=g2.len;rw[if_pos ⋯] at h;exact items h h2 g2
  cases h
def ZR{e:Nat->Bool}(rx:zR xs ae)(ry:zR ys bY)(hx:IsL X.K H xs l)(hy:IsL X.K H ys m)
  (k:∀{x y:V} {u v:pW} {d d':D} {j:Nat},l[j]? =dE d->m[j]? =dE d'->Is X.K H x d->Is X.K H y d'->zI x u->zI y v->SeqAt.EqAt A.in1 s u v (e j)):
  ∀j (h1:j<ae.toArray.size) (h2:j<bY.toArray.size),SeqAt.EqAt A.in1 s ae.toArray[j] bY.toArray[j] (e j):=by
 intro j h1 h2;have e1:j<xs.length:=by rw[rx.length];simpa using h1
 have e2:j<ys.length:=by rw[ry.length];simpa using h2
 have el:j<l.length:=by rw[<-hx.len];exact e1
 have em:j<m.length:=by rw[<-hy.len];exact e2
 obtain⟨x,js,fh⟩:=hx.get (i:=j) (d:=l[j]) (As el);obtain⟨y,mz,fZ⟩:=hy.get (i:=j) (d:=m[j]) (As em);obtain⟨u,hu,ru⟩:=rx.get js;obtain⟨v,hv,rv⟩:=ry.get mz;have g1:ae.toArray[j]=u:=by
  have:ae[j]? =dE ae[j]:=As (by simpa using h1);rw[hu] at this;simpa using (BF this).symm
 have g2:bY.toArray[j]=v:=by
  have:bY[j]? =dE bY[j]:=As (by simpa using h2);rw[hv] at this;simpa using (BF this).symm
 rw[g1,g2];exact k (As el) (As em) fh fZ ru rv
set_option tactic.hygienic true in
def UB(I:Inv X pins σ H s):∀(n:Nat) {A:Around} {d d':D} {x y:V} {u v:pW} {b:Bool},eqG n d d'=dE b->A.units+n<cLine->Is X.K H x d->Is X.K H y d'->zI x u->zI y v->SeqAt.EqAt A s u v b:=by
 intro n
 induction n with
 |zero=>
  intro A d d' x y u v b h hu hx hy ru rv;unfold eqG at h;split at h;cases h;rw[hx.non_inv] at ru;rw[hy.non_inv] at rv;cases ru;cases rv;exact SeqAt.EqAt.same _;cases h;rw[hx.bl_inv] at ru;rw[hy.bl_inv] at rv;cases ru;cases rv;exact SeqAt.EqAt.bool_bool _ _;cases h;rw[hx.int_inv] at ru;rw[hy.int_inv] at rv;obtain⟨t,rfl⟩:=ru;obtain⟨t',rfl⟩:=rv;exact SeqAt.EqAt.int_int _ _ _ _;cases h;rw[hx.str_inv] at ru;rw[hy.str_inv] at rv;obtain⟨t,rfl⟩:=ru;obtain⟨t',rfl⟩:=rv;exact SeqAt.EqAt.str_str _ _ _ _;cases h
 |succ n ih=>
  intro A d d' x y u v b h hu hx hy ru rv;have iR:=λ(e:x=y)=>zjF I (n+1) h hx (e ▸ hy);unfold eqG at h;split at h;cases h;rw[hx.non_inv] at ru;rw[hy.non_inv] at rv;cases ru;cases rv;exact SeqAt.EqAt.same _;cases h;rw[hx.bl_inv] at ru;rw[hy.bl_inv] at rv;cases ru;cases rv;exact SeqAt.EqAt.bool_bool _ _;cases h;rw[hx.int_inv] at ru;rw[hy.int_inv] at rv;obtain⟨t,rfl⟩:=ru;obtain⟨t',rfl⟩:=rv;exact SeqAt.EqAt.int_int _ _ _ _;cases h;rw[hx.str_inv] at ru;rw[hy.str_inv] at rv;obtain⟨t,rfl⟩:=ru;obtain⟨t',rfl⟩:=rv;exact SeqAt.EqAt.str_str _ _ _ _
  .rename_i l m;cases ha:Wz (eqG n) l m with
   |none=>rw[ha] at h;cases h
   |some b'=>
    rw[ha] at h;cases h;obtain⟨e,k,rfl⟩:=Yl ha;obtain⟨a,xs,rfl,h1,h2⟩:=hx.tup_inv;obtain⟨a',ys,rfl,g1,g2⟩:=hy.tup_inv;cases ru;cases rv;by_cases gf:a=a';subst gf;rw[iR rfl];exact SeqAt.EqAt.same _
    obtain⟨ae,r1,p1,_⟩:=I.tuple h1;obtain⟨bY,r2,p2,_⟩:=I.tuple g1;refine SeqAt.EqAt.of_refs gf ?_;have:=SeqAt.RcAt.tuples (A:=A) (e:=e) p1 p2 ⋯ (ZR r1 r2 h2 g2 λhi hj hx hy ru rv=>ih (A:=A.in1) (k _ _ _ hi hj) (by show A.units+1+n<cLine;omega) hx hy ru rv);have s1:ae.toArray.size=l.length:=by have e1:=r1.length;have e3:=h2.len;simp;omega
    have s2:bY.toArray.size=m.length:=by have e1:=r2.length;have e3:=g2.len;simp;omega
    rwa [s1,s2] at this
  .rename_i l m;obtain⟨a,xs,rfl,h1,h2⟩:=hx.lst_inv;obtain⟨a',ys,rfl,g1,g2⟩:=hy.lst_inv;cases ru;cases rv;by_cases gf:a=a';subst gf;rw[iR rfl];exact SeqAt.EqAt.same _
   obtain⟨ae,r1,p1,_⟩:=I.list h1;obtain⟨bY,r2,p2,_⟩:=I.list g1;have s1:ae.toArray.size=l.length:=by have e1:=r1.length;have e3:=h2.len;simp;omega
   have s2:bY.toArray.size=m.length:=by have e1:=r2.length;have e3:=g2.len;simp;omega
   refine SeqAt.EqAt.of_refs gf ?_;split at h;rename_i iX;obtain⟨e,k,rfl⟩:=Yl h;have:=SeqAt.RcAt.lists (A:=A) (e:=e) p1.isList p2.isList ⋯ ⋯ (ZR r1 r2 h2 g2 λhi hj hx hy ru rv=>ih (A:=A.in1) (k _ _ _ hi hj) (by show A.units+1+n<cLine;omega) hx hy ru rv);rw[s1] at this;rwa [show min l.length m.length=l.length by omega];rename_i iX;cases h;exact SeqAt.RcAt.lists_lengths p1.isList p2.isList (by rw[s1,s2];simpa using iX) ⋯
  cases h
def zom(K:Ar)(neg:Bool):R2:=λx y H Q=>∃(d e:D) (b:Bool),(∃l m,(d= .tup l/\e= .tup m)\/(d= .lst l/\e= .lst m))/\Is K H x d/\Is K H y e/\eqG 40 d e=dE b/\Q (.bl (neg !=b)) H
set_option tactic.hygienic true in
def zjG{K:Ar}(hr:xO k X.A)(hK:X.K=K:=by rfl):OpR X (compareOp .Eq) (zom K kb):=by
 subst hK;intro pins s σ H x y v u Q I rx ry h;obtain⟨d,e,b,⟨l,m,hd⟩,hx,hy,hb,q⟩:=h;have hu:X.A.units+41<cLine:=B9 ⋯ hr.units;rw[show(kb !=b)=b by cases b<;>rfl] at q;unfold eqG at hb;rcases hd with⟨rfl,rfl⟩|⟨rfl,rfl⟩
 .dsimp only at hb;cases ha:Wz (eqG 39) l m with
  |none=>rw[ha] at hb;cases hb
  |some b'=>
   rw[ha] at hb;cases hb;obtain⟨e,k,rfl⟩:=Yl ha;obtain⟨a,xs,rfl,h1,h2⟩:=hx.tup_inv;obtain⟨a',ys,rfl,g1,g2⟩:=hy.tup_inv;cases rx;cases ry;obtain⟨ae,r1,p1,_⟩:=I.tuple h1;obtain⟨bY,r2,p2,_⟩:=I.tuple g1;have s1:ae.toArray.size=l.length:=by have e1:=r1.length;have e3:=h2.len;simp;omega
   have s2:bY.toArray.size=m.length:=by have e1:=r2.length;have e3:=g2.len;simp;omega
   refine SeqAt.eq_tupleAt (e:=e) p1 p2 ⋯ (ZR r1 r2 h2 g2 λhi hj hx hy ru rv=>UB I 39 (A:=X.A.in1) (k _ _ _ hi hj) (by show X.A.units+1+39<cLine;omega) hx hy ru rv) ?_;rw[s1,s2];exact⟨.bl _,H,I,rfl,q⟩
 dsimp only at hb;obtain⟨a,xs,rfl,h1,h2⟩:=hx.lst_inv;obtain⟨a',ys,rfl,g1,g2⟩:=hy.lst_inv;cases rx;cases ry;obtain⟨ae,r1,p1,_⟩:=I.list h1;obtain⟨bY,r2,p2,_⟩:=I.list g1;have s1:ae.toArray.size=l.length:=by have e1:=r1.length;have e3:=h2.len;simp;omega
 have s2:bY.toArray.size=m.length:=by have e1:=r2.length;have e3:=g2.len;simp;omega
 split at hb;rename_i iX;obtain⟨e,k,rfl⟩:=Yl hb;refine SeqAt.eq_listAt (e:=e) p1.isList p2.isList ⋯ ⋯ (ZR r1 r2 h2 g2 λhi hj hx hy ru rv=>UB I 39 (A:=X.A.in1) (k _ _ _ hi hj) (by show X.A.units+1+39<cLine;omega) hx hy ru rv) ?_;rw[show min l.length m.length=l.length by omega] at q;rw[s1];exact⟨.bl _,H,I,rfl,q⟩;rename_i iX;cases hb;refine SeqAt.eq_list_lengthsAt p1.isList p2.isList (by rw[s1,s2];simpa using iX) ⋯ ?_;exact⟨.bl kb,H,I,rfl,q⟩
set_option tactic.hygienic true in
def zbi{K:Ar}(hr:xO k X.A)(hK:X.K=K:=by rfl):OpR X (compareOp .NotEq) (zom K fJ):=by
 subst hK;intro pins s σ H x y v u Q I rx ry h;obtain⟨d,e,b,⟨l,m,hd⟩,hx,hy,hb,q⟩:=h;have hu:X.A.units+41<cLine:=B9 ⋯ hr.units;rw[show(fJ !=b)= !b by cases b<;>rfl] at q;unfold eqG at hb;rcases hd with⟨rfl,rfl⟩|⟨rfl,rfl⟩
 .dsimp only at hb;cases ha:Wz (eqG 39) l m with
  |none=>rw[ha] at hb;cases hb
  |some b'=>
   rw[ha] at hb;cases hb;obtain⟨e,k,rfl⟩:=Yl ha;obtain⟨a,xs,rfl,h1,h2⟩:=hx.tup_inv;obtain⟨a',ys,rfl,g1,g2⟩:=hy.tup_inv;cases rx;cases ry;obtain⟨ae,r1,p1,_⟩:=I.tuple h1;obtain⟨bY,r2,p2,_⟩:=I.tuple g1;have s1:ae.toArray.size=l.length:=by have e1:=r1.length;have e3:=h2.len;simp;omega
   have s2:bY.toArray.size=m.length:=by have e1:=r2.length;have e3:=g2.len;simp;omega
   refine SeqAt.RcNeAt.tuples (e:=e) p1 p2 ⋯ (ZR r1 r2 h2 g2 λhi hj hx hy ru rv=>UB I 39 (A:=X.A.in1) (k _ _ _ hi hj) (by show X.A.units+1+39<cLine;omega) hx hy ru rv) _ _ _ _ ?_;rw[s1,s2];exact⟨.bl _,H,I,rfl,q⟩
 dsimp only at hb;obtain⟨a,xs,rfl,h1,h2⟩:=hx.lst_inv;obtain⟨a',ys,rfl,g1,g2⟩:=hy.lst_inv;cases rx;cases ry;obtain⟨ae,r1,p1,_⟩:=I.list h1;obtain⟨bY,r2,p2,_⟩:=I.list g1;have s1:ae.toArray.size=l.length:=by have e1:=r1.length;have e3:=h2.len;simp;omega
 have s2:bY.toArray.size=m.length:=by have e1:=r2.length;have e3:=g2.len;simp;omega
 split at hb;rename_i iX;obtain⟨e,k,rfl⟩:=Yl hb;refine SeqAt.RcNeAt.lists (e:=e) p1.isList p2.isList ⋯ ⋯ (ZR r1 r2 h2 g2 λhi hj hx hy ru rv=>UB I 39 (A:=X.A.in1) (k _ _ _ hi hj) (by show X.A.units+1+39<cLine;omega) hx hy ru rv) _ _ _ _ ?_;rw[show min l.length m.length=l.length by omega] at q;rw[s1];exact⟨.bl _,H,I,rfl,q⟩;rename_i iX;cases hb;refine SeqAt.RcNeAt.lists_lengths p1.isList p2.isList (by rw[s1,s2];simpa using iX) ⋯ _ _ _ _ ?_;exact⟨.bl fJ,H,I,rfl,q⟩
end L2
namespace L2
open PySem.Calls PySem.W
section
variable{cmp:Nat->Nat->(Bool->pX->Prop)->pX->Prop}{r:Nat->Int}{n:Nat}
noncomputable def Kr(r:Nat->Int)(p:Array Nat)(i:Nat):Int:=r (p.getD i 0)
def WA(h:p[i]? =q[j]?):Kr r p i=Kr r q j:=by
 unfold Kr;rw[F1,F1,h]
def PmN(n:Nat)(p:Array Nat):Prop:=p.Perm (HY (BD n))
def PmN.size(h:PmN n p):p.size=n:=by
 have:=Array.Perm.size_eq h;simpa using this
def PmN.lt(h:PmN n p)(hi:i<n):p.getD i 0<n:=by
 have hs:=h.size;have ie:i<p.size:=by omega
 have e:p.getD i 0=p[i]:=by simp[Hx,ie]
 rw[e];have:=(Array.Perm.mem_iff h).1 (Array.getElem_mem ie);simpa using this
def PmN.ne(h:PmN n p)(hi:i<n)(hj:j<n)(gU:i≠j):p.getD i 0≠p.getD j 0:=by
 have hs:=h.size;have ie:i<p.size:=by omega
 have g8:j<p.size:=by omega
 have nd:p.toList.Nodup:=by
  have:=Array.Perm.toList h;exact(this.nodup_iff).2 (by simpa using List.nodup_range)
 rw[show p.getD i 0=p.toList[i]'(by simpa using ie) by simp[Hx,ie],show p.getD j 0=p.toList[j]'(by simpa using g8) by simp[Hx,g8]];intro z;have nd:=List.pairwise_iff_getElem.1 nd;rcases Nat.lt_or_gt_of_ne gU with h1|h1;exact nd i j (by simpa using ie) (by simpa using g8) h1 z;exact nd j i (by simpa using g8) (by simpa using ie) h1 z.symm
def PmN.rev(h:PmN n p)(i j:Nat):PmN n (kas_rev p i j):=(mirror_perm _ _ _ _).trans h
def PmN.bub(h:PmN n p)(k d:Nat):PmN n (bubble p k d):=(bubble_perm _ _ _).trans h
def zfA(hj:j<=p.size)(k:Nat):Kr r (kas_rev p i j) k=if i<=k/\k<j then Kr r p (i+j-1-k) else Kr r p k:=by
 have e:=getElem?_mirror_all (xs:=p) (i:=i) hj k;unfold kas_rev;by_cases h1:i<=k/\k<j;rw[if_pos h1] at e ⊢;exact WA e;rw[if_neg h1] at e ⊢;exact WA e
def zon(hs:src<p.size)(hd:d<=src)(k:Nat):Kr r (bubble p src d) k=if k=src-d then Kr r p src else if src-d<k/\k<=src then Kr r p (k-1) else Kr r p k:=by
 have e:=getElem?_bubble hs d hd k;by_cases h1:k=src-d;rw[if_pos h1] at e ⊢;exact WA e;rw[if_neg h1] at e ⊢;by_cases h2:src-d<k/\k<=src;rw[if_pos h2] at e ⊢;exact WA e;rw[if_neg h2] at e ⊢;exact WA e
set_option tactic.hygienic true in
def Tj(hj:j<=p.size)(he:∀k,i<=k->k<j->Kr r p k=Kr r p (j-1))(k:Nat):Kr r (kas_rev p i j) k=Kr r p k:=by
 rw[zfA hj];split;rename_i h;rw[he _ ⋯ ⋯,he k h.1 h.2];rfl
theorem zfB(hc:∀i j C,i<n->j<n->i≠j->C (decide (r i<r j)) s->cmp i j C s)(hp:PmN n p){Q:Nat->pX->Prop}:∀(f k:Nat),1<=k->k+f=n->
  (∀m,k<=m->m<=n->(∀i,k<=i->i<m->Kr r p (i-1)<=Kr r p i)->(m<n->Kr r p m<Kr r p (m-1))->Q m s)->(kas_asc p f k).kasWp cmp Q s
 |0,k,h1,hk,q=>q k (AF _) ⋯ (λi a b=>by omega) (λz=>by omega)
 |f+1,k,h1,hk,q=>by
  unfold kas_asc;refine hc _ _ _ (hp.lt ⋯) (hp.lt ⋯) (hp.ne ⋯ ⋯ ⋯) ?_;by_cases h:Kr r p k<Kr r p (k-1);rw[show decide (r (p.getD k 0)<r (p.getD (k-1) 0))=fJ from decide_eq_true h];dsimp only;rw[if_pos rfl];exact q k (AF _) ⋯ (λi a b=>by omega) (λ_=>h);rw[show decide (r (p.getD k 0)<r (p.getD (k-1) 0))=kb from decide_eq_false h];dsimp only;rw[if_neg (by simp)];refine zfB hc hp f (k+1) ⋯ ⋯ λm a b c d=>q m ⋯ b (λi e g=> ?_) d;by_cases hi:i=k;subst hi;omega;exact c i ⋯ g
theorem zax(hc:∀i j C,i<n->j<n->i≠j->C (decide (r i<r j)) s->cmp i j C s){Q:Array Nat×Nat×Nat->pX->Prop}:∀(f:Nat) (p:Array Nat) (k q:Nat),PmN n p->1<=k->k+f=n->(∀i,1<=i->i<k->Kr r p i<=Kr r p (i-1))->(∀i,k-(q+1)<=i->i<k->Kr r p i=Kr r p (k-1))->q+1<=k->
  (∀p' k' q',PmN n p'->1<=k'->k'<=n->(∀i,1<=i->i<k'->Kr r p' i<=Kr r p' (i-1))->(∀i,k'-(q'+1)<=i->i<k'->Kr r p' i=Kr r p' (k'-1))->q'+1<=k'->Q (p',k',q') s)->(kas_desc f p k q).kasWp cmp Q s
 |0,p,k,q,hp,h1,hk,hd,he,hq,h=>h p k q hp h1 ⋯ hd he hq
 |f+1,p,k,q,hp,h1,hk,hd,he,hq,h=>by
  unfold kas_desc;refine hc _ _ _ (hp.lt ⋯) (hp.lt ⋯) (hp.ne ⋯ ⋯ ⋯) ?_;by_cases h2:Kr r p k<Kr r p (k-1)
  .rw[show decide (r (p.getD k 0)<r (p.getD (k-1) 0))=fJ from decide_eq_true h2];dsimp only;rw[if_pos rfl];split
   .have hs:=hp.size;have ek:=Tj (r:=r) (p:=p) (i:=k-(q+1)) (j:=k) ⋯ he;refine zax hc f _ (k+1) 0 (hp.rev _ _) ⋯ ⋯ (λi a b=> ?_) (λi a b=> ?_) ⋯ h;rw[ek,ek];by_cases hi:i=k;subst hi;omega;exact hd i a ⋯
    have:i=k:=by omega
    subst this;simp
   refine zax hc f _ (k+1) 0 hp ⋯ ⋯ (λi a b=> ?_) (λi a b=> ?_) ⋯ h;by_cases hi:i=k;subst hi;omega;exact hd i a ⋯
   have:i=k:=by omega
   subst this;simp
  rw[show decide (r (p.getD k 0)<r (p.getD (k-1) 0))=kb from decide_eq_false h2];dsimp only;rw[if_neg (by simp)];refine hc _ _ _ (hp.lt ⋯) (hp.lt ⋯) (hp.ne ⋯ ⋯ ⋯) ?_;by_cases h3:Kr r p (k-1)<Kr r p k;rw[show decide (r (p.getD (k-1) 0)<r (p.getD k 0))=fJ from decide_eq_true h3];dsimp only;rw[if_pos rfl];exact h p k q hp h1 ⋯ hd he hq;rw[show decide (r (p.getD (k-1) 0)<r (p.getD k 0))=kb from decide_eq_false h3];dsimp only;rw[if_neg (by simp)];refine zax hc f _ (k+1) (q+1) hp ⋯ ⋯ (λi a b=> ?_) (λi a b=> ?_) ⋯ h;by_cases hi:i=k;subst hi;omega;exact hd i a ⋯;rw[show k+1-1=k by omega];by_cases hi:i=k;rw[hi];have:=he i ⋯ ⋯;omega
def UC(r:Nat->Int)(p:Array Nat)(m:Nat):Prop:=∀i,1<=i->i<m->Kr r p (i-1)<=Kr r p i
def zew(hc:∀i j C,i<n->j<n->i≠j->C (decide (r i<r j)) s->cmp i j C s){Q:Nat×Array Nat->pX->Prop}(hp:PmN n p)(h1:1<=k)(hk:k<=n)(hd:∀i,1<=i->i<k->Kr r p i<=Kr r p (i-1))
  (h:∀m p',PmN n p'->1<=m->m<=n->UC r p' m->Q (m,p') s):(kas_tail3 k n p).kasWp cmp Q s:=by
 unfold kas_tail3;rw[KasT.kasWp_bind];have hs:=hp.size;refine zfB hc (hp.rev 0 k) _ k h1 ⋯ λm a b c _=> ?_;refine h m _ (hp.rev 0 k) ⋯ b λi e g=> ?_;by_cases hi:i<k;rw[zfA ⋯,zfA ⋯,if_pos ⋯,if_pos ⋯];have:=hd (0+k-1-(i-1)) ⋯ ⋯;rw[show 0+k-1-(i-1)-1=0+k-1-i by omega] at this;exact this;exact c i ⋯ g
def zac(hc:∀i j C,i<n->j<n->i≠j->C (decide (r i<r j)) s->cmp i j C s){Q:Nat×Array Nat->pX->Prop}(hp:PmN n p)(h1:1<=k)(hk:k<n)(hd:∀i,1<=i->i<k+1->Kr r p i<=Kr r p (i-1))
  (h:∀m p',PmN n p'->1<=m->m<=n->UC r p' m->Q (m,p') s):(kas_descPart k n p).kasWp cmp Q s:=by
 unfold kas_descPart;rw[KasT.kasWp_bind];have h0:∀i,k+1-(0+1)<=i->i<k+1->Kr r p i=Kr r p (k+1-1):=λi a b=>by
  have:i=k:=by omega
  subst this;simp
 refine zax hc (n-(k+1)) p (k+1) 0 hp ⋯ ⋯ hd h0 ⋯ λp' k' q' a b c d e g=> ?_;dsimp only;have hs:=a.size;split;have ek:=Tj (r:=r) (p:=p') (i:=k'-(q'+1)) (j:=k') ⋯ e;exact zew hc (a.rev _ _) b c (λi x y=>by rw[ek,ek];exact d i x y) h;exact zew hc a b c d h
theorem zgK(h:UC r p m):∀(d i:Nat),i+d<m->Kr r p i<=Kr r p (i+d)
 |0,i,_=>EL _
 |d+1,i,hd=>by
  have h1:=zgK h d i ⋯;have h2:=h (i+d+1) ⋯ ⋯;rw[show i+d+1-1=i+d by omega] at h2;exact Bv h1 h2
def zdq(h:UC r p m)(gU:i<=j)(hj:j<m):Kr r p i<=Kr r p j:=by
 have:=zgK h (j-i) i ⋯;rwa [show i+(j-i)=j by omega] at this
def zjH(hc:∀i j C,i<n->j<n->i≠j->C (decide (r i<r j)) s->cmp i j C s){Q:Nat×Array Nat->pX->Prop}(hp:PmN n p)(h1:1<=n)
  (h:∀m p',PmN n p'->1<=m->m<=n->UC r p' m->Q (m,p') s):(kas_count n p).kasWp cmp Q s:=by
 unfold kas_count;rw[KasT.kasWp_bind];refine zfB hc hp _ 1 ⋯ ⋯ λm a b c d=> ?_;have hs:=hp.size;by_cases hm:m=n;subst hm;rw[if_pos (by simp)];exact h m p hp a b c;rw[if_neg (by simpa using hm)];have hd:=d ⋯;by_cases h2:m>1
 .rw[if_pos h2];refine hc _ _ _ (hp.lt ⋯) (hp.lt ⋯) (hp.ne ⋯ ⋯ ⋯) ?_;by_cases h3:Kr r p 0<Kr r p (m-1);rw[show decide (r (p.getD 0 0)<r (p.getD (m-1) 0))=fJ from decide_eq_true h3];dsimp only;rw[if_pos rfl];exact h m p hp a b c
  rw[show decide (r (p.getD 0 0)<r (p.getD (m-1) 0))=kb from decide_eq_false h3];dsimp only;rw[if_neg (by simp)];have he:∀i,0<=i->i<m->Kr r p i=Kr r p (m-1):=λi _ hi=>by
   have e1:=zdq (r:=r) c (show 0<=i by omega) hi;have e2:=zdq (r:=r) c (show i<=m-1 by omega) ⋯;omega
  have ek:=Tj (r:=r) (p:=p) (i:=0) (j:=m) ⋯ he;refine zac hc (hp.rev _ _) ⋯ ⋯ (λi x y=> ?_) h;rw[ek,ek];by_cases hi:i=m;subst hi;omega;rw[he i ⋯ ⋯,he (i-1) ⋯ ⋯];exact EL _
 rw[if_neg h2];refine zac hc hp ⋯ ⋯ (λi x y=> ?_) h;have:i=m:=by omega
 subst this;omega
set_option tactic.hygienic true in
theorem zbj(hc:∀i j C,i<n->j<n->i≠j->C (decide (r i<r j)) s->cmp i j C s){Q:Nat->pX->Prop}(hp:PmN n p)(hk:k<n)(ha:UC r p k):∀(f lo hi:Nat),lo<=hi->hi<=k->hi-lo<=f->(∀i,i<lo->Kr r p i<=Kr r p k)->(∀i,hi<=i->i<k->Kr r p k<Kr r p i)->
  (∀l,l<=k->(∀i,i<l->Kr r p i<=Kr r p k)->(∀i,l<=i->i<k->Kr r p k<Kr r p i)->Q l s)->(kas_place p k f lo hi).kasWp cmp Q s
 |0,lo,hi,h1,h2,h3,hl,hh,q=>by
  have:lo=hi:=by omega
  subst this;exact q lo h2 hl hh
 |f+1,lo,hi,h1,h2,h3,hl,hh,q=>by
  unfold kas_place;split
  .have:lo=hi:=by omega
   subst this;exact q lo h2 hl hh
  rename_i cQ;have m1:lo<=(lo+hi) / 2:=by omega
  have m2:(lo+hi) / 2<hi:=by omega
  refine hc _ _ _ (hp.lt ⋯) (hp.lt ⋯) (hp.ne ⋯ ⋯ ⋯) ?_;by_cases h4:Kr r p k<Kr r p ((lo+hi) / 2);rw[show decide (r (p.getD k 0)<r (p.getD ((lo+hi) / 2) 0))=fJ from decide_eq_true h4];dsimp only;rw[if_pos rfl];refine zbj hc hp hk ha f lo _ m1 ⋯ ⋯ hl (λi a b=> ?_) q;have:=zdq ha a b;omega;rw[show decide (r (p.getD k 0)<r (p.getD ((lo+hi) / 2) 0))=kb from decide_eq_false h4];dsimp only;rw[if_neg (by simp)];refine zbj hc hp hk ha f _ hi ⋯ h2 ⋯ (λi a=> ?_) hh q;have:=zdq ha (show i<=(lo+hi) / 2 by omega) ⋯;omega
theorem zjI(hc:∀i j C,i<n->j<n->i≠j->C (decide (r i<r j)) s->cmp i j C s){Q:Array Nat->pX->Prop}:∀(f:Nat) (p:Array Nat) (k:Nat),PmN n p->k+f=n->UC r p k->(∀p',PmN n p'->UC r p' n->Q p' s)->(kas_bin f p k).kasWp cmp Q s
 |0,p,k,hp,hk,ha,h=>by
  have:k=n:=by omega
  subst this;exact h p hp ha
 |f+1,p,k,hp,hk,ha,h=>by
  unfold kas_bin;rw[KasT.kasWp_bind];have hs:=hp.size;refine zbj hc hp ⋯ ha k 0 k ⋯ (AF _) ⋯ (λi a=>by omega) (λi a b=>by omega) λl a b c=> ?_;refine zjI hc f _ (k+1) (hp.bub _ _) ⋯ (λi x y=> ?_) h;have e:=λj=>zon (r:=r) (p:=p) (src:=k) (d:=k-l) ⋯ ⋯ j;rw[e,e,show k-(k-l)=l by omega];by_cases h1:i-1=l;rw[if_pos h1,if_neg ⋯,if_pos ⋯];have:=c (i-1) ⋯ ⋯;omega;rw[if_neg h1];by_cases h2:i=l;rw[if_neg ⋯,if_pos h2];exact b (i-1) ⋯;rw[if_neg h2];by_cases h3:l<i;rw[if_pos (show l<i-1/\i-1<=k by omega),if_pos (show l<i/\i<=k by omega)];exact ha (i-1) ⋯ ⋯;rw[if_neg ⋯,if_neg ⋯];exact ha i x ⋯
def zgL(hc:∀i j C,i<n->j<n->i≠j->C (decide (r i<r j)) s->cmp i j C s){Q:Array Nat->pX->Prop}(h1:1<=n)(h:∀p,PmN n p->UC r p n->Q p s):(kas_sort n).kasWp cmp Q s:=by
 unfold kas_sort;rw[KasT.kasWp_bind];refine zjH hc (Hy _) h1 λm p a b c d=> ?_;dsimp only;split;rw[show max m 1=m by omega];exact zjI hc _ p m a ⋯ d h
 have:m=n:=by omega
 subst this;exact h p a d
end
section
variable{w:World}
end
open PySem.AutoSeq1 (wpAny_loadPart')
open PySem.MeetsSeq PySem.MeetsSeq2 PySem.MeetsSeq3
section
variable{w:World}
end
end L2
namespace L2
open PySem.Calls PySem.W
section
variable{a:qm}{d:V}{u r:pW}{kvs:mZ (Key×V)}{k:Key}
end
section
variable{o e f:Expr}{apos bw:Pos}{td ty tx:TE}
end
open PySem.AutoSeq1 (wpAny_loadPart')
section
variable{w:World}
end
end L2
namespace L2
open PySem.Calls PySem.W
def Vp:entryFor table "dict_itemiterator.__iter__"=dE Builtin.«dict_keyiterator.__iter__» :=
 entryFor_alias (id':="dict_keyiterator.__iter__") (by kernel_rfl) rfl (*...*) (by kernel_rfl)
section
def zbP(hit:IsItemIter s.heap it d i n ep ok ov)(h:Q (.ref it) s):wpAny (model prog w) A (pyIter (.ref it)) Q E s:=by
 have hT:s.TypeIs (.ref it) "dict_itemiterator":=⟨_,hit,rfl⟩;refine wpAny_pyIter_slot hT F.slot_dict_itemiterator_iter (wpAny_call_entry F.slot_dict_itemiterator_iter hT Vp ?_ (F.args_dict_itemiterator_iter_1 _));show wpAny _ _ (ret (.ref it)) _ _ s;exact wpAny_pure ⟨_,rfl,"dict_itemiterator",_,hT,F.slot_dict_itemiterator_next.lookup,h⟩
end
noncomputable def Itm(a:qm)(o:Obj)(kvs:mZ (Key×V)):It:=
 ⟨λi H=>H a=dE (.frz o (.dK kvs))/\∃k v,kvs[i]? =dE (k,v),λi H x H'=>∃p k v,x= .ref p/\H p=fC/\H'=upd H p (.tup [kV k,v])/\kvs[i]? =dE (k,v),λi H=>H a=dE (.frz o (.dK kvs))/\kvs.length<=i⟩
theorem zfC:∀{kvs:mZ (Key×V)} {vs:mZ (Key×pW)} {i:Nat} {k:Key} {v:V},KV kvs vs->kvs[i]? =dE (k,v)->∃u,vs[i]? =dE (k,u)/\zI v u
 |_,_,i,k,v,.nil,h=>by simp at h
 |_,_,0,k,v,.cons h _,e=>by
  simp at e;subst e;obtain⟨e1,e2⟩:=h;exact⟨_,by simp;exact Prod.ext e1.symm rfl,e2⟩
 |_,_,i+1,k,v,.cons _ l,e=>by
  obtain⟨u,e1,e2⟩:=zfC (i:=i) l (by simpa using e);exact⟨u,by simpa using e1,e2⟩
def zni{P:Program}(h:(yu P w).is k u=fJ):zI (kV k) u:=by
 have h:zaJ k u=fJ:=h;rcases yZ h with⟨i,t,rfl,rfl⟩|⟨x,t,rfl,rfl⟩
 .exact⟨t,rfl⟩
 exact⟨t,rfl⟩
def zay(I:Inv X pins σ H s)(h:H a=dE (.frz o (.dK kvs)))(hd:o.data= .dict es ep):∃vs,KV kvs vs/\s.heap.DictAt (yu X.prog X.w) a vs ep:=by
 obtain⟨hg,_,_,vs,rel,o',es',ep',e1,e2,e3,e4⟩:=(show yL X.prog X.w H s.heap a (.frz o (.dK kvs)) from I.hok a _ h);rw[hg] at e1;cases e1;rw[hd] at e3;cases e3;exact⟨vs,rel,o,es,hg,e2,hd,e4⟩
def zfD{P:Program}{K:Ar}(a it:qm)(o:Obj)(kvs:mZ (Key×V))(hd:o.data= .dict es ep):
  zd1 P w K (.Tuple elts k tp) (Itm a o kvs) [it] it (λi h=>∃ok ov,IsItemIter h it a i kvs.length ep ok ov) where
 mem:=by simp
 obj:=λi h st b hb=>by
  obtain⟨ok,ov,e⟩:=st;have:b=it:=by simpa using hb
  subst this;exact⟨_,e,λv z=>by cases z⟩
 keep:=λi h h' st k=>let ⟨ok,ov,e⟩:=st;⟨ok,ov,k it (by simp) _ e⟩
 item:=by
  walk_at "!b";obtain⟨ha,ke,v,hx⟩:=hg;obtain⟨ok,ov,hit⟩:=st;obtain⟨vs,rel,hm⟩:=zay I ha hd;obtain⟨u,hu,ru⟩:=zfC rel hx;have hl:=rel.length;rw[hl] at hit;refine wpAny_pyNext_items_item hit hm hu λkey h1 hk fj ht hz jN=>⟨_,rfl,?_⟩;refine wpAny_letOwnedTupleGo_items (s:={s with heap:=h1}) fj λh2 kg dP=> ?_;have dP:Heap.SameBut it h1 h2:=dP;have nA:it<s.heap.objs.size:=Heap.lt_size hit;have vv:zR [kV ke,v] [key,u]:= .cons (zni hk) (.cons ru .nil)
  obtain⟨I2,fr,fb⟩:=Inv.turnedT (h':=h2) (t':=s.toks) (fp:=[it]) I vv (by show 2<=sizeLine;decide) (λb o hb eb=>by
   have hb:b≠it:=by simpa using hb
   exact(dP.2 b hb).trans (jN b o hb eb)) ((dP.2 _ (Bo nA)).trans ht) hf (λb hb=>by
   have:b=it:=by simpa using hb
   subst this
   exact⟨_,hit⟩)
  exact⟨.ref s.heap.objs.size,_,I2,rfl,⟨_,ke,v,rfl,fr,rfl,hx⟩,⟨_,_,by rw[hl];exact kg⟩,fb⟩
 done:=by
  walk_at "!b";obtain⟨ha,hx⟩:=hg;obtain⟨ok,ov,hit⟩:=st;obtain⟨vs,rel,hm⟩:=zay I ha hd;have hl:=rel.length;rw[hl] at hit;refine wpAny_pyNext_items_end (I.ok.hd hc) hit hm (BQ ⋯) λh' eb=>⟨rfl,Inv.turnedL (t':=s.toks) (fp:=[it]) I (λb o hb eo=> ?_) hf⟩;exact eb b o (λz=>hb (by simp[z])) eo
 self:=λ_ _ _ _ _ st h=>let ⟨_,_,e⟩:=st;zbP e h
noncomputable def zex(p a:qm):HO:= .ext λh=>h.IsItemsView p a
def zjJ:V->mZ V->Hp->VK->Prop:=λx vs H Q=>∃(a:qm) (kvs:mZ (Key×V)),x= .ref a/\vs=[]/\H a=dE (.dK kvs)/\∀p,H p=fC->Q (.ref p) (upd H p (zex p a))
def zey:MtR X "dict.items" zjJ:=by
 intro pins s σ H x xs v us Q I rx r h;obtain⟨a,kvs,rfl,rfl,ha,q⟩:=h;cases rx;cases r;obtain⟨hz,lo,vs,rel,dd⟩:=zci I.hok ha;have hn:(s.heap.push {cls:= .type "dict_items",data:= .fields #[.ref a]}).get? s.heap.objs.size=dE {cls:= .type "dict_items",data:= .fields #[.ref a]}:=Heap.get?_push_size _ rfl;refine call_meetsIn DY dd.typeIs PySem.F.entry_dict_items (PySem.F.args_dict_items_1 _) (meets_dict_items (yu X.prog X.w) a lo) ⟨⟨vs,dd⟩,?_⟩;refine⟨.ref s.heap.objs.size,_,I.laid (t':=s.toks) (o:=zex s.heap.objs.size a) (λ_ _ e=>Heap.get?_push_of_some _ e) (AF _) ⟨⟨_,hn,rfl,rfl⟩,⟨_,hn⟩,λh1 h2 ⟨o,e1,e2⟩ e3=>⟨o,e3 _ e1,e2⟩⟩,rfl,q _ I.fresh⟩
def zjK(t:TE):TI:=λσ H R=>t σ H λx H1=>∃(p a:qm) (kvs:mZ (Key×V)),x= .ref p/\H1 p=dE (zex p a)/\H1 a=dE (.dK kvs)/\∀o,R (Itm a o kvs) (upd H1 a (.frz o (.dK kvs)))
def zez(he:PE X e t):PI X (.Tuple elts k tp) e (zjK t):=by
 intro pins s σ H R I h;refine thn (he pins s σ H _ I h) ?_;rintro u s1 ⟨x,H1,I1,rx,p,a,kvs,ex,hp,ha,q⟩;subst ex;cases rx;have hv:s1.heap.IsItemsView p a:=(show yL X.prog X.w H1 s1.heap p (zex p a) from I1.hok p _ hp).1;obtain⟨hz,lo,vs,rel,ob,es,ep,e1,e2,e3,e4⟩:=zci I1.hok ha;have hl:=rel.length;have I2:Inv X pins σ (upd H1 a (.frz ob (.dK kvs))) s1:=Uo (h':=s1.heap) (t':=s1.toks) I1 (by rw[ha];exact Cp) ⟨rfl,λ_ _=>rfl⟩ ⟨ob,e1⟩ ⟨e1,hz,lo,vs,rel,ob,es,ep,e1,e2,e3,e4⟩;refine wpAny_pyIter_items (knd:=yu X.prog X.w) hv ⟨ob,es,e1,e2,e3,e4⟩ ?_;have hi:(s1.heap.push {cls:= .type "dict_itemiterator",data:= .fields #[.none,.bool kb,.ref a,.int 0 0,.int vs.length 0,.int ep 0,.none,.none]}).get? s1.heap.objs.size=dE {cls:= .type "dict_itemiterator",data:= .fields #[.none,.bool kb,.ref a,.int 0 0,.int vs.length 0,.int ep 0,.none,.none]}:=Heap.get?_push_size _ rfl;have I3:=I2.kept (t':=s1.toks) (h':=s1.heap.push {cls:= .type "dict_itemiterator",data:= .fields #[.none,.bool kb,.ref a,.int 0 0,.int vs.length 0,.int ep 0,.none,.none]}) (λb o e=>Heap.get?_push_of_some _ e);refine⟨s1.heap.objs.size,[s1.heap.objs.size],_,_,_,rfl,I3,zfD a s1.heap.objs.size ob kvs e3,⟨.none,.none,by rw[hl];exact hi⟩,λb hb=> ?_,q ob⟩;have hb:s1.heap.objs.size<=b:=by
  have:b=s1.heap.objs.size:=by simpa using hb
  exact Ci this.symm
 exact Inv.fpOk I2 hb (I2.hok.fresh hb)
open PySem.AutoSeq1 (wpAny_loadPart')
section
variable{w:World}
end
end L2
namespace L2
open PySem.Calls
mutual
inductive zjL(h:Heap):NK->Value->Prop where
 |int (i:Int) (t:Tok):zjL h (.int i) (.int i t)
 |str (x:Str) (t:Tok):zjL h (.str x) (.str x t)
 |tup {a:Addr} {o:Obj} {items:Array Value} {n:Nat} {l:List NK}:h.get? a=dE o->o.cls= .type "tuple"->o.data= .seq items n->zgM h l items.toList->zjL h (.tup l) (.ref a)
inductive zgM(h:Heap):List NK->List Value->Prop where
 |nil:zgM h [] []
 |cons {k:NK} {v:Value} {ks:List NK} {vs:List Value}:zjL h k v->zgM h ks vs->zgM h (k::ks) (v::vs)
end
section
variable{h h':Heap}
end
section
variable{w:World}
end
mutual
inductive NIs(K:Ar)(H:Hp):V->NK->Prop where
 |int (i:Int):NIs K H (.int i) (.int i)
 |str (x:Str):NIs K H (.str x) (.str x)
 |tup {a:Addr} {vs:List V} {l:List NK}:SqT K H a vs->zlZ K H vs l->NIs K H (.ref a) (.tup l)
inductive zlZ(K:Ar)(H:Hp):List V->List NK->Prop where
 |nil:zlZ K H [] []
 |cons {v:V} {k:NK} {vs:List V} {ks:List NK}:NIs K H v k->zlZ K H vs ks->zlZ K H (v::vs) (k::ks)
end
noncomputable abbrev PN:mZ (NK×qm×V)->mZ (NK×qm×pW)->Prop:=Paired λ(p:NK×qm×V) (q:NK×qm×pW)=>p.1=q.1/\p.2.1=q.2.1/\zI p.2.2 q.2.2
section
variable{a:qm}
end
section
variable{a:qm}{y v d:V}{u r:pW}{o:pU V}
end
section
variable{o i e f value:Expr}{pos pos' kj apos bw:Pos}{td ty tv tx:TE}{K:Ar}{r:Nat}
end
end L2
namespace L2
open PySem.Calls PySem.W
section
variable{w:World}{d it:qm}{es:Array DictEntry}{ep i:Nat}
end
noncomputable def ltL:mZ Int->mZ Int->Bool
 |[],[]=>kb
 |[],_::_=>fJ
 |_::_,[]=>kb
 |a::x,b::y=>if a=b then ltL x y else decide (a<b)
section
variable{w:World}
end
section
variable{w:World}{T:String}{r d:qm}{n:Nat}{P:Nat->pW->Prop}{OK:Heap->Prop}
end
end L2
namespace L2
open PySem.Calls
open AutoSeq1 (wpAny_loadPart')
section
variable{w:World}{it t:qm}{ae:Array pW}
end
end L2
namespace L2
open PySem.Calls PySem.W
section
variable{cmp:Nat->Nat->(Bool->pX->Prop)->pX->Prop}{r:Nat->Int}{n:Nat}
end
section
variable{w:World}{κ:SortKind}{it:Array Keyed}
end
section
def Inv.adoptW{t':Nat}{D:qm}{o:HO}(I:Inv X pins σ H s)(k:∀b u,b≠D->s.heap.get? b=dE u->h'.get? b=dE u)(hn:H D=fC)(hL:D≠X.env.locals)
  (h1:X.s₀.heap.objs.size<=D) (h2:∀x c,X.env.cells.lookup x=dE c->c≠D) (h3:∀p∈X.pn++pins,p.1≠D) (new:yL X.prog X.w (upd H D o) h' D o):Inv X pins σ (upd H D o) {s with heap:=h',toks:=t'}:=by
 have fX:∀b u,H b=dE u->b≠D:=λb u e z=>by rw[z,hn] at e;cases e
 refine I.step (g':=s.gens) (d':=s.drawn) (ch:=[D]) (λb hb=> ?_) (λb o _ _ hc e _=>k b o (λz=>hc (by simp[z])) e) (λb o _ _ hc e _=>⟨o.slots,k b o (λz=>hc (by simp[z])) e⟩) (λb _ hc _ n=>by rw[zi (λz=>hc (by simp[z]))];exact n)
  (λb o hc e=>⟨o,k b o (λz=>hc (by simp[z])) e⟩) (λb _ e=>by rw[zi (fX b _ e)];exact e) (λb _ _ e=>by rw[zi (fX b _ e)];exact e) (λb ps e=>⟨#[],by rw[zi (fX b _ e),e];simp⟩) (λm hm=> ?_) (λb u e=> ?_) I.bare
 .have e:b=D:=by simpa using hb
  subst e;exact⟨.inr h1,hL,h2,h3⟩
 .obtain⟨o,es,ep,ho,r⟩:=hm;exact⟨o,es,ep,k _ o (BH hL) ho,r⟩
 by_cases hb:b=D;subst hb;rw[zw] at e;cases e;exact new
 rw[zi hb] at e;refine(I.hok b u e).stay (λc v hc q=>k c v ?_ q) (λc q=>by rw[zi (fX c _ q)];exact q) λc xs q=>by rw[zi (fX c _ q)];exact q
 rcases hc with z|z;rw[z];exact hb;exact fX c _ z
theorem zfE:∀{xs:mZ V} {us:mZ pW} {i:Nat} {u:pW},zR xs us->us[i]? =dE u->∃x,xs[i]? =dE x/\zI x u
 |_,_,i,_,.nil,e=>by simp at e
 |_,_,0,_,.cons r _,e=>by cases e;exact⟨_,rfl,r⟩
 |_,_,i+1,_,.cons _ l,e=>zfE (i:=i) l e
end
def zpO(is:mZ (mZ Int)):Prop:=(2<=is.length->∀l∈is,l≠[])/\∀i j,i<j->j<is.length->ltL (is.getD j []) (is.getD i [])=fJ
section
variable{k:Nat}{f:qm}{fd:FuncData}{ps:mZ Str}{sp:Sp}
end
theorem zgN:∀{xs:mZ V} {us:mZ pW},xs.length=us.length->(∀(i:Nat) x u,xs[i]? =dE x->us[i]? =dE u->zI x u)->zR xs us
 |[],[],_,_=> .nil
 |[],_::_,h,_=>by simp at h
 |_::_,[],h,_=>by simp at h
 |x::xs,u::us,h,k=> .cons (k 0 x u rfl rfl) (zgN (by simpa using h) λi a b ha hb=>k (i+1) a b ha hb)
noncomputable def zeA(n:Nat):mZ V:=(BD n).map λ(i:Nat)=>V.int (i:Int)
theorem zgO:∀(x y:mZ Int),HT.YO x y=ltL x y
 |[],[]=>rfl
 |[],_::_=>rfl
 |_::_,[]=>rfl
 |a::x,b::y=>by
  rw[HT.zaO,ltL,zgO x y]
end L2
namespace L2
namespace Sm
noncomputable def inB(b j:Nat):Bool:=b.testBit j
noncomputable def plL(b:Nat):mZ Nat:=(BD 8).filter (inB b)
noncomputable def pl(b:Nat):Array Nat:=(plL b).toArray
noncomputable def st(h:Int):Nat->Nat×Nat
 |0=>(SetTable.bits h % 8,SetTable.bits h)
 |n+1=>SetTable.leap 7 (st h n).1 (st h n).2
noncomputable def pos(h:Int)(n:Nat):Nat:=(st h n).1
noncomputable def mkP(s:Nat×Nat):SetTable.Probe:={j:=s.1,more:=0,i:=s.1,perturb:=s.2,dummy:=fC}
structure Tb(t:SetTable)(b:Nat):Prop where
 mask:t.mask=7
 place:t.place=pl b
 Al:t.dummies= #[]
noncomputable def ix(b j:Nat):Nat:=((BD j).filter (inB b)).length
inductive znj(f:Nat->Int)(b:Nat)(x:Int)(n:Nat):SetTable.Met->Prop
 |empty (m:Nat):n<=m->inB b (pos x m)=kb->(∀k,n<=k->k<m->inB b (pos x k)=fJ/\f (pos x k)≠x)->znj f b x n (.empty (pos x m) fC)
 |y2 (m:Nat):n<=m->inB b (pos x m)=fJ->f (pos x m)=x->(∀k,n<=k->k<m->inB b (pos x k)=fJ/\f (pos x k)≠x)->znj f b x n (.candidate (pos x m) (ix b (pos x m)) (mkP (st x (m+1))))
def zpP(b:Nat)(f:Nat->Int):Prop:=∀j<8,inB b j=fJ->∃n,pos (f j) n=j/\∀m,m<n->inB b (pos (f j) m)=fJ
end Sm
open PySem.Calls PySem.W
section
variable{w:World}
structure zqu(w:World)(h:Heap)(a:qm)(b:Nat)(f:Nat->Int×pW)(kf:Nat->NK)(o:Obj)(ep:Nat)(t:SetTable):Prop where
 get:h.get? a=dE o
 ex:o.ExactSet
 data:o.data= .set ((Sm.pl b).map f) ep t
 tb:Sm.Tb t b
 plain:t.plain=fJ
 lt:b<256
 few:(Sm.plL b).length<=4
 chain:Sm.zpP b λj=>(f j).1
 keys:∀j<8,Sm.inB b j=fJ->(f j).1=zif w (kf j)/\(∃c,(f j).2= .ref c/\zjL h (kf j) (.ref c))/\zlg (kf j)<=8
 inj:∀i<8,∀j<8,Sm.inB b i=fJ->Sm.inB b j=fJ->kf i=kf j->i=j
variable{a:qm}{b:Nat}{f:Nat->Int×pW}{kf:Nat->NK}{o:Obj}{ep:Nat}{t:SetTable}
end
section
variable{h h':Heap}
end
section
variable{w:World}
variable{a:qm}{b:Nat}{f:Nat->Int×pW}{kf:Nat->NK}{o:Obj}{ep:Nat}{t:SetTable}
end
section
variable{h h':Heap}
end
section
variable{w:World}
variable{R:Result->pX->Prop}{I:qm}{fp wr:mZ qm}{G:Array GenState->Array GenState->Prop}{n:Nat}{P:Nat->pW->Prop}{St:Nat->pX->Prop}
end
section
variable{w:World}
end
end L2
set_option maxHeartbeats 3200000
namespace L2
open PySem.Calls PySem.W
section
variable{w:World}
end
structure zqv(h:Heap)(a:qm)(b:Nat)(f:Nat->Int×pW)(o:Obj)(ep:Nat)(t:SetTable):Prop where
 get:h.get? a=dE o
 ex:o.ExactSet
 data:o.data= .set ((Sm.pl b).map f) ep t
 tb:Sm.Tb t b
 plain:t.plain=fJ
 lt:b<256
 few:(Sm.plL b).length<=4
section
variable{w:World}{d it:qm}
variable{b:Nat}{f:Nat->Int×pW}{o:Obj}{ep:Nat}{t:SetTable}
variable{b:Nat}{f:Nat->Int×pW}{o:Obj}{ep:Nat}{t:SetTable}{i:Nat}
end
mutual
noncomputable def cp:NK->NK->Bool
 | .int _,.int _=>fJ
 | .tup x,.tup y=>cpL x y
 |_,_=>kb
noncomputable def cpL:mZ NK->mZ NK->Bool
 |a::x,b::y=>cp a b&&cpL x y
 |_,_=>fJ
end
section
open PySem.SeqAt
open PySem.AutoSeq1 (wpAny_loadPart')
open PySem.MeetsSeq PySem.MeetsSeq2 PySem.MeetsSeq3
variable{w:World}
end
section
variable{w:World}
def zoo(b:Bool):NK->Prop
 | .tup (.tup _::_)=>b=kb
 | .tup (.int _::_)=>b=fJ
 |_=>False
end
structure KOk(b:Bool)(ks:mZ NK):Prop where
 cmp:∀x∈ks,∀y∈ks,cp x y=fJ
 Am:∀k∈ks,zlg k<=8
 fst:∀k∈ks,zoo b k
section
variable{w:World}
end
section
variable{w:World}
end
section
def zeB(I:Inv X pins σ H s)(k:∀b u,s.heap.get? b=dE u->h'.get? b=dE u)(old:Zz H H')(new:∀b u,H' b=dE u->H b=dE u\/s.heap.objs.size<=b)(ok:∀b u,H' b=dE u->H b=fC->yL X.prog X.w H' h' b u):
  Inv X pins σ H' {s with heap:=h',toks:=t'}:=by
 refine I.un ⟨λb u q _ _ _=>k b u q,λb u q _ _ _=>⟨u.slots,k b u q⟩,λb u q n _=> ?_,λb u q _=>⟨u,k b u q⟩,λb xs q=>old _ _ q,λb u xs q=>old _ _ q,λb ps q=>⟨#[],by rw[old _ _ q];simp⟩⟩ λb u q=> ?_
 .cases e:H' b with
  |none=>rfl
  |some o=>
   rcases new b o e with z|z;rw[n] at z;cases z;exact absurd (AJ (Heap.lt_size q) z) (C0 _)
 cases e:H b with
 |none=>exact ok b u q e
 |some o=>
  have:=old b o e;rw[q] at this;cases this;exact(I.hok b _ e).stay (λc v _ z=>k c v z) (λc z=>old c _ z) λc xs z=>old c _ z
end
inductive zfF(H:Hp):List Addr->List (Int×V)->Prop
 |nil:zfF H [] []
 |cons {p:Addr} {x:Int×V} {ps:List Addr} {xs:List (Int×V)}:H p=dE (.tup [.int x.1,x.2])->zfF H ps xs->zfF H (p::ps) (x::xs)
open PySem.AutoSeq1 (wpAny_loadPart')
open PySem.MeetsSeq PySem.MeetsSeq2 PySem.MeetsSeq3
section
variable{w:World}
end
end L2
namespace L2
open PySem.Calls
section
variable{tg:Expr}
end
section
variable{G:Array GenState->Array GenState->Prop}{P:Nat->pW->Prop}{St:Nat->pX->Prop}{R:Result->pX->Prop}
noncomputable abbrev zqz(xs:Array pW)(c:Nat):Obj:={cls:= .type "list",dict:=fC,data:= .seq xs c,slots:= #[]}
noncomputable abbrev zqA(I S:qm)(d:pW):Code:= .builtin "max.loop" ⟨[.ref I,.none,.ref S],[("default",d)]⟩
def zjM{id:String}(e1:builtinKind id=fC)(e2:plainId id=fJ)(e3:entryFor table id=dE b)(e4:argsOk id ⟨xs,kw⟩)
  (h:wpAny (model prog w) A.in1 (b ⟨xs,kw⟩) (λfin s'=>match fin with
   | .done f=>(match (Except.ok f:Result) with| .ok (.ret v)=>Q v s'| .ok _=>False| .error e=>E e s')
   | .again c'=>c'.quiet=fJ/\codeAny (model prog w) A c' (λr s'=>match r with| .ok (.ret v)=>Q v s'| .ok _=>False| .error e=>E e s') s') E s):wpAny (model prog w) A (call (.builtin id) xs kw) Q E s:=by
 refine wpAny_call (codeAny_call_builtin e2 e3 (by
  simp only[checkBuiltinCall,e1];cases hs:Manifest.signature? id with
  |none=>exact wpAny_pure h
  |some sig=>
   have e5:Bind.checkArgs id sig ⟨xs,kw⟩=pure ():=by simpa only[argsOk,hs] using e4
   simp only[e5]
   exact wpAny_pure h))
end
section
variable{w:World}
end
section
variable{w:World}{h:Heap}{g:Array GenState}{d:Drawn}{t:Nat}{os:OsState}{a:qm}
def zop(h:Heap)(g:Array GenState)(d:Drawn)(os:OsState)(E:pW->pX->Prop):Prop:=∀h' e tk',(∀b o,h.get? b=dE o->h'.get? b=dE o)->(∃o,h'.get? e=dE o/\o.cls= .type "AttributeError")->E (.ref e) ⟨h',g,d,tk',os⟩
end
def zeC:entryFor table "dict.update.loop"=dE Builtin.«dict.update.loop» :=entryFor_of_fast (by kernel_rfl)
def UD:plainId "dict.update.loop"=fJ:=by decide+kernel
section
variable{w:World}{I:qm}{fp wr:mZ qm}{G:Array GenState->Array GenState->Prop}{n:Nat}{P:Nat->pW->Prop}{St:Nat->pX->Prop}{R:Result->pX->Prop}{KK:Type}[DecidableEq KK]{knd:KeyKind prog w KK}
def zhJ{kv:mZ (KK×pW)}{i:Nat}{k:KK}{v:pW}(nd:(kv.map (·.1)).Nodup)(h:kv[i]? =dE (k,v)):stored (kv.take i) k v=kv.take (i+1):=by
 have hi:=(Au.1 h).1;have e:=(Au.1 h).2;unfold stored;rw[if_neg,List.take_succ_eq_append_getElem hi,e];intro q;rw[De] at q;obtain⟨x,hx,hk⟩:=q;obtain⟨m,hm,rfl⟩:=ED.1 hx;rw[B6] at hm;have hk:(kv.take i)[m].1=k:=of_decide_eq_true hk;rw[GW] at hk;have h2:=(Cv (xs:=kv.map (·.1)) (i:=m) (j:=i) (h₀:=by rw[Aw];omega) (h₁:=by rw[Aw];omega) nd).1 (by rw[Ej,Ej,hk,e]);omega
def zl1(W:WalksS prog w A.in1 I fp wr G n P St)(d:qm)(nf:d∉fp)(h0:Heap)(old:∀b o,h0.get? b=dE o->b∉d::wr)(kv:mZ (KK×pW))(nd:(kv.map (·.1)).Nodup)(hn:kv.length=n)(rZ:n<=sizeLine)
  (wU:∀i v,P i v->∃p key k x m,kv[i]? =dE (k,x)/\v= .ref p/\knd.is k key=fJ/\∃o,h0.get? p=dE o/\o.cls= .type "tuple"/\o.data= .seq #[key,x] m):
  ∀(q i:Nat) (s:pX) (t:Tok),n-i=q->i<=n->St i s->(∀b o,h0.get? b=dE o->s.heap.get? b=dE o)->s.heap.DictOf knd d (kv.take i)->(∀s',Moved (d::wr) G s s'->s'.heap.DictOf knd d kv->R (.ok (.ret .none)) s')->
   codeAny (model prog w) A (.builtin "dict.update.loop" ⟨[.ref d,.ref I,.int i t,.none],[]⟩) R s:=by
 have nw:d∉wr:=λq=>nf (W.sub _ q);have up:∀b∈wr,b∈d::wr:=λb q=> .tail _ q;have ns:∀{b:qm},b∉d::wr->b≠d:=λq e=>q (e ▸ .head _);have stay:∀{s s':pX} {l:mZ (KK×pW)},Moved wr G s s'->s.heap.DictOf knd d l->s'.heap.DictOf knd d l:=by
  rintro s s' l mv ⟨o,es,ep,ho,r⟩;exact⟨o,es,ep,mv.heap d o nw ho,r⟩
 intro q
 induction q with
 |zero=>
  intro i s t hq hi st ho hD fin;obtain rfl:i=n:=by omega
  refine codeAny_builtin zeC (by
   rw[Around.under_plainId UD _];refine wpAny_bind (m:=pyNext (.ref I)) (W.done s _ _ st λs' mv=> ?_);refine wpAny_bind (m:=Builtin.Dict.addKeywords d []) (wpAny_pure (wpAny_pure (fin s' (mv.mono up) ?_)));have:=stay mv hD
   rwa [<-hn,Bq] at this)
 |succ q ih=>
  intro i s t hq hi st ho hD fin;have lt:i<n:=by omega
  refine codeAny_builtin zeC (by
   rw[Around.under_plainId UD _];refine wpAny_bind (m:=pyNext (.ref I)) (W.item i s _ _ lt st λv s' hv st' mv=> ?_);obtain⟨p,key,k,x,m,hk,rfl,mN,o,hp,hc,hd⟩:=wU i v hv;have gR:∀b o,h0.get? b=dE o->s'.heap.get? b=dE o:=λb o e=>mv.heap b o (λz=>old b o e (up b z)) (ho b o e);have fi:=gR _ _ hp;have hT:s'.TypeIs (.ref p) "tuple":=⟨_,fi,hc⟩;refine wpAny_bind (wpAny_holding (wpAny_bind (m:=tryCatch (Builtin.Dict.pairItems (.ref p)) _) (wpAny_tryCatch ?_)));unfold Builtin.Dict.pairItems;refine wpAny_bind (wpAny_typeOf hT ?_);rw[if_pos ∅];refine wpAny_bind (wpAny_seqItems fi hd (wpAny_pure ?_));refine wpAny_holding (m:=dictSet d key x) (wpAny_dictSet_pairs mN (stay mv hD) (λh' rX sb=> ?_) (by rw[B6];omega));rw[zhJ nd hk] at rX;refine wpAny_pure ⟨plainId_quiet UD _,ih (i+1) _ _ ⋯ lt (W.frame _ s' h' (s'.toks+1) st' (C7 _) λb hb ob e=>(sb.2 b λz=>nf (z ▸ hb)).trans e) (λb ob e=>(sb.2 b (ns (old b ob e))).trans (gR b ob e)) rX λs'' sN uT=> ?_⟩
   exact fin s'' (Moved.trans W.gtrans ((mv.mono up).then_heap (C7 _) λb ob q e=>(sb.2 b (ns q)).trans e) sN) uT)
end
def PrT(H:Hp):V->Key×V->Prop:=λp q=>∃b,p= .ref b/\H b=dE (.tup [kV q.1,q.2])
def zjN{P:Program}(ok:HOk P w H h)(hp:Paired (PrT H) ps kvs):∀{ae:mZ pW},zR ps ae->∃kv:mZ (Key×pW),KV kvs kv/\kv.length=ae.length/\∀(i:Nat) v,ae[i]? =dE v->
  ∃p key k x m,kv[i]? =dE (k,x)/\v= .ref p/\(yu P w).is k key=fJ/\∃o,h.get? p=dE o/\o.cls= .type "tuple"/\o.data= .seq #[key,x] m:=by
 induction hp with
 |nil=>
  intro ae r;cases r;exact⟨[],.nil,rfl,λi v e=>by simp at e⟩
 | @cons p q ps kvs h1 _ ih=>
  intro ae r;obtain⟨k,y⟩:=q;cases r with
  |cons r1 r2=>
   obtain⟨kv,a1,a2,a3⟩:=ih r2;obtain⟨b,rfl,hb⟩:=h1;cases r1;obtain⟨_,ae,rv,o,e,c,m,d,_⟩:=(show yL P w H h b (.tup _) from ok b _ hb);obtain⟨u1,u2,rfl,g1,g2⟩:=zgn rv;refine⟨(k,u2)::kv,.cons ⟨rfl,g2⟩ a1,by rw[B7,B7,a2],λi v e'=> ?_⟩;cases i with
   |zero=>
    cases e';refine⟨b,u1,k,u2,m,rfl,rfl,?_,o,e,c,by simpa using d⟩;cases k with
    |inl i=>obtain⟨t,rfl⟩:=g1;exact zb3 i t
    |inr x=>obtain⟨t,rfl⟩:=g1;exact zb4 x t
   |succ i=>exact a3 i v (by simpa using e')
section
variable{w:World}{I:qm}{fp wr:mZ qm}{G:Array GenState->Array GenState->Prop}{n:Nat}{P:Nat->pW->Prop}{St:Nat->pX->Prop}{R:Result->pX->Prop}
end
section
variable{w:World}
end
section
variable{K:Ar}{E:XK}
noncomputable def zaz:D->D->Bool
 | .tup _,.tup _=>fJ
 | .lst _,.lst _=>fJ
 |_,_=>kb
noncomputable def zas(neg:Bool):Op2:=λx y S=>match wU S 40 x,wU S 40 y with
 |some d,dE e=>if zaz d e then (eqG 40 d e).map λb=>(.bl (neg !=b),S) else fC
 |_,_=>fC
def zfG(h:zaz d e=fJ):∃l m,(d= .tup l/\e= .tup m)\/(d= .lst l/\e= .lst m):=by
 unfold zaz at h;split at h;exact⟨_,_,.inl ⟨rfl,rfl⟩⟩;exact⟨_,_,.inr ⟨rfl,rfl⟩⟩;cases h
set_option tactic.hygienic true in
def zjO:Yv K (zom K neg) (zas neg):=by
 walk_at "!e";unfold zas at h;split at h
 .rename_i d e e1 e2;split at h
  .rename_i hb;cases hg:eqG 40 d e with
   |none=>rw[hg] at h;cases h
   |some b=>
    rw[hg] at h;cases h;exact⟨d,e,b,zfG hb,(zdl E1 40 _ _ _ hx e1).1,(zdl E1 40 _ _ _ hy e2).1,hg,k _ _ _ Ext.refl E1 (.bl _)⟩
  cases h
 cases h
end
section
def zjP(h1:wU S 40 x=dE d)(h2:wU S 40 y=dE e)(hs:zaz d e=fJ)(hb:eqG 40 d e=dE b)(k:P (.bl (neg !=b)) S):WO (zas neg x y S) P:= .of (by unfold zas;rw[h1,h2];dsimp only;rw[if_pos hs,hb];rfl) k
def zbk{get:Sto->pU (mZ Xv)}(hl:xs.length<=sizeLine)(J:Nat->mZ Xv->Sto->Prop)(hg:∀i es S,i<=xs.length->J i es S->get S=dE xs)
  (h:∀(i:Nat) (x:Xv) es S,xs[i]? =dE x->es.length<=i->J i es S->W (g x ρc S) λρ1 S1=>W (c ρ1 S1) λb S2=>(b=fJ->W (m ρ1 S2) λy S3=>J (i+1) (es++[y]) S3)/\(b=kb->J (i+1) es S2)) (h0:J 0 [] S)
  (k:∀es S,es.length<=xs.length->J xs.length es S->P (.ref S.length) (S++[.lst es])):W (vE get g c m ρc (xs.length+1) 0 [] S) P:=by
 have aux:∀(n i:Nat) (es:mZ Xv) (S:Sto),i+n=xs.length->es.length<=i->J i es S->W (vE get g c m ρc (n+1) i es S) P:=by
  intro n
  induction n with
  |zero=>
   intro i es S e el hj;unfold vE;rw[hg i es S ⋯ hj,AO,BQ ⋯];dsimp only;rw[if_pos ⋯];exact .of rfl (k es S ⋯ (by rw[show xs.length=i by omega];exact hj))
  |succ n ih=>
   intro i es S e el hj;unfold vE;have hi:i<xs.length:=by omega
   rw[hg i es S ⋯ hj,AO,As hi];obtain⟨ρ1,S1,e1,b,S2,e2,t,f⟩:=h i _ es S (As hi) el hj;dsimp only[rn];rw[e1];dsimp only[rn];rw[e2];dsimp only[rn];cases b with
   |true=>
    obtain⟨y,S3,e3,q⟩:=t rfl;rw[if_pos rfl,e3];dsimp only[rn];rw[if_pos ⋯];exact ih (i+1) (es++[y]) S3 ⋯ (by simp;omega) q
   |false=>
    rw[if_neg (by simp)];exact ih (i+1) es S2 ⋯ ⋯ (f rfl)
 exact aux xs.length 0 [] S ⋯ (by simp) h0
end
section
variable{K:Ar}{E:XK}
end
noncomputable def kX:Key->Xv
 | .inl i=> .int i
 | .inr z=> .str z
noncomputable def zbl(kvs:mZ (Key×Xv)):mZ Xv:=kvs.map λp=> .tup [kX p.1,p.2]
noncomputable def zbm(n:Nat)(S:Sto):pU (mZ Xv):=match S[n]? with
 |some (.fdk kvs)=>dE (zbl kvs)
 |_=>fC
noncomputable def iIt(m:TwE):TwI:=λρ S=>rb (m ρ S) λx S1=>(wC S1 x).map λp=> .ok (zbm p.1) (S1.set p.1 (.fdk p.2))
section
variable{K:Ar}{E:XK}
def zjQ:Xis K j H (kX k) (kV k):=by
 cases k;exact .int _;exact .str _
def KX.get{j:mZ qm}{kvs:mZ (Key×Xv)}{ks:mZ (Key×V)}{i:Nat}{k:Key}{x:Xv}(h:KX K j H kvs ks)(e:kvs[i]? =dE (k,x)):∃v,ks[i]? =dE (k,v)/\Xis K j H x v:=by
 induction h generalizing i with
 |nil=>simp at e
 |cons h _ ih=>
  cases i with
  |zero=>
   simp at e;obtain⟨rfl,rfl⟩:=e;exact⟨_,rfl,h⟩
  |succ i=>exact ih e
set_option tactic.hygienic true in
def zbn(h:RE K E t m):RI K E (zjK (znR K "dict" zjJ t)) (iIt m):=by
 walk_at "!d"
 .cases e4:wC S1 x with
  |none=>rw[e4] at e;cases e
  |some p=>
   obtain⟨n,kvs⟩:=p;rw[e4] at e;cases e;refine h En0 e1 λj1 H1 X1 E1 u hu=> ?_;obtain⟨a,ks,rfl,hj,h1,h2⟩:=E1.dk hu e4;have hs:=(YW e4).2;refine⟨tyD h1,a,ks,rfl,rfl,h1,λp hp=> ?_⟩;obtain⟨E2,X2⟩:=E1.new (o:=zex p a) hp;have ne:a≠p:=wY h1 hp;refine⟨p,a,ks,rfl,zw,by rw[zi ne];exact h1,λo=> ?_⟩;obtain⟨E3,X3⟩:=E2.writeF (n:=n) (c':= .fdk kvs) (o:= .frz o (.dK ks)) hs rfl hj (λX=>⟨o,ks,zw,(h2.mono X2).mono X⟩);refine k _ _ (X1.trans (X2.trans X3)) E3 _ ?_;intro F2 j2 H2 σ2 ρ2 S2 xs i X4 E4 e5;unfold zbm at e5;split at e5
   .rename_i nC ec;cases e5;have ha:H2 a=dE (.frz o (.dK ks)):=X4.imm _ _ zw rfl;obtain⟨o',ks',f1,f2⟩:=E4.cel n _ a ec (X4.pre n a hj);rw[ha] at f1;cases f1;refine⟨λy ey=> ?_,λhle=>⟨ha,by rw[f2.len];unfold zbl at hle;rw[Aw] at hle;omega⟩⟩;unfold zbl at ey;rw[Ax] at ey;cases ep:nC[i]? with
    |none=>rw[ep] at ey;cases ey
    |some q=>
     obtain⟨kk,xx⟩:=q;rw[ep] at ey;cases ey;obtain⟨v,g1,g2⟩:=f2.get ep;refine⟨⟨ha,kk,v,g1⟩,?_⟩;rintro v' H' ⟨q,k2,v2,rfl,hq,rfl,g3⟩;rw[g1] at g3;cases g3;exact⟨yN hq,.tup zw (.cons zjQ (.one (g2.mono (Ext.same (yN hq)))))⟩
   cases e5
 exact h En0 e1 k
end
def zjR{Q':(Sto->pU (mZ Xv))->Sto->Prop}(h:W (m ρ S) λx S1=>∃n kvs,wC S1 x=dE (n,kvs)/\Q' (zbm n) (S1.set n (.fdk kvs))):W (iIt m ρ S) Q':=W.bind (h.imp λx S1 h=>by
 obtain⟨n,kvs,e,q⟩:=h;rw[e]
 exact .of rfl q)
section
variable{K:Ar}{E:XK}{F:Fm}{j:mZ qm}{x y z:Xv}{u v w:V}
end
section
variable{K:Ar}{j:mZ qm}
end
section
variable{a b m z:TwE}{x y:Xv}
end
noncomputable def zfH(S:Sto)(x:Xv)(nm:Str):pU (Nat×mZ (Str×Xv)):=match x with
 | .ref n=>match S[n]? with
  |some (.ins nm' fs)=>if nm'=nm then dE (n,fs) else fC
  |_=>fC
 |_=>fC
set_option tactic.hygienic true in
def zct(h:zfH S x nm=dE (n,fs)):x= .ref n/\S[n]? =dE (.ins nm fs):=by
 unfold zfH at h;split at h;split at h;split at h;rename_i e1 e2;cases h;subst e2;exact⟨rfl,e1⟩;cases h;cases h;cases h
def zgP(h:S[n]? =dE (.ins nm fs)):zfH S (.ref n) nm=dE (n,fs):=by
 unfold zfH;dsimp only;rw[h];dsimp only;rw[if_pos rfl]
noncomputable def zdr(f:Str)(v:Xv):mZ (Str×Xv)->mZ (Str×Xv)
 |[]=>[(f,v)]
 |(g,x)::r=>if g=f then (g,v)::r else (g,x)::zdr f v r
section
variable{K:Ar}{E:XK}{F:Fm}{j:mZ qm}{x:Xv}{v:V}{nm f m:Str}{C:qm}
def KX.look(h:KX K j H fs vs):(∀y,fs.lookup f=dE y->∃w,vs.lookup f=dE w/\Xis K j H y w)/\(fs.lookup f=fC->vs.lookup f=fC):=by
 induction h with
 |nil=>exact⟨(λ_ e=>by cases e),λ_=>rfl⟩
 | @cons g y1 w1 r rs h l ih=>
  obtain⟨i1,i2⟩:=ih;rw[Bx,Bx];cases hb:(f==g) with
  |true=>exact⟨(λy e=>by cases e;exact⟨w1,rfl,h⟩),(λe=>by cases e)⟩
  |false=>exact⟨i1,i2⟩
def KX.putF(hx:Xis K j H x v)(h:KX K j H fs vs):KX K j H (zdr f x fs) (Xl f v vs):=by
 induction h with
 |nil=>exact .cons hx .nil
 | @cons g y1 w1 r rs h l ih=>
  unfold zdr L2.Xl;by_cases e:g=f;rw[if_pos e,if_pos e];exact .cons hx l;rw[if_neg e,if_neg e];exact .cons h ih
def En.ins(dB:AY K mainGlobals nm=dE (dE (.ref C)))(E1:En K F j H σ ρ S)(hx:Xis K j H x v)(h:zfH S x nm=dE (n,fs)):∃a dx vs,v= .ref a/\j[n]? =dE a/\H a=dE (.ins C dx vs)/\KX K j H fs vs:=by
 obtain⟨rfl,hs⟩:=zct h;obtain⟨a,rfl,hj⟩:=hx.ref_inv;obtain⟨C',dx,vs,e0,e1,e2⟩:=E1.cel _ _ _ hs hj;rw[dB] at e0;cases e0;exact⟨a,dx,vs,rfl,hj,e1,e2⟩
noncomputable def Zt(nm f:Str)(o:TwE):TwE:=λρ S=>rb (o ρ S) λx S1=>(zfH S1 x nm).bind λp=>(p.2.lookup f).map λy=> .ok y S1
def Xy(dB:AY K mainGlobals nm=dE (dE (.ref C)))(hc:Cls K C)(hn:va K C f)(h:RE K E to o):RE K E (zpg K to f) (Zt nm f o):=by
 walk_at "!a"
 .refine h En0 e1 λj1 H1 X1 E1 u hu=> ?_;rw[Bp] at e;obtain⟨⟨n,fs⟩,e2,e⟩:=e;rw[AB] at e;obtain⟨y,e3,rfl⟩:=e;obtain⟨a,dx,vs,rfl,hj,f1,f2⟩:=E1.ins dB hu e2;obtain⟨w,g1,g2⟩:=f2.look.1 y e3;exact⟨a,C,dx,vs,w,rfl,f1,hc,hn,g1,k _ _ X1 E1 _ g2⟩
 exact h En0 e1 k
def UE(nm f:Str)(o m:TwE):TwS:=λρ S=>sb (m ρ S) λy S1=>sb (o ρ S1) λx S2=>(zfH S2 x nm).bind λp=>if p.2.length<1000 then dE (.nx ρ (S2.set p.1 (.ins nm (zdr f y p.2)))) else fC
def KX.len2{fs:mZ (Str×Xv)}{vs:mZ (Str×V)}(h:KX K j H fs vs):vs.length=fs.length:=by
 induction h with
 |nil=>rfl
 |cons h _ ih=>exact congrArg (· +1) ih
set_option tactic.hygienic true in
def zgQ{o m:TwE}(dB:AY K mainGlobals nm=dE (dE (.ref C)))(hc:Cls K C)(hn:va K C f)(ho:RE K E to o)(hv:RE K E tv m):RS K E (zph K to tv f) (UE nm f o m):=by
 intro F j D' σ H ρ S fl E0 e kk;rcases xP e with⟨y,S1,e1,e⟩|⟨c,S1,e1,rfl⟩
 .refine hv E0 e1 λj1 H1 X1 E1 wy t9=> ?_;rcases xP e with⟨x,S2,e2,e⟩|⟨c,S2,e2,rfl⟩
  .refine ho E1 e2 λj2 H2 X2 E2 u hu=> ?_;rw[Bp] at e;obtain⟨⟨n,fs⟩,e3,e⟩:=e;dsimp only at e;split at e;rename_i hl;cases e;obtain⟨a,dx,vs,rfl,hj,f1,f2⟩:=E2.ins dB hu e3;obtain⟨E4,X4⟩:=E2.write (o:= .ins C dx (L2.Xl f wy vs)) (c':= .ins nm (zdr f y fs)) (zct e3).2 rfl hj rfl λX=>⟨C,dx,_,dB,zw,(KX.putF (t9.mono X2) f2).mono X⟩;exact⟨a,C,dx,vs,rfl,f1,hc,hn,by rw[f2.len2];exact hl,kk _ _ _ (X1.trans (X2.trans X4)) E4⟩;cases e
  exact ho E1 e2 (PX.mono kk X1)
 exact hv E0 e1 kk
noncomputable def zbo(nm:Str)(tw:TwF)(ms:mZ TwE):TwE:=λρ S=>rb (evL ms ρ S) λxs S1=>match tw (.ref S1.length::xs) (S1++[.ins nm []]) with
 |some (.ok .non S2)=>dE (.ok (.ref S1.length) S2)
 |_=>fC
set_option tactic.hygienic true in
def zeD(dB:AY K mainGlobals nm=dE (dE (.ref C)))(h:RL K E t (evL ms))(hn:ms.length+1=n:=by rfl):RE K E (ziu C (sTw K n tw) [] E t) (zbo nm tw ms):=by
 walk_at "!c"
 .refine h En0 e1 λj1 H1 X1 E1 vs hv=> ?_;intro x dx hx ph cu;rw[CP];split at e
  .rename_i S2 e2;cases e;have jt:upd H1 dx (.own x) x=fC:=by rw[zi (λz=>cu z.symm)];exact hx
   obtain⟨E2,X2⟩:=E1.new (p:=dx) (o:= .own x) ph;obtain⟨E3,X3⟩:=E2.cell (p:=x) (o:= .ins C dx []) (c:= .ins nm []) jt ⟨C,dx,[],dB,zw,.nil⟩;have X23:=X2.trans X3;have hr:Xis K (j1++[x]) (upd (upd H1 dx (.own x)) x (.ins C dx [])) (.ref S1.length) (.ref x):= .ref (by rw[<-E1.jl];simp);refine Vg E3 (.cons hr (hv.mono X23)) (by rw[B7,hv.len,Xq e1,hn]) e2 λj' H' X E4 v hw=> ?_;exact⟨hw.non_inv,k _ _ (X1.trans (X23.trans X)) E4 _ (hr.mono X)⟩
  cases e
 exact h En0 e1 k
end
section
def vH(h:W (o ρ S) λx S1=>∃n fs y,x= .ref n/\S1[n]? =dE (.ins nm fs)/\fs.lookup f=dE y/\P y S1):W (Zt nm f o ρ S) P:=
 W.bind (h.imp λ_ _ h=>by obtain⟨n,fs,y,rfl,e1,e2,q⟩:=h;rw[zgP e1,AO,e2];exact .of rfl q)
def Xz(h:W (m ρ S) λy S1=>W (o ρ S1) λx S2=>∃n fs,x= .ref n/\S2[n]? =dE (.ins nm fs)/\fs.length<1000/\N ρ (S2.set n (.ins nm (zdr f y fs)))):WS (UE nm f o m ρ S) N R:=
 WS.bind (h.imp λ_ _ h=>WS.bind (h.imp λ_ _ h=>by obtain⟨n,fs,rfl,e1,e2,q⟩:=h;rw[zgP e1,AO,if_pos e2];exact .nx rfl q))
def zgR(h:W (evL ms ρ S) λxs S1=>W (tw (.ref S1.length::xs) (S1++[.ins nm []])) λv S2=>v= .non/\P (.ref S1.length) S2):W (zbo nm tw ms ρ S) P:=
 W.bind (h.imp λxs S1 h=>by
  obtain⟨v,S2,e,rfl,q⟩:=h;rw[e]
  exact .of rfl q)
end
def UF{K:Ar}(h:X.K=K:=by rfl):IxR X (rIx K):=h ▸ znP
section
variable{K:Ar}{E:XK}{j:mZ qm}
end
section
variable{K:Ar}{E:XK}{F:Fm}{j:mZ qm}{x:Xv}{v:V}{c:Str}{C:qm}
end
end L2
namespace L2
section
variable{S':Sto}{x y:Xv}{a b m o:TwE}{c:TwT}{s t:TwS}{i k:Nat}{PL:mZ Xv->Sto->Prop}{X:Str->Sto->Prop}
end
open PySem.Calls
section
variable{K:Ar}{E:XK}
theorem zeE(h:zL K j H xs vs):∀n:Nat,zL K j H (AK n xs).flatten (AK n vs).flatten
 |0=> .nil
 |n+1=>by
  rw[BW,BW,CY,CY];exact h.append (zeE h n)
end
structure zqw(tw:TwF)(S:Sto)(l:mZ Xv)(is:mZ (mZ Int)):Prop where
 len:is.length=l.length
 key:∀(i:Nat) x,l[i]? =dE x->∃k,tw [x] S=dE (.ok k S)/\k.tupOf=dE ((is.getD i []).map Xv.int)
 fall:zpO is
section
variable{K:Ar}{E:XK}{j:mZ qm}
end
section
variable{K:Ar}{E:XK}
noncomputable def zcu(x:Xv):pU (mZ Int):=x.tupOf.bind Ww
def zjS(h:Xis K j H x v)(e:zcu x=dE ns):∃a,v= .ref a/\SqT K H a (ns.map V.int):=by
 unfold zcu at e;cases et:x.tupOf with
 |none=>rw[et] at e;cases e
 |some l=>
  rw[et,AO] at e;obtain⟨a,vs,rfl,h1,h2⟩:=h.tupO et;rw[zbe e h2] at h1;exact⟨a,rfl,h1⟩
end
section
variable{K:Ar}{E:XK}
end
section
variable{x y:Xv}
end
section
variable{K:Ar}{E:XK}
end
section
variable{m:TwE}
end
section
variable{K:Ar}{E:XK}
end
section
variable{x:Xv}
end
section
def znk(K:Ar)(tl:TE):TI:=λσ H R=>tl σ H λx H1=>∃a,x= .ref a/\(((∃xs,SqL K H1 a xs)/\R (Itl K a) H1)\/((∃xs,SqT K H1 a xs)/\R (Itt K a) H1))
def zgS{K:Ar}(hl:PE X l tl)(hK:X.K=K:=by rfl):PI X tg l (znk K tl):=by
 subst hK;intro pins s σ H R I h;refine thn (hl pins s σ H _ I h) ?_;rintro v s1 ⟨x,H1,I1,r1,a,rfl,⟨⟨xs,hq⟩,q⟩|⟨⟨xs,hq⟩,q⟩⟩
 .cases r1;obtain⟨ae,rv,p,hz⟩:=I1.list hq;refine wpAny_pyIter_list p.isList ?_;refine⟨s1.heap.objs.size,[s1.heap.objs.size],_,_,H1,rfl,I1.kept (t':=s1.toks) λb o e=>Heap.get?_push_of_some _ e,zb7 a _,⟨_,Heap.get?_push_size _ rfl,rfl,rfl⟩,λb hb=> ?_,q⟩;have e:b=s1.heap.objs.size:=by simpa using hb
  subst e;exact I1.fpOk (AF _) (I1.hok.fresh (AF _))
 cases r1;obtain⟨ae,rv,p,hz⟩:=I1.tuple hq;refine wpAny_pyIter_tuple (show s1.heap.IsTuple a ae.toArray from p) ?_;refine⟨s1.heap.objs.size,[s1.heap.objs.size],_,_,H1,rfl,I1.kept (t':=s1.toks) λb o e=>Heap.get?_push_of_some _ e,zfa a _,⟨_,Heap.get?_push_size _ rfl,rfl,rfl⟩,λb hb=> ?_,q⟩;have e:b=s1.heap.objs.size:=by simpa using hb
 subst e;exact I1.fpOk (AF _) (I1.hok.fresh (AF _))
end
noncomputable def iA(m:TwE):TwI:=λρ S=>rb (m ρ S) λx S1=>match x with
 | .ref n=>(zF S1 (.ref n)).map λ_=> .ok (λS=>zF S (.ref n)) S1
 |y=>y.tupOf.map λl=> .ok (λ_=>dE l) S1
section
variable{K:Ar}{E:XK}
set_option tactic.hygienic true in
def zl2(h:RE K E t m):RI K E (znk K t) (iA m):=by
 walk_at "!d"
 .have n4:∀y:Xv,x=y->y.tupOf.map (λl=>Rs.ok (λ_=>dE l) S1)=dE r->t σ H (λx H1=>∃a,x= .ref a/\(((∃xs,SqL K H1 a xs)/\R (Itl K a) H1)\/((∃xs,SqT K H1 a xs)/\R (Itt K a) H1))):=by
   rintro y rfl e;cases el:x.tupOf with
   |none=>rw[el] at e;cases e
   |some l=>
    rw[el] at e;cases e;refine h En0 e1 λj1 H1 X1 E1 u hu=> ?_;obtain⟨a,vs,rfl,h1,_⟩:=hu.tupO el;refine⟨a,rfl,.inr ⟨⟨vs,h1⟩,k _ _ X1 E1 _ ?_⟩⟩;intro F2 j2 H2 σ2 ρ2 S2 xs i X2 E2 e2;cases e2;obtain⟨a',ws,ea,g1,g2⟩:=(hu.mono X2).tupO el;cases ea;refine⟨λy ey=> ?_,λhle=>⟨ws,g1,by rw[g2.len];omega⟩⟩;obtain⟨w,f1,f2⟩:=g2.get ey;refine⟨⟨ws,w,g1,f1⟩,?_⟩;rintro v' H' ⟨rfl,hx⟩;have:=hx ws g1;rw[f1] at this;cases this;exact⟨Zz.refl _,f2⟩
  split at e
  .rename_i n;cases el:zF S1 (.ref n) with
   |none=>rw[el] at e;cases e
   |some l=>
    rw[el] at e;cases e;refine h En0 e1 λj1 H1 X1 E1 u hu=> ?_;obtain⟨a,vs,rfl,h1,_⟩:=E1.lstAt hu el;refine⟨a,rfl,.inl ⟨⟨vs,h1.sql⟩,k _ _ X1 E1 _ ?_⟩⟩;intro F2 j2 H2 σ2 ρ2 S2 xs i X2 E2 e2;obtain⟨a',ws,ea,g1,g2⟩:=E2.lstAt (hu.mono X2) e2;cases ea;refine⟨λy ey=> ?_,λhle=>⟨ws,g1.sql,by rw[g2.len];omega⟩⟩;obtain⟨w,f1,f2⟩:=g2.get ey;refine⟨⟨ws,w,g1.sql,f1⟩,?_⟩;rintro v' H' ⟨rfl,hx⟩;have:=hx ws g1.sql;rw[f1] at this;cases this;exact⟨Zz.refl _,f2⟩
  exact n4 _ rfl e
 exact h En0 e1 k
end
section
def zoq{Q':(Sto->pU (mZ Xv))->Sto->Prop}(h:W (m ρ S) λx S1=>∃n l,x= .ref n/\zF S1 (.ref n)=dE l/\Q' (λS=>zF S (.ref n)) S1):W (iA m ρ S) Q':=W.bind (h.imp λx S1 h=>by
 obtain⟨n,l,rfl,e,k⟩:=h;dsimp only;rw[e]
 exact .of rfl k)
def zor{Q':(Sto->pU (mZ Xv))->Sto->Prop}(h:W (m ρ S) λx S1=>∃l,x= .tup l/\Q' (λ_=>dE l) S1):W (iA m ρ S) Q':=W.bind (h.imp λx S1 h=>by
 obtain⟨l,rfl,k⟩:=h
 exact .of rfl k)
end
end L2
namespace L2
open PyProof
open Builtin Builtin.Str
end L2
namespace L2
open PyProof
inductive PJ(X:Cx):List Expr->List TE->Prop where
 |nil:PJ X [] []
 |cons {e:Expr} {es:List Expr} {t:TE} {ts:List TE}:PE X e t->PJ X es ts->PJ X (e::es) (t::ts)
end L2
namespace L2
section
variable{K:Ar}{E:XK}{F:Fm}{j:mZ qm}
inductive RJ(K:Ar)(E:XK):List TE->List TwE->Prop where
 |nil:RJ K E [] []
 |cons {t:TE} {ts:List TE} {m:TwE} {ms:List TwE}:RE K E t m->RJ K E ts ms->RJ K E (t::ts) (m::ms)
end
section
variable{K:Ar}{E:XK}{j:mZ qm}
end
section
variable{o m:TwE}{x y:Xv}
end
inductive Sh(n:Nat):List D->Nat->Nat->Prop where
 |nil:Sh n [] 0 0
 |int {i:Int} {r:List D} {w e:Nat}:i.natAbs<2^n->Sh n r w e->Sh n (.int i::r) (n+1+w) e
 |str {z:Str} {r:List D} {w e:Nat}:z.length<=n->(z.cps.toList.all λc=>decide (c<16^8))=fJ->Sh n r w e->Sh n (.str z::r) (n+1+w) e
 |tup {l r:List D} {w e w' e':Nat}:Sh n l w e->Sh n r w' e'->Sh n (.tup l::r) (w+1+w') (max (e+1) e')
 |lst {l r:List D} {w e w' e':Nat}:Sh n l w e->Sh n r w' e'->Sh n (.lst l::r) (w+1+w') (max (e+1) e')
structure zqx(d:D):Prop where
 seq:∃l,d= .tup l\/d= .lst l
 sh:∃n w e,Sh n [d] w e/\8<=n/\n<=1900/\e<=100/\(n+3)*w+n+1<=16777216
section
variable{K:Ar}
end
open PyProof
section
variable{K:Ar}{E:XK}
end
end L2
namespace L2
theorem zcv:∀{ns:mZ (Str×NameKind)} {cs:mZ (Str×qm)} {p:Str×qm},p∈zao env ns cs->p∈cs\/(p.1,NameKind.free)∈ns
 |[],_,_,h=> .inl h
 |(n,k)::r,cs,p,h=>by
  unfold zao at h;rcases zcv h with h|h
  .by_cases hk:(k== .free)=fJ
   .rw[if_pos hk] at h;have ud:k= .free:=by simpa using hk
    cases e:env.cells.lookup n with
    |none=>rw[e] at h;exact .inl h
    |some c=>
     rw[e] at h;rcases AW.mp h with rfl|h;exact .inr (by rw[ud];exact Bu);exact .inl h
   rw[if_neg hk] at h;exact .inl h
  exact .inr (B8 _ h)
set_option tactic.hygienic true in
def zfI(l:mZ pW)(h:TriplesOk l):codeAmong pos (l++[rawInt a,rawInt b,c])=dE cv->codeAmong pos l=dE cv\/cv=c:=by
 fun_induction TriplesOk l with
 |case1=>
  intro e;simp only[Hv,codeAmong,rawInt] at e;split at e;cases e;exact .inr rfl;cases e
 |case2 a t b u x rest ih=>
  intro e;simp only[Ek,codeAmong] at e ⊢;split at e;rename_i hc;rw[if_pos hc];exact .inl e;rename_i hc;rw[if_neg hc];exact ih h e
 |case3 l h1 h2=>exact h.elim
section
def Inv.freeze(I:Inv X pins σ H s)(hx:X.env.cells.lookup x=dE c)(hz:X.zn x=fJ)(hf:X.fn x=kb):∃H' o,Inv X pins σ H' s/\Zz H H'/\H' c=dE (.frz o (.own 0))/\s.heap.get? c=dE o:=by
 obtain⟨v,o,ho,hd⟩:=I.cell x c hx;rcases I.freeC x c hx with hn|⟨_,o',h'⟩
 .have gf:=I.ok.cab x c (.inr hz) hx;have ne:∀b u,H b=dE u->b≠c:=λb u e z=>by rw[z,hn] at e;cases e
  refine⟨upd H c (.frz o (.own 0)),o,⟨I.ok,I.os,I.bare,⟨I.base.keep,I.base.slot,λb ob e n jt=> ?_,I.base.there,λb xs e=> ?_,λb ob u e=> ?_,λb ps e=> ?_⟩,I.loc,I.cell,?_,λy d e=> ?_,λp hp=> ?_,λb u e=> ?_,I.len⟩,yN hn,zw,ho⟩;rw[zi (B3 (AJ (Heap.lt_size e) gf))];exact I.base.free b ob e n jt;have:=I.base.tups b xs e;rw[zi (ne b _ this)];exact this;have:=I.base.frzs b ob u e;rw[zi (ne b _ this)];exact this;obtain⟨m,q⟩:=I.base.tbls b ps e;exact⟨m,by rw[zi (ne b _ q)];exact q⟩;rw[zi (BH (I.cne x c hx))];exact I.free;by_cases rN:d=c;subst rN;obtain rfl:=I.ok.inj y x d e hx;exact .inr ⟨hf,o,zw⟩;rw[zi rN];exact I.freeC y d e;obtain⟨e,n,r1,r2,r3⟩:=I.pin p hp;refine⟨e,?_,r1,r2,r3⟩;rw[zi];exact n;intro q;rw[q,ho] at e;cases e;exact r3 v hd;by_cases hb:b=c;subst hb;rw[zw] at e;cases e;exact⟨ho,o,ho⟩
  rw[zi hb] at e;exact(I.hok b u e).stay (λ_ _ _ q=>q) (λd q=>by rw[zi (ne d _ q)];exact q) λd xs q=>by rw[zi (ne d _ q)];exact q
 exact⟨H,o',I,λ_ _ e=>e,h',(I.hok c _ h').1⟩
theorem Inv.freezeL(I:Inv X pins σ H s):∀(l:mZ (Str×qm)),(∀p∈l,X.env.cells.lookup p.1=dE p.2/\X.zn p.1=fJ/\X.fn p.1=kb)->∃H',Inv X pins σ H' s/\Zz H H'/\∀p∈l,∃o,H' p.2=dE (.frz o (.own 0))/\s.heap.get? p.2=dE o
 |[],_=>⟨H,I,λ_ _ e=>e,λp hp=>nomatch hp⟩
 |p::r,h=>by
  obtain⟨H1,I1,S1,f1⟩:=I.freezeL r λq hq=>h q (B8 _ hq);obtain⟨a1,a2,a3⟩:=h p Bu;obtain⟨H2,o,I2,S2,e1,e2⟩:=I1.freeze a1 a2 a3;refine⟨H2,I2,λb u e=>S2 b u (S1 b u e),λq hq=> ?_⟩;rcases AW.mp hq with rfl|hq;exact⟨o,e1,e2⟩;obtain⟨o',e3,e4⟩:=f1 q hq;exact⟨o',S2 _ _ e3,e4⟩
def Inv.lamMade{P c f:qm}(I:Inv X pins σ H s)(hP:H P=dE (.tbl ps))(hx:∀b o,b≠P->s.heap.get? b=dE o->h'.get? b=dE o)
  (rT:h'.get? P=dE (Dw (ps++more))) (hc:s.heap.objs.size<=c) (j9:h'.get? c=dE oc) (hf:s.heap.objs.size<=f) (jO:h'.get? f=dE fo) (A9:c≠f):
  Inv X pins σ (upd (upd (upd H P (.tbl (ps++more))) c (.frz oc (.own 0))) f (.frz fo (.own 0))) {s with heap:=h',toks:=t'}:=by
 have mn:P<s.heap.objs.size:=(I.hok P _ hP).lt;have gt:∀a b:Nat,a<s.heap.objs.size->s.heap.objs.size<=b->b≠a:=λa b h1 h2=>by omega
 have cP:c≠P:=gt P c mn hc;have fP:f≠P:=gt P f mn hf;have old:∀b,b<s.heap.objs.size->b≠P->upd (upd (upd H P (.tbl (ps++more))) c (.frz oc (.own 0))) f (.frz fo (.own 0)) b=H b:=λb hb hp=>by
  rw[zi (BH (gt b f hb hf)),zi (BH (gt b c hb hc)),zi hp]
 have kJ:∀b u,H b=dE u->b<s.heap.objs.size:=λb u e=>(I.hok b u e).lt;have y7:upd (upd (upd H P (.tbl (ps++more))) c (.frz oc (.own 0))) f (.frz fo (.own 0)) P=dE (.tbl (ps++more)):=by
  rw[zi (BH fP),zi (BH cP),zw]
 have nP:∀b,H b=fC->b≠P:=λb n z=>by rw[z,hP] at n;cases n
 refine I.step (g':=s.gens) (d':=s.drawn) (ch:=[]) (λ_ z=>nomatch z) (λb o _ _ _ e n=>hx b o (nP b n) e) (λb o _ _ _ e n=>⟨o.slots,hx b o (nP b n) e⟩) (λb o _ e n=>by rw[old b (Heap.lt_size e) (nP b n)];exact n)
  (λb o _ e=> ?_) (λb xs e=> ?_) (λb o u e=> ?_) (λb qs e=> ?_) (λm hm=> ?_) (λb u e=> ?_) I.bare
 .by_cases hb:b=P;subst hb;exact⟨_,rT⟩;exact⟨o,hx b o hb e⟩
 .rw[old b (kJ b _ e) (λz=>by rw[z,hP] at e;cases e)];exact e
 .rw[old b (kJ b _ e) (λz=>by rw[z,hP] at e;cases e)];exact e
 .by_cases hb:b=P;subst hb;rw[hP] at e;cases e;exact⟨more,y7⟩;exact⟨#[],by rw[old b (kJ b _ e) hb,e];simp⟩
 .obtain⟨o,es,ep,ho,r⟩:=hm;exact⟨o,es,ep,hx _ o (nP _ I.free) ho,r⟩
 by_cases h1:b=f;subst h1;rw[zw] at e;cases e;exact⟨jO,fo,jO⟩;rw[zi h1] at e;by_cases h2:b=c;subst h2;rw[zw] at e;cases e;exact⟨j9,oc,j9⟩;rw[zi h2] at e;by_cases h3:b=P;subst h3;rw[zw] at e;cases e;exact rT;rw[zi h3] at e;refine(I.hok b u e).stay (λd o q r=>hx d o ?_ r) (λd q=> ?_) λd xs q=> ?_;rcases q with q|q;rw[q];exact h3;intro z;rw[z,hP] at q;cases q;rw[old d (kJ d _ q) (λz=>by rw[z,hP] at q;cases q)];exact q;rw[old d (kJ d _ q) (λz=>by rw[z,hP] at q;cases q)];exact q
end
structure zos(X:Cx)(sc:Scope)(fr:mZ Str)(is:mZ Nat):Prop where
 blk:zc4 X sc
 fre:∀(i:Nat) x,fr[i]? =dE x->sc.names.lookup x=dE .free/\∃k,is[i]? =dE k/\X.N[k]? =dE x
 all:∀y∈sc.names,y.2= .free->X.zn y.1=fJ/\X.fn y.1=kb
def zot(L:xK)(P:qm)(is:mZ Nat):TE:=λσ H Q=>∃(ps:Array pW) (vs:mZ V),H P=dE (.tbl ps)/\TriplesOk ps.toList/\(∀pos cv,codeAmong pos ps.toList=dE cv->∃c,cv= .ref c/\YR H L.q c)/\
 is.map (λi=>(σ[i]?).join)=vs.map dE/\
 ∀f ps' H',Zz (upd H P (.tbl ps')) H'->TriplesOk ps'.toList->(∀pos cv,codeAmong pos ps'.toList=dE cv->∃c,cv= .ref c/\YR H' L.q c)->Vu H' L f vs->Q (.ref f) H'
def zou{id:Nat}{c P:qm}(S:zos X sc fr is)(hq:X.env.qual=tn.d++".<locals>.")(fG:X.env.code= .ref c)(hC:DB X.K c P=fJ)
  (jP:defaultsOf par X.env=([],[]):=by rfl):PE X (.Lambda par body sc pos) (zot ⟨id,par,body,sc,tn,fr⟩ P is):=by
 have hq:X.env.qual++"<lambda>"=tn.q:=by rw[hq];rfl
 generalize ka:tn.q=q at hq;intro pins s σ H Q I hh;obtain⟨ps,vs,hP,ht,j8,nZ,k⟩:=hh;simp only[xK.q,ka] at j8 k;have mX:s.heap.get? P=dE (Dw ps):=I.hok P _ hP;have hg:s.heap.Ns mainGlobals X.mg:=I.mod.glob.keeps I.bk;have uq:mainGlobals≠P:=λz=>by
  obtain⟨o,es,ep,e,hd,_⟩:=hg;rw[z,mX] at e;cases e;cases hd
 have C:PySem.W.CodeHd s.heap c P:=Gv I.kIn hC;have hb:s.heap.BuiltinsAt X.mg P:=by
  obtain⟨bm,ob,b1,b2,b3,b4,b5,b6⟩:=I.mod.bmn;have b3:=I.bk _ _ b3;refine⟨bm,ob,b1,b2,λz=> ?_,λz=> ?_,b3,b4,b5,b6⟩;obtain⟨o,es,ep,e,hd,_⟩:=hg;rw[z,e] at b3;cases b3;rw[hd] at b6;cases b6;rw[z,mX] at b3;cases b3;cases b4
 have fin:∀(f c':qm) (pm dc:pW) (ps':Array pW) (H1:Hp) (s1:pX),Inv X pins σ H1 s1->Zz (upd H P (.tbl ps')) H1->TriplesOk ps'.toList->(∀pos cv,codeAmong pos ps'.toList=dE cv->∃c,cv= .ref c/\YR H1 q c)->
   H1 f=dE (.frz (CQ "<lambda>" q par body sc (Xn sc X.env) pm c' dc) (.own 0))->YR H1 q c'->EP X pins σ Q (.ref f) s1:=by
  intro f c' pm dc ps' H1 s1 I1 S1 t1 c1 hf eM;have cl:∀p∈Xn sc X.env,X.env.cells.lookup p.1=dE p.2/\X.zn p.1=fJ/\X.fn p.1=kb:=λp hp=>by
   refine⟨zaW (cs:=[]) (λp hp=>nomatch hp) p hp,?_⟩;rcases zcv hp with z|z;cases z;exact S.all _ z rfl
  obtain⟨H2,I2,S2,f2⟩:=I1.freezeL (Xn sc X.env) cl;refine⟨.ref f,H2,I2,rfl,k f ps' H2 (λb u e=>S2 b u (S1 b u e)) t1 (λp cv e=> ?_) ⟨Xn sc X.env,pm,dc,c',by rw[show xK.q ⟨id,par,body,sc,tn,fr⟩=q from ka];exact S2 _ _ hf,by rw[show xK.q ⟨id,par,body,sc,tn,fr⟩=q from ka];exact eM.mono (wb.same S2),λi x v e1 e2=> ?_,λx y a e1 e2=> ?_,λy hy e=> ?_,λx a e=> ?_⟩⟩;obtain⟨d,e1,e2⟩:=c1 p cv e;exact⟨d,e1,e2.mono (wb.same S2)⟩
  .obtain⟨h1,n,h2,h3⟩:=S.fre i x e1;have hm:(x,NameKind.free)∈sc.names:=Bh h1;have hs:σ[n]? =dE (dE v):=by
    have e:=congrArg (λl=>l[i]?) nZ;simp only[Ax,h2,e2,Cr,Bm] at e;cases q:σ[n]? with
    |none=>rw[q] at e;cases e
    |some z=>rw[q] at e;exact congrArg dE e
   obtain⟨m,hn,hl⟩:=I2.loc;have hk:=S.blk.free _ hm rfl;obtain⟨u,r,l⟩:=hl n x v h3 hs (by rcases hk with k|k;exact .inr (.inl k);exact .inr (.inr k));rcases l with⟨k',_⟩|⟨_,a,ha,o,ho,hd⟩
   .rcases hk with k''|k'';rw[k'] at k'';cases k'';rw[k'] at k'';cases k''
   have dG:(Xn sc X.env).lookup x=dE a:=zaX hm ha;obtain⟨o',e3,e4⟩:=f2 (x,a) (Bh dG);rw[ho] at e4;cases e4;exact⟨a,o,u,dG,e3,hd,r⟩
  .exact I1.ok.inj x y a (YQ e1) (YQ e2)
  .obtain⟨a,ha⟩:=I1.ok.has y.1 (S.blk.free y hy e);exact⟨a,zaX (by rw[<-e];exact hy) ha⟩
  obtain⟨o,e3,e4⟩:=f2 (x,a) (Bh e);obtain⟨u,o',e5,hd⟩:=I2.cell x a (YQ e);rw[e4] at e5;cases e5;exact⟨o,u,e3,hd⟩
 refine PySem.W.kla_eval jP ?_;rw[hq];cases pA:codeAmong pos ps.toList with
 |none=>
  refine PySem.W.kla_makeFunction (I.closure S.blk) I.ok.glob hg fG C mX ht pA uq hb λc' dc h' tk hx fk cQ oi o8=> ?_;obtain⟨c₂,oc,fs,t,e2,mH,hd,hv⟩:=oi;cases e2;have I1:=I.lamMade (t':=tk) (h':=h'.push (CQ "<lambda>" q par body sc (Xn sc X.env) ((X.mg "__name__").getD .none) c' dc)) (fo:=CQ "<lambda>" q par body sc (Xn sc X.env) ((X.mg "__name__").getD .none) c' dc) (more:= #[rawInt pos.line,rawInt pos.col,.ref c']) hP (λb o eN e=>Heap.get?_push_of_some _ (hx b o eN e)) (Heap.get?_push_of_some _ o8) fk (Heap.get?_push_of_some _ mH) (AA fk (AX cQ)) (Heap.get?_push_size _ rfl) (B3 cQ);have mn:P<s.heap.objs.size:=(I.hok P _ hP).lt;have S1:Zz (upd H P (.tbl (ps++ #[rawInt pos.line,rawInt pos.col,.ref c']))) (upd (upd (upd H P (.tbl (ps++ #[rawInt pos.line,rawInt pos.col,.ref c']))) c' (.frz oc (.own 0))) h'.objs.size (.frz (CQ "<lambda>" q par body sc (Xn sc X.env) ((X.mg "__name__").getD .none) c' dc) (.own 0))):=λb u e=>by
   have eN:b<s.heap.objs.size:=by
    by_cases eN:b=P;rw[eN];exact mn;rw[zi eN] at e;exact(I.hok b u e).lt
   rw[zi (B3 (AJ eN (AA fk (AX cQ)))),zi (B3 (AJ eN fk))];exact e
  have kh:YR (upd (upd (upd H P (.tbl (ps++ #[rawInt pos.line,rawInt pos.col,.ref c']))) c' (.frz oc (.own 0))) h'.objs.size (.frz (CQ "<lambda>" q par body sc (Xn sc X.env) ((X.mg "__name__").getD .none) c' dc) (.own 0))) q c':=⟨oc,fs,t,by rw[zi (B3 cQ),zw],hd,hv⟩;refine fin _ c' _ dc _ _ _ I1 S1 (by rw[Gw];exact TriplesOk_snoc _ _ _ _ ht) (λp cv e=> ?_) zw kh;rw[Gw] at e;rcases zfI ps.toList ht e with e|rfl;obtain⟨d,e1,oc',fs',t',e2,r⟩:=j8 p cv e;refine⟨d,e1,oc',fs',t',S1 _ _ ?_,r⟩;rw[zi (λz=>by rw[z,hP] at e2;cases e2)];exact e2;exact⟨c',rfl,kh⟩
 |some cv=>
  obtain⟨c',rfl,kh⟩:=j8 pos cv pA;refine PySem.W.kla_makeFunctionHit (I.closure S.blk) I.ok.glob hg fG C mX ht pA hb λdc h' tk hk hsz=> ?_;have rF:H h'.objs.size=fC:=I.hok.fresh hsz;have I1:=I.laid (t':=tk) (a:=h'.objs.size) (o:= .frz (CQ "<lambda>" q par body sc (Xn sc X.env) ((X.mg "__name__").getD .none) c' dc) (.own 0)) (λb o e=>Heap.get?_push_of_some _ (hk b o e)) hsz ⟨Heap.get?_push_size _ rfl,_,Heap.get?_push_size _ rfl⟩;have S1:Zz H (upd H h'.objs.size (.frz (CQ "<lambda>" q par body sc (Xn sc X.env) ((X.mg "__name__").getD .none) c' dc) (.own 0))):=yN rF;refine fin _ c' _ dc ps _ _ I1 (λb u e=>S1 b u ?_) ht (λp cv e=> ?_) zw (kh.mono (wb.same S1));by_cases eN:b=P;subst eN;rw[zw] at e;cases e;exact hP;rw[zi eN] at e;exact e;obtain⟨d,e1,e2⟩:=j8 p cv e;exact⟨d,e1,e2.mono (wb.same S1)⟩
noncomputable def zcw(P:Program)(w:World)(K:Ar)(mg:Str->pU pW)(base:Heap)(N:mZ Str)(L:xK)(aO:mZ (Str×qm))(f c:qm)(A:Around)(outer:mZ Env)(s:pX)(H:Hp):Cx where
 prog:=P
 w:=w
 K:=K
 mg:=mg
 base:=base
 A:=A.deeper (Fk L.q L.sc s.heap.objs.size f (.ref c) aO)
 N:=N
 s₀:=s
 H₀:=H
 env:=Fk L.q L.sc s.heap.objs.size f (.ref c) aO
 outer:=outer
 stack:=Fk L.q L.sc s.heap.objs.size f (.ref c) aO::outer
 ex:=[]
 calm:=fJ
 fn:=λ_=>kb
 zn:=λ_=>kb
 pn:=[]
 xe:=λ_ _=>False
structure zeF(ps fr:mZ Str)(sc:Scope):Prop where
 kind:sc.kind= .function
 co:sc.isCoroutine=kb
 gen:sc.isGenerator=kb
 nd:ps.Nodup
 par:∀x∈ps,sc.names.lookup x=dE .local
 fre:∀x∈fr,sc.names.lookup x=dE .free
 noc:∀y∈sc.names,y.2≠ .cell
theorem UG:∀{l:mZ (Str×pW)},(l.map (·.1)).Nodup->(x,u)∈l->l.lookup x=dE u
 |[],_,h=>by cases h
 |(y,v)::r,nd,h=>by
  rw[AZ,BU] at nd;rw[Bx];rcases AW.mp h with h'|h';cases h';simp
  have:x≠y:=by
   intro z;subst z;exact nd.1 (Be.mpr ⟨_,h',rfl⟩)
  rw[show(x==y)=kb by simpa using this];exact UG nd.2 h'
def zjT{ps:mZ Str}{us:mZ pW}{i:Nat}{x:Str}{u:pW}(nd:ps.Nodup)(hl:us.length=ps.length)(h1:ps[i]? =dE x)(h2:us[i]? =dE u):(ps.zip us).reverse.lookup x=dE u:=by
 refine UG ?_ (List.mem_reverse.mpr (Ay (i:=i) ?_));rw[List.map_reverse,(List.reverse_perm _).nodup_iff,List.map_fst_zip ⋯];exact nd;rw[Ct];exact⟨h1,h2⟩
def CL(outer:mZ Env)(P:Program)(w:World)(H:Hp)(s:pX)(Q:VK)(r:Result)(s':pX):Prop:=match r with
 | .ok (.ret u)=>CE outer P w H s Q u s'
 |_=>False
def zl3{P:Program}{K:Ar}{mg:Str->pU pW}(S:zeF ps L.fr L.sc)
  (hb:∀(aO:mZ (Str×qm)) (pm dc:pW) (c:qm) (us:mZ pW),us.length=ps.length->bindArgs (HE "<lambda>" L.q L.par L.body L.sc aO pm (.ref c) dc) ⟨us,[]⟩=pure (ps.zip us)) {us:mZ pW} {Q:VK} (hr:xO (k+1) A) (e0:Td P w K mg base A outer s H) (hL:Vu H L f vs) (gA:vs.length=L.fr.length) (r:zR as us) (hl:as.length=ps.length)
  (dC:∀(aO:mZ (Str×qm)) (c:qm),xO k (zcw P w K mg base (ps++L.fr) L aO f c A outer s H).A->∃t,PE (zcw P w K mg base (ps++L.fr) L aO f c A outer s H) L.body t/\t ((as++vs).map dE) H Q):
  codeAny (model P w) A (.call (.ref f) ⟨us,[]⟩) (CL outer P w H s Q) s:=by
 obtain⟨aO,pm,dc,c,h1,⟨oc,fs,t,iq,dW,uJ⟩,h3,h4,h5,h6⟩:=hL.ex;have jO:=(e0.hok f _ h1).1;have j9:=(e0.hok c _ iq).1;have lim:s.heap.NoLimit:=e0.mod.nolimit.keeps λb o e=>(e0.bs b o e).1;have qR:us.length=ps.length:=by rw[<-r.length];exact hl
 refine PySem.W.kla_callFunE hr.depth jO rfl S.co S.gen rfl ⟨c,oc,fs,t,rfl,j9,dW,uJ⟩ ?_;rw[hb aO pm dc c us qR];refine wpAny_pure (wpAny_newFunctionEnv S.noc (λy hy=>S.par _ (Dm hy).1) (λh₁ dB gE=>⟨lim.fresh _ gE,?_⟩) S.kind);show codeAny _ _ (.expr L.body (Fk L.q L.sc s.heap.objs.size f (.ref c) aO)) _ _;have hk:∀b o,s.heap.get? b=dE o->h₁.get? b=dE o:=λb o e=>gE.extBut b o (B3 (Heap.lt_size e)) (Heap.get?_push_of_some _ e);have gZ:∀b:qm,b∉(zcw P w K mg base (ps++L.fr) L aO f c A outer s H).ex:=λb z=>absurd (show b∈([]:mZ qm) from z) (by simp);have I:Inv (zcw P w K mg base (ps++L.fr) L aO f c A outer s H) [] ((as++vs).map dE) H {s with heap:=h₁,toks:=s.toks+(ps.zip us).length}:=by
  refine⟨⟨e0.mod,S.kind,rfl,rfl,AF _,λy z a e1 e2=>h4 y z a e1 e2,λy hy=> ?_,λy a z _=>(z.elim (λz=>El z) λz=>El z),λ_=>hr.hd,Around.frames_deeper e0.frames,.inr ⟨rfl,rfl⟩,λb z=>absurd z (gZ b),e0.bs,e0.bsz,λb _ _=>gZ b,λb z=>absurd z (gZ b),e0.funs,e0.frf⟩,
   rfl,e0.bare,Un.kept hk,⟨_,dB,λi y v e1 e2 e3=> ?_⟩,λy a e=> ?_,e0.hok.fresh (AF _),λy a e=> ?_,λp hp=>absurd (show p∈([]:mZ (qm×Obj)) from hp) (by simp),e0.hok.kept hk,?_⟩
  .have hy:L.sc.names.lookup y=dE .cell\/L.sc.names.lookup y=dE .free:=hy;rcases hy with hy|hy;exact absurd rfl (S.noc _ (Bh hy));exact h5 _ (Bh hy) rfl
  .have e1:(ps++L.fr)[i]? =dE y:=e1;rw[Ax,AB] at e2;obtain⟨v',e2,x5⟩:=e2;cases x5;by_cases hi:i<ps.length;rw[Az hi] at e1;rw[Az ⋯] at e2;obtain⟨u,hu,rv⟩:=r.get e2;exact⟨u,rv,.inl ⟨S.par y (Ay e1),zjT S.nd qR e1 hu⟩⟩;rw[AG ⋯] at e1;rw[AG ⋯,hl] at e2;obtain⟨a,o,u,g1,g2,g3,g4⟩:=h3 _ _ _ e1 e2;exact⟨u,g4,.inr ⟨.inr (S.fre y (Ay e1)),a,g1,o,hk _ _ (e0.hok a _ g2).1,g3⟩⟩
  .obtain⟨o,u,g2,g3⟩:=h6 y a e;exact⟨u,o,hk _ _ (e0.hok a _ g2).1,g3⟩
  .obtain⟨o,u,g2,g3⟩:=h6 y a e;exact .inr ⟨rfl,o,g2⟩
  show _=(ps++L.fr).length;rw[Aw,Ba,Ba,hl,gA]
 obtain⟨tt,ht,hq⟩:=dC aO c (hr.deeper _);refine PySem.W.kla_codeExpr (wpAny_mono (ht [] _ _ H Q I hq) (λu s' hs=> ?_) λe s' z=>Bw z);obtain⟨v,H',J,rv,q⟩:=hs;exact⟨v,H',J.os,J.bare,J.base,J.hok,rv,q⟩
def zjU(P:Program)(w:World)(K:Ar)(mg:Str->pU pW)(base:Heap)(k:Nat)(R:V->mZ V->Hp->VK->Prop):Prop:=
 ∀(A:Around) (outer:mZ Env) (s:pX) (H:Hp) (f:qm) (as:mZ V) (us:mZ pW) (Q:VK),xO k A->Td P w K mg base A outer s H->zR as us->R (.ref f) as H Q->codeAny (model P w) A (.call (.ref f) ⟨us,[]⟩) (CL outer P w H s Q) s
noncomputable def zfJ(ρ:Rho):mZ Nat->pU (mZ Xv)
 |[]=>dE []
 |i::r=>(ρ[i]?).join.bind λx=>(zfJ ρ r).map (x:: ·)
noncomputable def zhK(L:xK)(n:Nat)(is:mZ Nat):TwE:=λρ S=>match S[n]? with
 |some (.tab t)=> @ite _ (t=L.t) (DX _) ((zfJ ρ is).map λxs=> .ok (.lam L xs) S) fC
 |_=>fC
noncomputable def Vx:mZ (xK×(mZ Xv->TwF))->xK->pU (mZ Xv->TwF)
 |[],_=>fC
 |(M,t)::r,L=> @ite _ (M=L) (DX _) (dE t) (Vx r L)
noncomputable def zhL(n m:Nat)(e:TwE):mZ Xv->TwF:=λaK xs S=>if xs.length=n/\aK.length=m then e ((xs++aK).map dE) S else fC
section
variable{K:Ar}{E:XK}
def zgT{t:mZ Xv->TwF}{r:mZ (xK×(mZ Xv->TwF))}:Vx ((L,t)::r) L=dE t:=by unfold Vx;exact if_pos rfl
theorem zeG{t:mZ Xv->TwF}:∀{fns:mZ (xK×(mZ Xv->TwF))},Vx fns L=dE t->(L,t)∈fns
 |[],h=>by cases h
 |(M,u)::r,h=>by
  unfold Vx at h;by_cases e:M=L;rw[if_pos e] at h;cases h;rw[e];exact Bu;rw[if_neg e] at h;exact B8 _ (zeG h)
def En.writeS(E1:En K F j H σ ρ S)(hs:S[n]? =dE c)(z:c.fz=kb)(hj:j[n]? =dE a)(Sm:Zz (upd H a o) H')(hc:Uq K j H' a c'):En K F j H' σ ρ (S.set n c')/\Ext j H j H':=by
 obtain⟨o0,h0,m0⟩:=(E1.cel n c a hs hj).mu z;have S1:Zz H (upd H' a o0):=λb u e=>by
  by_cases hb:b=a;subst hb;rw[zw];rw[h0] at e;exact e;rw[zi hb];exact Sm b u (by rw[zi hb];exact e)
 have e2:upd (upd H' a o0) a o=H':=by
  funext b;by_cases hb:b=a;subst hb;rw[zw];exact(Sm b o zw).symm;rw[zi hb,zi hb]
 have E2:=E1.heap S1;obtain⟨E3,X3⟩:=E2.writeF (o:=o) (c':=c') hs z hj (λX=>by rw[e2];exact hc);rw[e2] at E3 X3;exact⟨E3,(Ext.same S1).trans X3⟩
theorem zeH(E1:En K F j H σ ρ S):∀{is:mZ Nat} {xs:mZ Xv},zfJ ρ is=dE xs->∃vs,is.map (λi=>(σ[i]?).join)=vs.map dE/\zL K j H xs vs
 |[],xs,h=>by cases h;exact⟨[],rfl,.nil⟩
 |i::r,xs,h=>by
  unfold zfJ at h;cases e:(ρ[i]?).join with
  |none=>rw[e] at h;cases h
  |some x=>
   rw[e] at h;dsimp only[Ee] at h;cases e2:zfJ ρ r with
   |none=>rw[e2] at h;cases h
   |some ys=>
    rw[e2] at h;cases h;obtain⟨vs,h1,h2⟩:=zeH E1 e2;have e':ρ[i]? =dE (dE x):=by
     cases q:ρ[i]? with
     |none=>rw[q] at e;cases e
     |some z=>rw[q] at e;exact congrArg dE e
    obtain⟨v,h3,h4⟩:=E1.slot i x e';exact⟨v::vs,by simp[h3,h1],.cons h4 h2⟩
set_option tactic.hygienic true in
def zjV{c P:qm}(hP:Vo K L.t=dE (c,P)):RE K E (zot L P is) (zhK L n is):=by
 intro F j σ H ρ S r Q En0 e k;unfold zhK at e;split at e
 .rename_i t es;by_cases ht:t=L.t
  .rw[if_pos ht] at e;subst ht;cases e2:zfJ ρ is with
   |none=>rw[e2] at e;cases e
   |some xs=>
    rw[e2] at e;cases e;have hn:n<j.length:=by rw[En0.jl];exact(Au.1 es).1
    have hj:j[n]? =dE j[n]:=As hn;obtain⟨ps,d,hH,htk,hU,j8⟩:=En0.cel n _ _ es hj;rw[hP] at htk;cases htk;obtain⟨vs,h1,h2⟩:=zeH En0 e2;refine⟨ps,vs,hH,hU,j8,h1,λf ps' H' Sm t' c' la=> ?_⟩;obtain⟨E2,X2⟩:=En0.writeS (c':= .tab L.t) es rfl hj Sm ⟨ps',c,Sm _ _ zw,hP,t',c'⟩;have gD:S.set n (.tab L.t)=S:=by
     apply GX;intro m;rw[Bc];split;rename_i q;subst q;rw[if_pos (Au.1 es).1,es];rfl
    rw[gD] at E2;exact k _ _ X2 E2 _ (.lam la (h2.mono X2))
  rw[if_neg ht] at e;cases e
 cases e
def zov(K:Ar)(fns:mZ (xK×(mZ Xv->TwF))):V->mZ V->Hp->VK->Prop:=λx as H Q=>∃(j:mZ qm) (S S':Sto) (xs aK:mZ Xv) (L:xK) (tw:mZ Xv->TwF) (z:Xv),
 En K ⟨H,j,S⟩ j H (as.map dE) (xs.map dE) S/\Xis K j H (.lam L aK) x/\Vx fns L=dE tw/\tw aK xs S=dE (.ok z S')/\∀v j' H' σ ρ,En K ⟨H,j,S⟩ j' H' σ ρ S'->Xis K j' H' z v->Q v H'
def WB(P:Program)(w:World)(K:Ar)(mg:Str->pU pW)(base:Heap)(k:Nat)(L:xK)(tw:mZ Xv->TwF):Prop:=∀(A:Around) (outer:mZ Env) (s:pX) (H:Hp) (f:qm) (vs as:mZ V) (us:mZ pW) (Q:VK) (j:mZ qm) (S S':Sto) (xs aK:mZ Xv) (z:Xv),
 xO k A->Td P w K mg base A outer s H->Vu H L f vs->zL K j H aK vs->zR as us->En K ⟨H,j,S⟩ j H (as.map dE) (xs.map dE) S->tw aK xs S=dE (.ok z S')->
 (∀v j' H' σ ρ,En K ⟨H,j,S⟩ j' H' σ ρ S'->Xis K j' H' z v->Q v H')->codeAny (model P w) A (.call (.ref f) ⟨us,[]⟩) (CL outer P w H s Q) s
def WB.mono{P:Program}{mg:Str->pU pW}{tw:mZ Xv->TwF}(h:WB P w K mg base i L tw)(hk:i<=k):WB P w K mg base k L tw:=
 λA outer s H f vs as us Q j S S' xs aK z hr=>h A outer s H f vs as us Q j S S' xs aK z (hr.mono hk)
def zgU{P:Program}{mg:Str->pU pW}{fns:mZ (xK×(mZ Xv->TwF))}(h:∀p∈fns,WB P w K mg base k p.1 p.2):zjU P w K mg base k (zov K fns):=by
 rintro A outer s H f as us Q hr e0 r ⟨j,S,S',xs,aK,L,tw,z,E1,hx,hp,ht,q⟩;cases hx with
 |lam la l=>exact h (L,tw) (zeG hp) A outer s H f _ as us Q j S S' xs aK z hr e0 la l r E1 ht q
set_option tactic.hygienic true in
def zjW{P:Program}{mg:Str->pU pW}(Sc:zeF ps L.fr L.sc)(hn:ps.length=n)(hm:L.fr.length=mm)
  (hb:∀(aO:mZ (Str×qm)) (pm dc:pW) (c:qm) (us:mZ pW),us.length=ps.length->bindArgs (HE "<lambda>" L.q L.par L.body L.sc aO pm (.ref c) dc) ⟨us,[]⟩=pure (ps.zip us))
  (qW:∀(aO:mZ (Str×qm)) (f c:qm) (A:Around) (outer:mZ Env) (s:pX) (H:Hp),xO k (zcw P w K mg base (ps++L.fr) L aO f c A outer s H).A->∃t,PE (zcw P w K mg base (ps++L.fr) L aO f c A outer s H) L.body t/\RE K E0 t m):
  WB P w K mg base (k+1) L (zhL n mm m):=by
 intro A outer s H f vs as us Q j S S' xs aK z hr e0 la l r E1 ht q;unfold zhL at ht;split at ht
 .rename_i hl;have pF:as.length=xs.length:=by have:=E1.len;simpa using this
  refine zl3 Sc hb hr e0 la (by rw[l.len,hl.2,hm]) r (by rw[pF,hl.1,hn]) λaO c dR=> ?_;obtain⟨t,h1,h2⟩:=qW aO f c A outer s H dR;refine⟨t,h1,h2 (E1.slots (σ':=(as++vs).map dE) (ρ':=(xs++aK).map dE) (by simp[pF,l.len]) λi x e=> ?_) ht λj' H' X E' v hv=>q _ _ _ _ _ E' hv⟩;rw[Ax,AB] at e;obtain⟨y,e,e'⟩:=e;cases e';by_cases hi:i<xs.length;rw[Az hi] at e;obtain⟨v,h3,h4⟩:=E1.slot i x (by rw[Ax,e];rfl);rw[Ax,AB] at h3;obtain⟨v',h3,pM⟩:=h3;cases pM;exact⟨v,by rw[Ax,Az ⋯,h3];rfl,h4⟩;rw[AG ⋯] at e;obtain⟨v,h3,h4⟩:=l.get e;exact⟨v,by rw[Ax,AG ⋯,pF,h3];rfl,h4⟩
 cases ht
def zjX(h:S[n]? =dE (.tab L.t))(hc:zfJ ρ is=dE xs)(k:P (.lam L xs) S):W (zhK L n is ρ S) P:= .of (by
 unfold zhK;rw[h];dsimp only;rw[if_pos rfl,hc]
 rfl) k
def zgV(h1:xs.length=n)(h2:aK.length=m)(k:W (e ((xs++aK).map dE) S) P):W (zhL n m e aK xs S) P:=by
 unfold zhL;rw[if_pos ⟨h1,h2⟩];exact k
end
noncomputable def noE:Expr:= .Name Str.empty ⟨0,0,0,0⟩
noncomputable def zpQ(s:Stmt)(i:Nat):Stmt:=(vC s).getD i (.Pass ⟨0,0,0,0⟩)
noncomputable def zjY(e:Expr):Arguments:=match e with
 | .Lambda a _ _ _=>a
 |_=>{posonlyargs:=[],args:=[],vararg:=fC,kwonlyargs:=[],kw_defaults:=[],kwarg:=fC,defaults:=[]}
def zgW(e:Expr):Expr:=match e with
 | .Lambda _ b _ _=>b
 |_=>noE
noncomputable def znl(e:Expr):Scope:=match e with
 | .Lambda _ _ s _=>s
 |_=>{kind:= .function,names:=[],isGenerator:=kb,isCoroutine:=kb}
set_option tactic.hygienic true in
def UH{K:Ar}{f c P:qm}(h:zi3 K f=dE (c,P)):DB K c P=fJ/\∀{oc:pW} {od:pU qm} {fd:FuncData} {sl:Array (pU pW)},K.lookup f=dE ⟨oc,od,.func fd,sl⟩->fd.code= .ref c:=by
 unfold zi3 at h;split at h;rename_i Ag _ e1;split at h;rename_i c1 e2;split at h;split at h;split at h;rename_i hd;cases h;refine⟨hd,λe=> ?_⟩;rw[e1] at e;cases e;exact e2;cases h;cases h;cases h;cases h;cases h
noncomputable def zbp(fz:mZ Str)(CX:CXT)(P:Program)(w:World)(K:Ar)(mg:Str->pU pW)(base:Heap)(N:mZ Str)(qual:Str)(scope:Scope)(f:qm)(cd:pW)(A:Around)(outer:mZ Env)(s:pX)(H:Hp)(E:XK):Cx:=
 {Vm CX P w K mg base N qual scope f cd A outer s H E with fn:=λx=> !fz.contains x,zn:=λx=>fz.contains x}
def Inv.toZ{P:Program}{K:Ar}{mg:Str->pU pW}{base:Heap}{N:mZ Str}{E:XK}
  (I:Inv (Vm CX P w K mg base N qual scope f cd A outer s H E) pins σ H1 s1):Inv (zbp fz CX P w K mg base N qual scope f cd A outer s H E) pins σ H1 s1:=
 ⟨⟨I.ok.mod,I.ok.kind,I.ok.glob,I.ok.blt,I.ok.above,I.ok.inj,I.ok.has,λx c _ e=>I.ok.cab x c (.inl rfl) e,I.ok.hd,I.ok.frames,I.ok.stk,I.ok.exf,I.ok.bs,I.ok.bsz,I.ok.noex,I.ok.exfs,I.ok.funs,I.ok.frf⟩,I.os,I.bare,I.base,I.loc,I.cell,I.free,
  λx c e=> .inl ((I.freeC x c e).elim (λz=>z) λz=>El (show fJ=kb from z.1)),I.pin,I.hok,I.len⟩
noncomputable def zjZ(osc sc:Scope)(N fz fr:mZ Str)(is:mZ Nat):Bool:=ziX osc sc&&fr.length==is.length&&(fr.zip is).all (λp=>sc.names.lookup p.1==dE .free&&N[p.2]? ==dE p.1)&&sc.names.all (λy=>y.2 != .free||fz.contains y.1)
def zgX{N fz fr:mZ Str}(hs:X.env.scope=osc)(hN:X.N=N)(hf:X.fn=λx=> !fz.contains x)(hz:X.zn=λx=>fz.contains x)(h:zjZ osc sc N fz fr is=fJ):zos X sc fr is:=by
 unfold zjZ at h;simp only[BV,Cy,beq_iff_eq,bne_iff_ne,ne_eq,EC] at h;obtain⟨⟨⟨h1,h2⟩,h3⟩,h4⟩:=h;refine⟨blk hs h1,λi x e=> ?_,λy hy e=> ?_⟩
 .have hi:i<is.length:=by rw[<-h2];exact(Au.1 e).1
  have e2:is[i]? =dE is[i]:=As hi;obtain⟨g1,g2⟩:=h3 (x,is[i]) (Ay (i:=i) (by rw[Ct];exact⟨e,e2⟩));exact⟨g1,is[i],e2,by rw[hN];exact g2⟩
 have g:=(h4 y hy).resolve_left λz=>z e;rw[hf,hz];exact⟨g,by dsimp only;rw[g];rfl⟩
def zgY{L:xK}{e:Expr}{pos:Pos}{is:mZ Nat}{c P:qm}(S:zos X L.sc L.fr is)(hq:X.env.qual=L.t.d++".<locals>.")(fG:X.env.code= .ref c)(hC:DB X.K c P=fJ)
  (hL:e= .Lambda L.par L.body L.sc pos:=by rfl) (jP:defaultsOf L.par X.env=([],[]):=by rfl):PE X e (zot L P is):=by
 rw[hL];exact zou (id:=L.id) S hq fG hC jP
section
variable{P:Program}{K:Ar}{mg:Str->pU pW}
def zeI:∀p∈([]:mZ (xK×(mZ Xv->TwF))),WB P w K mg base k p.1 p.2:=λp hp=>nomatch hp
def zcx{tw:mZ Xv->TwF}{fns:mZ (xK×(mZ Xv->TwF))}(h:WB P w K mg base i L tw)(hk:i<=k)(r:∀p∈fns,WB P w K mg base k p.1 p.2):∀p∈(L,tw)::fns,WB P w K mg base k p.1 p.2:=λp hp=>by
 rcases AW.mp hp with rfl|hp;exact h.mono hk;exact r p hp
end
section
variable{K:Ar}{E:XK}{C:qm}{nm m:Str}
end
noncomputable def WC(K:Ar)(dm:mZ Vn):mZ qm:=dm.filterMap λt=>(Vo K t).map (·.2)
noncomputable def zds:mZ qm->Bool
 |[]=>fJ
 |a::r=> !r.contains a&&zds r
noncomputable def zcy(K:Ar)(ts:mZ qm)(dm:mZ Vn):Bool:=dm.all (λt=>match Vo K t with
 |some (_,P)=>ts.contains P&&(K.lookup P).isNone
 |none=>kb)&&zds (WC K dm)
theorem zcz:∀{l:mZ qm},zds l=fJ->l.Nodup
 |[],_=>G7
 |a::r,h=>by
  unfold zds at h;simp only[BV,Bool.not_eq_true',Gf,decide_eq_false_iff_not] at h;exact BU.mpr ⟨h.1,zcz h.2⟩
structure zl4(K:Ar)(ts:mZ qm)(dm:mZ Vn)(c7:mZ qm):Prop where
 at_:∀(i:Nat) t,dm[i]? =dE t->∃c P,c7[i]? =dE P/\Vo K t=dE (c,P)
 len:c7.length=dm.length
 nd:c7.Nodup
 sub:∀P∈c7,P∈ts/\K.lookup P=fC/\∃t c,Vo K t=dE (c,P)
def zgZ{K:Ar}(h:zcy K ts dm=fJ):zl4 K ts dm (WC K dm):=by
 unfold zcy at h;rw[BV,Cy] at h;obtain⟨h1,h2⟩:=h;have key:∀(l:mZ Vn),(∀t∈l,t∈dm)->(∀(i:Nat) t,l[i]? =dE t->∃c P,(WC K l)[i]? =dE P/\Vo K t=dE (c,P))/\(WC K l).length=l.length/\∀P∈WC K l,P∈ts/\K.lookup P=fC/\∃t c,Vo K t=dE (c,P):=by
  intro l
  induction l with
  |nil=>intro _;exact⟨λi t e=>by simp at e,rfl,λP hP=>by cases hP⟩
  |cons t r ih=>
   intro hs;obtain⟨g1,g2,g3⟩:=ih λt ht=>hs t (B8 _ ht);have ht:=h1 t (hs t Bu);cases e:Vo K t with
   |none=>rw[e] at ht;cases ht
   |some p=>
    obtain⟨c,P⟩:=p;rw[e] at ht;simp only[BV,Gf,decide_eq_true_eq,Option.isNone_iff_eq_none] at ht;have e2:WC K (t::r)=P::WC K r:=by unfold WC;rw[Di,e];rfl
    rw[e2];refine⟨λi u eu=> ?_,by simp[g2],λQ hQ=> ?_⟩
    .cases i with
     |zero=>simp at eu;subst eu;exact⟨c,P,rfl,e⟩
     |succ i=>
      obtain⟨c',P',a,b⟩:=g1 i u (by simpa using eu);exact⟨c',P',by simpa using a,b⟩
    rcases AW.mp hQ with rfl|hQ;exact⟨ht.1,ht.2,t,c,e⟩;exact g3 Q hQ
 obtain⟨g1,g2,g3⟩:=key dm λ_ h=>h;exact⟨g1,g2,zcz h2,g3⟩
def zl5{K:Ar}{c P:qm}(h:Vo K t=dE (c,P)):DB K c P=fJ:=by
 unfold Vo at h;rw[Bp] at h;obtain⟨f,_,h⟩:=h;exact(UH h).1
structure zj0(c7:mZ qm)(H:Hp):Prop where
 all:∀b,H b=fC\/(∃o xs,H b=dE (.frz o (.lst xs)))\/(b∈c7/\H b=dE (.tbl #[]))
 tb:∀P∈c7,H P=dE (.tbl #[])
def zbq(K:Ar)(c7:mZ qm):Sp:=λvs H Q _=>∃(a:qm) (ns:mZ Int),vs=[V.ref a]/\zj0 c7 H/\SqX K H a (ns.map V.int)/\ns.length<=63/\∀H',Q (.bl fJ) H'
def zl6{P:Program}{K:Ar}{mg:Str->pU pW}(Fn:YM P w K mg base CX k f fd ps (sTw K 1 tw))(hT:zl4 K ts dm c7)
  (h:∀ns:mZ Int,ns.length<=63->∃S,tw [.ref 0] (.frz (ns.map Xv.int)::dm.map .tab)=dE (.ok (.bl fJ) S)):YM P w K mg base CX k f fd ps (zbq K c7):=by
 refine Fn.imp ?_;rintro vs H Q E ⟨a,ns,rfl,hO,hS,hl,q⟩;obtain⟨S',e⟩:=h ns hl;have hlen:(a::c7).length=(Ce.frz (ns.map Xv.int)::dm.map Ce.tab).length:=by simp[hT.len]
 refine⟨rfl,a::c7,.frz (ns.map Xv.int)::dm.map .tab,[.ref 0],_,?_,e,λv j' H' σ ρ E' hv=> ?_⟩
 .refine⟨rfl,λi x e=> ?_,hlen,λn m b c d e1 e2 e3 e4 z1 z2=> ?_,λn c b e1 e2=> ?_,Ext.refl,λn c e=>⟨c,e,λz=>z,λ_=>rfl⟩,hlen,λb u e=> .inl e,λn b hn e=> ?_,λb e=>e⟩
  .cases i with
   |zero=>simp at e;subst e;exact⟨_,rfl,.ref rfl⟩
   |succ i=>simp at e
  .cases n with
   |zero=>simp at e3;subst e3;cases z1
   |succ n=>
    cases m with
    |zero=>simp at e4;subst e4;cases z2
    |succ m=>
     simp only[Fy] at e1 e2;obtain⟨h1,g1⟩:=Au.1 e1;obtain⟨h2,g2⟩:=Au.1 e2;rw[(Cv hT.nd).mp (g1.trans g2.symm)]
  .cases n with
   |zero=>
    simp at e1 e2;subst e1 e2;refine⟨ns.map V.int,?_,zL.ints ns⟩;rcases hS with (hS|⟨o,hS⟩)|hS
    .rcases hO.all a with z|⟨o,xs,z⟩|⟨_,z⟩
     .rw[z] at hS;cases hS
     .rw[z] at hS;cases hS
     rw[z] at hS;cases hS
    .exact .inl ⟨o,hS⟩
    exact .inr λH=> .inr hS
   |succ n=>
    simp only[Fy,Ax,AB] at e1 e2;obtain⟨t,e1,rfl⟩:=e1;obtain⟨c,P',g1,g2⟩:=hT.at_ n t e1;rw[g1] at e2;cases e2;exact⟨#[],c,hO.tb _ (Ay g1),g2,trivial,λpos cv q=>by cases q⟩
  dsimp only at hn;have:=(Au.1 e).1;omega
 rw[hv.bl_inv];exact q H'
def zhM{P:Program}{K:Ar}{mg mb:Str->pU pW}
  (KX:K.In s₁.heap) (hT:zl4 K ts dm c7) (eI:∀P∈ts,s₁.heap.get? P=dE (Dw #[])) (dB:s₁.heap.Ns mainGlobals mg) (hb:s₁.heap.Ns builtinsNs mb) (jb:∀x:Str,x≠"__name__"->mb x=bootBuiltins x) (oN:s₁.heap.NoLimit)
  (rP:∃bm ob,mg "__builtins__"=dE (.ref bm)/\bm≠builtinsNs/\s₁.heap.get? bm=dE ob/\ob.cls= .type "module"/\ob.dict=dE builtinsNs/\ob.data= .plain) (qU:s₁.heap.NoSeer) (hU:P.given.tree=fC) (hg:s₁.gens= #[])
  (ha:s₁.heap.get? a=dE {cls:= .type "list",data:= .seq vs.toArray}) (hi:IntsAre vs ns) (hl:ns.length<=sizeLine) (hr:xO k callerA)
  (F:∀base:Heap,K.In base->base.Ns mainGlobals mg->YM P w K mg base CX k fa fd [x] sp) (lP:∀(s:pX) (u:pW),BindsTo s fd ⟨[u],[]⟩ [(x,u)])
  (fQ:∀H:Hp,zj0 c7 H->SqX K H a (ns.map V.int)->sp [.ref a] H (λv _=>v= .bl fJ) λ_ _ _=>False)
  (pJ:∀H e s',CX [] H s₁ (λ_ _ _=>False) e s'->False):
  codeAny (model P w) callerA (.call (.ref fa) ⟨[.ref a],[]⟩) (λr s'=>r= .ok (.ret (.bool fJ))/\OldK s₁.heap s'.heap/\s'.os=s₁.os/\AllBare s'.gens) s₁:=by
 have rv:=zcj hi;have nB:=hi.length;have km:∀P∈c7,s₁.heap.get? P=dE (Dw #[]):=λP hP=>eI P (hT.sub P hP).1;have core:∀H:Hp,zj0 c7 H->SqX K H a (ns.map V.int)->HOk P w H s₁.heap->(∀b,H b≠fC->b=a\/b∈c7)->(H a≠fC->K.lookup a=fC)->
   codeAny (model P w) callerA (.call (.ref fa) ⟨[.ref a],[]⟩) (λr s'=>r= .ok (.ret (.bool fJ))/\OldK s₁.heap s'.heap/\s'.os=s₁.os/\AllBare s'.gens) s₁:=by
  intro H hO hS hok hA hK;have di:∀{b:qm} {o:Obj},s₁.heap.get? b=dE o->H b=fC->(zcO s₁.heap H).get? b=dE o:=λe n=>zih e n;have qh:∀{b:qm} {o:Obj},s₁.heap.get? b=dE o->o.cls≠ .type "list"->(o.cls≠ .none\/∀ps,o.data≠ .fields ps)->H b=fC:=λ{b o} e d d'=>by
   cases q:H b with
   |none=>rfl
   |some u=>
    rcases hA b (by rw[q];simp) with rfl|hm;rw[ha] at e;cases e;exact absurd rfl d;rw[km b hm] at e;cases e;rcases d' with d'|d';exact absurd rfl d';exact absurd rfl (d' _)
  have gZ:∀{b:qm} {o:Obj} {es:Array DictEntry} {ep:Nat},s₁.heap.get? b=dE o->o.data= .dict es ep->H b=fC:=λ{b o es ep} e d=>by
   cases q:H b with
   |none=>rfl
   |some u=>
    rcases hA b (by rw[q];simp) with rfl|hm;rw[ha] at e;cases e;have d':Data.seq vs.toArray _=Data.dict es ep:=d;cases d';rw[km b hm] at e;cases e;cases d
  have iI:∀{b:qm} {m:Str->pU pW},s₁.heap.Ns b m->(zcO s₁.heap H).Ns b m:=λ{b m} ⟨o,es,ep,e,d,r⟩=>⟨o,es,ep,di e (gZ e d),d,r⟩
  have rV:K.In (zcO s₁.heap H):=λb o e=>di (KX b o e) (by
   cases q:H b with
   |none=>rfl
   |some u=>
    rcases hA b (by rw[q];simp) with rfl|hm;rw[hK (by rw[q];simp)] at e;cases e
    rw[(hT.sub b hm).2.1] at e;cases e)
  have hM:Mod P K mg (zcO s₁.heap H):=⟨rV,iI dB,⟨mb,iI hb,jb⟩,let ⟨mc,h1,h2⟩:=oN;⟨mc,iI h1,h2⟩,let ⟨bm,ob,b1,b2,b3,b4,b5,b6⟩:=rP;⟨bm,ob,b1,b2,di b3 (qh b3 (by rw[b4];simp) (.inl (by rw[b4];simp))),b4,b5,b6⟩,let ⟨bm,ob,b1,b2,b3,b4,b5,b6⟩:=rP;let ⟨mc,c1,c2⟩:=qU.statics;let ⟨mm,m1,m2⟩:=qU.mods;⟨⟨mc,iI c1,c2⟩,⟨mm,iI m1,m2⟩,⟨mb,iI hb,jb⟩,⟨mg,bm,ob,iI dB,b1,di b3 (qh b3 (by rw[b4];simp) (.inl (by rw[b4];simp))),b4,b5⟩⟩,hU⟩;have e0:Td P w K mg (zcO s₁.heap H) callerA [] s₁ H:=⟨rfl,hM,λb o e=>zlh e,Ci (zhm _ _),trivial,λb hb=>absurd (show b∈([]:mZ qm) from hb) (by simp),hok,.of_eq hg⟩;refine codeAny_mono ((F _ rV (iI dB)).run callerA [] s₁ H ⟨[.ref a],[]⟩ [.ref a] [.ref a] _ _ hr e0 (lP s₁ (.ref a)) (.cons rfl .nil) (fQ H hO hS)) λr s' h=> ?_;cases r with
  |error e=>exact(pJ H e s' h).elim
  |ok fl=>
   cases fl with
   |next=>exact Bw h
   |brk=>exact Bw h
   |cont=>exact Bw h
   |ret u=>
    obtain⟨v,H',os,bare,un,lB,r',q⟩:=h;have q':v= .bl fJ:=q;subst q';obtain rfl:u=Value.bool fJ:=r';have old:∀b o,s₁.heap.get? b=dE o->b∉c7->s'.heap.get? b=dE o:=λb o e nb=>by
     cases q:H b with
     |none=>exact un.keep b o e q (by intro z;exact absurd (show b∈([]:mZ qm) from z) (by simp)) (by simp)
     |some u=>
      rcases hO.all b with z|⟨ob,xs,z⟩|⟨z,_⟩
      .rw[q] at z;cases z
      .have z2:=un.frzs b ob _ z;obtain⟨e1,_⟩:=hok b _ z;obtain⟨e2,_⟩:=lB b _ z2;rw[e] at e1;cases e1;exact e2
      exact absurd z nb
    refine⟨rfl,⟨λb o e=> ?_,λb o e=>un.there b o e (by simp)⟩,os,bare⟩;by_cases hb:b∈c7;obtain⟨_,_,t,c,ht⟩:=hT.sub b hb;obtain⟨o2,sD,_,_,_,_,_,_,_,c1,c2,c3,c4,_⟩:=Gv KX (zl5 ht);obtain⟨more,e1⟩:=un.tbls b _ (hO.tb b hb);have e2:=lB b _ e1;have e3:=km b hb;rw[e] at e3;cases e3;exact .inr (.inl ⟨⟨c,o2,sD,c1,c2,c3,c4⟩,rfl,#[],more,rfl,e2⟩);exact .inl (old b o e hb)
 have aT:a∉c7:=λhm=>by
  have e:=km a hm;rw[ha] at e;cases e
 have tH:∀(H:Hp),(∀P∈c7,H P=dE (.tbl #[]))->∀b∈c7,∀u,H b=dE u->yL P w H s₁.heap b u:=λH h b hb u e=>by
  rw[h b hb] at e;cases e;exact km b hb
 cases hk:K.lookup a with
 |some o=>
  have e:=KX a o hk;rw[ha] at e;cases e;have oS:∀b,b∈c7->(if b∈c7 then dE (HO.tbl #[]) else fC)=dE (HO.tbl #[]):=λb h=>if_pos h;refine core (λb=>if b∈c7 then dE (.tbl #[]) else fC) ⟨λb=> ?_,λb h=>if_pos h⟩ (.inr ⟨vs.toArray,_,hk,by rw[AQ,nB];exact hl,by simpa using rv⟩) (λb u z=> ?_) (λb z=> ?_) λz=>absurd (if_neg aT) z;by_cases hb:b∈c7;exact .inr (.inr ⟨hb,if_pos hb⟩);exact .inl (if_neg hb);by_cases hb:b∈c7;exact tH (λb=>if b∈c7 then dE (.tbl #[]) else fC) (λb h=>if_pos h) b hb u z;have z':=(if_neg hb).symm.trans z;cases z';by_cases hb:b∈c7;exact .inr hb;exact absurd (if_neg hb) z
 |none=>
  have h1:∀b,b∈c7->(if b=a then dE (HO.frz {cls:= .type "list",data:= .seq vs.toArray} (.lst (ns.map V.int))) else if b∈c7 then dE (.tbl #[]) else fC)=dE (HO.tbl #[]):=λb h=>by
   have ne:b≠a:=λz=>aT (by rw[<-z];exact h);rw[if_neg ne,if_pos h]
  refine core (λb=>if b=a then dE (.frz {cls:= .type "list",data:= .seq vs.toArray} (.lst (ns.map V.int))) else if b∈c7 then dE (.tbl #[]) else fC) ⟨λb=> ?_,h1⟩ (.inl (.inr ⟨{cls:= .type "list",data:= .seq vs.toArray},if_pos rfl⟩)) (λb u z=> ?_) (λb z=> ?_) λ_=>hk;by_cases hb:b=a;exact .inr (.inl ⟨_,_,if_pos hb⟩);by_cases hm:b∈c7;exact .inr (.inr ⟨hm,h1 b hm⟩);exact .inl ((if_neg hb).trans (if_neg hm));by_cases hb:b=a;have z':=(if_pos hb).symm.trans z;cases z';subst hb;exact⟨ha,by rw[Aw];exact hl,vs,_,rv,ha⟩;by_cases hm:b∈c7;exact tH _ h1 b hm u z;have z':=((if_neg hb).trans (if_neg hm)).symm.trans z;cases z';by_cases hb:b=a;exact .inl hb;by_cases hm:b∈c7;exact .inr hm;exact absurd ((if_neg hb).trans (if_neg hm)) z
def zj1{l:FI}{XP:(Str->pU pW)->Heap->Prop}{YP:World->Heap->Prop}{K:Params->Ar}{CX:World->CXT}
  (hn:l.most=dE n) (eL:n<=63) (lM:d.params.defaults=[]) (hr:xO k callerA)
  (hY:∀(w:World) (h:Heap),YP w h->(K w.params).In h/\∀P∈ts,h.get? P=dE (Dw #[])) (hB:∀w:World,zcy (K w.params) ts dm=fJ)
  (F:∀(w:World) (mg:Str->pU pW) (fa:qm) (h:Heap),(K w.params).In h->h.Ns mainGlobals mg->mg d.name=dE (.ref fa)->
   ∃fd:FuncData,(∀(s:pX) (u:pW),BindsTo s fd ⟨[u],[]⟩ [(x,u)])/\
    ∀base:Heap,(K w.params).In base->base.Ns mainGlobals mg->YM l.prog w (K w.params) mg base (CX w) k fa fd [x] (zbq (K w.params) (WC (K w.params) dm)))
  (pJ:∀(w:World) (H:Hp) (s:pX) (e:pW) (s':pX),CX w [] H s (λ_ _ _=>False) e s'->False) (oT:importsNone q=fJ) (hU:l.prog.given.tree=fC):
  HJ q loose XP YP l.row.toRowW d [] (λf vs=>Hu f vs):=by
 refine Att.zea hn lM λw s₀ s₁ mg mb fa o pm cd doc a vs ns G Y ho hd df jK jF hints hlen hg=> ?_;obtain⟨KX,eI⟩:=hY w _ Y;obtain⟨fd,hb,hF⟩:=F w mg fa _ KX G.T.g jK;exact zhM KX (zgZ (hB w)) eI G.T.g G.T.b G.T.builtins G.T.nolimit G.T.bmain (G.T.seer oT) hU hg jF hints (AA (AA hlen eL) ∅) hr hF hb (λH hO hS=>⟨a,ns,rfl,hO,hS,AA hlen eL,λ_=>rfl⟩) λH e s'=>pJ w H s₁ e s'
open PySem.Calls PySem.W
end L2
namespace L2
section
variable{K:Ar}{x:Xv}
end
open PySem.Builtin.Int (intBits)
def WD(hr:xO k X.A)(hk:32<=k:=by decide)(dY:X.stack=X.env::X.outer:=by rfl)(hg:X.env.scope.isGenerator=kb:=by rfl)(j9:X.env.scope.isCoroutine=kb:=by rfl):
  OpR X (binaryOp .FloorDiv) (rI (λ_ j=>j≠0) λi j=> .int (i.fdiv j)):=by
 intro pins s σ H x y v u Q I rx ry h;obtain⟨i,j,rfl,rfl,hc,q⟩:=h;obtain⟨t,rfl⟩:=rx;obtain⟨t',rfl⟩:=ry;exact floordiv_int hc ⟨.int _,H,I.tok _,⟨_,rfl⟩,q⟩ (.inr (PylongRoom.of I.nolimit (by have:=hr.dp;show X.A.depth+100<_;omega) (SeerAt.of (I.ok.mod.seer.keeps I.bk) I.ok.mod.tree (by rw[I.ok.frames,dY]) hg j9 I.ok.blt I.ok.glob)))
def XA:Op2:=xIC (λ_ j=>decide (j≠0)) λi j=> .int (i.fdiv j)
def zeJ{K:Ar}:Yv K (rI (λ_ j=>j≠0) λi j=> .int (i.fdiv j)) XA:=zft (λi j h=>by simpa using h) λ_ _ _ _=> .int _
def WE(h:q≠0)(k:P (.int (p.fdiv q)) S):WO (XA (.int p) (.int q) S) P:= .of (by unfold XA xIC;exact if_pos (decide_eq_true h)) k
end L2
namespace L2
def zqo(s:Stmt):Expr:=match s with
 | .Assign _ e _=>e
 |_=>noE
def zj2{K:Ar}(h1:AY K mainGlobals m=dE (dE (.ref f)))(h:(Vo K ⟨fC,m,d⟩).isSome=fJ):∃c P,zi3 K f=dE (c,P)/\Vo K ⟨fC,m,d⟩=dE (c,P):=by
 obtain⟨⟨c,P⟩,e⟩:=Cw.1 h;refine⟨c,P,?_,e⟩;unfold Vo zi2 at e;dsimp only at e;rw[h1] at e;exact e
def PSm(X Y:Cx)(st:mZ Stmt)(t:TS):Prop:=
 ∀(pins:mZ (qm×Obj)) (s:pX) (σ:St) (H:Hp) (D:Uj),Inv X pins σ H s->t D σ H->wpAny (model X.prog X.w) X.A (execs st X.env) (SP Y pins D) X.xe s
section
variable{fz:mZ Str}{CX:CXT}{P:Program}{w:World}{K:Ar}{mg:Str->pU pW}{base:Heap}{N:mZ Str}{qual:Str}{scope:Scope}{f:qm}{cd:pW}{outer:mZ Env}{E:XK}{st:Stmt}{rest:mZ Stmt}{t u:TS}
def zow(h:PSs (zbp fz CX P w K mg base N qual scope f cd A outer s H E) rest t):PSm (Vm CX P w K mg base N qual scope f cd A outer s H E) (zbp fz CX P w K mg base N qual scope f cd A outer s H E) rest t:=
 λpins s1 σ H1 D I q=>h pins s1 σ H1 D I.toZ q
def zeK(h1:PS (Vm CX P w K mg base N qual scope f cd A outer s H E) st t)(h2:PSm (Vm CX P w K mg base N qual scope f cd A outer s H E) (zbp fz CX P w K mg base N qual scope f cd A outer s H E) rest u):PSm (Vm CX P w K mg base N qual scope f cd A outer s H E) (zbp fz CX P w K mg base N qual scope f cd A outer s H E) (st::rest) (znB t u):=by
 intro pins s1 σ H1 D I h;refine wpAny_execs_cons (thn (h1 pins s1 σ H1 {D with nx:=u D} I h) λfl s2 q=> ?_);cases fl with
 |next=>
  obtain⟨σ',H',I',q⟩:=q;exact h2 pins s2 σ' H' D I' q
 |ret v=>obtain⟨v',σ',H',I',q⟩:=q;exact⟨v',σ',H',I'.toZ,q⟩
 |brk=>obtain⟨σ',H',I',q⟩:=q;exact⟨σ',H',I'.toZ,q⟩
 |cont=>obtain⟨σ',H',I',q⟩:=q;exact⟨σ',H',I'.toZ,q⟩
end
def Fun.okZ2{P:Program}{w:World}{K:Ar}{mg:Str->pU pW}{base:Heap}{x qual:Str}{st:Stmt}{f c T:qm}{fd:FuncData}{N ps:mZ Str}{k:Nat}{sp:Sp}{fz:mZ Str}(F:Fun K x qual st f fd)(hT:zi3 K f=dE (c,T))(S:zC N ps (zh st))(len:∀vs H Q E,sp vs H Q E->vs.length=ps.length)
  (dC:∀(A:Around) (outer:mZ Env) (s:pX) (H:Hp) (vs:mZ V) (Q:VK) (E:XK),xO k (A.deeper (envOfC qual (zh st) s.heap.objs.size f (.ref c)))->sp vs H Q E->
   ∃t,PSm (Vm (CXE P w) P w K mg base N qual (zh st) f (.ref c) A outer s H E) (zbp fz (CXE P w) P w K mg base N qual (zh st) f (.ref c) A outer s H E) (vC st) t/\t {nx:=λ_ H'=>Q .non H',rt:=Q} (YN N vs) H):YM P w K mg base (CXE P w) (k+1) f fd ps sp:=by
 obtain⟨oc,od,kV,doc,pm,an,bR,ct,fN,rfl,lk,df⟩:=F.ex;have hc:bR= .ref c:=(UH hT).2 lk;subst hc;refine⟨len,λA outer s H args us vs Q E hr e0 hb r fQ=> ?_⟩;have hl:=len _ _ _ _ fQ;have KX:K.In s.heap:=e0.mod.kin.keeps λb o e=>(e0.bs b o e).1;have lim:s.heap.NoLimit:=e0.mod.nolimit.keeps λb o e=>(e0.bs b o e).1;have gH:∀y∈ps.zip us,(zh st).names.lookup y.1=dE .local\/((zh st).names.lookup y.1=dE .cell/\((cellsFrom (s.heap.objs.size+1) (zh st).names []).lookup y.1).isSome=fJ):=λ⟨n,v⟩ hy=>by
  rcases S.par n (Dm hy).1 with q|q;exact .inl q;exact .inr ⟨q,Ed _ _ _ (.inl q)⟩
 refine codeAny_call_function hr.depth (KX _ _ lk) rfl S.co S.gen rfl (GC KX df) (hb _ _ _ _ ?_);refine wpAny_newFunctionEnv_cells S.kind gH λenv he s1 x=> ?_;subst he;refine⟨lim.keeps x.toInCall.keep,codeAny_func ?_⟩;obtain⟨t,ht,hq⟩:=dC A outer s H vs Q E (hr.deeper _) fQ;refine wpAny_mono (ht [] s1 (YN N vs) H _ (zcc S hr.hd e0 hl r x) hq) (λfl s' hs=> ?_) λe s' hs=>hs;have fin:∀{σ':St} {H':Hp} {v:V} {u:pW},Inv (zbp fz (CXE P w) P w K mg base N qual (zh st) f (.ref c) A outer s H E) [] σ' H' s'->zI v u->Q v H'->CE outer P w H s Q u s':=
  λ{σ' H' v u} J rv q=>⟨v,H',J.os,J.bare,J.base,J.hok,rv,q⟩
 cases fl with
 |ret u=>
  obtain⟨v,σ',H',J,rv,q⟩:=hs;exact fin J rv q
 |next=>
  obtain⟨σ',H',J,q⟩:=hs;exact fin (v:=V.non) (u:=Value.none) J rfl q
 |brk=>
  obtain⟨_,_,_,q⟩:=hs;exact Bw q
 |cont=>
  obtain⟨_,_,_,q⟩:=hs;exact Bw q
open PySem.Calls PySem.W
section
variable{K:Ar}{E:XK}
end
end L2
namespace L2
section
variable{w:World}
noncomputable abbrev zM1(h:Heap)(l1:qm):Heap:=h.push {cls:= .type "tuple_iterator",data:= .fields #[.ref l1,.int 0 0]}
noncomputable abbrev zM2(h:Heap)(l1 l2:qm):Heap:=(zM1 h l1).push {cls:= .type "list_iterator",data:= .fields #[.ref l2,.int 0 0]}
noncomputable abbrev zM3(h:Heap)(l1 l2:qm):Heap:=(zM2 h l1 l2).push {cls:= .type "tuple",data:= .seq #[.ref h.objs.size,.ref (zM1 h l1).objs.size]}
noncomputable abbrev zM4(h:Heap)(l1 l2:qm):Heap:=(zM3 h l1 l2).push {cls:= .type "tuple",data:= .seq #[.none,.none]}
noncomputable abbrev zM5(h:Heap)(l1 l2:qm):Heap:=(zM4 h l1 l2).push {cls:= .type "zip",data:= .fields #[.none,.bool kb,.bool kb,.ref (zM2 h l1 l2).objs.size,.ref (zM3 h l1 l2).objs.size]}
end
section
variable{K:Ar}{E:XK}
end
open PySem.Calls PySem.W
noncomputable def zeL{κ:Type}[DecidableEq κ](kvs:mZ (κ×Xv))(k:κ):mZ (κ×Xv):=kvs.filter λkv=>decide (kv.1≠k)
section
variable{K:Ar}{E:XK}{j:mZ qm}
def KX.out{κ:Type}[DecidableEq κ](k:κ){kvs:mZ (κ×Xv)}{ks:mZ (κ×V)}(h:KX K j H kvs ks):KX K j H (zeL kvs k) (TY ks k):=by
 unfold zeL TY
 induction h with
 |nil=>exact .nil
 | @cons q x v r rs h1 _ ih=>
  rw[Dc,Dc];by_cases e:q=k;rw[if_neg (by simp[e]),if_neg (by simp[e])];exact ih;rw[if_pos (by simp[e]),if_pos (by simp[e])];exact .cons h1 ih
def zfK(d k:TwE):TwE:=λρ S=>rb (d ρ S) λx S1=>(wC S1 x).bind λ_=>rb (k ρ S1) λy S2=>match wC S2 x,Uy y with
 |some (n,kvs),dE key=>(vT kvs key).map λv=> .ok v (S2.set n (.dk (zeL kvs key)))
 |_,_=>fC
def zfL(d k z:TwE):TwE:=λρ S=>rb (d ρ S) λx S1=>(wC S1 x).bind λ_=>rb (k ρ S1) λy S2=>rb (z ρ S2) λw S3=>match wC S3 x,Uy y with
 |some (n,kvs),dE key=>(match vT kvs key with
  |some v=>dE (.ok v (S3.set n (.dk (zeL kvs key))))
  |none=>dE (.ok w S3))
 |_,_=>fC
set_option tactic.hygienic true in
def zj3(hd:RE K E td d)(hk:RE K E ty k):RE K E (ziJ td ty) (zfK d k):=by
 walk_at "!g"
 .refine hd En0 e1 λj1 H1 X1 E1 u hu=> ?_;cases fW:wC S1 x with
  |none=>rw[fW] at e;cases e
  |some p0=>
   rw[fW] at e;obtain⟨n0,jo⟩:=p0;obtain⟨a,k5,rfl,lI,f0,_⟩:=E1.dk hu fW;refine⟨a,rfl,.inl ⟨k5,.inl f0⟩,?_⟩;rcases zt e with⟨y,S2,e2,e⟩|⟨c,S2,e2,rfl⟩
   .refine hk E1 e2 λj2 H2 X2 E2 w hw=> ?_;split at e;rename_i n kvs key ed ek;obtain⟨a',ks,ea,hj,f1,f2⟩:=E2.dk (hu.mono X2) ed;cases ea;rw[AB] at e;obtain⟨v,ev,rfl⟩:=e;obtain⟨w1,g1,g2⟩:=f2.val.1 _ ev;obtain⟨E4,X4⟩:=E2.wdk ed hj (f2.out key);exact⟨ks,key,w1,f1,Uz hw ek,g1,kk _ _ (X1.trans (X2.trans X4)) E4 _ (g2.mono X4)⟩;cases e
   exact hk E1 e2 (PX.mono kk X1)
 exact hd En0 e1 kk
set_option tactic.hygienic true in
def zj4(hd:RE K E td d)(hk:RE K E ty k)(hz:RE K E tx z):RE K E (ziK td ty tx) (zfL d k z):=by
 walk_at "!g"
 .refine hd En0 e1 λj1 H1 X1 E1 u hu=> ?_;cases fW:wC S1 x with
  |none=>rw[fW] at e;cases e
  |some p0=>
   rw[fW] at e;obtain⟨n0,jo⟩:=p0;obtain⟨a,k5,rfl,lI,f0,_⟩:=E1.dk hu fW;refine⟨a,rfl,.inl ⟨k5,.inl f0⟩,?_⟩;rcases zt e with⟨y,S2,e2,e⟩|⟨c,S2,e2,rfl⟩
   .refine hk E1 e2 λj2 H2 X2 E2 w hw=> ?_;rcases zt e with⟨q,S3,e3,e⟩|⟨c,S3,e3,rfl⟩
    .refine hz E2 e3 λj3 H3 X3 E3 wq hq=> ?_;split at e
     .rename_i n kvs key ed ek;obtain⟨a',ks,ea,hj,f1,f2⟩:=E3.dk (hu.mono (X2.trans X3)) ed;cases ea;refine⟨ks,key,f1,Uz (hw.mono X3) ek,λv hv=> ?_,λhv=> ?_⟩
      .cases ev:vT kvs key with
       |none=>rw[f2.val.2 ev] at hv;cases hv
       |some y1=>
        obtain⟨w1,g1,g2⟩:=f2.val.1 _ ev;rw[g1] at hv;cases hv;rw[ev] at e;cases e;obtain⟨E4,X4⟩:=E3.wdk ed hj (f2.out key);exact kk _ _ (X1.trans (X2.trans (X3.trans X4))) E4 _ (g2.mono X4)
      cases ev:vT kvs key with
      |some y1=>
       obtain⟨w1,g1,g2⟩:=f2.val.1 _ ev;rw[g1] at hv;cases hv
      |none=>
       rw[ev] at e;cases e;exact kk _ _ (X1.trans (X2.trans X3)) E3 _ hq
     cases e
    exact hz E2 e3 (PX.mono kk (X1.trans X2))
   exact hk E1 e2 (PX.mono kk X1)
 exact hd En0 e1 kk
noncomputable def zcA:Op2:=λx y S=>match zF S x,y with
 |some u,.int k=>if -(2^63)<=k/\k<2^63/\u.length*k.toNat<=sizeLine then dE (.ref S.length,S++[.lst (AK k.toNat u).flatten]) else fC
 |_,_=>fC
set_option tactic.hygienic true in
def zdt:Yv K (znc K) zcA:=by
 walk_at "!e";unfold zcA at h;split at h;rename_i us q eu;split at h;rename_i hz;cases h;obtain⟨a,vs,rfl,h1,h2⟩:=E1.lstAt hx eu;refine⟨a,q,vs,rfl,hy.int_inv,h1,hz.1,hz.2.1,by rw[h2.len];exact hz.2.2,λp hp=> ?_⟩;obtain⟨E2,X2,h3⟩:=E1.lst (zeE h2 q.toNat) hp;exact k _ _ _ X2 E2 h3;cases h;cases h
end
section
def zj5(h:W (a ρ S) λx S1=>(∃p,wC S1 x=dE p)/\W (b ρ S1) λy S2=>∃n kvs k v,wC S2 x=dE (n,kvs)/\Uy y=dE k/\vT kvs k=dE v/\P v (S2.set n (.dk (zeL kvs k)))):W (zfK a b ρ S) P:=
 W.bind (h.imp λx S1 h=>by
  obtain⟨⟨p,e0⟩,h⟩:=h;rw[e0,AO];refine W.bind (h.imp λ_ _ h=> ?_);obtain⟨n,kvs,k,v,e1,e2,e3,q1⟩:=h;rw[e1,e2];dsimp only;rw[e3]
  exact .of rfl q1)
def zj6(h:W (a ρ S) λx S1=>(∃p,wC S1 x=dE p)/\W (b ρ S1) λy S2=>W (z ρ S2) λw S3=>∃n kvs k,wC S3 x=dE (n,kvs)/\Uy y=dE k/\(∀v,vT kvs k=dE v->P v (S3.set n (.dk (zeL kvs k))))/\(vT kvs k=fC->P w S3)):W (zfL a b z ρ S) P:=
 W.bind (h.imp λx S1 h=>by
  obtain⟨⟨p,e0⟩,h⟩:=h;rw[e0,AO];refine W.bind (h.imp λ_ _ h=>W.bind (h.imp λ_ _ h=> ?_));obtain⟨n,kvs,k,e1,e2,q1,q2⟩:=h;rw[e1,e2];dsimp only;cases ev:vT kvs k with
  |some v=>exact .of rfl (q1 v ev)
  |none=>exact .of rfl (q2 ev))
def zg0(hx:zF S x=dE u)(h:0<=p/\p<=1000000/\u.length*p.toNat<=sizeLine)(k:P (.ref S.length) (S++[.lst (AK p.toNat u).flatten])):WO (zcA x (.int p) S) P:= .of (by unfold zcA;rw[hx];exact if_pos ⟨⋯,⋯,h.2.2⟩) k
end
end L2
namespace L2
open PySem.Calls
def zdu:typeLookup (.type "list") "keys"=pure fC:=by rw[typeLookup_type,builtinLookup_eq_fast];kernel_rfl
def zfM:typeLookup (.type "list") "__getattr__"=pure fC:=by rw[typeLookup_type,builtinLookup_eq_fast];kernel_rfl
section
variable{w:World}{h:Heap}{g:Array GenState}{d:Drawn}{t:Nat}{os:OsState}{a:qm}
def zeM{tk:Tok}{Q:Fin->pX->Prop}{xs:Array pW}{n:Nat}{sl:Array (pU pW)}(hx:h.get? a=dE ⟨.type "list",fC,.seq xs n,sl⟩)(hh:A.handled=fC)(hq:zop h g d os E):
  wpAny (model prog w) A (Builtin.«object.__getattribute__» ⟨[.ref a,.str "keys" tk],[]⟩) Q E ⟨h,g,d,t,os⟩:=by
 have hT:(⟨h,g,d,t,os⟩:pX).TypeIs (.ref a) "list":=⟨_,hx,rfl⟩;have f4:=zdu
 repeat (any_goals (first|assumption|wp_step))
 refine wpAny_raiseAttrError hh (λh' tk' e q=> ?_) (*...*);obtain⟨q1,q2,o,vs,q3⟩:=q;exact hq h' e tk' q1 ⟨_,q3,rfl⟩
def zfN{tk:Tok}{R:Result->pX->Prop}{xs:Array pW}{n:Nat}{sl:Array (pU pW)}(hx:h.get? a=dE ⟨.type "list",fC,.seq xs n,sl⟩)(hh:A.handled=fC)(hq:zop h g d os λe s=>R (.error e) s):
  codeAny (model prog w) A (.call (.builtin "list.__getattribute__") ⟨[.ref a,.str "keys" tk],[]⟩) R ⟨h,g,d,t,os⟩:=
 codeAny_call_builtin F.slot_list_getattribute.plain F.entry_list_ga (F.slot_list_getattribute.check _ _ _ _ _ _ _ _ (show(⟨h,g,d,t,os⟩:pX).TypeIs (.ref a) "list" from ⟨_,hx,rfl⟩) (F.args_list_getattribute_2 _ _) (zeM hx (by simpa using hh) hq))
def zj7{tk:Tok}{xs:Array pW}{n:Nat}{sl:Array (pU pW)}(hx:h.get? a=dE ⟨.type "list",fC,.seq xs n,sl⟩)(hh:A.handled=fC)(hq:zop h g d os E):
  wpAny (model prog w) A (getAttrBy (.ref a) (.str "keys" tk) kb) Q E ⟨h,g,d,t,os⟩:=by
 have hT:(⟨h,g,d,t,os⟩:pX).TypeIs (.ref a) "list":=⟨_,hx,rfl⟩;have f2:=F.slot_list_getattribute.lookup;have f3:=F.slot_list_getattribute.bind (.ref a);have f5:=zfM
 repeat (any_goals (first|assumption|wp_step))
 refine zfN hx (by simpa using hh) λh' e tk' q1 q2=> ?_;obtain⟨o,q2,q3⟩:=q2;have hE:(⟨h',g,d,tk',os⟩:pX).TypeIs (.ref e) "AttributeError":=⟨_,q2,q3⟩;have f6:=sub_AttributeError;have Ab:(⟨h',g,d,tk',os⟩:pX).TypeIs (.ref a) "list":=⟨_,q1 _ _ hx,rfl⟩
 repeat (any_goals (first|assumption|wp_step))
 exact hq h' e tk' q1 ⟨o,q2,q3⟩
def zfO{Q:pU pW->pX->Prop}{xs:Array pW}{n:Nat}{sl:Array (pU pW)}(hx:h.get? a=dE ⟨.type "list",fC,.seq xs n,sl⟩)(hh:A.handled=fC)(hq:∀h' tk',(∀b o,h.get? b=dE o->h'.get? b=dE o)->Q fC ⟨h',g,d,tk',os⟩):
  wpAny (model prog w) A (getAttr? (.ref a) "keys") Q E ⟨h,g,d,t,os⟩:=by
 unfold getAttr? getAttrBy?;have hT:(⟨h,g,d,t,os⟩:pX).TypeIs (.ref a) "list":=⟨_,hx,rfl⟩;refine wpAny_bind (wpAny_mkText (wpAny_bind (wpAny_attempt (zj7 hx hh λh' e tk' q1 q2=> ?_))));obtain⟨o,q2,q3⟩:=q2;have hE:(⟨h',g,d,tk',os⟩:pX).TypeIs (.ref e) "AttributeError":=⟨_,q2,q3⟩;have f6:=sub_AttributeError
 repeat (any_goals (first|assumption|wp_step))
 exact hq h' tk' q1
end
section
variable{w:World}{I:qm}{fp wr:mZ qm}{G:Array GenState->Array GenState->Prop}{n:Nat}{P:Nat->pW->Prop}{St:Nat->pX->Prop}{R:Result->pX->Prop}{KK:Type}[DecidableEq KK]{knd:KeyKind prog w KK}
def zl7{a:qm}{items:Array pW}{m:Nat}{sl:Array (pU pW)}{kv:mZ (KK×pW)}(hh:A.handled=fC)(hx:s.heap.get? a=dE ⟨.type "list",fC,.seq items m,sl⟩)(nd:(kv.map (·.1)).Nodup)(hn:kv.length=items.size)(rZ:items.size<=sizeLine)
  (wU:∀(i:Nat) v,items[i]? =dE v->∃p key k x m,kv[i]? =dE (k,x)/\v= .ref p/\knd.is k key=fJ/\∃o,s.heap.get? p=dE o/\o.cls= .type "tuple"/\o.data= .seq #[key,x] m)
  (h:∀s':pX,s'.heap.DictOf knd s.heap.objs.size kv->(∀b o,s.heap.get? b=dE o->s'.heap.get? b=dE o)->s'.gens=s.gens->s'.drawn=s.drawn->s'.os=s.os->Q (.ref s.heap.objs.size) s'):
  wpAny (model prog w) A (call (.type "dict") [.ref a]) Q E s:=by
 refine callType_codes (Q₁:=λobj s₁=>obj= .ref s.heap.objs.size/\s₁={s with heap:=s.heap.push {cls:= .type "dict",data:= .dict #[]}}) F.kt_called_dict (F.kt_typeCall_dict_1 _) F.entry_dict_init (kt_code_dict_new _ ⟨rfl,rfl⟩) ?_;rintro obj s₁ ⟨rfl,rfl⟩;have eK:(s.heap.push {cls:= .type "dict",data:= .dict #[]}).DictOf knd s.heap.objs.size []:=Heap.DictOf.new s.heap;have js:=Heap.get?_push_of_some (h:=s.heap) {cls:= .type "dict",data:= .dict #[]} hx;have hT:Shared.TypeIs {s with heap:=s.heap.push {cls:= .type "dict",data:= .dict #[]}} (.ref a) "list":=⟨_,js,rfl⟩;refine⟨eK.typeIs,F.args_dict_init_2 _ _,?_⟩;unfold Builtin.«dict.__init__»
 refine wpAny_bind (by
  unfold Builtin.Dict.selfAndRest;refine wpAny_bind (wpAny_notOrdered_dict eK.typeIs (wpAny_pure (a:=(s.heap.objs.size,[Value.ref a])) ?_));show wpAny _ _ (Builtin.Dict.updateFrom "dict.__init__" s.heap.objs.size (.ref a) [] .none) _ _ _;unfold Builtin.Dict.updateFrom;refine wpAny_bind (wpAny_typeOf hT ?_);rw[if_pos ∅];refine wpAny_bind (zfO (g:=s.gens) (d:=s.drawn) (t:=s.toks) (os:=s.os) js (by simpa using hh) λh' tk' kp=> ?_);rw[if_pos (by rfl)];refine wpAny_bind (wpAny_rule ?_);have fh:=kp _ _ js;refine wpAny_bind (wpAny_pyIter_list (items:=items) ⟨_,fh,rfl,m,rfl⟩ ?_);have lt:a<h'.objs.size:=Heap.lt_size fh;have sP:s.heap.objs.size<h'.objs.size:=by
   obtain⟨o,_,_,e,_⟩:=eK;exact Heap.lt_size (kp _ _ e)
  refine wpAny_pure ⟨plainId_quiet UD _,?_⟩;have old:∀b o,s.heap.get? b=dE o->b≠s.heap.objs.size/\b≠h'.objs.size:=λb o e=>⟨B3 (Heap.lt_size e),B3 (Nat.lt_trans (Heap.lt_size e) sP)⟩;refine zl1 (G:=λa b=>b=a) ((Walks.list (A:=A.in1.in1) (by simpa using hh) h'.objs.size a (B3 lt) items).toS) s.heap.objs.size (λz=> ?_) s.heap (λb o e z=> ?_) kv nd hn rZ (λi v hv=>wU i v hv) _ 0 _ _ rfl (Cj _) ⟨⟨_,Heap.get?_push_size _ rfl,rfl,rfl⟩,⟨_,Heap.get?_push_of_some _ fh,rfl,m,rfl⟩⟩ (λb o e=> ?_) ?_ (λs' mv hD=> ?_);rcases (by simpa using z:s.heap.objs.size=h'.objs.size\/s.heap.objs.size=a) with z|z;omega;exact (old _ _ hx).1 z.symm;rcases (by simpa using z:b=s.heap.objs.size\/b=h'.objs.size) with z|z;exact (old _ _ e).1 z;exact (old _ _ e).2 z;exact Heap.get?_push_of_some _ (kp _ _ (Heap.get?_push_of_some _ e));rw[HF];obtain⟨o,es,ep,e,r⟩:=eK;exact⟨o,es,ep,Heap.get?_push_of_some _ (kp _ _ e),r⟩;refine⟨rfl,h s' hD (λb o e=>mv.heap b o (λz=> ?_) (Heap.get?_push_of_some _ (kp _ _ (Heap.get?_push_of_some _ e)))) mv.gens mv.drawn mv.os⟩;rcases(by simpa using z:b=s.heap.objs.size\/b=h'.objs.size) with z|z;exact (old _ _ e).1 z
  exact (old _ _ e).2 z)
end
def zj8:mZ V->Hp->VK->Prop:=λxs H Q=>∃(a:qm) (ps:mZ V) (kvs:mZ (Key×V)),xs=[.ref a]/\H a=dE (.lst ps)/\Paired (PrT H) ps kvs/\(kvs.map (·.1)).Nodup/\∀l,H l=fC->Q (.ref l) (upd H l (.dK kvs))
def zfP(hc:X.calm=fJ):YK X (.type "dict") zj8:=by
 intro pins s σ H xs us Q I r h;obtain⟨a,ps,kvs,rfl,ha,hp,nd,q⟩:=h;obtain⟨u,rfl,ru⟩:=Wn r;cases ru;obtain⟨z,ae,m,rv,e⟩:=(show yL X.prog X.w H s.heap a (.lst ps) from I.hok a _ ha);obtain⟨kv,a1,a2,a3⟩:=zjN I.hok hp rv;have cL:kvs.length=ae.length:=by rw[<-hp.length,<-rv.length]
 have nd':(kv.map (·.1)).Nodup:=by rw[show kv.map (·.1)=kvs.map (·.1) from(KV.keys a1).symm];exact nd
 refine zl7 (knd:=yu X.prog X.w) (kv:=kv) (I.ok.hd hc) e nd' (by rw[AQ];exact a2) (by rw[AQ,<-rv.length];exact z) (λi v hv=>a3 i v (by simpa using hv)) λs' hD kp e1 e2 e3=> ?_;have e':({s with heap:=s'.heap,toks:=s'.toks}:pX)=s':=by
  cases s';simp only at e1 e2 e3;subst e1 e2 e3;rfl
 have I1:=I.laid (a:=s.heap.objs.size) (o:= .dK kvs) (t':=s'.toks) kp (AF _) ⟨by rw[cL,<-rv.length];exact z,beq_eq_false_iff_ne.mpr (Bo I.big),kv,a1,hD⟩;rw[e'] at I1;exact⟨.ref _,_,I1,rfl,q _ (I.hok.fresh (AF _))⟩
noncomputable def zfQ:mZ Xv->pU (mZ (Key×Xv))
 |[]=>dE []
 | .tup [.int n,y]::r=>(zfQ r).map ((.inl n,y):: ·)
 |_=>fC
set_option tactic.hygienic true in
def zl8{K:Ar}:∀{xs:mZ Xv} {kvs:mZ (Key×Xv)} {vs:mZ V},zfQ xs=dE kvs->zL K j H xs vs->∃ks,KX K j H kvs ks/\Paired (PrT H) vs ks/\ks.map (·.1)=kvs.map (·.1):=by
 intro xs
 induction xs with
 |nil=>intro kvs vs e h;cases e;cases h;exact⟨[],.nil,.nil,rfl⟩
 |cons x r ih=>
  intro kvs vs e h;unfold zfQ at e;split at e;rename_i h0;cases h0;rename_i n y r' h0;cases h0;rw[AB] at e;obtain⟨ms,e1,rfl⟩:=e;obtain⟨v,rs,rfl,h1,h2⟩:=h.cons_inv;obtain⟨ks,g1,g2,g3⟩:=ih e1 h2;obtain⟨a,us,rfl,f1,f2⟩:=h1.tup_inv;obtain⟨u,w,rfl,q1,q2⟩:=f2.d2;rw[q1.int_inv] at f1;exact⟨(.inl n,w)::ks,.cons q2 g1,.cons ⟨a,rfl,f1⟩ g2,by rw[AZ,AZ,g3]⟩;cases e
noncomputable def zdv:Opn:=λxs S=>match xs with
 |[x]=>(Ur S x).bind λl=>(zfQ l.2).bind λkvs=>if (kvs.map (·.1)).Nodup then dE (.ref S.length,S++[.dk kvs]) else fC
 |_=>fC
set_option tactic.hygienic true in
def zj9{K:Ar}:zdc K zj8 zdv:=by
 walk_at "!h";unfold zdv at h;split at h;rename_i x;rw[Bp] at h;obtain⟨⟨n,l⟩,e1,h⟩:=h;rw[Bp] at h;obtain⟨kvs,e2,h⟩:=h;split at h;rename_i nd;cases h;obtain⟨w,rfl,hx⟩:=hv.d1;obtain⟨a,ws,rfl,hj,f1,f2⟩:=E1.wl hx e1;obtain⟨ks,g1,g2,g3⟩:=zl8 e2 f2;refine⟨a,ws,ks,rfl,f1,g2,by rw[g3];exact nd,λp hp=> ?_⟩;have X:Ext j H (j++[p]) (upd H p (.dK ks)):=⟨λn a e=>by rw[Az (Au.1 e).1];exact e,wb.same (yN hp)⟩;obtain⟨E2,X2⟩:=E1.cell (o:= .dK ks) (c:= .dk kvs) hp ⟨ks,zw,g1.mono X⟩;exact k _ _ _ X2 E2 (.ref (by rw[<-E1.jl];simp));cases h;cases h
def zka(hx:Ur S x=dE (n,l))(h:zfQ l=dE kvs)(nd:(kvs.map (·.1)).Nodup)(k:P (.ref S.length) (S++[.dk kvs])):WO (zdv [x] S) P:= .of (by
 show((Ur S x).bind _)=_
 rw[hx,AO,h,AO,if_pos nd]) k
end L2
namespace L2
open PySem.Calls PySem.W
noncomputable def zl9{α:Type}(f:Nat->Nat->Bool):KasT α->α
 | .ret a=>a
 | .ask i j k=>zl9 f (k (f i j))
def zma{α:Type}{f:Nat->Nat->Bool}{cmp cmp':Nat->Nat->(Bool->pX->Prop)->pX->Prop}(hc:∀i j C,i<n->j<n->i≠j->C (f i j) s->cmp i j C s)(eM:∀i j C,cmp' i j C s->i<n/\j<n/\i≠j/\C (f i j) s){Q R:α->pX->Prop}(t:KasT α):t.kasWp cmp' R s->Q (zl9 f t) s->t.kasWp cmp Q s:=by
 induction t with
 |ret a=>intro _ h;exact h
 |ask i j k ih=>
  intro h q;obtain⟨h1,h2,h3,h4⟩:=eM i j _ h;exact hc i j _ h1 h2 h3 (ih (f i j) h4 q)
def zmb{α:Type}{f:Nat->Nat->Bool}{Q:α->pX->Prop}(t:KasT α):t.kasWp (λi j C s=>C (f i j) s) Q s->Q (zl9 f t) s:=by
 induction t with
 |ret a=>exact λh=>h
 |ask i j k ih=>exact λh=>ih (f i j) h
noncomputable def zhN(is:mZ Int):Array Nat:=if is.length<2 then HY (BD is.length) else zl9 (λi j=>decide (is.getD i 0<is.getD j 0)) (kas_sort is.length)
noncomputable def Wg(is:mZ Int):mZ Nat:=(zhN is).toList
def zg1(is:mZ Int)(s:pX):PmN is.length (zhN is):=by
 unfold zhN;split;exact Hy _;exact zmb (Q:=λp _=>PmN is.length p) (s:=s) _ (zgL (r:=λi=>is.getD i 0) (λi j C _ _ _ h=>h) ⋯ λp h _=>h)
def Vj(is:mZ Int)(s:pX):(Wg is).Perm (BD is.length):=by
 have:=zg1 is s;unfold PmN at this;have h:=Array.perm_iff_toList_perm.1 this;unfold Wg;simpa using h
section
def zkb(h2:2<=is.length){cmp:Nat->Nat->(Bool->pX->Prop)->pX->Prop}(hc:∀i j C,i<is.length->j<is.length->i≠j->C (decide (is.getD i 0<is.getD j 0)) s->cmp i j C s):(kas_sort is.length).kasWp cmp (λp s'=>p=zhN is/\s'=s) s:=by
 refine zma (f:=λi j=>decide (is.getD i 0<is.getD j 0)) (n:=is.length) (cmp':=λi j C s'=>i<is.length/\j<is.length/\i≠j/\C (decide (is.getD i 0<is.getD j 0)) s') hc (λi j C h=>h) _ (zgL (Q:=λ_ _=>True) (r:=λi=>is.getD i 0) (λi j C a b c d=>⟨a,b,c,d⟩) ⋯ λ_ _ _=>Cp) ⟨?_,rfl⟩;unfold zhN;rw[if_neg ⋯]
def zhO(h:IntsAre vs is)(h2:2<=vs.length):(∀Q:SortKind->pX->Prop,Q oneType' s->wpAny (model prog w) A (keyKind' vs.toArray) Q (λ_ _=>False) s)/\∀i j C,i<vs.length->j<vs.length->i≠j->C (decide (is.getD i 0<is.getD j 0)) s->kas_ask prog w A oneType' vs i j C s:=by
 have at_:∀{vs:mZ pW} {is:mZ Int},IntsAre vs is->∀i,i<vs.length->∃t,vs.getD i Value.none= .int (is.getD i 0) t:=λ{vs is} h=>by
  induction h with
  |nil=>intro i hi;simp at hi
  | @cons n t vs ns _ ih=>
   intro i hi;cases i with
   |zero=>exact⟨_,rfl⟩
   |succ i=>exact ih i (by simpa using hi)
 refine⟨λQ q=> ?_,λi j C hi hj _ c=> ?_⟩;rw[ksk_kind (keys:=vs.toArray) (by simpa using h) (by simpa using h2)];exact wpAny_pure q;unfold kas_ask;obtain⟨t,e⟩:=at_ h i hi;obtain⟨u,g⟩:=at_ h j hj;rw[e,g];exact kat_lt_int c
def zbQ{R:mZ pW->pX->Prop}{n:Nat}(hh:A.handled=fC)(hr:IsRange s.heap r a b c t u v)(jw:Builtin.Range.small a b c=fJ)(hn:Builtin.Range.rangeSize a b c=n)(hlen:n<=2^24)
  (fin:∀(g:Heap) (k:Nat) (xs:Array pW),(∀b o,s.heap.get? b=dE o->g.get? b=dE o)->s.heap.objs.size<g.objs.size->ItemsOf (λi v=>∃t,v= .int (a+i*c) t) xs n->R xs.toList {s with heap:=g,toks:=k}):
  wpAny (model prog w) A (collect (.ref r)) R E s:=by
 unfold collect;refine wpAny_bind (wpAny_runValue ?_);refine codeAny_builtin entry_proto_collect' ?_;rw[Around.under_plainId PySem.F.plain_proto_collect _];refine wpAny_bind (m:=newList []) ?_;refine wpAny_newObj_type ?_;refine wpAny_pure ⟨plainId_quiet Fz _,?_⟩;refine codeAny_builtin entry_list_iadd' ?_;rw[Around.under_plainId Fz _];have at0:(s.heap.push {cls:= .type "list",data:= .seq ([]:mZ pW).toArray}).get? s.heap.objs.size=dE {cls:= .type "list",data:= .seq #[]}:=Heap.get?_push_size _ rfl;have step:=wpAny_extend_range (prog:=prog) (w:=w) (A:=A) (s:={s with heap:=s.heap.push {cls:= .type "list",data:= .seq ([]:mZ pW).toArray}})
  (R:=λ(q:Result) (s':pX)=>∃(h':Heap) (tk:Nat) (acc':Array pW) (c':Nat),q= .ok (.ret (.ref s.heap.objs.size))/\s'={s with heap:=h',toks:=tk}/\
   (∀b o,s.heap.get? b=dE o->h'.get? b=dE o)/\h'.get? s.heap.objs.size=dE {cls:= .type "list",dict:=fC,data:= .seq acc' c',slots:= #[]}/\ItemsOf (λi v=>∃t,v= .int (a+i*c) t) acc' n)
  hh (Heap.get?_push_of_some _ hr) jw hn hlen s.heap.objs.size (.ref s.heap.objs.size) 0 at0
  (λh' tk acc' c' hk jV cA=>⟨h',tk,acc',c',rfl,rfl,λb o e=>hk b o (B3 (Heap.lt_size e)) (Heap.get?_push_of_some _ e),jV,cA⟩)
 refine wpAny_mono step (λf s' x=> ?_) λe s' x=> ?_
 .cases f with
  |done f=>
   obtain⟨h',tk,acc',c',e,rfl,hk,jV,cA⟩:=x;cases e;show wpAny _ A (load s.heap.objs.size>>=_) _ _ _;refine wpAny_bind (wpAny_load jV ?_);exact wpAny_pure (fin h' tk acc' hk (Heap.lt_size jV) cA)
  |again c₁=>
   refine⟨x.1,codeAny_mono x.2 λq s₂ y=> ?_⟩;obtain⟨h',tk,acc',c',rfl,rfl,hk,jV,cA⟩:=y;show wpAny _ A (load s.heap.objs.size>>=_) _ _ _;refine wpAny_bind (wpAny_load jV ?_);exact wpAny_pure (fin h' tk acc' hk (Heap.lt_size jV) cA)
 obtain⟨_,_,_,_,e',_⟩:=x;cases e'
end
def zmc(h:zR ks us):∀{is:mZ Int},ks=is.map V.int->IntsAre us is:=by
 induction h with
 |nil=>intro is e;rw[List.map_eq_nil_iff.1 e.symm];exact .nil
 | @cons x u xs us r _ ih=>
  intro is e;cases is with
  |nil=>cases e
  |cons i is=>
   rw[AZ] at e;injection e with e1 e2;subst e1;obtain⟨t,rfl⟩:=r;exact .cons i t (ih e2)
section
variable{R:V->mZ V->Hp->VK->Prop}
def zfR(F:zjU X.prog X.w X.K X.mg X.base k R)(hr:xO (k+1) X.A)(I:Inv X pins σ H s){Q:VK}(hz:xs.length<64)
  (col:∀{R:mZ pW->pX->Prop} {E:pW->pX->Prop},(∀(g:Heap) (tk:Nat) (ae:mZ pW),(∀b o,s.heap.get? b=dE o->g.get? b=dE o)->s.heap.objs.size<g.objs.size->zR xs ae->R ae {s with heap:=g,toks:=tk})->wpAny (model X.prog X.w) X.A.in1 (collect u) R E s)
  (J:Nat->mZ V->Hp->Prop) (j0:J 0 [] H) (turn:∀i x ks H2,xs[i]? =dE x->ks.length=i->J i ks H2->R (.ref f) [x] H2 (λv H3=>J (i+1) (ks++[v]) H3))
  (fin:∀ks H2,ks.length=xs.length->J xs.length ks H2->∃is:mZ Int,ks=is.map V.int/\∀p,H2 p=fC->Q (.ref p) (upd H2 p (.lst ((Wg is).map λi=>xs.getD i .non)))):
  wpAny (model X.prog X.w) X.A (call (.builtin "sorted") [u] [(Str.ofString "key",.ref f)]) (EP X pins σ Q) X.xe s:=by
 refine call_function_entry_kw kind_sorted plain_sorted entry_sorted (ksk_s1 _ _) ?_;unfold Builtin.«sorted»;refine wpAny_bind (m:=checkCount "sorted" 1 1 _) (wpAny_pure ?_);refine wpAny_bind (col λg tk ae kp cQ hv=> ?_);have hlen:xs.length=ae.length:=hv.length;have nU:ae.length<=sizeLine:=znY ⋯;refine wpAny_bind (wpAny_newList ?_ nU);have i7:(g.push (seqObj "list" ae.toArray 0)).get? g.objs.size=dE (seqObj "list" ae.toArray 0):=Heap.get?_push_size _ rfl;have keep:∀b o,s.heap.get? b=dE o->(g.push (seqObj "list" ae.toArray 0)).get? b=dE o:=λb o q=>Heap.get?_push_of_some _ (kp b o q);show wpAny _ _ _ _ _ {s with heap:=g.push (seqObj "list" ae.toArray 0),toks:=tk};have mO:(g.push (seqObj "list" ae.toArray 0)).objs.size=g.objs.size+1:=by rw[size_push']
 generalize (g.push (seqObj "list" ae.toArray 0))=G at i7 keep mO ⊢;refine wpAny_bind (wpAny_holding (wpAny_call_entry_kw slot_list_sort ⟨_,i7,rfl⟩ entry_list_sort ?body (ksk_l1 _ _)));show wpAny (model X.prog X.w) X.A.in1.in1 (Builtin.«list.sort» ⟨[.ref g.objs.size],[(Str.ofString "key",.ref f)]⟩) _ _ _;rw[ksk_t1];generalize hD:g.objs.size=D at i7 mO cQ ⊢;obtain⟨e1,oB⟩:∃e1,(G.update D (Obj.mapSeq λ_=>(#[]:Array pW))).get? D=dE (seqObj "list" #[] e1):=⟨_,get?_update_seq i7 λ_=> #[]⟩;have oQ:((G.update D (Obj.mapSeq λ_=>(#[]:Array pW))).push (seqObj "tuple" ae.toArray 0)).objs.size=D+2:=by rw[size_push',Heap.size_update,mO]
 unfold ksk_tree;refine wpAny_bind (listItems_at i7 rfl ?_);refine wpAny_bind (listUpdate_at i7 rfl ?_ (by rw[AQ];exact nU) (Cj _));refine wpAny_bind (seqEpoch_at oB rfl ?_);refine wpAny_bind (wpAny_newTuple ?_ nU);refine wpAny_bind (wpAny_newList ?_ (Cj _));refine wpAny_holding ?_;have iN:∀b o,s.heap.get? b=dE o->(((G.update D (Obj.mapSeq λ_=>(#[]:Array pW))).push (seqObj "tuple" ae.toArray 0)).push (seqObj "list" #[] 0)).get? b=dE o:=λb o q=>by
  have tY: @LT.lt Nat _ b s.heap.objs.size:=Heap.lt_size q;refine Heap.get?_push_of_some _ (Heap.get?_push_of_some _ ?_);rw[Heap.get?_update_ne _ _ _ _ (B3 ⋯)];exact keep b o q
 have sx:(((G.update D (Obj.mapSeq λ_=>(#[]:Array pW))).push (seqObj "tuple" ae.toArray 0)).push (seqObj "list" #[] 0)).get? D=dE (seqObj "list" #[] e1):=Heap.get?_push_of_some _ (Heap.get?_push_of_some _ oB);have atK:(((G.update D (Obj.mapSeq λ_=>(#[]:Array pW))).push (seqObj "tuple" ae.toArray 0)).push (seqObj "list" #[] 0)).get? (D+2)=dE (seqObj "list" #[] 0):=by rw[<-oQ];exact Heap.get?_push_size _ rfl
 show wpAny (model X.prog X.w) X.A.in1.in1 (ksk_rest D (.ref f) kb ae.toArray e1 (.ref _)) _ _ {s with heap:=(((G.update D (Obj.mapSeq λ_=>(#[]:Array pW))).push (seqObj "tuple" ae.toArray 0)).push (seqObj "list" #[] 0)),toks:=tk};rw[oQ];generalize (((G.update D (Obj.mapSeq λ_=>(#[]:Array pW))).push (seqObj "tuple" ae.toArray 0)).push (seqObj "list" #[] 0))=G3 at iN sx atK ⊢;have I3:Inv X pins σ H {s with heap:=G3,toks:=tk}:=I.kept (t':=tk) iN;clear keep mO oQ oB i7;have kE:∀b:Nat,s.heap.objs.size<=b->b≠X.env.locals/\b∉X.fs/\X.s₀.heap.objs.size<=b/\(∀x c,X.env.cells.lookup x=dE c->c≠b)/\∀p∈X.pn++pins,p.1≠b:=λb hb=>by
  refine⟨λz=> ?_,I.nofs hb,AA I.sz hb,λx c e z=> ?_,λp hp z=> ?_⟩;have: @LT.lt Nat _ X.env.locals s.heap.objs.size:=I.lt;rw[<-z] at this;omega;obtain⟨v,o,ho,_⟩:=I.cell x c e;have: @LT.lt Nat _ c s.heap.objs.size:=Heap.lt_size ho;rw[z] at this;omega;have: @LT.lt Nat _ p.1 s.heap.objs.size:=Heap.lt_size (I.pin p hp).1;rw[z] at this;omega
 have oD:=kE D ⋯;have oK:=kE (D+2) ⋯;generalize hK:D+2=kS at atK oK ⊢;have rW:D≠kS:=by omega
 have nD:H D=fC:=I.hok.fresh ⋯;have nK:H kS=fC:=I.hok.fresh ⋯;unfold ksk_rest;refine wpAny_bind (wpAny_rule ?_)
 first
  |rw[List.forIn_toArray]
  |(rw[<-DK];simp only[List.toList_toArray])
  |rw[<-DK]
 refine wpAny_bind (ksk_fold (λi s'=>∃(H':Hp) (kA:Array pW) (e:Nat) (ks:mZ V),Inv X (pins++[(D,seqObj "list" #[] e1),(kS,seqObj "list" kA e)]) σ H' s'/\zR ks kA.toList/\ks.length=i/\J i ks H') ae 0 _ ?init ?step ?done)
 case init=>
  refine⟨H,#[],0,[],I3.pins_of λp hp=> ?_,.nil,rfl,j0⟩;rcases AU.1 hp with hp|hp;exact I3.pin p (B5 _ hp);rcases AW.1 hp with rfl|hp;exact⟨sx,nD,oD.1,oD.2.1,λv z=>by cases z⟩;rw[AI.1 hp];exact⟨atK,nK,oK.1,oK.2.1,λv z=>by cases z⟩
 case step=>
  rintro j u s' hu ⟨H',kA,e,ks,I',hk,cL,hj⟩;rw[DL] at cL hj ⊢;obtain⟨x,hx,rx⟩:=zfE hv hu;have iY:j<ae.length:=(Au.1 hu).1;have fQ:=turn j x ks H' hx cL hj;refine wpAny_bind (wpAny_attempt (wpAny_mono (Q:=EP X (pins++[(D,seqObj "list" #[] e1),(kS,seqObj "list" kA e)]) σ (λv H3=>J (j+1) (ks++[v]) H3)) (E:=λ_ _=>False) (wpAny_call (codeAny_mono (F X.A.in1.in1 X.stack s' H' f [x] [u] _ (⟨hr.hd,by have:=hr.dp;show X.A.depth+3*k+5<_;omega,by have:=hr.un;show X.A.units+1+1+16*k+200<_;omega,hr.gd⟩:xO k X.A.in1.in1) I'.env0.in1.in1 (.cons rx .nil) fQ) λr s2 hq=> ?_)) (λv s2 he=> ?_) λ_ _ z=>z.elim))
  .cases r with
   |error e=>exact Bw hq
   |ok fl=>
    cases fl with
    |ret u=>exact I'.after hq
    |next=>exact Bw hq
    |brk=>exact Bw hq
    |cont=>exact Bw hq
  obtain⟨kv,H3,I4,r4,q4⟩:=he;dsimp only;have pK:=I4.pin (kS,seqObj "list" kA e) (by simp);have pD:=I4.pin (D,seqObj "list" #[] e1) (by simp);have lE:ks.length=kA.size:=by
   have:=hk.length;rwa [D1] at this
  refine wpAny_bind (listUpdate_at pK.1 rfl ?_ ⋯ (AA (Ci (Hz ..)) ⋯));have s1:=Heap.SameBut.update s2.heap kS (Obj.mapSeq (·.push v));obtain⟨c2,dW⟩:∃c2,(s2.heap.update kS (Obj.mapSeq (·.push v))).get? kS=dE (seqObj "list" (kA.push v) c2):=⟨_,get?_update_seq pK.1 (·.push v)⟩;have I5:Inv X pins σ H3 s2:=I4.pins_of λp hp=>I4.pin p (by simp[hp]);have I6:Inv X pins σ H3 {s2 with heap:=s2.heap.update kS (Obj.mapSeq (·.push v))}:=I5.turned (t':=s2.toks) (λb o hb q=>(s1.2 b hb).trans q) pK.2.1 oK.1 (.inr oK.2.2.1) oK.2.2.2.1 oK.2.2.2.2
  refine wpAny_pure ⟨rfl,H3,kA.push v,c2,ks++[kv],I6.pins_of λp hp=> ?_,by
   rw[Array.toList_push]
   exact hk.append (.cons r4 .nil),by simp[cL],q4⟩
  rcases AU.1 hp with hp|hp;exact I6.pin p (B5 _ hp);rcases AW.1 hp with rfl|hp;exact⟨(s1.2 D rW).trans pD.1,pD.2.1,oD.1,oD.2.1,λv z=>by cases z⟩;rw[AI.1 hp];exact⟨dW,pK.2.1,oK.1,oK.2.1,λv z=>by cases z⟩
 case done=>
  rintro s' ⟨H',kA,e,ks,I',hk,cL,hj⟩;rw[DL] at cL hj;have pK:=I'.pin (kS,seqObj "list" kA e) (by simp);have pD:=I'.pin (D,seqObj "list" #[] e1) (by simp);have I5:Inv X pins σ H' s':=I'.pins_of λp hp=>I'.pin p (by simp[hp]);have lE:kA.toList.length=ae.length:=by rw[<-hk.length];omega
  rw[<-hlen] at hj;obtain⟨is,mN,q⟩:=fin ks H' ⋯ hj;have cW:is.length=ae.length:=by rw[<-Aw (f:=V.int),<-mN];omega
  have hints:IntsAre kA.toList is:=zmc hk mN;have pm:=zg1 is s';have jE:∀i∈Wg is,i<ae.length:=λi hi=>by
   rw[<-cW];exact Ca.1 ((Vj is s').mem_iff.1 hi)
  have o3:zR ((Wg is).map λi=>xs.getD i .non) ((Wg is).map λi=>ae.getD i Value.none):=by
   generalize Wg is=l at jE
   induction l with
   |nil=>exact .nil
   |cons i l ih=>
    refine .cons ?_ (ih λi hi=>jE i (.tail _ hi));have hi:=jE i (.head _);obtain⟨x,h1,h2⟩:=zfE hv (As hi);show zI (xs.getD i .non) (ae.getD i Value.none);rw[Av,Av,h1,As hi];exact h2
  refine wpAny_bind (listItems_at pK.1 rfl ?_);generalize ho:((Wg is).map λi=>ae.getD i Value.none)=outs at o3;have tQ:outs.length=ae.length:=by
   rw[<-ho,Aw,(Vj is s').length_eq,GY,cW]
  have tail:∀(st:SortSt),(arrOf st).map (·.2)=outs.toArray->(arrOf st).size=ae.length->failedOf st=fC->wpAny (model X.prog X.w) X.A.in1.in1 (ksk_tail D kb e1 (.ref kS) st) (λfin s2=>∃v,fin= .done (.ret v)/\wpAny (model X.prog X.w) X.A.in1 (ret (.ref D)) (λfin s3=>∃v,fin= .done (.ret v)/\EP X pins σ Q v s3) X.xe s2) X.xe s':=by
   intro st fj rh rG;have s1:=Heap.SameBut.update s'.heap kS (Obj.mapSeq λ_=>(#[]:Array pW));have nq:(s'.heap.update kS (Obj.mapSeq λ_=>(#[]:Array pW))).get? D=dE (seqObj "list" #[] e1):=(s1.2 D rW).trans pD.1;have s2:=Heap.SameBut.update (s'.heap.update kS (Obj.mapSeq λ_=>(#[]:Array pW))) D (Obj.mapSeq λ_=>outs.toArray);obtain⟨c2,dW⟩:∃c2,((s'.heap.update kS (Obj.mapSeq λ_=>(#[]:Array pW))).update D (Obj.mapSeq λ_=>outs.toArray)).get? D=dE (seqObj "list" outs.toArray c2):=⟨_,get?_update_seq nq λ_=>outs.toArray⟩;unfold ksk_tail;dsimp only;refine wpAny_bind (listUpdate_at pK.1 rfl ?_ (by rw[D1] at lE;omega) (Cj _));refine wpAny_bind (wpAny_letGo ?_);refine wpAny_bind (seqEpoch_at nq rfl ?_);rw[fj,rG];simp only[DM,if_false];refine wpAny_bind (listUpdate_at nq rfl ?_ (Cj _) (by rw[AQ];omega));simp only[bne_self_eq_false,DM,if_false];refine wpAny_pure ⟨_,rfl,wpAny_pure ⟨_,rfl,?_⟩⟩;have I6:Inv X pins σ H' {s' with heap:=s'.heap.update kS (Obj.mapSeq λ_=>(#[]:Array pW))}:=I5.turned (t':=s'.toks) (λb o hb q=>(s1.2 b hb).trans q) pK.2.1 oK.1 (.inr oK.2.2.1) oK.2.2.2.1 oK.2.2.2.2;refine⟨.ref D,_,I6.adoptW (t':=s'.toks) (o:= .lst ((Wg is).map λi=>xs.getD i .non)) (λb o hb q=>(s2.2 b hb).trans q) pD.2.1 oD.1 oD.2.2.1 oD.2.2.2.1 oD.2.2.2.2 ⟨by rw[o3.length];omega,outs,c2,o3,dW⟩,rfl,q D pD.2.1⟩
  unfold ksk_end;simp only[DM,if_false];by_cases h2:ae.toArray.size<2
  .rw[if_pos h2,if_pos h2];refine wpAny_bind (wpAny_pure ?_);rw[StateT.run_pure];refine wpAny_bind (wpAny_pure ?_);dsimp only;rw[AQ] at h2;refine tail (SortSt.mk' general' (kA.zip ae.toArray) #[] 7 fC) ?_ ?_ rfl
   .show (kA.zip ae.toArray).map (·.2)=_;apply Array.toList_inj.1;rw[Array.toList_map,ksk_zip,List.map_snd_zip ⋯,<-ho];unfold Wg zhN;rw[if_pos ⋯,cW];cases ae with
    |nil=>rfl
    |cons v r=>
     cases r with
     |nil=>rfl
     |cons _ _=>simp at h2;omega
   show (kA.zip ae.toArray).size=_;rw[Array.size_zip,AQ,<-D1,lE,Fo]
  rw[if_neg h2,if_neg h2];rw[AQ] at h2;obtain⟨kd,ask⟩:=zhO (prog:=X.prog) (w:=X.w) (A:=X.A.in1.in1) (s:=s') hints ⋯;have ea:kA.toList.toArray=kA:=by simp
  rw[ea] at kd;refine wpAny_bind (wpAny_mono (kd (λk s2=>oneType'=k/\s'=s2) ⟨rfl,rfl⟩) ?_ λ_ _ z=>z.elim);rintro _ _ ⟨rfl,rfl⟩;have tree:=zkb (s:=s') (is:=is) (cmp:=kas_ask X.prog X.w X.A.in1.in1 oneType' kA.toList) ⋯ λi j C a b c d=>ask i j C ⋯ ⋯ c d;rw[cW] at tree;refine wpAny_bind (wpAny_mono (kat_run (ks:=kA.toList) (vs:=ae) (Q:=λst' s2=>(arrOf st').map (·.2)=outs.toArray/\(arrOf st').size=ae.length/\failedOf st'=fC/\s'=s2) lE ⋯ ⋯ (λp' st' s2 hp x y z=> ?_) tree) ?_ λ_ _ z=>z);obtain⟨rfl,rfl⟩:=z;refine⟨?_,by rw[x,Array.size_map,hp],y,rfl⟩;rw[kat_snds lE x,<-ho];rfl;rintro⟨⟨⟩,st'⟩ _ ⟨a,b,c,rfl⟩;exact tail st' a b c
end
def zg2(R:V->mZ V->Hp->VK->Prop)(te tl:TE):TE:=λσ H Q=>te σ H λx H1=>∃n:Int,x= .int n/\0<=n/\n<64/\tl σ H1 λy H2=>∃f,y= .ref f/\∃J:Nat->mZ V->Hp->Prop,J 0 [] H2/\
 (∀(i:Nat) ks H3,i<n.toNat->ks.length=i->J i ks H3->R (.ref f) [.int i] H3 (λv H4=>J (i+1) (ks++[v]) H4))/\
 ∀ks H3,ks.length=n.toNat->J n.toNat ks H3->∃is:mZ Int,ks=is.map V.int/\∀p,H3 p=fC->Q (.ref p) (upd H3 p (.lst ((Wg is).map λi:Nat=>V.int (i:Int))))
section
variable{R:V->mZ V->Hp->VK->Prop}
def zhP{e l:Expr}{te tl:TE}{pp p2 kp pos da:Pos}(F:zjU X.prog X.w X.K X.mg X.base k R)(hr:xO (k+1) X.A)(hc:X.calm=fJ)(hg:Gl X "sorted")(hm:X.mg "sorted"=fC)(oV:Gl X "range")(iV:X.mg "range"=fC)(ha:PE X e te)(hl:PE X l tl)
  (kg:starEach [e] X.env=[(kb,eval e X.env)]:=by rfl) (he:backTo pos (starEach [.Call (.Name "range" p2) [e] [] da] X.env)=(kb,eval (.Call (.Name "range" p2) [e] [] da) X.env)::backTo pos (starEach [] X.env):=by rfl) (fR:(backTo pos (starEach [.Call (.Name "range" p2) [e] [] da] X.env)).any (·.1)=kb:=by rfl):
  PE X (.Call (.Name "sorted" pp) [.Call (.Name "range" p2) [e] [] da] [⟨dE "key",l,kp⟩] pos) (zg2 R te tl):=by
 intro pins s σ H Q I h;refine wpAny_Call_Name_kw (Zy I hg hm boot_sorted ?_ ∅ ∅);refine callWith_kw ?_ he fR rfl rfl;rw[he];show wpAny _ _ (spliced ((kb,eval (.Call (.Name "range" p2) [e] [] da) X.env)::backTo pos [])) _ _ s;refine Calls.spliced_cons ?_;refine wpAny_Call_Name_kw (Zy I oV iV boot_range ?_ ∅ ∅);refine BJ ?_ kg rfl
 refine thn (yg ha ze kg da pins s σ H (λvs H1=>∃n:Int,vs=[.int n]/\0<=n/\n<64/\tl σ H1 λy H2=>∃f,y= .ref f/\∃J:Nat->mZ V->Hp->Prop,J 0 [] H2/\
   (∀(i:Nat) ks H3,i<n.toNat->ks.length=i->J i ks H3->R (.ref f) [.int i] H3 (λv H4=>J (i+1) (ks++[v]) H4))/\
   ∀ks H3,ks.length=n.toNat->J n.toNat ks H3->∃is:mZ Int,ks=is.map V.int/\∀p,H3 p=fC->Q (.ref p) (upd H3 p (.lst ((Wg is).map λi:Nat=>V.int (i:Int))))) I ?_) λus s1 ⟨vs,H1,I1,r1,q1⟩=> ?_
 .have h:te σ H _:=h;show te σ H λx H1=>∃n:Int,[x]=[V.int n]/\_;simpa only[HA,and_true] using h
 obtain⟨n,rfl,h0,h1,q⟩:=q1;obtain⟨u,rfl,t,rfl⟩:=Wn r1;refine call_range_1 ?_;refine Calls.spliced_nil ?_;have A3:IsRange (s1.heap.push {cls:= .type "range",data:= .fields #[.int 0 s1.toks,.int n t,.int 1 (s1.toks+1)]}) s1.heap.objs.size 0 n 1 s1.toks t (s1.toks+1):=IsRange.new ..;have ua:∀b o,s1.heap.get? b=dE o->(s1.heap.push {cls:= .type "range",data:= .fields #[.int 0 s1.toks,.int n t,.int 1 (s1.toks+1)]}).get? b=dE o:=λb o e=>Heap.get?_push_of_some _ e;obtain⟨f1,f2,f3,f4,f5,f6⟩:=Inv.fpOk I1 (AF _) (I1.hok.fresh (AF _));have I2:Inv X (pins++[(s1.heap.objs.size,{cls:= .type "range",data:= .fields #[.int 0 s1.toks,.int n t,.int 1 (s1.toks+1)]})]) σ H1 {s1 with heap:=s1.heap.push {cls:= .type "range",data:= .fields #[.int 0 s1.toks,.int n t,.int 1 (s1.toks+1)]},toks:=s1.toks+2}:=by
  have I0:Inv X pins σ H1 {s1 with heap:=s1.heap.push {cls:= .type "range",data:= .fields #[.int 0 s1.toks,.int n t,.int 1 (s1.toks+1)]},toks:=s1.toks+2}:=I1.kept ua;refine I0.pins_of λp hp=> ?_;rcases AU.1 hp with hp|hp;exact I0.pin p (B5 _ hp);rw[AI.1 hp];exact⟨Heap.get?_push_size _ rfl,f1,f2,f3,λv z=>by cases z⟩
 show wpAny _ _ (evalAll [(do let v <-eval l X.env;standAt pos;pure v)]) _ _ _;refine wpAny_evalAll_cons (wpAny_bind (thn (hl _ _ σ H1 _ I2 q) ?_));rintro u s2 ⟨y,H2,I3,ry,f,ef,J,j0,turn,fin⟩;refine wpAny_bind (wpAny_standAt (wpAny_pure ?_));refine wpAny_evalAll_nil ?_;subst ef;obtain rfl:u=Value.ref f:=ry;have pr:=(I3.pin _ (B5 _ (B5 _ (AI.2 rfl)))).1;have I4:Inv X pins σ H2 s2:=I3.pins_of λp hp=>I3.pin p (by simp[hp]);have hn:Builtin.Range.rangeSize 0 n 1=n.toNat:=by rw[rangeSize_one];split<;>omega
 have t6:(zeA n.toNat).length=n.toNat:=by simp[zeA]
 refine zfR (xs:=zeA n.toNat) F hr I4 ⋯ (λ{R E} h=>zbQ (A:=X.A.in1) (I4.ok.hd hc) pr (small_one ∅ ∅ ⋯ ⋯) hn (AA ⋯ (show 1000000<=2^24 by decide)) λg tk xs kp lt cA=>h g tk xs.toList kp lt ?_) J j0 (λi x ks H3 hx hk hj=> ?_) λks H3 hk hj=> ?_
 .obtain⟨a1,a2⟩:=cA;refine zgN (by simp[zeA,a1]) λi v u ei eu=> ?_;unfold zeA at ei;rw[Ax] at ei;have hi:i<n.toNat:=by
   have:=(Au.1 eu).1;simpa [a1] using this
  rw[BX hi] at ei;cases ei;obtain⟨t,rfl⟩:=a2 i u (by simpa using eu);exact⟨t,by congr 1;omega⟩
 .unfold zeA at hx;rw[Ax] at hx;have hi:i<n.toNat:=by
   apply Bg;intro z;rw[BQ (by simp;omega)] at hx;cases hx
  rw[BX hi] at hx;cases hx;exact turn i ks H3 hi hk hj
 rw[t6] at hk hj;obtain⟨is,e1,e2⟩:=fin ks H3 hk hj;refine⟨is,e1,λp hp=> ?_⟩;have cW:is.length=n.toNat:=by rw[<-hk,e1,Aw]
 rw[show((Wg is).map λi=>(zeA n.toNat).getD i .non)=(Wg is).map λi:Nat=>V.int (i:Int) from Dj λi hi=>by
  have hi:=Ca.1 ((Vj is s2).mem_iff.1 hi);rw[cW] at hi;unfold zeA;rw[Av,Ax,BX hi]
  rfl]
 exact e2 p hp
end
noncomputable def zbr(tw:TwF):Nat->Nat->Sto->pU (mZ Int×Sto)
 |0,_,S=>dE ([],S)
 |n+1,i,S=>match tw [.int i] S with
  |some (.ok (.int k) S1)=>(zbr tw n (i+1) S1).map λp=>(k::p.1,p.2)
  |_=>fC
noncomputable def zdw(fns:mZ (xK×(mZ Xv->TwF)))(e l:TwE):TwE:=λρ S=>rb (e ρ S) λx S1=>match x with
 | .int n=>if 0<=n/\n<64 then rb (l ρ S1) λy S2=>(match y with
  | .lam L aK=>(Vx fns L).bind λtw=>(zbr (tw aK) n.toNat 0 S2).map λp=> .ok (.ref p.2.length) (p.2++[.lst ((Wg p.1).map λi:Nat=> .int (i:Int))])
  |_=>fC) else fC
 |_=>fC
section
variable{K:Ar}{E:XK}
def zkc:∀l:mZ Nat,zL K j H (l.map λi:Nat=>Xv.int (i:Int)) (l.map λi:Nat=>V.int (i:Int)):=by
 intro l
 induction l with
 |nil=>exact .nil
 |cons a r ih=>exact .cons (.int _) ih
set_option tactic.hygienic true in
def zhQ{fns:mZ (xK×(mZ Xv->TwF))}(he:RE K E te e)(hl:RE K E tl l):RE K E (zg2 (zov K fns) te tl) (zdw fns e l):=by
 intro F j σ H ρ S r Q En0 e0 k;rcases zt e0 with⟨x,S1,e1,e0⟩|⟨c,S1,e1,rfl⟩
 .refine he En0 e1 λj1 H1 X1 E1 u hu=> ?_;split at e0
  .rename_i n;split at e0
   .rename_i hn;refine⟨n,hu.int_inv,hn.1,hn.2,?_⟩;rcases zt e0 with⟨y,S2,e2,e0⟩|⟨c,S2,e2,rfl⟩
    .refine hl E1 e2 λj2 H2 X2 E2 v hv=> ?_;split at e0
     .rename_i L aK;rw[Bp] at e0;obtain⟨tw,hp,e0⟩:=e0;rw[AB] at e0;obtain⟨⟨is,S3⟩,h3,rfl⟩:=e0;obtain⟨f,rfl⟩:∃f,v= .ref f:=by cases hv with|lam _ _=>exact⟨_,rfl⟩
      refine⟨f,rfl,λi ks H3=>∃(j3:mZ qm) (S':Sto) (dn rest:mZ Int),Ext j2 H2 j3 H3/\En K F j3 H3 σ ρ S'/\i<=n.toNat/\zbr (tw aK) (n.toNat-i) i S'=dE (rest,S3)/\ks=dn.map V.int/\dn++rest=is,⟨j2,S2,[],is,Ext.refl,E2,Cj _,h3,rfl,rfl⟩,?_,?_⟩;rintro i ks H3 hi hk ⟨j3,S',dn,rest,X3,E3,_,cL,rfl,hd⟩;rw[show n.toNat-i=(n.toNat-(i+1))+1 by omega] at cL;unfold zbr at cL;split at cL;rename_i kk S4 e4;rw[AB] at cL;obtain⟨⟨r2,S5⟩,h5,h6⟩:=cL;cases h6;have kW:zL K j3 H3 [.int (i:Int)] [.int (i:Int)]:= .one (.int _);obtain⟨l1,s1⟩:=VL kW;refine⟨j3,S',S4,[.int i],aK,L,tw,.int kk,E3.enter l1 s1,hv.mono X3,hp,e4,λv j' H' σ' ρ' Ex hz=> ?_⟩;obtain⟨E4,X4⟩:=E3.leave Ex;rw[hz.int_inv];exact⟨j',S4,dn++[kk],r2,X3.trans X4,E4,hi,h5,by simp,by rw[<-hd];simp⟩;cases cL;rintro ks H3 hk ⟨j3,S',dn,rest,X3,E3,_,cL,rfl,hd⟩;rw[BL] at cL;cases cL;rw[CP] at hd;subst hd;refine⟨dn,rfl,λp hp=> ?_⟩;obtain⟨E5,X5,h5⟩:=E3.lst (zkc (Wg dn)) hp;exact k _ _ (X1.trans (X2.trans (X3.trans X5))) E5 _ h5
     cases e0
    exact hl E1 e2 (PX.mono k X1)
   cases e0
  cases e0
 exact he En0 e1 k
end
section
def zfS{g:Nat->Int}:∀(n i:Nat),(∀j,i<=j->j<i+n->tw [.int j] S=dE (.ok (.int (g j)) S))->zbr tw n i S=dE ((List.range' i n).map g,S):=by
 intro n
 induction n with
 |zero=>intro i _;rfl
 |succ n ih=>
  intro i h;unfold zbr;rw[h i (AF _) ⋯];dsimp only;rw[ih (i+1) λj h1 h2=>h j ⋯ ⋯];rfl
def zhR{fns:mZ (xK×(mZ Xv->TwF))}(h:W (e ρ S) λx S1=>∃n:Int,x= .int n/\(0<=n/\n<64)/\W (l ρ S1) λy S2=>∃L aK tw is S3,y= .lam L aK/\Vx fns L=dE tw/\zbr (tw aK) n.toNat 0 S2=dE (is,S3)/\P (.ref S3.length) (S3++[.lst ((Wg is).map λi:Nat=> .int (i:Int))])):W (zdw fns e l ρ S) P:=by
 refine W.bind (h.imp λx S1 h=> ?_);obtain⟨n,rfl,hn,h⟩:=h;dsimp only;rw[if_pos hn];refine W.bind (h.imp λy S2 h=> ?_);obtain⟨L,aK,tw,is,S3,rfl,h1,h2,q⟩:=h;dsimp only;rw[h1,AO,h2];exact .of rfl q
end
def UI:(toString "min"++toString ".loop":String)="min.loop":=by decide
def zkd(a v:pW):argsOk "min" ⟨[a],[(Str.ofString "key",v)]⟩:=by unfold argsOk;kernel_rfl
section
def Inv.thaw{σ0:St}(I0:Inv X kD σ0 H0 s0)(h0:H0 a=dE (.dK ks))(I:Inv X pins σ H s)(h:H a=dE (.frz o (.dK kvs))):Inv X pins σ (upd H a (.dK kvs)) s:=by
 have ne:∀b u,H b=dE u->(∀o ks,u≠ .frz o (.dK ks))->b≠a:=λb u e n z=>by
  subst z;rw[h] at e;cases e;exact n _ _ rfl
 have nn:∀b,H b=fC->b≠a:=λb e z=>by rw[z,h] at e;cases e
 refine⟨I.ok,I.os,I.bare,⟨I.base.keep,I.base.slot,λb ob e n hx=> ?_,I.base.there,λb xs e=> ?_,λb ob u e=> ?_,λb ps e=> ?_⟩,I.loc,I.cell,?_,λx c e=> ?_,λp hp=> ?_,λb u e=> ?_,I.len⟩;have q:=I.base.free b ob e n hx;rw[zi (nn b q)];exact q;have q:=I.base.tups b xs e;rw[zi (ne b _ q λ_ _ z=>by cases z)];exact q;have q:=I.base.frzs b ob u e;rw[zi (λz=>by subst z;rw[I0.base.frzs _ ob u e] at h0;cases h0)];exact q;obtain⟨m,q⟩:=I.base.tbls b ps e;exact⟨m,by rw[zi (ne b _ q λ_ _ z=>by cases z)];exact q⟩;rw[zi (nn _ I.free)];exact I.free
 .rcases I.freeC x c e with q|⟨f,ob,q⟩
  .exact .inl (by rw[zi (nn c q)];exact q)
  exact .inr ⟨f,ob,by rw[zi (ne c _ q λ_ _ z=>by cases z)];exact q⟩
 .obtain⟨e,n,r⟩:=I.pin p hp;exact⟨e,by rw[zi (nn _ n)];exact n,r⟩
 by_cases hb:b=a;subst hb;rw[zw] at e;cases e;exact(I.hok b _ h).2
 rw[zi hb] at e;exact(I.hok b u e).stay (λ_ _ _ q=>q) (λd q=>by rw[zi (ne d _ q λ_ _ z=>by cases z)];exact q) λd xs q=>by rw[zi (ne d _ q λ_ _ z=>by cases z)];exact q
noncomputable def xg(is:mZ (mZ Int))(n:Nat):Nat:=argBest (λi j=>ltL (is.getD i []) (is.getD j [])) n
def zaA(f:Nat->Nat->Bool):∀n,argBest f n<=n:=by
 intro n
 induction n with
 |zero=>exact AF _
 |succ n ih=>
  show(if f (n+1) (argBest f n) then n+1 else argBest f n)<=n+1;split<;>omega
def zfT{f g:Nat->Nat->Bool}:∀n,(∀i j,i<=n->j<=n->f i j=g i j)->argBest f n=argBest g n:=by
 intro n
 induction n with
 |zero=>intro _;rfl
 |succ n ih=>
  intro h;show(if f (n+1) (argBest f n) then n+1 else argBest f n)=(if g (n+1) (argBest g n) then n+1 else argBest g n);rw[ih λi j a b=>h i j ⋯ ⋯,h _ _ (AF _) (Nat.le_succ_of_le (zaA g n))]
def zhS(h:n<is.length):xg (is++[l]) n=xg is n:=by
 unfold xg;refine zfT n λi j a b=> ?_;have e:∀i,i<=n->(is++[l]).getD i []=is.getD i []:=λi hi=>by
  rw[Av,Az ⋯,Av]
 rw[e i a,e j b]
variable{R:V->mZ V->Hp->VK->Prop}{it S:qm}{Q:VK}{J:Nat->mZ V->mZ (mZ Int)->Hp->Prop}
noncomputable abbrev WF(xs:Array pW)(c:Nat):Obj:={cls:= .type "list",dict:=fC,data:= .seq xs c,slots:= #[]}
def zke(F:zjU X.prog X.w X.K X.mg X.base k R)(hr:xO (k+1) X.A)(hc:X.calm=fJ)(hd:ob.data= .dict es ep)(hS:S≠it)(fS:∀H,H S=fC->UZ X pins H S)(fI:∀H,H it=fC->UZ X pins H it)(hn:0<kvs.length)
  (rd:∀i ks is H,J i ks is H->H a=dE (.frz ob (.dK kvs))/\is.length=i/\ks.length=i/\∀(m:Nat) v,ks[m]? =dE v->∃b,v= .ref b/\SqT X.K H b ((is.getD m []).map V.int))
  (turn:∀(i:Nat) ks is H2 key v,kvs[i]? =dE (key,v)->J i ks is H2->R (.ref f) [kV key] H2 (λv H3=>∃l,J (i+1) (ks++[v]) (is++[l]) H3)) {Rr:Result->pX->Prop}
  (fin:∀ks is H2 s2 u,J kvs.length ks is H2->Inv X pins σ H2 s2->(∀key v,kvs[xg is (kvs.length-1)]? =dE (key,v)->zI (kV key) u)->Rr (.ok (.ret u)) s2):
  ∀(q i:Nat) (H1:Hp) (s1:pX) (ks:mZ V) (is:mZ (mZ Int)) (io:Obj) (xs:Array pW) (c:Nat),kvs.length-i=q->i<=kvs.length->Inv X (pins++[(it,io),(S,WF xs c)]) σ H1 s1->s1.heap.IsKeyIter it a i kvs.length ep->J i ks is H1->
   ((i=0/\xs= #[])\/(0<i/\∃u v key x kv,xs= #[u,v]/\kvs[xg is (i-1)]? =dE (key,x)/\zI (kV key) u/\ks[xg is (i-1)]? =dE kv/\zI kv v))->
   codeAny (model X.prog X.w) X.A (.builtin "min.loop" ⟨[.ref it,.ref f,.ref S],[]⟩) Rr s1:=by
 intro q
 induction q with
 |zero=>
  intro i H1 s1 ks is io xs c hq hi I1 hit hj old;obtain rfl:i=kvs.length:=by omega
  obtain⟨ha,cW,cL,_⟩:=rd _ _ _ _ hj;have pS:=(I1.pin (S,WF xs c) (by simp)).1;have I0:Inv X pins σ H1 s1:=I1.pins_of λp hp=>I1.pin p (by simp[hp]);have nI:=(I1.pin (it,io) (by simp)).2.1;have nS:=(I1.pin (S,WF xs c) (by simp)).2.1;obtain⟨vs,rel,hm⟩:=zay I0 ha hd;have hl:=rel.length;rw[hl] at hit;rcases old with⟨z,_⟩|⟨_,u,v,key,x,kv,rfl,hk,ru,_,_⟩
  .omega
  refine codeAny_builtin FU (by
   rw[Around.under_plainId CG _];refine wpAny_bind (m:=seqItems? (.ref S)) (wpAny_seqItems pS rfl (wpAny_bind (m:=tryCatch (pyNext (.ref it)) _) (wpAny_tryCatch (wpAny_pyNext_dict_end (I0.ok.hd hc) hit hm (BQ ⋯) λh' eb=> ?_))));have sJ:h'.get? S=dE (WF #[u,v] c):=eb S _ hS pS;have I2:Inv X pins σ H1 {s1 with heap:=h'}:=Inv.turnedL (t':=s1.toks) (fp:=[it]) I0 (λb o hb eo=>eb b o (λz=>hb (by simp[z])) eo) λb hb=>by
    rw[AI.1 hb];exact fI H1 nI
   refine wpAny_bind (m:=updateSeq S (λ_=> #[])) (wpAny_updateSeq sJ rfl (wpAny_bind (wpAny_letGo (wpAny_pure ?_))))
   refine fin ks is H1 _ u hj (Inv.turnedL (t':=s1.toks) (fp:=[S]) I2 (λb o hb eo=>(Heap.get?_update_other _ _ λz=>hb (by simp[z])).trans eo) λb hb=>by
    rw[AI.1 hb];exact fS H1 nS) λkey' v' e=> ?_
   rw[hk] at e;cases e
   exact ru)
 |succ q ih=>
  intro i H1 s1 ks is io xs c hq hi I1 hit hj old;obtain⟨ha,cW,cL,A8⟩:=rd _ _ _ _ hj;have pS:=(I1.pin (S,WF xs c) (by simp)).1;have I0:Inv X pins σ H1 s1:=I1.pins_of λp hp=>I1.pin p (by simp[hp]);have nI:=(I1.pin (it,io) (by simp)).2.1;have nS:=(I1.pin (S,WF xs c) (by simp)).2.1;obtain⟨vs,rel,hm⟩:=zay I0 ha hd;have hl:=rel.length;have lt:i<kvs.length:=by omega
  obtain⟨key,x,hx⟩:∃key x,kvs[i]? =dE (key,x):=⟨_,_,As lt⟩;obtain⟨ux,hu,y9⟩:=zfC rel hx;rw[hl] at hit
  refine codeAny_builtin FU (by
   rw[Around.under_plainId CG _];refine wpAny_bind (m:=seqItems? (.ref S)) (wpAny_seqItems pS rfl (wpAny_bind (m:=tryCatch (pyNext (.ref it)) _) (wpAny_tryCatch (wpAny_pyNext_dict_item hit hm hu λitem h1 lH ic qV=> ?_))));rw[<-hl] at ic;have sL:h1.get? S=dE (WF xs c):=(qV.2 S hS).trans pS;have I2:Inv X pins σ H1 {s1 with heap:=h1}:=Inv.turnedL (t':=s1.toks) (fp:=[it]) I0 (λb o hb eo=>(qV.2 b (by simpa using hb)).trans eo) λb hb=>by
    rw[AI.1 hb];exact fI H1 nI
   obtain⟨iP,oR,lT,iD⟩:=id ic;have I3:Inv X (pins++[(it,iP),(S,WF xs c)]) σ H1 {s1 with heap:=h1}:=I2.pins_of λp hp=>by
    rcases AU.1 hp with hp|hp;exact I2.pin p (B5 _ hp);rcases AW.1 hp with rfl|hp;exact⟨oR,nI,(fI H1 nI).2.1,(fI H1 nI).2.2.1,λv z=>by rw[iD] at z;cases z⟩;rw[AI.1 hp];exact⟨sL,nS,(fS H1 nS).2.1,(fS H1 nS).2.2.1,λv z=>by cases z⟩
   have rk:zI (kV key) item:=zni lH;have fQ:=turn i ks is H1 key x hx hj;refine wpAny_bind (m:=tryCatch (holding [item] (call (.ref f) [item])) _) (wpAny_tryCatch (wpAny_holding (wpAny_mono (Q:=EP X (pins++[(it,iP),(S,WF xs c)]) σ (λv H3=>∃l,J (i+1) (ks++[v]) (is++[l]) H3)) (E:=λ_ _=>False) (wpAny_call (codeAny_mono (F X.A.in1 X.stack _ H1 f [kV key] [item] _ (⟨hr.hd,by have:=hr.dp;show X.A.depth+3*k+5<_;omega,by have:=hr.un;show X.A.units+1+16*k+200<_;omega,hr.gd⟩:xO k X.A.in1) I3.env0.in1 (.cons rk .nil) fQ) λr s2 hq=> ?_)) (λv s2 he=> ?_) λ_ _ z=>z.elim)))
   .cases r with
    |error e=>exact Bw hq
    |ok fl=>
     cases fl with
     |ret u=>exact I3.after hq
     |next=>exact Bw hq
     |brk=>exact Bw hq
     |cont=>exact Bw hq
   obtain⟨kv,H3,I4,r4,l,rB⟩:=he;obtain⟨Aa,ui,ub,lG⟩:=rd _ _ _ _ rB;have md:=(I4.pin (S,WF xs c) (by simp)).1;have ng:=(I4.pin (it,iP) (by simp)).1;have nr:=(I4.pin (it,iP) (by simp)).2.1;have ml:=(I4.pin (S,WF xs c) (by simp)).2.1;have uh:s2.heap.IsKeyIter it a (i+1) kvs.length ep:=⟨iP,ng,lT,iD⟩;have I5:Inv X pins σ H3 s2:=I4.pins_of λp hp=>I4.pin p (by simp[hp]);have go:∀(s3:pX) (xs':Array pW) (c':Nat),Inv X pins σ H3 s3->s3.heap.get? it=dE iP->s3.heap.get? S=dE (WF xs' c')->(∃u v key x kv',xs'= #[u,v]/\kvs[xg (is++[l]) i]? =dE (key,x)/\zI (kV key) u/\(ks++[kv])[xg (is++[l]) i]? =dE kv'/\zI kv' v)->
     codeAny (model X.prog X.w) X.A (.builtin "min.loop" ⟨[.ref it,.ref f,.ref S],[]⟩) Rr s3:=λs3 xs' c' I6 rD uP hb=>by
    refine ih (i+1) H3 s3 (ks++[kv]) (is++[l]) iP xs' c' ⋯ lt (I6.pins_of λp hp=> ?_) ⟨iP,rD,lT,iD⟩ rB (.inr ⟨⋯,hb⟩);rcases AU.1 hp with hp|hp;exact I6.pin p (B5 _ hp);rcases AW.1 hp with rfl|hp;exact⟨rD,nr,(fI H3 nr).2.1,(fI H3 nr).2.2.1,λv z=>by rw[iD] at z;cases z⟩;rw[AI.1 hp];exact⟨uP,ml,(fS H3 ml).2.1,(fS H3 ml).2.2.1,λv z=>by cases z⟩
   have put:∀(hb:xg (is++[l]) i=i),codeAny (model X.prog X.w) X.A (.builtin "min.loop" ⟨[.ref it,.ref f,.ref S],[]⟩) Rr {s2 with heap:=s2.heap.update S (Obj.mapSeq λ_=> #[item,v])}:=λhb=>by
    obtain⟨c2,dW⟩:∃c2,(s2.heap.update S (Obj.mapSeq λ_=> #[item,v])).get? S=dE (WF #[item,v] c2):=⟨_,Heap.get?_update_self _ md rfl⟩
    refine go _ #[item,v] c2 (Inv.turnedL (t':=s2.toks) (fp:=[S]) I5 (λb o hb eo=>(Heap.get?_update_other _ _ λz=>hb (by simp[z])).trans eo) λb hb=>by
     rw[AI.1 hb];exact fS H3 ml) ((Heap.get?_update_other _ _ hS).trans ng) dW ⟨item,v,key,x,kv,rfl,by rw[hb];exact hx,rk,by rw[hb,AG ⋯,cL,BL];rfl,r4⟩
   rcases old with⟨rfl,rfl⟩|⟨h0,u0,v0,nE,x0,sT,rfl,jU,sG,lF,sF⟩
   .refine wpAny_bind (m:=updateSeq S (λ_=> #[item,v])) (wpAny_updateSeq md rfl (by
     rw[UI]
     exact wpAny_pure ⟨plainId_quiet CG _,put rfl⟩))
   have jS:xg (is++[l]) (i-1)=xg is (i-1):=zhS ⋯;have tZ:xg is (i-1)<=i-1:=zaA _ _;have g0:(is++[l]).getD (xg is (i-1)) []=is.getD (xg is (i-1)) []:=by
    rw[Av,Az ⋯,Av]
   have gi:(is++[l]).getD i []=l:=by
    rw[Av,AG ⋯,cW,BL];rfl
   have eJ:xg (is++[l]) i=if ltL l (is.getD (xg is (i-1)) [])=fJ then i else xg is (i-1):=by
    have hb:∀g:Nat->Nat->Bool,argBest g ((i-1)+1)=if g ((i-1)+1) (argBest g (i-1))=fJ then (i-1)+1 else argBest g (i-1):=λg=>rfl;have:=hb λi j=>ltL ((is++[l]).getD i []) ((is++[l]).getD j []);rw[show i-1+1=i by omega] at this;unfold xg at jS g0 ⊢;rw[this,jS,g0,gi]
   obtain⟨b1,x3,pY⟩:=lG i kv (by rw[AG ⋯,cL,BL];rfl);obtain⟨b0,x4,pZ⟩:=lG (xg is (i-1)) sT (by rw[Az ⋯];exact lF);rw[gi] at pY;rw[g0] at pZ;subst x3;subst x4;obtain rfl:v=Value.ref b1:=r4;obtain rfl:v0=Value.ref b0:=sF;obtain⟨t1,w1,p1,_⟩:=I5.tuple pY;obtain⟨t0,w0,p0,_⟩:=I5.tuple pZ;refine wpAny_bind (m:=tryCatch (holding [item,Value.ref b1] (richCompare .Lt (.ref b1) (.ref b0)>>=_)) _) (wpAny_tryCatch (wpAny_holding (wpAny_bind ?_)));refine HT.zfh (A:=X.A.in1) p1 p0 (zaR w1) (zaR w0) (by have:=hr.un;show X.A.units+1<_;omega) ?_;refine wpAny_bind (wpAny_holding (wpAny_truthy_bool (wpAny_bind (wpAny_letGo (wpAny_pure ?_)))));rw[zgO];cases lN:ltL l (is.getD (xg is (i-1)) []) with
   |true=>
    rw[if_pos rfl];rw[lN,if_pos rfl] at eJ
    refine wpAny_bind (wpAny_updateSeq md rfl (wpAny_bind (wpAny_letGo (by
     rw[UI]
     exact wpAny_pure ⟨plainId_quiet CG _,put eJ⟩))))
   |false=>
    rw[if_neg ∅];rw[lN,if_neg ∅] at eJ
    refine wpAny_bind (wpAny_letGo (by
     rw[UI]
     refine wpAny_pure ⟨plainId_quiet CG _,go s2 _ c I5 ng md ⟨u0,.ref b0,nE,x0,.ref b0,rfl,by rw[eJ];exact jU,sG,by rw[eJ,Az ⋯];exact lF,rfl⟩⟩)))
def znm(K:Ar)(R:V->mZ V->Hp->VK->Prop)(td tl:TE):TE:=λσ H Q=>td σ H λx H1=>∃a,x= .ref a/\tl σ H1 λy H2=>∃f kvs,y= .ref f/\H2 a=dE (.dK kvs)/\0<kvs.length/\∀o,∃J:Nat->mZ V->mZ (mZ Int)->Hp->Prop,J 0 [] [] (upd H2 a (.frz o (.dK kvs)))/\
 (∀i ks is H,J i ks is H->H a=dE (.frz o (.dK kvs))/\is.length=i/\ks.length=i/\∀(m:Nat) v,ks[m]? =dE v->∃b,v= .ref b/\SqT K H b ((is.getD m []).map V.int))/\
 (∀(i:Nat) ks is H2 key v,kvs[i]? =dE (key,v)->J i ks is H2->R (.ref f) [kV key] H2 (λv H3=>∃l,J (i+1) (ks++[v]) (is++[l]) H3))/\
 ∀ks is H3 key v,J kvs.length ks is H3->kvs[xg is (kvs.length-1)]? =dE (key,v)->Q (kV key) (upd H3 a (.dK kvs))
def zmd{K:Ar}{e l:Expr}{te tl:TE}{pp kp pos:Pos}(F:zjU X.prog X.w X.K X.mg X.base k R)(hr:xO (k+1) X.A)(hc:X.calm=fJ)(hg:Gl X "min")(hm:X.mg "min"=fC)(ha:PE X e te)(hl:PE X l tl)(hK:X.K=K:=by rfl)
  (uC:starEach [e] X.env=[(kb,eval e X.env)]:=by rfl) (he:backTo pos (starEach [e] X.env)=(kb,eval e X.env)::backTo pos (starEach [] X.env):=by rfl) (fR:(backTo pos (starEach [e] X.env)).any (·.1)=kb:=by rfl):
  PE X (.Call (.Name "min" pp) [e] [⟨dE "key",l,kp⟩] pos) (znm K R te tl):=by
 subst hK;intro pins s σ H Q I h;refine wpAny_Call_Name_kw (Zy I hg hm boot_min ?_ ∅ ∅)
 refine callWith_kw (thn (yg ha ze uC pos pins s σ H (λvs H1=>∃a,vs=[.ref a]/\tl σ H1 λy H2=>∃f kvs,y= .ref f/\H2 a=dE (.dK kvs)/\0<kvs.length/\∀o,∃J:Nat->mZ V->mZ (mZ Int)->Hp->Prop,J 0 [] [] (upd H2 a (.frz o (.dK kvs)))/\
   (∀i ks is H,J i ks is H->H a=dE (.frz o (.dK kvs))/\is.length=i/\ks.length=i/\∀(m:Nat) v,ks[m]? =dE v->∃b,v= .ref b/\SqT X.K H b ((is.getD m []).map V.int))/\
   (∀(i:Nat) ks is H2 key v,kvs[i]? =dE (key,v)->J i ks is H2->R (.ref f) [kV key] H2 (λv H3=>∃l,J (i+1) (ks++[v]) (is++[l]) H3))/\
   ∀ks is H3 key v,J kvs.length ks is H3->kvs[xg is (kvs.length-1)]? =dE (key,v)->Q (kV key) (upd H3 a (.dK kvs))) I ?_) ?_) he fR rfl rfl
 .have h:te σ H _:=h;show te σ H λx H1=>∃a,[x]=[V.ref a]/\_;simpa only[HA,and_true] using h
 rintro us s1 ⟨vs,H1,I1,r1,a,rfl,q⟩;obtain⟨u,rfl,ru⟩:=Wn r1;cases ru;show wpAny _ _ (evalAll [(do let v <-eval l X.env;standAt pos;pure v)]) _ _ _;refine wpAny_evalAll_cons (wpAny_bind (thn (hl _ _ σ H1 _ I1 q) ?_));rintro u s2 ⟨y,H2,I2,ry,f,kvs,ef,pG,hn,q2⟩;refine wpAny_bind (wpAny_standAt (wpAny_pure ?_));refine wpAny_evalAll_nil ?_;subst ef;obtain rfl:u=Value.ref f:=ry;obtain⟨hz,lo,vs,rel,ob,es,ep,e1,e2,e3,e4⟩:=zci I2.hok pG;obtain⟨J,j0,rd,turn,fin⟩:=q2 ob;have tX:=rel.length;have I3:Inv X pins σ (upd H2 a (.frz ob (.dK kvs))) s2:=Uo (h':=s2.heap) (t':=s2.toks) I2 (by rw[pG];exact Cp) ⟨rfl,λ_ _=>rfl⟩ ⟨ob,e1⟩ ⟨e1,hz,lo,vs,rel,ob,es,ep,e1,e2,e3,e4⟩;refine zjM PySem.F.kind_min PySem.F.plain_min PySem.F.entry_min (zkd _ _) (wpAny_bind (m:=Builtin.Builtins.bindParams "min" ["key","default"] 0 ⟨[],[(Str.ofString "key",.ref f)]⟩) (wpAny_of_eq (a:=[dE (.ref f),fC]) rfl (wpAny_bind (wpAny_pure (wpAny_bind (wpAny_pyIter_dict (knd:=yu X.prog X.w) (A:=X.A.in1) lo ⟨ob,es,e1,e2,e3,e4⟩ ?_))))));have hi:(s2.heap.push {cls:= .type "dict_keyiterator",data:= .fields #[.ref a,.int 0 0,.int vs.length 0,.int ep 0]}).get? s2.heap.objs.size=dE {cls:= .type "dict_keyiterator",data:= .fields #[.ref a,.int 0 0,.int vs.length 0,.int ep 0]}:=Heap.get?_push_size _ rfl;have k6:(s2.heap.push {cls:= .type "dict_keyiterator",data:= .fields #[.ref a,.int 0 0,.int vs.length 0,.int ep 0]}).objs.size=s2.heap.objs.size+1:=Heap.size_push ..;refine wpAny_bind (wpAny_newObj_type ?_);rw[UI];refine wpAny_pure ⟨plainId_quiet CG _,?_⟩;show codeAny (model X.prog X.w) X.A (.builtin "min.loop" ⟨[.ref s2.heap.objs.size,.ref f,.ref (s2.heap.push {cls:= .type "dict_keyiterator",data:= .fields #[.ref a,.int 0 0,.int vs.length 0,.int ep 0]}).objs.size],[]⟩) _ _;rw[k6];have kp:∀b o,s2.heap.get? b=dE o->((s2.heap.push {cls:= .type "dict_keyiterator",data:= .fields #[.ref a,.int 0 0,.int vs.length 0,.int ep 0]}).push (WF #[] 0)).get? b=dE o:=λb o e=>Heap.get?_push_of_some _ (Heap.get?_push_of_some _ e);have I4:=I3.kept (t':=s2.toks) (h':=(s2.heap.push {cls:= .type "dict_keyiterator",data:= .fields #[.ref a,.int 0 0,.int vs.length 0,.int ep 0]}).push (WF #[] 0)) kp;have fp:∀b,s2.heap.objs.size<=b->∀H',H' b=fC->UZ X pins H' b:=λb hb H' hn=>Inv.fpOk I2 hb hn;have n1:upd H2 a (.frz ob (.dK kvs)) s2.heap.objs.size=fC:=I3.hok.fresh (AF _);have n2:upd H2 a (.frz ob (.dK kvs)) (s2.heap.objs.size+1)=fC:=I3.hok.fresh (C7 _);have at2:((s2.heap.push {cls:= .type "dict_keyiterator",data:= .fields #[.ref a,.int 0 0,.int vs.length 0,.int ep 0]}).push (WF #[] 0)).get? (s2.heap.objs.size+1)=dE (WF #[] 0):=by rw[<-k6];exact Heap.get?_push_size _ rfl
 refine zke (a:=a) (kvs:=kvs) (es:=es) (J:=J) F hr hc e3 (Fj _) (fp _ (C7 _)) (fp _ (AF _)) hn rd turn (λks is H5 s5 u hj I5 hb=> ?_) _ 0 _ _ [] [] {cls:= .type "dict_keyiterator",data:= .fields #[.ref a,.int 0 0,.int vs.length 0,.int ep 0]} _ 0 rfl (Cj _) (I4.pins_of λp hp=> ?_) ⟨_,Heap.get?_push_of_some _ hi,rfl,by rw[tX];rfl⟩ j0 (.inl ⟨rfl,rfl⟩)
 .have jS:xg is (kvs.length-1)<kvs.length:=by
   have:=zaA (λi j=>ltL (is.getD i []) (is.getD j [])) (kvs.length-1);unfold xg;omega
  have e:=As jS;exact⟨_,_,I2.thaw pG I5 (rd _ _ _ _ hj).1,hb _ _ e,fin ks is H5 _ _ hj e⟩
 rcases AU.1 hp with hp|hp;exact I4.pin p (B5 _ hp);rcases AW.1 hp with rfl|hp;exact⟨Heap.get?_push_of_some _ hi,n1,(fp _ (AF _) _ n1).2.1,(fp _ (AF _) _ n1).2.2.1,λv z=>by cases z⟩;rw[AI.1 hp];exact⟨at2,n2,(fp _ (C7 _) _ n2).2.1,(fp _ (C7 _) _ n2).2.2.1,λv z=>by cases z⟩
end
def zad(H H':Hp):Prop:=∀b u,H b=dE u->(∀o ks,u≠ .frz o (.dK ks))->H' b=dE u
section
variable{K:Ar}
def YR.keepD(k:zad H H')(h:YR H q c):YR H' q c:=by
 obtain⟨oc,fs,t,e,r⟩:=h;exact⟨oc,fs,t,k _ _ e (λ_ _ z=>by cases z),r⟩
def Vu.keepD(k:zad H H')(h:Vu H L f vs):Vu H' L f vs:=by
 obtain⟨aO,pm,dc,c,h1,h2,h3,h4,h5,h6⟩:=h.ex;refine⟨aO,pm,dc,c,k _ _ h1 (λ_ _ z=>by cases z),h2.keepD k,λi x v e1 e2=> ?_,h4,h5,λx a e=> ?_⟩;obtain⟨a,o,u,e3,e4,r⟩:=h3 i x v e1 e2;exact⟨a,o,u,e3,k _ _ e4 (λ_ _ z=>by cases z),r⟩;obtain⟨o,u,e3,r⟩:=h6 x a e;exact⟨o,u,k _ _ e3 (λ_ _ z=>by cases z),r⟩
def Xis.keepD(k:zad H H')(h:Xis K j H x v):Xis K j H' x v:=
 Xis.rec (motive_1:=λx v _=>Xis K j H' x v) (motive_2:=λxs vs _=>zL K j H' xs vs) .non .bl .int .str (λh _ l=> .tup (k _ _ h λ_ _ z=>by cases z) l) (λh _ l=> .ct h l) (λh=> .ref h) (λh _ l=> .lam (h.keepD k) l) .nil (λ_ _ h l=> .cons h l) h
def zL.keepD(k:zad H H')(h:zL K j H xs vs):zL K j H' xs vs:=h.ind (m:=zL K j H') .nil λa _ c=> .cons (a.keepD k) c
def KX.keepD{κ:Type}{xs:mZ (κ×Xv)}{vs:mZ (κ×V)}(k:zad H H')(h:KX K j H xs vs):KX K j H' xs vs:=by
 induction h with
 |nil=>exact .nil
 |cons h _ ih=>exact .cons (h.keepD k) ih
def NX.keepD(k:zad H H')(h:NX K j H xs vs):NX K j H' xs vs:=by
 induction h with
 |nil=>exact .nil
 |cons e h1 h2 _ ih=>exact .cons e (h1.keepD k) (h2.keepD k) ih
def Uq.keepD(k:zad H H')(e0:H' a=H a)(h:Uq K j H a c):Uq K j H' a c:=by
 cases c with
 |lst l=>obtain⟨_,e,l⟩:=h;exact⟨_,e0.trans e,l.keepD k⟩
 |frz l=>
  obtain⟨_,e,l⟩:=h;rcases e with⟨o,e⟩|e;exact⟨_,.inl ⟨o,e0.trans e⟩,l.keepD k⟩;exact⟨_,.inr e,l.keepD k⟩
 |dk l=>obtain⟨_,e,l⟩:=h;exact⟨_,e0.trans e,l.keepD k⟩
 |dt l=>obtain⟨_,e,l⟩:=h;exact⟨_,e0.trans e,l.keepD k⟩
 |ins n l=>obtain⟨_,_,_,n,e,l⟩:=h;exact⟨_,_,_,n,e0.trans e,l.keepD k⟩
 |fdk l=>obtain⟨_,_,e,l⟩:=h;exact⟨_,_,e0.trans e,l.keepD k⟩
 |dn l=>obtain⟨_,e,l⟩:=h;exact⟨_,e0.trans e,l.keepD k⟩
 |fdn l=>obtain⟨_,_,e,l⟩:=h;exact⟨_,_,e0.trans e,l.keepD k⟩
 |exc c=>obtain⟨C,n,e⟩:=h;exact⟨C,n,e0.trans e⟩
 |tab t=>
  obtain⟨ps,d,e,x,t,r⟩:=h;refine⟨ps,d,e0.trans e,x,t,λpos cv q=> ?_⟩;obtain⟨c,e1,e2⟩:=r pos cv q;exact⟨c,e1,e2.keepD k⟩
end
section
variable{K:Ar}
set_option tactic.hygienic true in
def En.thaw(E0:En K F j H σ ρ S)(hs:S[n]? =dE (.dk kvs))(hj:j[n]? =dE a)(h0:H a=dE (.dK ks))(X:En K ⟨upd H a (.frz o (.dK ks)),j,S.set n (.fdk kvs)⟩ j' H' σ' ρ' S')(hn:S'[n]? =dE (.fdk kvs)):En K F j' (upd H' a (.dK ks)) σ ρ (S'.set n (.dk kvs))/\Ext j H j' (upd H' a (.dK ks)):=by
 have hf:H' a=dE (.frz o (.dK ks)):=X.ext.imm _ _ zw rfl;have g8:j'[n]? =dE a:=X.ext.pre n a hj;have kd:zad H' (upd H' a (.dK ks)):=λb u e z=>by
  rw[zi];exact e;intro q;subst q;rw[hf] at e;cases e;exact z _ _ rfl
 have sQ:n<S.length:=(Au.1 hs).1;have sf:∀{m:Nat},m≠n->(S.set n (.fdk kvs))[m]? =S[m]? :=λ{m} q=>by rw[Bc,if_neg (λz=>q z.symm)]
 have imm:∀b u,H b=dE u->u.mu=kb->upd H' a (.dK ks) b=dE u:=λb u e m=>by
  have hb:b≠a:=λz=>by subst z;rw[h0] at e;cases e;cases m
  rw[zi hb];exact X.ext.imm b u (by show upd H a (.frz o (.dK ks)) b=dE u;rw[zi hb];exact e) m
 have ex:Ext j H j' (upd H' a (.dK ks)):=⟨X.ext.pre,imm⟩;have nj:∀(m:Nat) l,m≠n->j'[m]? =dE a->S'[m]? ≠dE (.fdk l):=λm l hm e ec=>by
  by_cases hl:m<j.length
  .have e1:j[m]? =dE j[m]:=As hl;have e2:=X.ext.pre m _ e1;rw[e] at e2;injection e2 with e2
   rw[<-e2] at e1;have ia:m<S.length:=by rw[<-E0.jl];exact hl
   have es:S[m]? =dE S[m]:=As ia;generalize S[m]=cm at es;have hc:=E0.cel m _ a es e1;obtain⟨c2,f1,f2,f3⟩:=X.old m cm (show(S.set n (.fdk kvs))[m]? =dE cm by rw[sf hm,es]);rw[ec] at f1;cases f1;cases cm with
   |frz l=>cases f3 rfl
   |dk l=>exact hm (E0.inj m n a _ _ e1 hj es hs rfl rfl)
   |lst l=>obtain⟨_,q,_⟩:=hc;rw[h0] at q;cases q
   |dt l=>obtain⟨_,q,_⟩:=hc;rw[h0] at q;cases q
   |ins n l=>obtain⟨_,_,_,_,q,_⟩:=hc;rw[h0] at q;cases q
   |dn l=>obtain⟨_,q,_⟩:=hc;rw[h0] at q;cases q
   |fdk l=>obtain⟨_,_,q,_⟩:=hc;rw[h0] at q;cases q
   |fdn l=>obtain⟨_,_,q,_⟩:=hc;rw[h0] at q;cases q
   |exc c=>obtain⟨C,_,q⟩:=hc;rw[h0] at q;cases q
   |tab t=>obtain⟨_,_,q,_⟩:=hc;rw[h0] at q;cases q
  have:=X.fresh m a (by show j.length<=m;omega) e;have q:upd H a (.frz o (.dK ks)) a=fC:=this;rw[zw] at q;cases q
 have hk:∃ks',H' a=dE (.frz o (.dK ks'))/\KX K j' H' kvs ks':=by
  obtain⟨o',ks',q1,q2⟩:=X.cel n _ a hn g8;rw[hf] at q1;cases q1;exact⟨ks,hf,q2⟩
 obtain⟨ks',rM,u9⟩:=hk;rw[hf] at rM;cases rM;have sat:∀{m:Nat} {d:Ce},(S'.set n (.dk kvs))[m]? =dE d->(m=n/\d= .dk kvs)\/(m≠n/\S'[m]? =dE d):=λ{m d} e=>by
  rw[Bc] at e;split at e;rename_i q;split at e;cases e;exact .inl ⟨q.symm,rfl⟩;cases e;rename_i q;exact .inr ⟨λr=>q r.symm,e⟩
 have jj:∀(m:Nat) c,j'[m]? =dE a->S'[m]? =dE c->c.fz=kb->False:=λm c e1 e2 z=>by
  obtain⟨u,e,m⟩:=(X.cel m c a e2 e1).mu z;rw[hf] at e;cases e;cases m
 refine⟨⟨E0.len,λi x e=> ?_,by simp[X.jl],λm1 m2 b c1 c2 e1 e2 e3 e4 z1 z2=> ?_,λm d b e1 e2=> ?_,E0.ext.trans ex,λm c e=> ?_,E0.l0,λb u e=> ?_,λm b hm e=> ?_,λb e=> ?_⟩,ex⟩;obtain⟨v,e1,e2⟩:=E0.slot i x e;exact⟨v,e1,e2.mono ex⟩
 .rcases sat e3 with⟨rfl,rfl⟩|⟨q1,g3⟩
  .rw[g8] at e1;cases e1;rcases sat e4 with⟨rfl,_⟩|⟨q2,e4⟩
   .rfl
   exact (jj m2 c2 e2 e4 z2).elim
  rcases sat e4 with⟨r2,_⟩|⟨q2,g4⟩
  .rw[r2,g8] at e2;cases e2;exact(jj m1 c1 e1 g3 z1).elim
  exact X.inj m1 m2 b c1 c2 e1 e2 g3 g4 z1 z2
 .rcases sat e1 with⟨rfl,rfl⟩|⟨q,e1⟩
  .rw[g8] at e2;cases e2;exact⟨ks,zw,u9.keepD kd⟩
  have hc:=X.cel m d b e1 e2;by_cases hb:b=a
  .subst hb;cases d with
   |frz l=>
    obtain⟨vs,q|q,l⟩:=hc;obtain⟨o',q⟩:=q;rw[hf] at q;cases q;exact⟨vs,.inr q,l.keepD kd⟩
   |fdk l=>exact(nj m l q e2 e1).elim
   |fdn l=>obtain⟨_,_,q,_⟩:=hc;rw[hf] at q;cases q
   |exc c=>obtain⟨C,_,q⟩:=hc;rw[hf] at q;cases q
   |_=>exact(jj m _ e2 e1 rfl).elim
  exact hc.keepD kd (zi hb)
 .obtain⟨c1,e1,e2,e3⟩:=E0.old m c e;by_cases q:m=n;subst q;rw[hs] at e1;cases e1;refine⟨.dk kvs,by rw[Bc,if_pos rfl,if_pos (Au.1 hn).1],λ_=>e2 rfl,λy=> ?_⟩;rw[e2 rfl] at y;cases y;obtain⟨c2,f1,f2,f3⟩:=X.old m c1 (show(S.set n (.fdk kvs))[m]? =dE c1 by rw[sf q,e1]);refine⟨c2,by rw[Bc,if_neg (λz=>q z.symm)];exact f1,λz=>e2 (f2 z),λz=> ?_⟩;obtain rfl:=e3 z;exact f3 z
 .rcases E0.keep b u e with h1|h1
  .by_cases hb:b=a;subst hb;rw[h0] at h1;cases h1;exact .inl zw
   rcases X.keep b u (show upd H a (.frz o (.dK ks)) b=dE u by rw[zi hb];exact h1) with h2|⟨m,c,h2,h3,h4⟩
   .exact .inl (by rw[zi hb];exact h2)
   have h2:j[m]? =dE b:=h2;have h3:(S.set n (.fdk kvs))[m]? =dE c:=h3;have tU:m≠n:=λz=>by
    subst z;rw[Bc,if_pos rfl,if_pos sQ] at h3;cases h3;cases h4
   rw[sf tU] at h3;by_cases hl:m<F.j0.length
   .have e1:F.j0[m]? =dE F.j0[m]:=As hl;have e2:=E0.ext.pre m _ e1;rw[h2] at e2;injection e2 with e2
    rw[<-e2] at e1;have eL:m<F.S0.length:=by rw[<-E0.l0];exact hl
    obtain⟨c1,f1,f2,_⟩:=E0.old m _ (As eL);rw[h3] at f1;cases f1;exact .inr ⟨m,_,e1,As eL,f2 h4⟩
   rw[E0.fresh m b ⋯ h2] at e;cases e
  exact .inr h1
 .by_cases hl:m<j.length;have e1:j[m]? =dE j[m]:=As hl;have e2:=X.ext.pre m _ e1;rw[e] at e2;injection e2 with e2;rw[<-e2] at e1;exact E0.fresh m _ hm e1;have q:upd H a (.frz o (.dK ks)) b=fC:=X.fresh m b (by show j.length<=m;omega) e;refine E0.dom b ?_;by_cases hb:b=a;subst hb;rw[zw] at q;cases q;rw[zi hb] at q;exact q
 by_cases hb:b=a;subst hb;rw[zw] at e;cases e;rw[zi hb] at e;have q:upd H a (.frz o (.dK ks)) b=fC:=X.dom b e;rw[zi hb] at q;exact E0.dom b q
end
noncomputable def zae(tw:TwF):mZ (Key×Xv)->Sto->pU (mZ (mZ Int)×Sto)
 |[],S=>dE ([],S)
 |p::r,S=>match tw [kX p.1] S with
  |some (.ok x S1)=>(zcu x).bind λl=>(zae tw r S1).map λq=>(l::q.1,q.2)
  |_=>fC
noncomputable def zkf(fns:mZ (xK×(mZ Xv->TwF)))(d l:TwE):TwE:=λρ S=>rb (d ρ S) λx S1=>(wC S1 x).bind λ_=>rb (l ρ S1) λy S2=>match y,wC S2 x with
 | .lam L aK,dE (n,kvs)=>(Vx fns L).bind λtw=>(zae (tw aK) kvs (S2.set n (.fdk kvs))).bind λp=>(kvs[xg p.1 (kvs.length-1)]?).map λq=> .ok (kX q.1) (p.2.set n (.dk kvs))
 |_,_=>fC
section
variable{K:Ar}{E:XK}
set_option tactic.hygienic true in
def zme{fns:mZ (xK×(mZ Xv->TwF))}(hd:RE K E td d)(hl:RE K E tl l):RE K E (znm K (zov K fns) td tl) (zkf fns d l):=by
 intro F j σ H ρ S r Q En0 e0 k;rcases zt e0 with⟨x,S1,e1,e0⟩|⟨c,S1,e1,rfl⟩
 .refine hd En0 e1 λj1 H1 X1 E1 u hu=> ?_;rw[Bp] at e0;obtain⟨⟨n0,jo⟩,fW,e0⟩:=e0;obtain⟨a,k5,rfl,_,_,_⟩:=E1.dk hu fW;refine⟨a,rfl,?_⟩;rcases zt e0 with⟨y,S2,e2,e0⟩|⟨c,S2,e2,rfl⟩
  .refine hl E1 e2 λj2 H2 X2 E2 v hv=> ?_;split at e0
   .rename_i L aK n kvs e4;rw[Bp] at e0;obtain⟨tw,hp,e0⟩:=e0;rw[Bp] at e0;obtain⟨⟨is,S3⟩,h3,e0⟩:=e0;rw[AB] at e0;obtain⟨⟨key,kx⟩,h4,rfl⟩:=e0;obtain⟨f,rfl⟩:∃f,v= .ref f:=by cases hv with|lam _ _=>exact⟨_,rfl⟩
    obtain⟨a',ks,ea,hj,h5,h6⟩:=E2.dk (hu.mono X2) e4;cases ea;have hs:=(YW e4).2;have cL:=h6.len;refine⟨f,ks,rfl,h5,by rw[cL];have:=(Au.1 h4).1;dsimp only at this;omega,λo=> ?_⟩;obtain⟨E2f,X2f⟩:=E2.writeF (n:=n) (c':= .fdk kvs) (o:= .frz o (.dK ks)) hs rfl hj (λX=>⟨o,ks,zw,h6.mono X⟩)
    refine⟨λi kk im H3=>∃(j3:mZ qm) (S':Sto) (ys:mZ Xv) (rest:mZ (mZ Int)),En K ⟨upd H2 a (.frz o (.dK ks)),j2,S2.set n (.fdk kvs)⟩ j3 H3 σ ρ S'/\zL K j3 H3 ys kk/\ys.map zcu=im.map dE/\im.length=i/\zae (tw aK) (kvs.drop i) S'=dE (rest,S3)/\im++rest=is,
     ⟨j2,S2.set n (.fdk kvs),[],is,E2f.enter E2f.len E2f.slot,.nil,rfl,rfl,h3,rfl⟩,?_,?_,?_⟩
    .rintro i kk im H3 ⟨j3,S',ys,rest,E3,hy,kR,cW,_,_⟩;have qL:ys.length=im.length:=by rw[<-Aw (f:=zcu),kR,Aw]
     refine⟨E3.ext.imm _ _ zw rfl,cW,by rw[hy.len,qL,cW],λm w hw=> ?_⟩;obtain⟨z,ez,hz⟩:=hy.getV hw;have hm:m<im.length:=by rw[<-qL];exact(Au.1 ez).1
     have:=congrArg (λl=>l[m]?) kR;simp only[Ax,ez,Cr,As hm,Bm] at this;have:=zjS hz this;rwa [show im[m]=im.getD m [] by rw[Av,As hm];rfl] at this
    .rintro i kk im H3 key' v' hx ⟨j3,S',ys,rest,E3,hy,kR,cW,dZ,hd⟩;have hi:i<kvs.length:=by rw[<-cL];exact(Au.1 hx).1
     have jN:(kvs[i]).1=key':=by
      have:=congrArg (λl=>l[i]?) h6.keys;simp only[Ax,hx,As hi,Cr,Bm] at this;exact this.symm
     rw[DF hi] at dZ;unfold zae at dZ;split at dZ
     .rename_i z S4 e5;rw[Bp] at dZ;obtain⟨li,u3,dZ⟩:=dZ;rw[AB] at dZ;obtain⟨⟨r2,S5⟩,h7,h8⟩:=dZ;cases h8;rw[jN] at e5;have kW:zL K j3 H3 [kX key'] [kV key']:= .one zjQ;obtain⟨l1,s1⟩:=VL kW;have Xf:Ext j2 H2 j3 H3:=by
       refine⟨E3.ext.pre,λb u e m=>E3.ext.imm b u ?_ m⟩;show upd H2 a (.frz o (.dK ks)) b=dE u;rw[zi (λq=>by subst q;rw[h5] at e;cases e;cases m)];exact e
      refine⟨j3,S',S4,[kX key'],aK,L,tw,z,E3.enter l1 s1,hv.mono Xf,hp,e5,λw j' H' σ' ρ' Ex hz=> ?_⟩;obtain⟨E4,X4⟩:=E3.leave Ex;exact⟨li,j',S4,ys++[z],r2,E4,(hy.mono X4).append (.one hz),by simp[kR,u3],by simp[cW],h7,by rw[<-hd];simp⟩
     cases dZ
    rintro kk im H3 key' v' ⟨j3,S',ys,rest,E3,hy,kR,cW,dZ,hd⟩ hb;rw[cL,List.drop_length] at dZ;cases dZ;rw[CP] at hd;subst hd;rw[cL] at hb;have jN:key=key':=by
     have:=congrArg (λl=>l[xg im (kvs.length-1)]?) h6.keys;simp only[Ax,hb] at this;rw[h4] at this;simp only[Cr,Bm] at this;exact this.symm
    subst jN;have hn:S3[n]? =dE (.fdk kvs):=by
     obtain⟨c',f1,_,f3⟩:=E3.old n (.fdk kvs) (by show(S2.set n (.fdk kvs))[n]? =dE _;rw[Bc,if_pos rfl,if_pos (Au.1 hs).1]);rw[f3 rfl] at f1;exact f1
    obtain⟨E5,X5⟩:=E2.thaw hs hj h5 E3 hn;exact k _ _ (X1.trans (X2.trans X5)) E5 _ zjQ
   cases e0
  exact hl E1 e2 (PX.mono k X1)
 exact hd En0 e1 k
end
section
def zfU{g:Key->mZ Int}:∀(kvs:mZ (Key×Xv)),(∀p∈kvs,∃x,tw [kX p.1] S=dE (.ok x S)/\zcu x=dE (g p.1))->zae tw kvs S=dE (kvs.map λp=>g p.1,S):=by
 intro kvs
 induction kvs with
 |nil=>intro _;rfl
 |cons p r ih=>
  intro h;obtain⟨x,h1,h2⟩:=h p (.head _);unfold zae;rw[h1];dsimp only;rw[h2,AO,ih λq hq=>h q (.tail _ hq)];rfl
def zmf{fns:mZ (xK×(mZ Xv->TwF))}(h:W (d ρ S) λx S1=>(∃p,wC S1 x=dE p)/\W (l ρ S1) λy S2=>∃L aK tw n kvs is S3 q,y= .lam L aK/\Vx fns L=dE tw/\wC S2 x=dE (n,kvs)/\zae (tw aK) kvs (S2.set n (.fdk kvs))=dE (is,S3)/\kvs[xg is (kvs.length-1)]? =dE q/\P (kX q.1) (S3.set n (.dk kvs))):W (zkf fns d l ρ S) P:=by
 refine W.bind (h.imp λx S1 h=> ?_);obtain⟨⟨p,e0⟩,h⟩:=h;rw[e0,AO];refine W.bind (h.imp λy S2 h=> ?_);obtain⟨L,aK,tw,n,kvs,is,S3,q,rfl,h1,h2,h3,h4,k⟩:=h;rw[h2];dsimp only;rw[h1,AO,h3,AO,h4];exact .of rfl k
end
noncomputable abbrev zeN(T0:qm)(f:Bool)(TI TO:qm):Obj:={cls:= .type "zip",dict:=fC,data:= .fields #[rawInt T0,.bool f,.bool kb,.ref TI,.ref TO],slots:= #[]}
section
variable{w:World}{z TI TO i1 i2 l1 l2 T0:qm}{f:Bool}{k1 k2:Nat}{xs ys:Array pW}{x y:pW}{o:Obj}
def zg3{Q:Bool->pX->Prop}(hz:s.heap.get? z=dE (zeN T0 f TI TO))(ha:s.heap.get? T0=dE o)
  (h:∀h',h'.get? z=dE (zeN T0 fJ TI TO)->Heap.SameBut z s.heap h'->Q kb {s with heap:=h'}):wpAny (model prog w) A (Builtin.SmallTypes.ownedTupleIsFree (.ref z)) Q E s:=by
 unfold Builtin.SmallTypes.ownedTupleIsFree;refine wpAny_bind (wpAny_field hz rfl (x:=rawInt T0) rfl ?_);show wpAny _ _ (loadIfAlive (T0:Int).toNat>>=_) _ _ _;rw[AV];refine wpAny_bind (kdx_alive ha ?_);show wpAny _ _ (field (.ref z) 1>>=_) _ _ _;refine wpAny_bind (wpAny_field hz rfl (x:= .bool f) rfl ?_);cases f with
 |true=>
  rw[if_neg ∅];exact wpAny_pure (h s.heap hz ⟨rfl,λ_ _=>rfl⟩)
 |false=>
  rw[if_pos ∅];refine wpAny_bind (wpAny_setField_rec hz (by simp) λh₁ hz₁ hs₁=> ?_);exact wpAny_pure (h h₁ hz₁ hs₁)
def zmg(D:ZipApart z TI TO i1 i2 l1 l2)(hz:s.heap.get? z=dE (zeN T0 f TI TO))(ha:s.heap.get? T0=dE o)(dF:IsPair s.heap TI (.ref i1) (.ref i2))
  (h1:s.heap.IsListIter i1 l1 k1) (h2:s.heap.IsListIter i2 l2 k2) (hl1:s.heap.IsList l1 xs) (hl2:s.heap.IsList l2 ys) (hx:xs[k1]? =dE x) (hy:ys[k2]? =dE y)
  (hQ:∀h',h'.get? z=dE (zeN T0 fJ TI TO)->h'.IsListIter i1 l1 (k1+1)->h'.IsListIter i2 l2 (k2+1)->IsPair h' s.heap.objs.size x y->h'.objs.size=s.heap.objs.size+1->
   (∀c o,c≠z->c≠i1->c≠i2->s.heap.get? c=dE o->h'.get? c=dE o)->Q (.ref s.heap.objs.size) {s with heap:=h'}):
  wpAny (model prog w) A (Builtin.«zip.__next__» ⟨[.ref z],[]⟩) (λfin s'=>∃v,fin= .done (.ret v)/\Q v s') E s:=by
 show wpAny _ _ (field (.ref z) 2>>=_) _ _ _;refine wpAny_bind (wpAny_field hz rfl (x:= .bool kb) rfl ?_);show wpAny _ _ (field (.ref z) 3>>=_) _ _ _;refine wpAny_bind (wpAny_field hz rfl (x:= .ref TI) rfl ?_);refine wpAny_bind (wpAny_seqItems dF rfl ?_);show wpAny _ _ (Builtin.SmallTypes.ownedTupleIsFree (.ref z)>>=_) _ _ _;refine wpAny_bind (zg3 hz ha λh₁ hz₁ hs₁=> ?_);rw[if_neg ∅];refine wpAny_bind ?_;rw[<-DK];simp only[FG,G8];refine wpAny_bind (wpAny_bind (wpAny_holding ?_));show wpAny _ _ (Builtin.SmallTypes.nextOf (.ref i1)>>=_) _ _ _;refine wpAny_bind (wpAny_nextOf_list_item (h1.extBut hs₁.extBut D.i1z) (hl1.extBut hs₁.extBut D.l1z) hx λh₂ h1₂ hs₂=>wpAny_pure (wpAny_pure ?_));refine wpAny_bind (wpAny_bind (wpAny_holding ?_));show wpAny _ _ (Builtin.SmallTypes.nextOf (.ref i2)>>=_) _ _ _;refine wpAny_bind (wpAny_nextOf_list_item ((h2.extBut hs₁.extBut D.i2z).extBut hs₂.extBut D.i12.symm) ((hl2.extBut hs₁.extBut D.l2z).extBut hs₂.extBut D.l2i1) hy λh₃ h2₃ hs₃=>wpAny_pure ?_);refine wpAny_pure (wpAny_pure ?_);refine wpAny_bind (wpAny_newTuple (items:=[x,y]) ?_ (show 2<=sizeLine by decide));have hsz:h₃.objs.size=s.heap.objs.size:=by rw[hs₃.1,hs₂.1,hs₁.1]
 have hz₃:h₃.get? z=dE (zeN T0 fJ TI TO):=hs₃.extBut _ _ D.i2z.symm (hs₂.extBut _ _ D.i1z.symm hz₁);have h1₃:h₃.IsListIter i1 l1 (k1+1):=h1₂.extBut hs₃.extBut D.i12;refine wpAny_pure ⟨_,rfl,?_⟩;show Q (.ref h₃.objs.size) {s with heap:=h₃.push {cls:= .type "tuple",data:= .seq #[x,y]}};have hT:IsPair (h₃.push {cls:= .type "tuple",data:= .seq #[x,y]}) h₃.objs.size x y:=Heap.get?_push_size _ rfl;rw[hsz] at hT ⊢;exact hQ _ (Heap.get?_push_of_some _ hz₃) (h1₃.at λo e=>Heap.get?_push_of_some _ e) (h2₃.at λo e=>Heap.get?_push_of_some _ e) hT (by rw[Heap.size_push,hsz]) λc o c1 c3 c4 e=>
  Heap.get?_push_of_some _ (hs₃.extBut _ _ c4 (hs₂.extBut _ _ c3 (hs₁.extBut _ _ c1 e)))
def zox{Q:Fin->pX->Prop}(hh:A.handled=fC)(D:ZipApart z TI TO i1 i2 l1 l2)(hz:s.heap.get? z=dE (zeN T0 f TI TO))(ha:s.heap.get? T0=dE o)(dF:IsPair s.heap TI (.ref i1) (.ref i2))
  (h1:s.heap.IsListIter i1 l1 k1) (h2:s.heap.IsListIter i2 l2 k2) (hl1:s.heap.IsList l1 xs) (hl2:s.heap.IsList l2 ys) (ik:xs[k1]? =fC\/ys[k2]? =fC)
  (hE:∀h' e,(∀c o,c≠z->c≠i1->c≠i2->s.heap.get? c=dE o->h'.get? c=dE o)->(∃o,h'.get? e=dE o/\o.cls= .type "StopIteration")->E (.ref e) {s with heap:=h'}):
  wpAny (model prog w) A (Builtin.«zip.__next__» ⟨[.ref z],[]⟩) Q E s:=by
 show wpAny _ _ (field (.ref z) 2>>=_) _ _ _;refine wpAny_bind (wpAny_field hz rfl (x:= .bool kb) rfl ?_);show wpAny _ _ (field (.ref z) 3>>=_) _ _ _;refine wpAny_bind (wpAny_field hz rfl (x:= .ref TI) rfl ?_);refine wpAny_bind (wpAny_seqItems dF rfl ?_);show wpAny _ _ (Builtin.SmallTypes.ownedTupleIsFree (.ref z)>>=_) _ _ _;refine wpAny_bind (zg3 hz ha λh₁ hz₁ hs₁=> ?_);rw[if_neg ∅];refine wpAny_bind ?_;rw[<-DK];simp only[FG,G8];refine wpAny_bind (wpAny_bind (wpAny_holding ?_));show wpAny _ _ (Builtin.SmallTypes.nextOf (.ref i1)>>=_) _ _ _;cases hx:xs[k1]? with
 |none=>
  refine wpAny_bind (wpAny_nextOf_list_end hh (h1.extBut hs₁.extBut D.i1z) (hl1.extBut hs₁.extBut D.l1z) hx λh₂ e hs₂ he=> ?_);exact hE h₂ e (λc o c1 c3 _ x=>hs₂ _ _ c3 (hs₁.extBut _ _ c1 x)) he
 |some x=>
  have hy:ys[k2]? =fC:=by rcases ik with h|h;rw[hx] at h;cases h;exact h
  refine wpAny_bind (wpAny_nextOf_list_item (h1.extBut hs₁.extBut D.i1z) (hl1.extBut hs₁.extBut D.l1z) hx λh₂ h1₂ hs₂=>wpAny_pure (wpAny_pure ?_));refine wpAny_bind (wpAny_bind (wpAny_holding ?_));show wpAny _ _ (Builtin.SmallTypes.nextOf (.ref i2)>>=_) _ _ _;refine wpAny_bind (wpAny_nextOf_list_end hh ((h2.extBut hs₁.extBut D.i2z).extBut hs₂.extBut D.i12.symm) ((hl2.extBut hs₁.extBut D.l2z).extBut hs₂.extBut D.l2i1) hy λh₃ e hs₃ he=> ?_);exact hE h₃ e (λc o c1 c3 c4 x=>hs₃ _ _ c4 (hs₂.extBut _ _ c3 (hs₁.extBut _ _ c1 x))) he
structure zdx(h:Heap)(B z TI TO i1 i2 l1 l2:qm)(xs ys:Array pW)(i:Nat)(ts:mZ qm):Prop where
 ti:IsPair h TI (.ref i1) (.ref i2)
 h1:h.IsListIter i1 l1 i
 h2:h.IsListIter i2 l2 i
 hl1:h.IsList l1 xs
 hl2:h.IsList l2 ys
 zz:(i=0/\IsZip h z TI TO .none/\∃a b,IsPair h TO a b)\/∃T0 f o,h.get? z=dE (zeN T0 f TI TO)/\h.get? T0=dE o/\B<=T0
 len:ts.length=i
 ps:∀(m:Nat) t,ts[m]? =dE t->B<=t/\∃x y,xs[m]? =dE x/\ys[m]? =dE y/\IsPair h t x y
 nd:ts.Pairwise (· < ·)
def zdx.keep{h h':Heap}{B:qm}{i:Nat}{ts:mZ qm}(st:zdx h B z TI TO i1 i2 l1 l2 xs ys i ts){S:qm}(hS:S<B)(n1:S≠z/\S≠TI/\S≠TO/\S≠i1/\S≠i2/\S≠l1/\S≠l2)(k:∀b o,b≠S->h.get? b=dE o->h'.get? b=dE o):zdx h' B z TI TO i1 i2 l1 l2 xs ys i ts:=by
 obtain⟨a1,a2,a3,a4,a5,a6,a7⟩:=n1;refine⟨k _ _ a2.symm st.ti,st.h1.at λo e=>k _ o a4.symm e,st.h2.at λo e=>k _ o a5.symm e,st.hl1.at λo e=>k _ o a6.symm e,st.hl2.at λo e=>k _ o a7.symm e,?_,st.len,λm t e=> ?_,st.nd⟩
 .rcases st.zz with⟨e,z1,a,b,z2⟩|⟨T0,f,o,z1,z2,z3⟩
  .exact .inl ⟨e,k _ _ a1.symm z1,a,b,k _ _ a3.symm z2⟩
  exact .inr ⟨T0,f,o,k _ _ a1.symm z1,k _ _ (λq=>by subst q;exact absurd hS (Hl z3)) z2,z3⟩
 obtain⟨b,x,y,e1,e2,e3⟩:=st.ps m t e;exact⟨b,x,y,e1,e2,k _ _ (λq=>by subst q;exact absurd hS (Hl b)) e3⟩
end
section
variable{w:World}{z TI TO i1 i2 l1 l2 B:qm}{xs ys:Array pW}
def zmh{i:Nat}{ts:mZ qm}{x y:pW}{Q:pU pW->pX->Prop}(D:ZipApart z TI TO i1 i2 l1 l2)(hB:z<B/\TI<B/\TO<B/\i1<B/\i2<B/\l1<B/\l2<B)(st:zdx s.heap B z TI TO i1 i2 l1 l2 xs ys i ts)(hx:xs[i]? =dE x)(hy:ys[i]? =dE y)(hs:B<=s.heap.objs.size)
  (cQ:∀t∈ts,t<s.heap.objs.size)
  (hQ:∀h',zdx h' B z TI TO i1 i2 l1 l2 xs ys (i+1) (ts++[s.heap.objs.size])->h'.objs.size=s.heap.objs.size+1->(∀c o,c≠z->c≠TO->c≠i1->c≠i2->s.heap.get? c=dE o->h'.get? c=dE o)->Q (dE (.ref s.heap.objs.size)) {s with heap:=h'}):
  wpAny (model prog w) A (pyNext (.ref z)) Q E s:=by
 obtain⟨b1,b2,b3,b4,b5,b6,b7⟩:=hB;have fin:∀h',(∃T0 f o,h'.get? z=dE (zeN T0 f TI TO)/\h'.get? T0=dE o/\B<=T0)->h'.IsListIter i1 l1 (i+1)->h'.IsListIter i2 l2 (i+1)->IsPair h' s.heap.objs.size x y->(∀c o,c≠z->c≠TO->c≠i1->c≠i2->s.heap.get? c=dE o->h'.get? c=dE o)->zdx h' B z TI TO i1 i2 l1 l2 xs ys (i+1) (ts++[s.heap.objs.size]):=λh' hz h1 h2 hp hk=>by
  refine⟨hk _ _ D.TIz D.TITO D.TIi1 D.TIi2 st.ti,h1,h2,st.hl1.at λo e=>hk _ o D.l1z D.l1TO D.l1i1 D.l1i2 e,st.hl2.at λo e=>hk _ o D.l2z D.l2TO D.l2i1 D.l2i2 e,.inr hz,by simp[st.len],λm t e=> ?_,?_⟩
  .by_cases hm:m<ts.length;rw[Az hm] at e;obtain⟨b,x,y,e1,e2,e3⟩:=st.ps m t e;exact⟨b,x,y,e1,e2,hk _ _ (Bo (AJ b1 b)) (Bo (AJ b3 b)) (Bo (AJ b4 b)) (Bo (AJ b5 b)) e3⟩
   rw[AG ⋯] at e;have:m=i:=by
    have:=(Au.1 e).1;simp at this;have:=st.len;omega
   subst this;rw[st.len,BL] at e;cases e;exact⟨hs,x,y,hx,hy,hp⟩
  rw[List.pairwise_append];exact⟨st.nd,List.pairwise_singleton _ _,λa ha b hb=>by rw[AI.1 hb];exact cQ a ha⟩
 rcases st.zz with⟨rfl,hz,a,b,dH⟩|⟨T0,f,o,hz,ha,mU⟩
 .refine wpAny_pyNext_zip_item D hz st.ti dH st.h1 st.h2 st.hl1 st.hl2 hx hy λh' a1 a2 a3 a4 a5 a6 hk=>hQ h' (fin h' ⟨_,kb,_,a1,a5,hs⟩ a3 a4 a5 hk) a6 hk
 have hT:s.TypeIs (.ref z) "zip":=⟨_,hz,rfl⟩;unfold pyNext
 refine wpAny_bind (wpAny_attempt (wpAny_callSpecial?_slot (name:=Str.ofString "__next__") hT Dx
  (wpAny_call_entry Dx hT FV
   (zmg D hz ha st.ti st.h1 st.h2 st.hl1 st.hl2 hx hy λh' a1 a3 a4 a5 a6 hk=>wpAny_pure ?_) (FA _))))
 have fU:∀c o,c≠z->c≠TO->c≠i1->c≠i2->s.heap.get? c=dE o->h'.get? c=dE o:=λc o c1 _ c3 c4 e=>hk c o c1 c3 c4 e;exact hQ h' (fin h' ⟨T0,fJ,o,a1,hk _ _ (Bo (AJ b1 mU)) (Bo (AJ b4 mU)) (Bo (AJ b5 mU)) ha,mU⟩ a3 a4 a5 fU) a6 fU
def zmi{i:Nat}{ts:mZ qm}{Q:pU pW->pX->Prop}(hh:A.handled=fC)(D:ZipApart z TI TO i1 i2 l1 l2)(st:zdx s.heap B z TI TO i1 i2 l1 l2 xs ys i ts)(ik:xs[i]? =fC\/ys[i]? =fC)
  (hQ:∀h',(∀c o,c≠z->c≠TO->c≠i1->c≠i2->s.heap.get? c=dE o->h'.get? c=dE o)->Q fC {s with heap:=h'}):wpAny (model prog w) A (pyNext (.ref z)) Q E s:=by
 rcases st.zz with⟨rfl,hz,a,b,dH⟩|⟨T0,f,o,hz,ha,hT⟩
 .exact wpAny_pyNext_zip_end hh D hz st.ti dH st.h1 st.h2 st.hl1 st.hl2 ik hQ
 have hT:s.TypeIs (.ref z) "zip":=⟨_,hz,rfl⟩;unfold pyNext
 refine wpAny_bind (wpAny_attempt (wpAny_callSpecial?_slot (name:=Str.ofString "__next__") hT Dx
  (wpAny_call_entry Dx hT FV (zox hh D hz ha st.ti st.h1 st.h2 st.hl1 st.hl2 ik λh' e hk he=> ?_) (FA _))))
 obtain⟨o,ho,hc⟩:=he;refine wpAny_bind (wpAny_isInstance (T:="StopIteration") (b:=fJ) ⟨o,ho,hc⟩ isSubtype_stop ?_);exact wpAny_pure (hQ _ λc o c1 _ c3 c4 e=>hk c o c1 c3 c4 e)
end
def zhT:typeLookup (.type "zip") "__len__"=pure fC:=by rw[typeLookup_type,builtinLookup_eq_fast];kernel_rfl
def zfV:typeLookup (.type "zip") "__length_hint__"=pure fC:=by rw[typeLookup_type,builtinLookup_eq_fast];kernel_rfl
noncomputable abbrev zqL(ts:mZ qm)(c:Nat):Obj:={cls:= .type "list",dict:=fC,data:= .seq (ts.map Value.ref).toArray c,slots:= #[]}
section
variable{z TI TO i1 i2 l1 l2 B S:qm}{R:Result->pX->Prop}
def zmj(hh:A.handled=fC)(D:ZipApart z TI TO i1 i2 l1 l2)(hB:z<B/\TI<B/\TO<B/\i1<B/\i2<B/\l1<B/\l2<B)(hS:S<B)(nS:S≠z/\S≠TI/\S≠TO/\S≠i1/\S≠i2/\S≠l1/\S≠l2)(he:xs.size=ys.size)(hz:xs.size<=sizeLine):
  ∀(q i:Nat) (s:pX) (ts:mZ qm) (c:Nat),xs.size-i=q->i<=xs.size->zdx s.heap B z TI TO i1 i2 l1 l2 xs ys i ts->B<=s.heap.objs.size->(∀t∈ts,t<s.heap.objs.size)->s.heap.get? S=dE (zqL ts c)->
   (∀(h':Heap) (ts':mZ qm) (c':Nat),ts'.length=xs.size->(∀(m:Nat) t,ts'[m]? =dE t->B<=t/\∃x y,xs[m]? =dE x/\ys[m]? =dE y/\IsPair h' t x y)->ts'.Pairwise (· < ·)->h'.get? S=dE (zqL ts' c')->(∀b o,b≠S->b≠z->b≠TO->b≠i1->b≠i2->s.heap.get? b=dE o->h'.get? b=dE o)->R (.ok (.ret res)) {s with heap:=h'})->
   codeAny (model prog w) A (.builtin "list.extend.loop" ⟨[.ref S,.ref z,res],[]⟩) R s:=by
 obtain⟨b1,b2,b3,b4,b5,b6,b7⟩:=hB;have up:∀{t a:qm},a<B->B<=t->t≠a:=λh1 h2=>Bo (AJ h1 h2);intro q
 induction q with
 |zero=>
  intro i s ts c hq hi st hs cQ hl fin;obtain rfl:i=xs.size:=by omega
  refine codeAny_builtin F9 ?_;rw[Around.under_plainId D7 _];show wpAny _ A.in1 (pyNext (.ref z)>>=_) _ _ s;refine wpAny_bind (zmi hh D st (.inl (Array.getElem?_eq_none (AF _))) λh' hk=> ?_);refine wpAny_pure (fin h' ts c st.len (λm t e=> ?_) st.nd (hk _ _ nS.1 nS.2.2.1 nS.2.2.2.1 nS.2.2.2.2.1 hl) λb o _ c1 c2 c3 c4 e=>hk b o c1 c2 c3 c4 e);obtain⟨h1,x,y,h2,h3,h4⟩:=st.ps m t e;exact⟨h1,x,y,h2,h3,hk _ _ (up b1 h1) (up b3 h1) (up b4 h1) (up b5 h1) h4⟩
 |succ q ih=>
  intro i s ts c hq hi st hs cQ hl fin;have rC:i<xs.size:=by omega
  refine codeAny_builtin F9 ?_;rw[Around.under_plainId D7 _];show wpAny _ A.in1 (pyNext (.ref z)>>=_) _ _ s;refine wpAny_bind (zmh D ⟨b1,b2,b3,b4,b5,b6,b7⟩ st (Fb rC) (Fb ⋯) hs cQ λh' st' nV hk=> ?_);have g7:=hk _ _ nS.1 nS.2.2.1 nS.2.2.2.1 nS.2.2.2.2.1 hl;show wpAny _ A.in1 (updateSeq S (·.push (.ref s.heap.objs.size))>>=_) _ _ _;refine wpAny_bind ?_;have hsz:((ts.map Value.ref).toArray).size=i:=by simp[st.len]
  refine wpAny_updateSeq g7 rfl (wpAny_pure ⟨plainId_quiet D7 _,?_⟩) (by rw[hsz];omega) (by show((ts.map Value.ref).toArray.push _).size<=sizeLine+1;rw[Hz,hsz];omega);have cM:∀b o,b≠S->h'.get? b=dE o->(h'.update S (Obj.mapSeq (·.push (Value.ref s.heap.objs.size)))).get? b=dE o:=λb o hb e=>(Heap.get?_update_other _ _ (BH hb)).trans e;have hl2:∃c2,(h'.update S (Obj.mapSeq (·.push (Value.ref s.heap.objs.size)))).get? S=dE (zqL (ts++[s.heap.objs.size]) c2):=by
   obtain⟨c2,e2⟩:∃c2,(h'.update S (Obj.mapSeq (·.push (Value.ref s.heap.objs.size)))).get? S=dE (seqObj "list" ((ts.map Value.ref).toArray.push (Value.ref s.heap.objs.size)) c2):=⟨_,get?_update_seq g7 (·.push (Value.ref s.heap.objs.size))⟩;exact⟨c2,by rw[e2];simp[zqL]⟩
  obtain⟨c2,hl2⟩:=hl2;have gy:(h'.update S (Obj.mapSeq (·.push (Value.ref s.heap.objs.size)))).objs.size=s.heap.objs.size+1:=by rw[Heap.size_update,nV]
  refine ih (i+1) _ (ts++[s.heap.objs.size]) c2 ⋯ rC (st'.keep hS nS cM) (AA hs (by show _<=Gg _;rw[gy];exact C7 _)) (λt ht=> ?_) hl2 λv3 ts' c' f1 f2 f3 f4 f5=>fin v3 ts' c' f1 f2 f3 f4 λb o c0 c1 c2 c3 c4 e=>f5 b o c0 c1 c2 c3 c4 (cM b o c0 (hk b o c1 c2 c3 c4 e));show t<Gg _;rw[gy];rcases AU.1 ht with ht|ht;exact BZ (cQ t ht);rw[AI.1 ht];exact Cd _
def zhU(hh:A.handled=fC)(D:ZipApart z TI TO i1 i2 l1 l2)(hB:z<B/\TI<B/\TO<B/\i1<B/\i2<B/\l1<B/\l2<B)(hS:S<B)(nS:S≠z/\S≠TI/\S≠TO/\S≠i1/\S≠i2/\S≠l1/\S≠l2)(he:xs.size=ys.size)(hz:xs.size<=sizeLine)
  (st:zdx s.heap B z TI TO i1 i2 l1 l2 xs ys 0 []) (hs:B<=s.heap.objs.size) (c₀:Nat) (hl:s.heap.get? S=dE {cls:= .type "list",data:= .seq #[] c₀}) (gO:IsZip s.heap z TI TO .none)
  (fin:∀(h':Heap) (ts':mZ qm) (c':Nat),ts'.length=xs.size->(∀(m:Nat) t,ts'[m]? =dE t->B<=t/\∃x y,xs[m]? =dE x/\ys[m]? =dE y/\IsPair h' t x y)->ts'.Pairwise (· < ·)->h'.get? S=dE (zqL ts' c')->(∀b o,b≠S->b≠z->b≠TO->b≠i1->b≠i2->s.heap.get? b=dE o->h'.get? b=dE o)->R (.ok (.ret res)) {s with heap:=h'}):
  wpAny (model prog w) A.in1 (Builtin.List.listExtendWith (.ref S) (.ref z) res)
   (λfin s'=>match fin with| .done f=>R (.ok f) s'| .again c'=>c'.quiet=fJ/\codeAny (model prog w) A c' R s') (λe s'=>R (.error e) s') s:=by
 have hT:s.TypeIs (.ref z) "zip":=⟨_,gO,rfl⟩;unfold Builtin.List.listExtendWith;refine wpAny_bind (wpAny_typeOf hT ?_);have h1:Builtin.List.listSameRef (.ref S) (.ref z)=kb:=by simp[Builtin.List.listSameRef,nS.1]
 have h2:(Value.type "zip"==Value.type "list")=kb:=by decide
 have h3:(Value.type "zip"==Value.type "tuple")=kb:=by decide
 simp only[h1,h2,h3,HI,DM,if_false];refine wpAny_bind (wpAny_pyIter_zip gO ?_);refine wpAny_bind (wpAny_holding ?_);unfold Builtin.List.listLengthHint;refine wpAny_bind (wpAny_specialOf hT zhT ?_);show wpAny _ A.in1 (specialOf (Value.ref z) (Str.ofString "__length_hint__")>>=_) _ _ _;refine wpAny_bind (wpAny_specialOf hT zfV ?_);refine wpAny_pure ?_
 show wpAny _ A.in1 (rule "list.extend.makes-room">>=λ_=>Builtin.List.listTouch (.ref S)>>=λ_=>
  again (.builtin "list.extend.loop" ⟨[.ref S,.ref z,res],[]⟩)) _ _ _
 refine wpAny_bind (wpAny_rule ?_);refine wpAny_bind ?_;show wpAny _ A.in1 (updateSeq S (·.push .none)>>=λ_=>updateSeq S (·.pop)) _ _ _;refine wpAny_bind (wpAny_updateSeq hl rfl ?_);have mV:=Heap.get?_update_self (Obj.mapSeq (·.push Value.none)) hl rfl;refine wpAny_updateSeq (hz:=by seq_fits) mV rfl ?_;have uO:=Heap.get?_update_self (Obj.mapSeq (·.pop)) mV rfl;have cM:∀b o,b≠S->s.heap.get? b=dE o->((s.heap.update S (Obj.mapSeq (·.push Value.none))).update S (Obj.mapSeq (·.pop))).get? b=dE o:=
  λb o hb e=>(Heap.get?_update_other _ _ (BH hb)).trans ((Heap.get?_update_other _ _ (BH hb)).trans e)
 refine wpAny_pure ⟨plainId_quiet D7 _,?_⟩;refine zmj hh D hB hS nS he hz _ 0 _ [] _ rfl (Cj _) (st.keep hS nS cM) (by show B<=Gg _;rw[Heap.size_update,Heap.size_update];exact hs) (λt ht=>nomatch ht) uO λh' ts' c' f1 f2 f3 f4 f5=>fin h' ts' c' f1 f2 f3 f4 λb o c0 c1 c2 c3 c4 e=>f5 b o c0 c1 c2 c3 c4 (cM b o c0 e)
def zmk(hh:A.handled=fC)(D:ZipApart z TI TO i1 i2 l1 l2)(hB:z<s.heap.objs.size/\TI<s.heap.objs.size/\TO<s.heap.objs.size/\i1<s.heap.objs.size/\i2<s.heap.objs.size/\l1<s.heap.objs.size/\l2<s.heap.objs.size)(he:xs.size=ys.size)(hz:xs.size<=sizeLine)
  (gO:IsZip s.heap z TI TO .none) (dF:IsPair s.heap TI (.ref i1) (.ref i2)) (dH:IsPair s.heap TO a b) (h1:s.heap.IsListIter i1 l1 0) (h2:s.heap.IsListIter i2 l2 0) (hl1:s.heap.IsList l1 xs) (hl2:s.heap.IsList l2 ys)
  (fin:∀(h':Heap) (ts:mZ qm) (c:Nat),ts.length=xs.size->(∀(m:Nat) t,ts[m]? =dE t->s.heap.objs.size<t/\∃x y,xs[m]? =dE x/\ys[m]? =dE y/\IsPair h' t x y)->ts.Pairwise (· < ·)->h'.get? s.heap.objs.size=dE (zqL ts c)->(∀b o,b≠z->b≠TO->b≠i1->b≠i2->s.heap.get? b=dE o->h'.get? b=dE o)->Q (.ref s.heap.objs.size) {s with heap:=h'}):
  wpAny (model prog w) A (call (.type "list") [.ref z]) Q E s:=by
 refine callType_codes (Q₁:=λobj s₁=>obj= .ref s.heap.objs.size/\s₁={s with heap:=s.heap.push {cls:= .type "list",data:= .seq #[]}}) PySem.F.called_list (PySem.F.typeCall_list_1 _) PySem.F.entry_list_init
  (code_list_new _ ⟨rfl,rfl⟩) λobj s₁ h₁=> ?_
 obtain⟨rfl,rfl⟩:=h₁;obtain⟨b1,b2,b3,b4,b5,b6,b7⟩:=hB;have hS:(s.heap.push {cls:= .type "list",data:= .seq #[]}).get? s.heap.objs.size=dE {cls:= .type "list",data:= .seq #[]}:=Heap.get?_push_size _ rfl;have hsz:(s.heap.push {cls:= .type "list",data:= .seq #[]}).objs.size=s.heap.objs.size+1:=Heap.size_push ..;refine⟨⟨_,hS,rfl⟩,PySem.F.args_list_init_2 _ _,?_⟩;show wpAny _ A.in1.in1 (do let old <-Builtin.List.listItems (.ref s.heap.objs.size);Builtin.List.listUpdate (.ref s.heap.objs.size) (λ_=> #[]);letGo old.toList.reverse;Builtin.List.listExtendWith (.ref s.heap.objs.size) (.ref z) .none) _ _ _;refine wpAny_bind ?_;unfold Builtin.List.listItems;refine wpAny_bind (wpAny_seqItems hS rfl (wpAny_pure ?_));show wpAny _ A.in1.in1 (updateSeq s.heap.objs.size (λ_=> #[])>>=λ_=>letGo (#[]:Array pW).toList.reverse>>=λ_=>Builtin.List.listExtendWith (.ref s.heap.objs.size) (.ref z) .none) _ _ _;refine wpAny_bind (wpAny_updateSeq hS rfl ?_);have mV:=Heap.get?_update_self (Obj.mapSeq (λ_=>(#[]:Array pW))) hS rfl;have cM:∀b o,s.heap.get? b=dE o->((s.heap.push {cls:= .type "list",data:= .seq #[]}).update s.heap.objs.size (Obj.mapSeq (λ_=>(#[]:Array pW)))).get? b=dE o:=
  λb o e=>(Heap.get?_update_other _ _ (Bo (Heap.lt_size e))).trans (Heap.get?_push_of_some _ e)
 refine wpAny_bind (wpAny_letGo ?_);refine zhU (B:=s.heap.objs.size+1) hh D ⟨BZ b1,BZ b2,BZ b3,BZ b4,BZ b5,BZ b6,BZ b7⟩ (Cd _) ⟨Bo b1,Bo b2,Bo b3,Bo b4,Bo b5,Bo b6,Bo b7⟩ he hz
  ⟨cM _ _ dF,h1.at λo e=>cM _ o e,h2.at λo e=>cM _ o e,hl1.at λo e=>cM _ o e,hl2.at λo e=>cM _ o e,.inl ⟨rfl,cM _ _ gO,a,b,cM _ _ dH⟩,rfl,λm t e=>by simp at e,F7⟩ (by show _<=Gg _;rw[Heap.size_update,hsz];exact AF _) _ mV (cM _ _ gO) λh' ts' c' f1 f2 f3 f4 f5=>⟨rfl,fin h' ts' c' f1 f2 f3 f4 λb o c1 c2 c3 c4 e=>f5 b o (B3 (Heap.lt_size e)) c1 c2 c3 c4 (cM b o e)⟩
end
noncomputable def zbR(H:Hp)(as:mZ qm)(dI:mZ (V×V)):Hp:=λb=>match (as.zip dI).find? λx=>decide (x.1=b) with
 |some x=>dE (.tup [x.2.1,x.2.2])
 |none=>H b
def zg4{as:mZ qm}{dI:mZ (V×V)}(nd:as.Nodup){j:Nat}{a:qm}{x y:V}(h1:as[j]? =dE a)(h2:dI[j]? =dE (x,y)):zbR H as dI a=dE (.tup [x,y]):=by
 have:(as.zip dI).find? (λx=>decide (x.1=a))=dE (a,x,y):=by
  induction as generalizing j dI with
  |nil=>simp at h1
  |cons b as ih=>
   cases dI with
   |nil=>simp at h2
   |cons q dI=>
    rw[DI,C2];cases j with
    |zero=>simp at h1 h2;subst h1 h2;simp
    |succ j=>
     have h1:as[j]? =dE a:=by simpa using h1
     have cu:b≠a:=λe=>(BU.1 nd).1 (e ▸ Ay h1);simp only[decide_eq_false cu];exact ih (BU.1 nd).2 h1 (by simpa using h2)
 unfold zbR;rw[this]
def WG(h:b∉as):zbR H as dI b=H b:=by
 have:(as.zip dI).find? (λx=>decide (x.1=b))=fC:=GK.2 λx hx=>by
  obtain⟨x1,x2⟩:=x;have:=(Dm hx).1;simp;exact λe=>h (e ▸ this)
 unfold zbR;rw[this]
def zkg(nd:as.Nodup)(hl:as.length=dI.length)(h:zbR H as dI b=dE u)(hb:b∈as):∃(j:Nat) (x y:V),as[j]? =dE b/\dI[j]? =dE (x,y)/\u= .tup [x,y]:=by
 obtain⟨j,hj⟩:=Bi hb;have mM:j<dI.length:=by rw[<-hl];exact(Au.1 hj).1
 obtain⟨⟨x,y⟩,e⟩:∃p,dI[j]? =dE p:=⟨_,As mM⟩;rw[zg4 nd hj e] at h;cases h;exact⟨j,x,y,hj,e,rfl⟩
def zkh(H:Hp)(ps:mZ qm)(dI:mZ (V×V)):Prop:=ps.length=dI.length/\∀(m:Nat) p x y,ps[m]? =dE p->dI[m]? =dE (x,y)->H p=dE (.tup [x,y])
def zki(K:Ar)(ta:TA):TE:=λσ H Q=>ta σ H λvs H1=>∃a b xs ys,vs=[.ref a,.ref b]/\SqL K H1 a xs/\SqL K H1 b ys/\xs.length=ys.length/\∀H2 ps l,Zz H1 H2->zkh H2 ps (xs.zip ys)->H2 l=fC->Q (.ref l) (upd H2 l (.lst (ps.map V.ref)))
def zkj{K:Ar}{l m:Expr}{ta:TA}{p p2 pos da:Pos}(hc:X.calm=fJ)(hg:Gl X "list")(hm:X.mg "list"=fC)(oV:Gl X "zip")(iV:X.mg "zip"=fC)(ha:PA X [l,m] ta)(hK:X.K=K:=by rfl)
  (hs:starEach [l,m] X.env=[(kb,eval l X.env),(kb,eval m X.env)]:=by rfl) (dP:starEach [m] X.env=[(kb,eval m X.env)]:=by rfl) (he:starEach [.Call (.Name "zip" p2) [l,m] [] da] X.env=[(kb,eval (.Call (.Name "zip" p2) [l,m] [] da) X.env)]:=by rfl):
  PE X (.Call (.Name "list" p) [.Call (.Name "zip" p2) [l,m] [] da] [] pos) (zki K ta):=by
 subst hK;intro pins s σ H Q I h;refine wpAny_Call_Name_kw (Zy I hg hm boot_list ?_ ∅ ∅);refine BJ ?_ he rfl;rw[he];show wpAny _ _ (spliced ((kb,eval (.Call (.Name "zip" p2) [l,m] [] da) X.env)::backTo pos [])) _ _ s;refine Calls.spliced_cons ?_;refine wpAny_Call_Name_kw (Zy I oV iV Boot.«zip» ?_ ∅ ∅);refine BJ (thn (ha da pins s σ H _ I h) λus s1 ⟨vs,H1,I1,r1,q1⟩=> ?_) (by rw[hs,dP]) (by rw[dP];rfl);obtain⟨a,b,xs,ys,rfl,hq,ck,hlen,q⟩:=q1;obtain⟨u,u',rfl,ru,ru'⟩:=zgn r1;cases ru;cases ru';obtain⟨ae,rv,pl,hz⟩:=I1.list hq;obtain⟨its',rv',pl',nV⟩:=I1.list ck;have kL:a<s1.heap.objs.size:=by obtain⟨o,n,e,_⟩:=id pl;exact Heap.lt_size e
 have kK:b<s1.heap.objs.size:=by obtain⟨o,n,e,_⟩:=id pl';exact Heap.lt_size e
 refine call_zip_2 pl.isList pl'.isList λh' kQ dF dH h1 h2 hsz hk=> ?_;refine Calls.spliced_nil ?_;have hl:=rv.length;have g7:=rv'.length;have big:∀{c:Nat},c<s1.heap.objs.size->∀d:Nat,c≠s1.heap.objs.size+d:=λh d=>B3 (AJ h (Df _ _));have lo:∀d:Nat,d<5->s1.heap.objs.size+d<h'.objs.size:=λd hd=>by rw[hsz];exact Nat.add_lt_add_left hd _
 have D:ZipApart (s1.heap.objs.size+4) (s1.heap.objs.size+2) (s1.heap.objs.size+3) s1.heap.objs.size (s1.heap.objs.size+1) a b:=⟨by simp,by simp,by simp,by simp,by simp,by simp,by simp,by simp,by simp,by simp,big kL _,big kL _,big kL 0,big kL _,big kK _,big kK _,big kK 0,big kK _⟩;refine zmk (s:={s1 with heap:=h'}) (I1.ok.hd hc) D ⟨lo 4 ∅,lo 2 ∅,lo 3 ∅,lo 0 ∅,lo 1 ∅,by show a<h'.objs.size;rw[hsz];exact AJ kL (Df _ _),by show b<h'.objs.size;rw[hsz];exact AJ kK (Df _ _)⟩ (by rw[AQ,AQ];omega) (by rw[AQ,<-hl];exact hz) kQ dF dH h1 h2 (pl.isList.at λo e=>hk _ o e) (pl'.isList.at λo e=>hk _ o e) λg ts c f1 f2 f3 f4 f5=> ?_;have nd:ts.Nodup:=f3.imp λh e=>absurd h (by rw[e];exact C0 _);have oI:ts.length=(xs.zip ys).length:=by rw[f1,AQ,FJ,<-hlen,Fo,hl]
 have kp:∀b o,s1.heap.get? b=dE o->g.get? b=dE o:=λb o e=>f5 b o (big (Heap.lt_size e) 4) (big (Heap.lt_size e) 3) (big (Heap.lt_size e) 0) (big (Heap.lt_size e) 1) (hk b o e);have fV:∀t∈ts,s1.heap.objs.size<=t/\t≠h'.objs.size:=λt ht=>by
  obtain⟨m,hm⟩:=Bi ht;have e:h'.objs.size<t:=(f2 m t hm).1;refine⟨?_,Bo e⟩;rw[hsz] at e;exact AX (B9 (Df _ _) e)
 have pr:∀(m:Nat) t x y,ts[m]? =dE t->(xs.zip ys)[m]? =dE (x,y)->∃u v,zI x u/\zI y v/\IsPair g t u v:=λm t x y e1 e2=>by
  obtain⟨_,u,v,g1,g2,g3⟩:=f2 m t e1;rw[Ct] at e2;obtain⟨u',hu,ru⟩:=rv.get e2.1;obtain⟨v',hv,sE⟩:=rv'.get e2.2;have g1:ae[m]? =dE u:=by simpa using g1
  have g2:its'[m]? =dE v:=by simpa using g2
  rw[g1] at hu;rw[g2] at hv;cases hu;cases hv;exact⟨u,v,ru,sE,g3⟩
 have old:Zz H1 (zbR H1 ts (xs.zip ys)):=λb u e=>by
  rw[WG];exact e;intro hb;have:=(I1.hok b u e).lt;exact absurd (AJ this (fV b hb).1) (C0 _)
 have I2:Inv X pins σ (zbR H1 ts (xs.zip ys)) {s1 with heap:=g,toks:=s1.toks}:=by
  refine zeB I1 kp old (λb u e=> ?_) λb u e n=> ?_;by_cases hb:b∈ts;exact .inr (fV b hb).1;rw[WG hb] at e;exact .inl e;by_cases hb:b∈ts;obtain⟨j,x,y,e1,e2,rfl⟩:=zkg nd oI e hb;obtain⟨u,v,ru,rv,g3⟩:=pr j b x y e1 e2;exact⟨by show 2<=sizeLine;decide,[u,v],.cons ru (.cons rv .nil),_,g3,rfl,_,rfl,rfl⟩;rw[WG hb,n] at e;cases e
 have hD:h'.objs.size∉ts:=λhb=>(fV _ hb).2 rfl;have nD:zbR H1 ts (xs.zip ys) h'.objs.size=fC:=by
  rw[WG hD];exact I1.hok.fresh (by rw[hsz];exact Df _ _)
 have tz:zkh (zbR H1 ts (xs.zip ys)) ts (xs.zip ys):=⟨oI,λm p x y e1 e2=>zg4 nd e1 e2⟩;have I3:Inv X pins σ (upd (zbR H1 ts (xs.zip ys)) h'.objs.size (.lst (ts.map V.ref))) {s1 with heap:=g,toks:=s1.toks}:=by
  refine zeB I1 kp (λb u e=> ?_) (λb u e=> ?_) λb u e n=> ?_;rw[zi];exact old b u e;intro z;subst z;rw[old _ u e] at nD;cases nD;by_cases hb:b=h'.objs.size;right;rw[hb,hsz];exact Df _ _;rw[zi hb] at e;by_cases hb:b∈ts;exact .inr (fV b hb).1;rw[WG hb] at e;exact .inl e;by_cases hb:b=h'.objs.size
  .subst hb;rw[zw] at e;cases e;refine⟨by rw[Aw,f1,AQ,<-hl];exact hz,ts.map Value.ref,c,?_,f4⟩;clear f1 f2 f3 f4 f5 nd oI fV pr old I2 hD nD tz
   induction ts with
   |nil=>exact .nil
   |cons t r ih=>exact .cons rfl ih
  rw[zi hb] at e;have:=I2.hok b u e;refine this.stay (λ_ _ _ q=>q) (λd q=> ?_) λd xs q=> ?_;rw[zi (λz=>by subst z;rw[nD] at q;cases q)];exact q;rw[zi (λz=>by subst z;rw[nD] at q;cases q)];exact q
 exact⟨.ref _,_,I3,rfl,q _ ts _ old tz nD⟩
noncomputable def zbS(xs ys:mZ Xv):mZ Xv:=(xs.zip ys).map λp=> .tup [p.1,p.2]
def zfW(ms:mZ TwE):TwE:=λρ S=>rb (evL ms ρ S) λxs S1=>match xs with
 |[x,y]=>(zF S1 x).bind λus=>(zF S1 y).bind λvs=>if us.length=vs.length then dE (.ok (.ref S1.length) (S1++[.lst (zbS us vs)])) else fC
 |_=>fC
section
variable{K:Ar}{E:XK}
def zml(h1:zL K j H us xs)(h2:zL K j H vs ys)(t:zkh H ps (xs.zip ys)):zL K j H (zbS us vs) (ps.map V.ref):=by
 induction us generalizing vs xs ys ps with
 |nil=>
  obtain rfl:=h1.nil_inv;obtain⟨t,_⟩:=t;have:ps=[]:=by cases ps with|nil=>rfl|cons _ _=>simp at t
  subst this;exact .nil
 |cons u us ih=>
  obtain⟨x,xr,rfl,a1,a2⟩:=h1.cons_inv;cases vs with
  |nil=>
   obtain rfl:=h2.nil_inv;obtain⟨t,_⟩:=t;have:ps=[]:=by cases ps with|nil=>rfl|cons _ _=>simp at t
   subst this;exact .nil
  |cons v vs=>
   obtain⟨y,yr,rfl,b1,b2⟩:=h2.cons_inv;obtain⟨t1,t2⟩:=t;cases ps with
   |nil=>simp at t1
   |cons p ps=>
    rw[DI] at t1 t2;refine .cons (.tup (t2 0 p x y rfl rfl) (.cons a1 (.one b1))) (ih a2 b2 ⟨by simpa using t1,λm q x y e1 e2=>t2 (m+1) q x y (by simpa using e1) (by simpa using e2)⟩)
set_option tactic.hygienic true in
def zkk(h:RL K E t (evL ms)):RE K E (zki K t) (zfW ms):=by
 walk_at "!c"
 .refine h En0 e1 λj1 H1 X1 E1 vs hv=> ?_;split at e;rename_i x y;rw[Bp] at e;obtain⟨us,e2,e⟩:=e;rw[Bp] at e;obtain⟨ws,e3,e⟩:=e;split at e;rename_i hl;cases e;obtain⟨p,q,rfl,hp,hq⟩:=hv.d2;obtain⟨a,as,rfl,f1,f2⟩:=E1.lstAt hp e2;obtain⟨b,bs,rfl,g1,g2⟩:=E1.lstAt hq e3;refine⟨a,b,as,bs,rfl,f1.sql,g1.sql,by rw[f2.len,g2.len,hl],λH2 ps l sm tz hn=> ?_⟩;have X2:Ext j1 H1 j1 H2:=Ext.same sm;obtain⟨E3,X3,h3⟩:=(E1.heap sm).lst (zml (f2.mono X2) (g2.mono X2) tz) hn;exact k _ _ (X1.trans (X2.trans X3)) E3 _ h3;cases e;cases e
 exact h En0 e1 k
end
def zkl(h:W (evL ms ρ S) λxs S1=>∃x y us vs,xs=[x,y]/\zF S1 x=dE us/\zF S1 y=dE vs/\us.length=vs.length/\P (.ref S1.length) (S1++[.lst (zbS us vs)])):W (zfW ms ρ S) P:=by
 refine W.bind (h.imp λxs S1 h=> ?_);obtain⟨x,y,us,vs,rfl,h1,h2,h3,q⟩:=h;dsimp only;rw[h1,AO,h2,AO,if_pos h3];exact .of rfl q
end L2
namespace L2
def zpR(s:Stmt):Expr:=match s with
 | .For _ e _ _ _=>e
 |_=>noE
noncomputable def zpS(s:Stmt)(i:Nat):Stmt:=match s with
 | .For _ _ b _ _=>b.getD i (.Pass ⟨0,0,0,0⟩)
 | .If _ b _ _=>b.getD i (.Pass ⟨0,0,0,0⟩)
 |_=> .Pass ⟨0,0,0,0⟩
def kwE(e:Expr):Expr:=match e with
 | .Call _ _ (⟨_,l,_⟩::_) _=>l
 |_=>noE
set_option tactic.hygienic true in
def zhV{K:Ar}{E E':XK}(dB:AY K mainGlobals nm=dE (dE (.ref C)))(h:RL K E t (evL ms))(hn:ms.length+1=n:=by rfl):RE K E (ziu C (sTw K n tw) [] E' t) (zbo nm tw ms):=by
 walk_at "!c"
 .refine h En0 e1 λj1 H1 X1 E1 vs hv=> ?_;intro x dx hx ph cu;rw[CP];split at e
  .rename_i S2 e2;cases e;have jt:upd H1 dx (.own x) x=fC:=by rw[zi (λz=>cu z.symm)];exact hx
   obtain⟨E2,X2⟩:=E1.new (p:=dx) (o:= .own x) ph;obtain⟨E3,X3⟩:=E2.cell (p:=x) (o:= .ins C dx []) (c:= .ins nm []) jt ⟨C,dx,[],dB,zw,.nil⟩;have X23:=X2.trans X3;have hr:Xis K (j1++[x]) (upd (upd H1 dx (.own x)) x (.ins C dx [])) (.ref S1.length) (.ref x):= .ref (by rw[<-E1.jl];simp);refine Vg E3 (.cons hr (hv.mono X23)) (by rw[B7,hv.len,Xq e1,hn]) e2 λj' H' X E4 v hw=> ?_;exact⟨hw.non_inv,k _ _ (X1.trans (X23.trans X)) E4 _ (hr.mono X)⟩
  cases e
 exact h En0 e1 k
def VN:∀(names:mZ (Str×NameKind)) (n:Nat) (acc:mZ (Str×qm)),cellsFrom n names acc=cellsFrom n names []++acc:=by
 intro names
 induction names with
 |nil=>intro n acc;rfl
 |cons p r ih=>
  intro n acc;obtain⟨name,kind⟩:=p;unfold cellsFrom;split;rw[ih (n+1) ((name,n)::acc),ih (n+1) [(name,n)],Eb];rfl;exact ih n acc
set_option tactic.hygienic true in
def zoy:∀(names:mZ (Str×NameKind)) (n:Nat) {x:Str} {c:qm},(x,c)∈cellsFrom n names []->(x,NameKind.cell)∈names:=by
 intro names
 induction names with
 |nil=>intro n x c h;cases h
 |cons p r ih=>
  intro n x c h;obtain⟨name,kind⟩:=p;unfold cellsFrom at h;split at h
  .rename_i hk;rw[VN] at h;rcases AU.1 h with h|h;exact B8 _ (ih _ h)
   have:kind= .cell:=by simpa using hk
   rw[AI.1 h|>λe=>(Ic e).1,<-this];exact Bu
  exact B8 _ (ih _ h)
set_option tactic.hygienic true in
def zfX:∀(names:mZ (Str×NameKind)) (n:Nat) {x:Str},(x,NameKind.cell)∈names->∃c,(x,c)∈cellsFrom n names []:=by
 intro names
 induction names with
 |nil=>intro n x h;cases h
 |cons p r ih=>
  intro n x h;obtain⟨name,kind⟩:=p;unfold cellsFrom;rcases AW.1 h with h|h;cases h;show ∃c,(x,c)∈cellsFrom (n+1) r [(x,n)];rw[VN];exact⟨n,B5 _ Bu⟩;obtain⟨c,hc⟩:∃c,(x,c)∈cellsFrom (if (kind==NameKind.cell)=fJ then n+1 else n) r []:=ih _ h;split;rename_i hk;rw[if_pos hk] at hc;rw[VN];exact⟨c,D6 _ hc⟩;rename_i hk;rw[if_neg hk] at hc;exact⟨c,hc⟩
structure WH(X:Cx)(sc:Scope):Prop where
 nd:(sc.names.map (·.1)).Nodup
 kind:sc.kind= .function
 names:∀y∈sc.names,y.2= .local->sc.names.lookup y.1=dE .local
 free:∀y∈sc.names,y.2= .free->X.env.kindOf y.1=dE .cell\/X.env.kindOf y.1=dE .free
def zkm:∀{names:mZ (Str×NameKind)},(names.map (·.1)).Nodup->∀{x:Str} {j k:NameKind},(x,j)∈names->(x,k)∈names->j=k:=by
 intro names
 induction names with
 |nil=>intro _ x j k h;cases h
 |cons p r ih=>
  intro hn x j k h1 h2;rw[AZ,BU] at hn;rcases AW.1 h1 with e1|h1;rcases AW.1 h2 with e2|h2;rw[<-e1] at e2;exact(Ic e2).2.symm;exact absurd (Be.2 ⟨_,h2,rfl⟩) (by rw[show x=p.1 by rw[<-e1]];exact hn.1);rcases AW.1 h2 with e2|h2;exact absurd (Be.2 ⟨_,h1,rfl⟩) (by rw[show x=p.1 by rw[<-e2]];exact hn.1);exact ih hn.2 h1 h2
def UJ{env:Env}(hk:k= .cell\/k= .free):∀{names:mZ (Str×NameKind)},
  (names.map λ(n,k)=>if (k==NameKind.free&&env.scope.kind== .function&&env.kindOf n==dE .cell) then (n,NameKind.cell) else (n,k)).lookup x=dE k->(x,NameKind.free)∈names\/(x,NameKind.cell)∈names:=by
 intro names
 induction names with
 |nil=>intro h;simp at h
 |cons p r ih=>
  intro h;obtain⟨n,j⟩:=p;have h:CN x ((if (j==NameKind.free&&env.scope.kind== .function&&env.kindOf n==dE .cell)=fJ then (n,NameKind.cell) else (n,j))::_)=_:=h;by_cases hj:(j==NameKind.free&&env.scope.kind== .function&&env.kindOf n==dE .cell)=fJ
  .rw[if_pos hj,Bx] at h;have g8:j= .free:=by
    simp only[BV,beq_iff_eq] at hj;exact hj.1.1
   cases hx:x==n with
   |true=>rw[eq_of_beq hx,<-g8];exact .inl Bu
   |false=>
    rw[hx] at h;exact(ih h).imp (B8 _) (B8 _)
  rw[if_neg hj,Bx] at h;cases hx:x==n with
  |true=>
   rw[hx] at h;have h':j=k:=BF h;rw[eq_of_beq hx];rcases hk with e|e;rw[h',e];exact .inr Bu;rw[h',e];exact .inl Bu
  |false=>
   rw[hx] at h;exact(ih h).imp (B8 _) (B8 _)
noncomputable def UK(sc:Scope)(C:qm)(env:Env):mZ (Str×qm):=cellsFrom (C+1) sc.names (Xn sc env)
noncomputable def yX(X:Cx)(N':mZ Str)(sc:Scope)(C:qm)(s₀:pX)(H₀:Hp)(fp:mZ qm):Cx:={ziO X N' sc C s₀ H₀ fp with env:=compEnvC sc (UK sc C X.env) C X.env,fn:=λx=>sc.names.lookup x==dE .cell}
def zpT{C:qm}(hO:CellsOk h (C+1) (cellsFrom (C+1) sc.names []))(hm:(x,NameKind.cell)∈sc.names)(e:(UK sc C env).lookup x=dE c):C<=c:=by
 obtain⟨d,hd⟩:=zfX sc.names (C+1) hm;obtain⟨d',g9⟩:=wQ hd;unfold UK at e;rw[VN,DN,g9] at e;cases e;exact AX (hO.empty x _ (Bh g9)).2
def zeO(h:(UK sc C env).lookup x=dE c):(x,c)∈cellsFrom (C+1) sc.names []\/(env.cells.lookup x=dE c/\(sc.names.lookup x==dE .cell)=kb):=by
 unfold UK at h;rw[VN,DN] at h;cases e:(cellsFrom (C+1) sc.names []).lookup x with
 |some d=>rw[e] at h;cases h;exact .inl (Bh e)
 |none=>
  rw[e] at h;refine .inr ⟨YQ (by simpa using h),?_⟩;cases q:(sc.names.lookup x==dE NameKind.cell) with
  |false=>rfl
  |true=>
   obtain⟨d,hd⟩:=zfX sc.names (C+1) (Bh (eq_of_beq q));obtain⟨d',g9⟩:=wQ hd;rw[e] at g9;cases g9
def UL(h:(UK sc C env).lookup x=dE c):(x,c)∈cellsFrom (C+1) sc.names []\/env.cells.lookup x=dE c:=(zeO h).imp (λz=>z) (·.1)
def zkn(B:WH X sc)(h:(x,NameKind.free)∈sc.names)(e:X.env.cells.lookup x=dE c):(UK sc C X.env).lookup x=dE c:=by
 unfold UK;rw[VN,DN];cases q:(cellsFrom (C+1) sc.names []).lookup x with
 |some d=>exact absurd (zkm B.nd h (zoy _ _ (Bh q))) ∅
 |none=>simpa using zaX h e
def zoz(h:(x,NameKind.cell)∈sc.names):∃c,(UK sc C env).lookup x=dE c:=by
 obtain⟨c,hc⟩:=zfX sc.names (C+1) h;obtain⟨d,hd⟩:=wQ hc;refine⟨d,?_⟩;unfold UK;rw[VN,DN,hd];rfl
def zdy{Q:Env->pX->Prop}
  (hQ:Q (newEnv scope s.heap.objs.size globals (cellsFrom (s.heap.objs.size+1) scope.names cl) qual fC .none (dE env) bt) {s with heap:=pushCells (s.heap.push {cls:= .type "dict",data:= .dict #[]}) scope.names}):
  wpAny M A (newFunctionEnv scope globals cl [] qual fC .none (dE env) bt) Q E s:=by
 simp only[newFunctionEnv,GI,if_true];refine wpAny_bind (wpAny_alloc ?_);refine wpAny_bind (wpAny_layCells _ (λname kind cells=>by cases uc:kind==NameKind.cell<;>simp[uc]) _ _ _ _ ?_);rw[show({s with heap:=s.heap.push {cls:= .type "dict",data:= .dict #[]}}:pX).heap.objs.size=s.heap.objs.size+1 from Heap.size_push ..];rw[G8];exact wpAny_bind (wpAny_pure (wpAny_pure hQ))
section
def Inv.closureC(I:Inv X pins σ H s)(B:WH X sc):closureFor sc X.env=pure (Xn sc X.env):=
 Vt λy hy e=>I.ok.has y.1 (B.free y hy e)
def zfY{h₁:Heap}{t':Nat}{fp:mZ qm}{acc C:qm}{s₀:pX}{m:Str->pU pW}
  (I:Inv X pins σ H s) (B:WH X sc) (cp:vD X sc cap N') (hf:∀b∈fp,UZ X pins H b) (jO:∀b∈fp,b<s.heap.objs.size) (cA:acc=s.heap.objs.size) (ho:s₀.os=s.os) (oU:s₀.gens=s.gens)
  (h0:s₀.heap=s.heap.push {cls:= .type "list",data:= .seq #[]}) (hC:C=s₀.heap.objs.size)
  (hO:CellsOk h₁ (C+1) (cellsFrom (C+1) sc.names [])) (dB:h₁.Ns C m) (gE:∀b o,s₀.heap.get? b=dE o->h₁.get? b=dE o):
  Inv (yX X N' sc C s₀ (upd H acc (.lst [])) fp) [] (Zr cap σ) (upd H acc (.lst [])) {s₀ with heap:=h₁,toks:=t'}:=by
 have rF:H acc=fC:=I.hok.fresh (Ci cA.symm);have iH:∀b o,s.heap.get? b=dE o->s₀.heap.get? b=dE o:=λb o e=>by rw[h0];exact Heap.get?_push_of_some _ e
 have kq:s₀.heap.objs.size=s.heap.objs.size+1:=by rw[h0,Heap.size_push]
 have I0:Inv X pins σ (upd H acc (.lst [])) {s with heap:=s₀.heap,toks:=s.toks}:=I.laid iH (Ci cA.symm) ⟨Cj _,[],0,.nil,by rw[h0,cA];exact Heap.get?_push_size _ rfl⟩;have CX':∀b,b<s.heap.objs.size->b≠C:=λb hb=>B3 (by rw[hC,kq];exact BZ hb);have CA:∀b,b<s.heap.objs.size->b≠acc:=λb hb=>B3 (by rw[cA];exact hb);have cellLt:∀x c,X.env.cells.lookup x=dE c->c<s.heap.objs.size:=λx c e=>by
  obtain⟨v,o,q,_⟩:=I.cell x c e;exact Heap.lt_size q
 have pP:∀b,b<s.heap.objs.size->∀x c,(x,c)∈cellsFrom (C+1) sc.names []->b≠c:=λb hb x c z=>by
  have h1:=(hO.empty x c z).2;have h2:=kq;rw[<-hC] at h2;exact B3 (AJ hb (AA (C7 _) (AA (Ci h2.symm) (AA (C7 _) h1))))
 have inj:∀x y c,(UK sc C X.env).lookup x=dE c->(UK sc C X.env).lookup y=dE c->x=y:=λx y c h1 h2=>by
  rcases UL h1 with a1|a1;rcases UL h2 with a2|a2;exact name_of_addr hO.apart a1 a2;exact absurd rfl (pP c (cellLt y c a2) x c a1);rcases UL h2 with a2|a2;exact absurd rfl (pP c (cellLt x c a1) y c a2);exact I.ok.inj x y c a1 a2
 refine⟨⟨I.ok.mod,B.kind,I.ok.glob,I.ok.blt,Ci hC.symm,inj,λx hx=> ?_,λx c h e=>(h.elim (λz=>AA (Ci hC.symm) (zpT hO (Bh (eq_of_beq z)) e)) λz=>El z),I.ok.hd,I.ok.frames,.inl rfl,λb hb=>⟨CX' b (jO b hb),λx c e=>(UL e).elim (λz=>(pP b (jO b hb) x c z).symm) ((hf b hb).2.2.2.2.1 x c)⟩,
   λb o e=> ?_,?_,λb o e hb=> ?_,λb hb hz=> ?_,I0.stack,I0.stkFree⟩,
  rfl,?_,Un.kept gE,⟨m,dB,λj x v h1 h2 h3=> ?_⟩,λx c e=> ?_,?_,λx c e=> ?_,λp hp=>absurd (show p∈([]:mZ (qm×Obj)) from hp) (by simp),I0.hok.kept gE,?_⟩
 .have hm:(x,NameKind.free)∈sc.names\/(x,NameKind.cell)∈sc.names:=by
   rcases hx with hx|hx;exact UJ (env:=X.env) (.inl rfl) hx;exact UJ (env:=X.env) (.inr rfl) hx
  rcases hm with hm|hm;obtain⟨c,hc⟩:=I.ok.has x (B.free _ hm rfl);exact⟨c,zkn B hm hc⟩;exact zoz hm
 .obtain⟨e1,e2⟩:=I.bs b o e;exact⟨iH b o e1,by show upd H acc (.lst []) b=fC;rw[zi (CA b (Heap.lt_size e1))];exact e2⟩
 .exact AA I.ok.bsz (AA I.sz (by show _<=s₀.heap.objs.size;omega))
 .rcases (hf b hb).2.2.2.1 with z|z;exact I.ok.noex b o e z;exact absurd (AJ (Heap.lt_size e) (AA I.ok.bsz z)) (C0 _)
 .rcases AW.mp (I.stkSub b hz) with e|e;exact (hf b hb).2.1 e;exact (hf b hb).2.2.1 e
 .show AllBare s₀.gens;rw[oU];exact I.bare
 .obtain⟨i,e1,e2⟩:=zcl h2;obtain⟨e3,e4⟩:=cp.at j i x e1 h1;have hm:(x,NameKind.free)∈sc.names:=Bh e4;have hk:=B.free _ hm rfl;obtain⟨m0,A4,hl⟩:=I.loc;obtain⟨u,r,l⟩:=hl i x v e3 e2 (by rcases hk with k|k;exact .inr (.inl k);exact .inr (.inr k));refine⟨u,r,.inr ?_⟩;rcases l with⟨k,_⟩|⟨_,c,hc,o,q,d⟩
  .rcases hk with k'|k';rw[k] at k';cases k';rw[k] at k';cases k'
  exact⟨wJ (env:=X.env) e4,c,zkn B hm hc,o,gE c o (iH c o q),d⟩
 .rcases UL e with z|z;obtain⟨o,q,d⟩:=(hO.empty x c z).1;exact⟨_,o,q,d⟩;obtain⟨v,o,q,d⟩:=I.cell x c z;exact⟨v,o,gE c o (iH c o q),d⟩
 .show upd H acc (.lst []) C=fC;rw[zi (by rw[hC,cA,kq];exact Fj _)];exact I.hok.fresh (by rw[hC,kq];exact C7 _)
 .show upd H acc (.lst []) c=fC\/((sc.names.lookup x==dE .cell)=kb/\∃o,upd H acc (.lst []) c=dE (.frz o (.own 0)));rcases zeO e with z|⟨z,zf⟩
  .have h1:=(hO.empty x c z).2;have h2:s.heap.objs.size<c:=by
    rw[hC,kq] at h1;exact AJ (BZ (Cd _)) h1
   rw[zi (by rw[cA];exact Bo h2)];exact .inl (I.hok.fresh (AX h2))
  rw[zi (CA c (cellLt x c z))];exact(I.freeC x c z).imp (λz=>z) λz=>⟨zf,z.2⟩
 show (Zr cap σ).length=N'.length;unfold Zr;rw[Aw];exact cp.len
def zbs{use:pU (pW->Sem Unit)}{R:qm->Hp->Prop}
  (hc:X.calm=fJ) (B:WH X sc) (cp:vD X sc cap N') (hi:PI X tg iter wi) (ow:zhx cap g)
  (hg:∀C s₀ H₀ fp,PG (yX X N' sc C s₀ H₀ fp) tg g) (ht:∀C s₀ H₀ fp,PTs (yX X N' sc C s₀ H₀ fp) ifs tt) (he:∀C s₀ H₀ fp,PE (yX X N' sc C s₀ H₀ fp) elt te)
  (hs:∀x,foldedSetIterable iter X.env x=pure x)
  (I:Inv X pins σ H s) (h:wi σ H λJ H1=>∀acc,H1 acc=fC->ziP cap g tt te J σ acc H1 (R acc))
  (fin:∀(acc C:qm) (H':Hp) (s':pX) (m:Str->pU pW),Inv X pins σ H' s'->s'.heap.Ns C m->C≠X.env.locals->
   (∀{σ':St} {s'':pX},Inv X pins σ' H' s''->∀h',Heap.SameBut C s''.heap h'->Inv X pins σ' H' {s'' with heap:=h'})->
   R acc H'->compPost (model X.prog X.w) X.A X.xe use Q (.ref acc) C (.ok .next) s'):
  wpAny (model X.prog X.w) X.A (comprehension (.ListComp elt [⟨tg,iter,ifs,0⟩] sc pos) sc X.env p (newList []) kb (eval iter X.env) use) Q X.xe s:=by
 refine wpAny_comprehension_free rfl hs (I.closureC B) B.kind B.names (thn (hi pins s σ H _ I h) λxv s1 h1=>thn h1 λnF s2 h2=> ?_);obtain⟨it,fp,tn,J,H2,e,I2,T,kz,f2,r2⟩:=h2;subst e;have si:∀b∈fp,b<s2.heap.objs.size:=λb hb=>by
  obtain⟨o,e,_⟩:=T.obj _ _ kz b hb;exact Heap.lt_size e
 refine wpAny_newObj_type (zdy ?_);dsimp only;obtain⟨s₀,es0⟩:∃s₀:pX,s₀={s2 with heap:=s2.heap.push {cls:= .type "list",dict:=fC,data:= .seq ([]:mZ pW).toArray}}:=⟨_,rfl⟩;have e0h:s₀.heap=s2.heap.push {cls:= .type "list",data:= .seq #[]}:=by rw[es0]
 obtain⟨C,eC⟩:∃C:qm,C=s₀.heap.objs.size:=⟨_,rfl⟩;obtain⟨acc,eA⟩:∃a:qm,a=s2.heap.objs.size:=⟨_,rfl⟩;rw[show(s2.heap.push {cls:= .type "list",dict:=fC,data:= .seq ([]:mZ pW).toArray}).objs.size=C by rw[eC,e0h]];obtain⟨h₁,eh₁⟩:∃h₁:Heap,h₁=pushCells ((s2.heap.push {cls:= .type "list",dict:=fC,data:= .seq ([]:mZ pW).toArray}).push {cls:= .type "dict",data:= .dict #[]}) sc.names:=⟨_,rfl⟩;have keep₁:∀b o,s₀.heap.get? b=dE o->h₁.get? b=dE o:=λb o e=>by
  rw[eh₁];refine pushCells_keeps _ _ b o (Heap.get?_push_of_some _ ?_);rw[e0h] at e;exact e
 have hO:CellsOk h₁ (C+1) (cellsFrom (C+1) sc.names []):=by
  have:=cellsFrom_ok sc.names ((s2.heap.push {cls:= .type "list",dict:=fC,data:= .seq ([]:mZ pW).toArray}).push {cls:= .type "dict",data:= .dict #[]}) (C+1) [] ⟨λ_ _ hm=>(nomatch hm),F7⟩ (by rw[Heap.size_push,eC,e0h];exact AF _);rw[<-eh₁,Heap.size_push] at this;rw[show(s2.heap.push {cls:= .type "list",dict:=fC,data:= .seq ([]:mZ pW).toArray}).objs.size=C by rw[eC,e0h]] at this;exact this
 have hns₁:h₁.Ns C λ_=>fC:=by
  rw[eh₁,eC,e0h];exact(Heap.Ns.new _ (.type "dict")).keeps (pushCells_keeps _ _)
 have m8:C=s2.heap.objs.size+1:=by rw[eC,e0h,Heap.size_push]
 have iH:∀b o,s2.heap.get? b=dE o->s₀.heap.get? b=dE o:=λb o e=>by rw[e0h];exact Heap.get?_push_of_some _ e
 have se:H2 acc=fC:=I2.hok.fresh (Ci eA.symm);show codeAny (model X.prog X.w) X.A (.compStart (.ListComp elt [⟨tg,iter,ifs,0⟩] sc pos) 0 (.ref it) (.ref s2.heap.objs.size) (compEnvC sc (UK sc C X.env) C X.env))
  (compPost (model X.prog X.w) X.A X.xe use Q (.ref s2.heap.objs.size) C) {s2 with heap:=pushCells ((s2.heap.push {cls:= .type "list",dict:=fC,data:= .seq ([]:mZ pW).toArray}).push {cls:= .type "dict",data:= .dict #[]}) sc.names}
 rw[<-eA,<-eh₁];have v9:({s2 with heap:=h₁}:pX)={s₀ with heap:=h₁,toks:=s2.toks}:=by rw[es0]
 rw[v9];obtain⟨W,⟨m0,w0⟩,turn⟩:=r2 acc se;have Ib:Inv (yX X N' sc C s₀ (upd H2 acc (.lst [])) fp) [] (Zr cap σ) (upd H2 acc (.lst [])) {s₀ with heap:=h₁,toks:=s2.toks}:=
  zfY I2 B cp f2 si eA (by rw[es0]) (by rw[es0]) e0h eC hO hns₁ keep₁
 have stat:∀{H':Hp},(∀b∈fp,H' b=fC)->∀b∈fp,UZ (yX X N' sc C s₀ (upd H2 acc (.lst [])) fp) [] H' b:=λhn b hb=>
  ⟨hn b hb,(Ib.ok.exf b hb).1,Ib.ok.exfs b hb,.inl hb,λx c e=>(Ib.ok.exf b hb).2 x c e,λp hp=>absurd (show p∈([]:mZ (qm×Obj)) from hp) (by simp)⟩
 have v5:∀b∈fp,upd H2 acc (.lst []) b=fC:=λb hb=>by
  rw[zi (by rw[eA];exact B3 (si b hb))];exact(f2 b hb).1
 have loop:codeAny (model X.prog X.w) X.A (.compLoop (.ListComp elt [⟨tg,iter,ifs,0⟩] sc pos) 0 (.ref it) (.ref acc) (compEnvC sc (UK sc C X.env) C X.env))
   (compPost (model X.prog X.w) X.A X.xe use Q (.ref acc) C) {s₀ with heap:=h₁,toks:=s2.toks}:=by
  refine Wq (λn s'=>∃i ys H',Inv (yX X N' sc C s₀ (upd H2 acc (.lst [])) fp) [] (Zr cap σ) H' s'/\tn i s'.heap/\(∀b∈fp,H' b=fC)/\W i n ys H') ?_ m0
   ⟨0,[],_,Ib,T.keep _ _ _ kz λb hb o e=>keep₁ b o (iH b o e),v5,w0⟩
  rintro n s3 ⟨i,ys,H3,I3,ky,lS,w3⟩;rcases turn i n ys H3 w3 with⟨stop,qn⟩|⟨go,step⟩
  .refine thn (T.done (yX X N' sc C s₀ (upd H2 acc (.lst [])) fp) rfl rfl rfl hc i [] s3 _ H3 (λ_ _=>False) I3 (stat lS) ky stop) λr s4 ⟨hr,I4⟩=> ?_;subst hr;have u0:Un (frs X.stack) fp H2 (upd H2 acc (.lst [])) s2.heap s₀.heap:=Un.laid iH (Ci eA.symm) se;have un:Un (frs X.stack) fp H2 H3 s2.heap s4.heap:=u0.trans I4.base;have I5:Inv X pins σ H3 s4:=I2.call' (by rw[I4.os];show s₀.os=_;rw[es0]) un I4.hok I4.bare λb hb=>⟨(f2 b hb).2.2.2.1,(f2 b hb).2.1,(f2 b hb).2.2.2.2.1,(f2 b hb).2.2.2.2.2⟩;obtain⟨m4,jJ,_⟩:=I4.loc;have CL:C≠X.env.locals:=λz=>by
    have:=I2.lt;rw[<-z,m8] at this;exact absurd this (HB.mpr (C7 _))
   refine fin acc C H3 s4 m4 I5 jJ CL (λ{σ' s''} I6 h' sb=> ?_) qn;refine I6.turned (t':=s''.toks) (λb o hb e=>(sb.2 b hb).trans e) I4.free CL (.inr ?_) (λx c e z=> ?_) λp hp z=> ?_;have:=I2.sz;rw[m8];omega;obtain⟨v,o,q,_⟩:=I2.cell x c e;have:=Heap.lt_size q;rw[z,m8] at this;exact absurd this (HB.mpr (C7 _));obtain⟨q,_⟩:=I2.pin p hp;have:=Heap.lt_size q;rw[z,m8] at this;exact absurd this (HB.mpr (C7 _))
  refine thn (T.item (yX X N' sc C s₀ (upd H2 acc (.lst [])) fp) rfl rfl rfl hc i [] s3 _ H3 (λ_ _=>False) I3 (stat lS) ky go) λr s4 ⟨u,hr,h4⟩=> ?_;subst hr;refine thn h4 ?_;rintro _ s5 ⟨x,H5,I5,r5,y5,jc,pO⟩;have I5':=I5.pinned (stat pO) (T.obj _ _ jc);refine thn (hg C s₀ _ fp _ s5 _ H5 x u _ I5' r5 (ow σ _ x H5 _ ⟨rfl,λ_ _ e=>e⟩ (step x H5 y5))) ?_;rintro _ s6 ⟨σ6,H6,I6,q6,qp⟩;have again:∀{H7:Hp} {s7:pX} {zs:mZ V},Inv (yX X N' sc C s₀ (upd H2 acc (.lst [])) fp) ([]++zaL fp s5.heap) σ6 H7 s7->(∃m',m'<n/\W (i+1) m' zs H7)->
    ∃m,m<n/\∃i ys H',Inv (yX X N' sc C s₀ (upd H2 acc (.lst [])) fp) [] (Zr cap σ) H' s7/\tn i s7.heap/\(∀b∈fp,H' b=fC)/\W i m ys H':=λ{H7 s7 zs} I7 w7=>by
   obtain⟨m',hm,w7⟩:=w7;refine⟨m',hm,i+1,zs,H7,(I7.unpinned).weak qp.1.symm qp.2,T.keep _ _ _ jc λb hb o e=>(I7.pin (b,o) (B5 _ (B5 _ (Xj hb e)))).1,λb hb=> ?_,w7⟩;obtain⟨o,e,d⟩:=T.obj _ _ jc b hb;exact(I7.pin (b,o) (B5 _ (B5 _ (Xj hb e)))).2.1
  refine thn (ht C s₀ _ fp _ s6 σ6 H6 _ I6 q6) ?_;rintro ok s7 ⟨H7,I7,q7⟩;cases ok with
  |false=>
   rw[if_neg B4] at q7 ⊢;exact again I7 q7
  |true=>
   rw[if_pos rfl] at q7 ⊢;refine thn (he C s₀ _ fp _ s7 σ6 H7 _ I7 q7) ?_;rintro xv s8 ⟨v,H8,I8,r8,lR,u6,w8⟩;refine thn (xU _ s8 σ6 H8 (.ref acc) [v] (.ref acc) [xv] (λ_ H9=>H9=upd H8 acc (.lst (ys++[v]))) I8 rfl (.cons r8 .nil) ⟨acc,ys,v,rfl,rfl,lR,u6,rfl⟩) ?_;rintro _ s9 ⟨_,H9,I9,_,e9⟩;subst e9;exact again I9 w8
 exact codeAny_compStart_list loop (T.self _ 0 _ _ _ (T.keep _ _ _ kz λb hb o e=>keep₁ b o (iH b o e)) loop)
def yW(hc:X.calm=fJ)(B:WH X sc)(cp:vD X sc cap N')(hi:PI X tg iter wi)(ow:zhx cap g)
  (hg:∀C s₀ H₀ fp,PG (yX X N' sc C s₀ H₀ fp) tg g) (ht:∀C s₀ H₀ fp,PTs (yX X N' sc C s₀ H₀ fp) ifs tt) (he:∀C s₀ H₀ fp,PE (yX X N' sc C s₀ H₀ fp) elt te)
  (hs:∀x,foldedSetIterable iter X.env x=pure x:=by intro _;rfl):PE X (.ListComp elt [⟨tg,iter,ifs,0⟩] sc pos) (ziQ cap wi g tt te):=by
 intro pins s σ H Q I h;rw[eval_ListComp];refine zbs (use:=fC) (R:=λacc H2=>Q (.ref acc) H2) hc B cp hi ow hg ht he hs I h λacc C H' s' m I' hn CL mk r=> ?_;exact⟨m,hn,λh' sb=>⟨.ref acc,H',mk I' h' sb,rfl,r⟩⟩
def yt{i:Nat}{y:Str}{py kB:Pos}(hc:X.calm=fJ)(B:WH X sc)(cp:vD X sc cap N')(hi:PI X tg iter wi)(ow:zhx cap g)
  (hg:∀C s₀ H₀ fp,PG (yX X N' sc C s₀ H₀ fp) tg g) (ht:∀C s₀ H₀ fp,PTs (yX X N' sc C s₀ H₀ fp) ifs tt) (he:∀C s₀ H₀ fp,PE (yX X N' sc C s₀ H₀ fp) elt te)
  (hN:X.N.Nodup) (hy:X.N[i]? =dE y) (hl:X.env.scope.names.lookup y=dE .local)
  (tJ:swapsWith (.ListComp elt [⟨tg,iter,ifs,0⟩] sc pos) (dE (.Name y py)) kB.line X.env=pure fJ:=by rfl)
  (hs:∀x,foldedSetIterable iter X.env x=pure x:=by intro _;rfl):PS X (.Assign [.Name y py] (.ListComp elt [⟨tg,iter,ifs,0⟩] sc pos) kB) (zed i cap wi g tt te):=by
 intro pins s σ H D I h;rw[exec_Assign_Name_used _ _ _ _ tJ];refine wpAny_bind (wpAny_standAt (wpAny_bind ?_));show wpAny _ X.A (do let _ <-comprehension (.ListComp elt [⟨tg,iter,ifs,0⟩] sc pos) sc X.env _ (newList []) kb (eval iter X.env) (dE (assign (.Name y py) X.env))) _ _ s;refine wpAny_bind (thn (zbs (use:=dE (assign (.Name y py) X.env)) (Q:=λ_ s'=>SP X pins D .next s') (R:=λacc H2=>D.nx (σ.set i (dE (.ref acc))) H2) hc B cp hi ow hg ht he hs I h λacc C H' s' m I' hn CL mk r=> ?_) λ_ s' hq=>wpAny_pure (wpAny_pure hq));show wpAny _ X.A (assign (.Name y py) X.env (.ref acc)) _ _ _;refine wpAny_assign_Name (zb5 I' hN hy (.inl hl) (v:= .ref acc) rfl (λs'' I'' gE=> ?_) (.inr hl));obtain⟨a,sb,ha⟩:=gE;have uV:C≠a:=by
  rcases ha with ha|ha;rw[ha];exact CL;intro z;rw[<-z] at ha;obtain⟨v,o,q,d⟩:=I'.cell y C ha;obtain⟨o',es,ep,q',d',_⟩:=hn;rw[q] at q';cases q';rw[d] at d';cases d'
 exact⟨m,hn.sameBut sb uV,λh' sb'=>⟨_,H',mk I'' h' sb',r⟩⟩
end
noncomputable def zdz(osc sc:Scope):Bool:=decide (sc.names.map (·.1)).Nodup&&sc.kind== .function&&sc.names.all (λy=>y.2 != .local||sc.names.lookup y.1==dE .local)&&
 sc.names.all (λy=>y.2 != .free||(osc.names.lookup y.1==dE .cell||osc.names.lookup y.1==dE .free))
def vU(hs:X.env.scope=osc)(h:zdz osc sc=fJ):WH X sc:=by
 unfold zdz at h;simp only[BV,Cy,bne_iff_ne,ne_eq,beq_iff_eq,EC,decide_eq_true_eq] at h;obtain⟨⟨⟨h1,h2⟩,h3⟩,h4⟩:=h;refine⟨h1,h2,λy hy e=>(h3 y hy).resolve_left λz=>z e,λy hy e=> ?_⟩;show X.env.scope.names.lookup y.1=_\/X.env.scope.names.lookup y.1=_;rw[hs];exact(h4 y hy).resolve_left λz=>z e
def Vq{env:Env}:∀{names:mZ (Str×NameKind)} {x:Str},names.lookup x=dE .cell->
  (names.map λ(n,k)=>if (k==NameKind.free&&env.scope.kind== .function&&env.kindOf n==dE .cell) then (n,NameKind.cell) else (n,k)).lookup x=dE .cell:=by
 intro names
 induction names with
 |nil=>intro x h;simp at h
 |cons p r ih=>
  intro x h;obtain⟨n,k⟩:=p;show CN x ((if (k==NameKind.free&&env.scope.kind== .function&&env.kindOf n==dE .cell)=fJ then (n,NameKind.cell) else (n,k))::_)=_;rw[Bx] at h;cases hx:x==n with
  |true=>
   rw[hx] at h;have h':k= .cell:=BF h;subst h';rw[if_neg (by simp),Bx,hx]
  |false=>
   rw[hx] at h;split<;>rw[Bx,hx]<;>exact ih h
def zpU(h:zdz qa sc=fJ):WH (yX X N' qa C s₀ H₀ fp) sc:=by
 unfold zdz at h;simp only[BV,Cy,bne_iff_ne,ne_eq,beq_iff_eq,EC,decide_eq_true_eq] at h;obtain⟨⟨⟨h1,h2⟩,h3⟩,h4⟩:=h;refine⟨h1,h2,λy hy e=>(h3 y hy).resolve_left λz=>z e,λy hy e=> ?_⟩;rcases(h4 y hy).resolve_left λz=>z e with q|q;exact .inl (Vq (env:=X.env) q);exact wJ (env:=X.env) q
end L2
namespace Mth
open PySem.Builtin.Int (intBits)
def zmm(h1:intBits i<=m)(h2:intBits j<=m)(h:m+1<=k:=by decide):intBits (i+j)<=k:=AA (PySem.intBits_add_le h1 h2) (by rw[Nat.max_self];exact h)
def zmn(h1:intBits i<=m)(h2:intBits j<=m)(h:m+1<=k:=by decide):intBits (i-j)<=k:=AA (PySem.intBits_sub_le h1 h2) (by rw[Nat.max_self];exact h)
end Mth
namespace Prf
variable{fu:Nat}{ns:mZ Int}{rws:mZ (mZ (Int×Int))}{many:Nat}{rows:mZ (mZ (Nat×Int)×Int)}{rs:mZ (mZ (Nat×Int)×Int)}{rn:Nat}{es:mZ (Nat×Int)}{ps:mZ (Nat×Int)}
open L2
open PySem.Builtin.Int (intBits)
set_option maxHeartbeats 4000000
local macro_rules | `(tactic| walk_at "sc") => `(tactic| exact ⟨rfl, rfl, rfl, by decide +kernel, rfl, by decide +kernel, by decide +kernel⟩)
structure Fi(K:Ar)(mg:Str->pU pW)(nm:Str)(st:Stmt)(ps:mZ Str) where
 a:qm
 fd:FuncData
 F:Fun K nm nm st a fd
 m:mg nm=dE (.ref a)
 b:Ul K fd ps []
structure Mi(K:Ar)(g:qm)(nm qn:Str)(st:Stmt)(ps:mZ Str) where
 a:qm
 fd:FuncData
 F:Fun K nm qn st a fd
 b:Ul K fd ps []
 mt:zqi K g nm a
def LoN(K:Ar)(x qual:Str)(st:Stmt)(f:qm):Prop:=∃fd,Fun K x qual st f fd
def FL(K:Ar)(nm:Str)(st:Stmt):Prop:=∃f,AY K mainGlobals nm=dE (dE (.ref f))/\LoN K nm nm st f
def ML(K:Ar)(g:qm)(nm qn:Str)(st:Stmt):Prop:=∃f,B2 K (.ref g) nm=dE (dE (.ref f))/\Fg K (.ref f)=fJ/\LoN K nm qn st f
def zpV{K:Ar}{x:Str}{st:Stmt}{f:qm}{oc:pW}{od an:pU qm}{fN:Array (pU pW)}{kV doc pm bR ct:pW}(a:AY K mainGlobals x=dE (dE (.ref f)))
  (l:K.lookup f=dE ⟨oc,od,.func (D4 x x (Xm st) (vC st) (zh st) .none kV doc pm an bR ct),fN⟩) (c:DW K bR x=fJ) (k:CI K (.ref f)=fJ):FL K x st:=⟨f,a,_,ziN l c k⟩
def zpW{K:Ar}{g:qm}{x qn:Str}{st:Stmt}{f:qm}{oc:pW}{od an:pU qm}{fN:Array (pU pW)}{kV doc pm bR ct:pW}(a:B2 K (.ref g) x=dE (dE (.ref f)))(i:Fg K (.ref f)=fJ)
  (l:K.lookup f=dE ⟨oc,od,.func (D4 x qn (Xm st) (vC st) (zh st) .none kV doc pm an bR ct),fN⟩) (c:DW K bR qn=fJ) (k:CI K (.ref f)=fJ):ML K g x qn st:=⟨f,a,i,_,ziN l c k⟩
def BA(x qual:Str)(st:Stmt)(ps:mZ Str):Prop:=∀(kV doc pm:pW) (an:pU qm) (bR ct:pW) (us:mZ pW),us.length=ps.length->bindArgs (D4 x qual (Xm st) (vC st) (zh st) .none kV doc pm an bR ct) ⟨us,[]⟩=pure (ps.zip us)
noncomputable def FL.to{K:Ar}{h:Heap}{mg:Str->pU pW}{x:Str}{st:Stmt}{ps:mZ Str}(H:FL K x st)(X:K.In h)(G:h.Ns mainGlobals mg)(B:BA x x st ps):Fi K mg x st ps:=
 ⟨H.choose,H.choose_spec.2.choose,H.choose_spec.2.choose_spec,Cz X G H.choose_spec.1,H.choose_spec.2.choose_spec.binds B⟩
noncomputable def ML.to{K:Ar}{g:qm}{x qn:Str}{st:Stmt}{ps:mZ Str}(H:ML K g x qn st)(B:BA x qn st ps):Mi K g x qn st ps:=
 ⟨H.choose,H.choose_spec.2.2.choose,H.choose_spec.2.2.choose_spec,H.choose_spec.2.2.choose_spec.binds B,⟨H.choose_spec.1,H.choose_spec.2.1,H.choose_spec.2.2.choose_spec.kp⟩⟩
theorem at0{P:mZ pW->Prop}(h:P []):∀us:mZ pW,us.length=0->P us
 |[],_=>h
theorem at_{P:mZ pW->Prop}(h:∀(a:pW) (us:mZ pW),us.length=n->P (a::us)):∀us:mZ pW,us.length=n+1->P us
 |a::us,e=>h a us (Nat.succ.inj e)
def zoA{K:Ar}{mg:Str->pU pW}{st:Stmt}{x:Str}{fa:qm}(f:Fi K mg "law" st [x])(hK:∀s:pX,K.In s.heap->True)(h:mg "law"=dE (.ref fa)):fa=f.a:=by
 have e:=h.symm.trans f.m;injection e with e;injection e
def zpX:TS:=λ_ _ _=>False
def zg5{st:Stmt}:PS X st zpX:=λ_ _ _ _ _ _ h=>Bw h
section
variable{P:Program}{w:World}{K:Ar}{mg:Str->pU pW}{base:Heap}
def okS{x qual:Str}{st:Stmt}{f:qm}{fd:FuncData}{N ps:mZ Str}{k n m:Nat}{b:TwS}(F:Fun K x qual st f fd)(S:zC N ps (zh st))(hp:ps.length=n)(hN:N.length=n+m)
  (h:∀{bR:pW} {A:Around} {outer:mZ Env} {s:pX} {H:Hp} {E:XK},xO k (A.deeper (envOfC qual (zh st) s.heap.objs.size f bR))->∃t,PSs (Vm (CXE P w) P w K mg base N qual (zh st) f bR A outer s H E) (vC st) t/\RS K E t b):
  YM P w K mg base (CXE P w) (k+1) f fd ps (sTw K n (yb n m b)):=
 F.okE S (λ_ _ _ _ h=>h.1.trans hp.symm) λ_ _ _ _ _ _ _ _ hr h'=>let ⟨t,a,r⟩:=h hr;⟨t,a,znh hN r h'⟩
variable(P w)(base)
noncomputable abbrev Fi.Ok{nm:Str}{st:Stmt}{ps:mZ Str}(f:Fi K mg nm st ps)(r n:Nat)(tw:TwF):Prop:=YM P w K mg base (CXE P w) r f.a f.fd ps (sTw K n tw)
variable(mg)
noncomputable abbrev Mi.Ok{g:qm}{nm qn:Str}{st:Stmt}{ps:mZ Str}(f:Mi K g nm qn st ps)(r n:Nat)(tw:TwF):Prop:=YM P w K mg base (CXE P w) r f.a f.fd ps (sTw K n tw)
end
section
variable{P:Program}{w:World}{K:Ar}{mg:Str->pU pW}{base:Heap}
noncomputable def top (i:Nat):Stmt:=PySem.Challenge.pw_lots_k07_many_and_none_known.main.body.getD i (.Pass ⟨0,0,0,0⟩)
abbrev Za:Stmt:=top 1
abbrev XB:Stmt:=top 2
abbrev vI:Stmt:=top 3
abbrev Zb:Stmt:=top 4
abbrev xS:Stmt:=top 5
abbrev ZC:Stmt:=zgu (top 7) 0
abbrev ZD:Stmt:=top 8
abbrev VO:Stmt:=top 9
abbrev ZE:Stmt:=top 10
abbrev wg:Stmt:=top 11
abbrev yQ:Stmt:=top 12
abbrev VP:Stmt:=top 19
abbrev Yx:Stmt:=top 20
abbrev zbt:Stmt:=top 21
abbrev VQ:Stmt:=top 22
abbrev wN:Stmt:=zgu (top 24) 0
abbrev ZF:Stmt:=top 25
abbrev Ym:Stmt:=top 26
abbrev Yn:Stmt:=top 27
abbrev ZN:Stmt:=top 28
abbrev UM:Stmt:=top 29
abbrev VR:Stmt:=top 30
abbrev ZY:Stmt:=top 32
abbrev WI:Stmt:=top 35
abbrev WJ:Stmt:=top 36
abbrev Tk:Stmt:=top 37
abbrev Tl:Stmt:=top 38
abbrev Tn:Stmt:=top 39
abbrev vJ:Stmt:=top 40
abbrev vK:Stmt:=top 41
abbrev WK:Stmt:=top 42
abbrev vL:Stmt:=top 43
abbrev WL:Stmt:=top 45
abbrev WM:Stmt:=top 46
abbrev Yy:Stmt:=top 47
abbrev ZG:Stmt:=top 48
abbrev VS:Stmt:=top 49
abbrev XC:Stmt:=top 50
abbrev Yo:Stmt:=top 51
abbrev xX:Stmt:=top 52
abbrev xo:Stmt:=top 53
abbrev XD:Stmt:=top 54
abbrev WN:Stmt:=top 55
abbrev Zu:Stmt:=top 56
abbrev wj:Stmt:=top 57
abbrev zg6:Stmt:=top 58
def zN:zC ["number","modulus","bound","before","rest","factor_before","factor","quotient","lower","farther"] ["number","modulus","bound"] (zh Za):=by walk_at "sc"
def Vy:zC ["number","modulus","found"] ["number","modulus"] (zh XB):=by walk_at "sc"
def ZZ:zC ["number","modulus","bound","found"] ["number","modulus","bound"] (zh vI):=by walk_at "sc"
def Yp:zC ["number","modulus","rest"] ["number","modulus"] (zh Zb):=by walk_at "sc"
def zW:zC ["numbers","modulus","bound","tops","bottom","number","top","found"] ["numbers","modulus","bound"] (zh xS):=by walk_at "sc"
def To:zC ["self","row","column","inverse","factors","parts"] ["self","row","column","inverse","factors","parts"] (zh ZC):=by walk_at "sc"
def xE:zC ["rows","counts","row","column","number"] ["rows"] (zh ZD):=by walk_at "sc"
def wk:zC ["entries","steps","modulus","factors","place","step","factor","column","number"] ["entries","steps","modulus"] (zh VO):=by walk_at "sc"
def wE:zC ["entries","modulus","left","column","number"] ["entries","modulus"] (zh ZE):=by walk_at "sc"
def xb:zC ["rows","modulus","counts","steps","place","entries","factors","left","column","inverse","parts"] ["rows","modulus"] (zh wg):=by walk_at "sc"
def zP:zC ["steps","lasts","many","modulus","values","step","last","taken","numbers","value"] ["steps","lasts","many","modulus"] (zh yQ):=by walk_at "sc"
def zeP:zC ["thing"] ["thing"] (zh VP):=by walk_at "sc"
def xF:zC ["one","other","rest"] ["one","other"] (zh Yx):=by walk_at "sc"
def Tp:zC ["top","bottom","part"] ["top","bottom"] (zh zbt):=by walk_at "sc"
def zeQ:zC ["top","bottom"] ["top","bottom"] (zh VQ):=by walk_at "sc"
def WP:zC ["self","parts","last"] ["self","parts","last"] (zh wN):=by walk_at "sc"
def wF:zC ["some","bottom","one"] ["some"] (zh ZF):=by walk_at "sc"
def zdA:zC ["some","bottom"] ["some","bottom"] (zh Ym):=by walk_at "sc"
def XE:zC ["row","tops","last"] ["row"] (zh Yn):=by walk_at "sc"
def zbT:zC ["rows"] ["rows"] (zh ZN):=by walk_at "sc"
def zhW:zC ["row","numbers"] ["row","numbers"] (zh UM):=by walk_at "sc"
def zaf:zC ["rows","tops","bottom","row"] ["rows","tops","bottom"] (zh VR):=by walk_at "sc"
def xG:zC ["rows","steps","many","modulus","chosen","lasts","numbers","powers","look","digits","found"] ["rows","steps","many","modulus"] (zh ZY):=by walk_at "sc"
def vM:zC ["rows","many","modulus","answer"] ["rows","many"] (zh WI):=by walk_at "sc"
def ZO:zC ["rows","many","modulus","whole","steps","xs"] ["rows","many","modulus"] (zh WJ):=by walk_at "sc"
def zbu:zC ["rows","many","modulus","ys"] ["rows","many","modulus"] (zh Tk):=by walk_at "sc"
def zbv:zC ["rows","many","xs","free","modulus","zs"] ["rows","many","xs","free","modulus"] (zh Tl):=by walk_at "sc"
def VT:zC ["rows","many","modulus","whole","steps"] ["rows","many","modulus"] (zh Tn):=by walk_at "sc"
def Wd:zC ["whole","steps","many","modulus","found"] ["whole","steps","many","modulus"] (zh vJ):=by walk_at "sc"
def Vz:zC ["steps","many","settled"] ["steps","many"] (zh vK):=by walk_at "sc"
def zcB:zC ["rows","many","columns"] ["rows","many"] (zh WK):=by walk_at "sc"
def VA:zC ["rows","many","free","level"] ["rows","many","free"] (zh vL):=by walk_at "sc"
def XF:zC ["_law_script","_law_k","_law_prime","_law_many","_law_cell_here"] ["_law_script","_law_k","_law_prime","_law_many"] (zh WL):=by walk_at "sc"
def zdB:zC ["_law_script","_law_k"] ["_law_script","_law_k"] (zh WM):=by walk_at "sc"
def vN:zC ["_law_top","_law_bottom","_law_one","_law_other"] ["_law_top","_law_bottom"] (zh Yy):=by walk_at "sc"
def Zc:zC ["_law_script","_law_k","_law_way","_law_bottom"] ["_law_script","_law_k"] (zh ZG):=by walk_at "sc"
def wm:zC ["_law_row","_law_xs","_law_top","_law_bottom","_law_part_here","_law_x"] ["_law_row","_law_xs"] (zh VS):=by walk_at "sc"
def VB:zC ["_law_found","_law_one"] ["_law_found"] (zh XC):=by walk_at "sc"
def zdC:zC ["_law_found","_law_size"] ["_law_found","_law_size"] (zh Yo):=by walk_at "sc"
def Ya:zC ["_law_found","_law_rows_here","_law_many","_law_row"] ["_law_found","_law_rows_here","_law_many"] (zh xX):=by walk_at "sc"
def Yb:zC ["_law_found","_law_rows_here","_law_many","_law_at"] ["_law_found","_law_rows_here","_law_many"] (zh xo):=by walk_at "sc"
def zbU:zC ["_law_found","_law_word","_law_rows_here","_law_many"] ["_law_found","_law_word","_law_rows_here","_law_many"] (zh XD):=by walk_at "sc"
def UN:zC ["_law_script","_law_k","_law_way"] ["_law_script","_law_k"] (zh WN):=by walk_at "sc"
def yM:zC ["_law_script","_law_many","_law_at","_law_zs","_law_k","_law_xs","_law_rows_here","_law_number","_law_row","_law_top","_law_bottom"] ["_law_script","_law_many"] (zh Zu):=by walk_at "sc"
def yF:zC ["_law_script","_law_rows_here","_law_many","_law_row","_law_one","_law_other","_law_turn","_law_off","_law_at"] ["_law_script","_law_rows_here","_law_many"] (zh wj):=by walk_at "sc"
def WQ:zC ["_law_script","_law_many","_law_rows_here","_law_word","_law_handed","_law_found"] ["_law_script"] (zh zg6):=by walk_at "sc"
abbrev zfZ:Hw:=kwE (zpR (zpQ wg 2))
def Yc:xK:=⟨1,zjY zfZ,zgW zfZ,znl zfZ,⟨fC,"steps_of","steps_of"⟩,["rows"]⟩
abbrev zf0:Hw:=kwE (zqo (zpS (zpS (zpQ wg 2) 3) 0))
def zcC:xK:=⟨2,zjY zf0,zgW zf0,znl zf0,⟨fC,"steps_of","steps_of"⟩,["counts"]⟩
noncomputable abbrev WR:mZ Vn:=[⟨fC,"steps_of","steps_of"⟩]
set_option genInjectivity false in
set_option genSizeOf false in
structure Tx(K:Ar)(mg:Str->pU pW) where
 aC:Fi K mg "small_multiple" Za ["number","modulus","bound"]
 bK:Fi K mg "inverse_of" XB ["number","modulus"]
 aH:Fi K mg "quotient_behind" vI ["number","modulus","bound"]
 aN:Fi K mg "nearest_nought" Zb ["number","modulus"]
 aE:Fi K mg "quotients_behind" xS ["numbers","modulus","bound"]
 aV:Fi K mg "column_counts" ZD ["rows"]
 cw:Fi K mg "take_off" VO ["entries","steps","modulus"]
 aU:Fi K mg "remainders_of" ZE ["entries","modulus"]
 bx:Fi K mg "steps_of" wg ["rows","modulus"]
 aA:Fi K mg "remainders_meeting" yQ ["steps","lasts","many","modulus"]
 bP:Fi K mg "is_whole" VP ["thing"]
 aR:Fi K mg "common_part" Yx ["one","other"]
 cS:Fi K mg "lowest" zbt ["top","bottom"]
 cx:Fi K mg "fraction" VQ ["top","bottom"]
 aS:Fi K mg "shared_bottom" ZF ["some"]
 bT:Fi K mg "tops_over" Ym ["some","bottom"]
 bS:Fi K mg "whole_row" Yn ["row"]
 bj:Fi K mg "whole_rows" ZN ["rows"]
 cF:Fi K mg "sum_at" UM ["row","numbers"]
 bQ:Fi K mg "all_meet" VR ["rows","tops","bottom"]
 cT:Fi K mg "lifted" ZY ["rows","steps","many","modulus"]
 bU:Fi K mg "answer_of" WI ["rows","many"]
 bA:Fi K mg "answer_by" WJ ["rows","many","modulus"]
 cG:Fi K mg "none_by" Tk ["rows","many","modulus"]
 cH:Fi K mg "many_by" Tl ["rows","many","xs","free","modulus"]
 cj:Fi K mg "list_by" Tn ["rows","many","modulus"]
 aM:Fi K mg "list_meeting" vJ ["whole","steps","many","modulus"]
 bL:Fi K mg "free_place" vK ["steps","many"]
 cR:Fi K mg "turned" WK ["rows","many"]
 bJ:Fi K mg "level_rows" vL ["rows","many","free"]
 ah:Fi K mg "_law_draw" WL ["_law_script","_law_k","_law_prime","_law_many"]
 bC:Fi K mg "_law_cell" WM ["_law_script","_law_k"]
 ai:Fi K mg "_law_lowest" Yy ["_law_top","_law_bottom"]
 aW:Fi K mg "_law_fraction" ZG ["_law_script","_law_k"]
 ax:Fi K mg "_law_sum" VS ["_law_row","_law_xs"]
 bM:Fi K mg "_law_share" XC ["_law_found"]
 aX:Fi K mg "_law_list" Yo ["_law_found","_law_size"]
 aJ:Fi K mg "_law_many_shown" xX ["_law_found","_law_rows_here","_law_many"]
 aI:Fi K mg "_law_none_shown" xo ["_law_found","_law_rows_here","_law_many"]
 bN:Fi K mg "_law_right" XD ["_law_found","_law_word","_law_rows_here","_law_many"]
 bW:Fi K mg "_law_part" WN ["_law_script","_law_k"]
 bV:Fi K mg "_law_rows" Zu ["_law_script","_law_many"]
 bo:Fi K mg "_law_spoiled" wj ["_law_script","_law_rows_here","_law_many"]
 dD:Fi K mg "law" zg6 ["_law_script"]
 dz:mg "abs"=fC
 iM:mg "all"=fC
 f7:mg "bool"=fC
 gq:mg "dict"=fC
 cE:mg "enumerate"=fC
 gn:mg "int"=fC
 ao:mg "isinstance"=fC
 aP:mg "len"=fC
 dO:mg "list"=fC
 iK:mg "min"=fC
 aY:mg "range"=fC
 dy:mg "reversed"=fC
 eE:mg "sorted"=fC
 iJ:mg "str"=fC
 fD:mg "sum"=fC
 dM:mg "tuple"=fC
 dw:mg "zip"=fC
 aq:qm
 eF:mg "LotsError"=dE (.ref aq)
 cB:ziS K mg "LotsError" aq [.type "ValueError",.type "Exception",.type "BaseException",.type "object"] "ValueError.__new__"
 eG:zgw K aq
 cD:DV K (.ref aq)=dE (.type "type")
 bX:BR K aq (.type "BaseException")=dE fJ
 cC:BR K aq (.type "ValueError")=dE fJ
 aB:qm
 f9:mg "NoNumber"=dE (.ref aB)
 cI:ziS K mg "NoNumber" aB [.type "ValueError",.type "Exception",.type "BaseException",.type "object"] "ValueError.__new__"
 fg:zgw K aB
 cK:DV K (.ref aB)=dE (.type "type")
 cy:BR K aB (.type "BaseException")=dE fJ
 cJ:BR K aB (.type "ValueError")=dE fJ
 bq:qm
 gu:mg "Step"=dE (.ref bq)
 dh:Cls K bq
 cN:AY K mainGlobals "Step"=dE (dE (.ref bq))
 bO:va K bq "row"
 aQ:va K bq "column"
 aZ:va K bq "inverse"
 bg:va K bq "factors"
 bG:va K bq "parts"
 aG:Mi K bq "__init__" "Step.__init__" ZC ["self","row","column","inverse","factors","parts"]
 fE:Mk K bq aG.a
 ay:qm
 dA:mg "WholeRow"=dE (.ref ay)
 bD:Cls K ay
 bz:AY K mainGlobals "WholeRow"=dE (dE (.ref ay))
 au:va K ay "parts"
 aF:va K ay "last"
 ak:Mi K ay "__init__" "WholeRow.__init__" wN ["self","parts","last"]
 d7:Mk K ay ak.a
 dj:(Vo K ⟨fC,"steps_of","steps_of"⟩).isSome=fJ
 cZ:AY K mainGlobals "steps_of"=dE (dE (.ref bx.a))
 bF:qm
 cO:mg "NOUGHT"=dE (.ref bF)
 cU:∀H,SqT K H bF [.int 0,.int 1]
 d8:qm
 fF:mg "ONE"=dE (.ref d8)
 fH:∀H,SqT K H d8 [.int 1,.int 1]
 cz:∃t,mg "FIRST_MODULUS"=dE (.int 1000000000000000000000000000000000000000000009 t)
local macro_rules | `(tactic| walk_at "q1") => `(tactic| first | exact .inl rfl | exact .inr rfl | assumption)
local macro_rules | `(tactic| walk_at "q2") => `(tactic| ((try simp only [Nat.add_eq]); omega))
local macro_rules|`(tactic|walk_at "q3")=>do
 let a<-("zdb zi1 zlC zeg zlA zlB zda zi0 zfp".splitOn " ").toArray.mapM fun n=>`(tacticSeq|with_reducible exact $(Lean.mkIdent (.mkSimple n)))
 `(tactic|first $[| $a]*)
def zT1(b:Lean.Term)(i:Nat):Lean.Term:=⟨if i=0 then b.raw[1][0] else b.raw[1][2][2*(i-1)]⟩
def zT2(f:Lean.Name)(n:Nat)(l:Array Lean.Term):Lean.MacroM Lean.Term:=do
 let h<-`(_)
 let g:Lean.Term:=Lean.mkIdent f
 let e<-`(@$(Lean.mkIdent f))
 return Lean.Syntax.mkApp (if n=0 then g else e) (Array.replicate n h++l)
local macro_rules|`($a \ $b)=>do
 let m n:Lean.Term:=Lean.mkIdent (a.raw.getId++n)
 if b.raw.isOfKind ``Lean.Parser.Term.tuple then zT2 `zlq 0 #[zT1 b 0,zT1 b 1,Lean.mkIdent `rfl,m `m,m `F.kp,m `b,<-`(.nil),zT1 b 2,zT1 b 3] else zT2 `yg 5 #[a,b,<-`(by walk_at "q3")]
local macro_rules | `($a <|> $b) => `(@zik _ _ _ _ _ $a $b)
local macro_rules | `(¬$a) => `(@zlk _ _ _ $a)
local macro_rules | `(!$a) => `(@znC _ _ _ _ $a)
local macro_rules | `(~~~$a) => `(@znM _ _ _ _ _ $a)
local macro_rules|`($r % $b)=>do if b.raw.isOfKind ``Lean.Parser.Term.tuple then zT2 `zpl 7 #[r,zT1 b 0,zT1 b 1,<-`(fun _ _=>rfl)] else Lean.Macro.throwUnsupported
local macro_rules|`(tactic|walk_at "re")=>do
 let g(s:String):=(s.splitOn " ").toArray.map fun n=>Lean.mkIdent (.mkSimple n)
 let a<-(g "zk zG wL yB yV yJ zY vc Vh VJ zdd zi8 zej Us zcn zfr ZU Uw zfv Yj wB zba zbd zjf wW zdj Wt zdg zav zpB ZB zjj zn1 zn5 znd Xy zi6 zn7 zjk zi7 zgQ zjO zne zjm wc znZ zgA Vf zeJ zgz zbc zfu Ut za6 ZQ zjd zji zek zpF zlT zfz zjn zn2 zde Vi zlQ zjs zlN zgG zer zje zbb zcq zl2 zi9 znf zgD zj4 zbn zdt zlO zkk zn3 zja zjc zeD zn4 zes zjo zgH zjq zjp zgF").mapM fun i=>`(tacticSeq|apply $i)
 let b<-(g "zi8 Uw zfv zba zbd zdj ZB zjO zjm zeJ zbc zfu ZQ zji zjn zde Vi zgG zer zbb zcq zdt zjc zes zjo zgH zjq zjp zgF").mapM fun i=>`(tacticSeq|exact $i)
 let c<-(g "Xy zgQ za6 zbn zja zeD").mapM fun i=>`(tacticSeq|apply $i)
 `(tactic|repeat first|(with_reducible first $[| $a]*)|exact rfl|exact (‹Tx _ _›).dh|exact (‹Tx _ _›).bD|exact (‹Tx _ _›).aQ|exact (‹Tx _ _›).bg|exact (‹Tx _ _›).aZ|exact (‹Tx _ _›).bG|exact (‹Tx _ _›).bO|exact (‹Tx _ _›).aF|exact (‹Tx _ _›).au|exact (‹Tx _ _›).cN|exact (‹Tx _ _›).bz|exact Nat.le_of_ble_eq_true rfl $[| $b]* $[| $c]*)
local macro_rules|`($s ^^^ $b)=>do
 if b.raw.isOfKind ``Lean.Parser.Term.tuple==false then Lean.Macro.throwUnsupported
 let h<-`(_)
 zT2 `znH 2 #[zT1 b 0,h,h,h,h,Lean.mkIdent (s.raw.getId++`nd),Lean.mkIdent `rfl,zT1 b 1,zT1 b 2,<-`(by rfl),<-`(by walk_at "q1")]
local macro_rules | `(tactic| walk_at "q4") => `(tactic| (dsimp only [yX, ziO]; decide +kernel))
def vO(fu:Nat):TwS:=(zq (zB (za 1) (gN 3)) (zq (zB (eOp vZ (za 0) (za 1)) (gN 4)) (zq (zB (sj 0) (gN 5)) (zq (zB (sj 1) (gN 6)) (zq (sWh fu (bE (eOp dGt (za 4) (za 2))) (zq (zB (eOp XA (za 3) (za 4)) (gN 7)) (zq (zB (eOp Yh (za 3) (eOp yP (za 7) (za 4))) (gN 8)) (zq (zB (za 4) (gN 3)) (zq (zB (za 8) (gN 4)) (zq (zB (eOp Yh (za 5) (eOp yP (za 7) (za 6))) (gN 9)) (zq (zB (za 6) (gN 5)) (zB (za 9) (gN 6))))))))) (yj (wS [za 4,za 6])))))))
def xY(fu:Nat):TwF:=yb 3 7 (vO fu)
def Yq(T:Tx K mg):T.aC.Ok P w base 33 3 (xY fu):=
 okS T.aC.F zN rfl rfl (λhr=>⟨_,((zN^^^(3,AH rfl,pv 1))<|>(zN^^^(4,AH rfl,zr xN (pv 0) (pv 1)))<|>(zN^^^(5,AH rfl,zg))<|>(zN^^^(6,AH rfl,zg))<|>Wl PassesOwn.leaving (zX (YJ (pv 4) (pv 2))) ((zN^^^(7,AH rfl,zr (WD hr) (pv 3) (pv 4)))<|>(zN^^^(8,AH rfl,zr wZ (pv 3) (zr yv (pv 7) (pv 4))))<|>(zN^^^(3,AH rfl,pv 4))<|>(zN^^^(4,AH rfl,pv 8))<|>(zN^^^(9,AH rfl,zr wZ (pv 5) (zr yv (pv 7) (pv 6))))<|>(zN^^^(5,AH rfl,pv 6))<|>¬(zN^^^(6,AH rfl,pv 9)))<|>¬(!(~~~(pv 4\(pv 6\ze))))),(by unfold vO;walk_at "re")⟩)
def Yz(fu:Nat):TwS:=(zq (zB (zy (xY fu) [za 0,za 1,sj 1]) (gN 2)) (yj (eIf (bE (eOp zbO (eOp xD (za 2) (sj 0)) (sj 1))) (eOp vZ (eOp xD (za 2) (sj 1)) (za 1)) (eC .non))))
def YA(fu:Nat):TwF:=yb 2 1 (Yz fu)
def zbV(T:Tx K mg):T.bK.Ok P w base 34 2 (YA fu):=
 okS T.bK.F Vy rfl rfl (λhr=>⟨_,((Vy^^^(2,AH rfl,T.aC\(Yq (fu:=fu) T,hr.mono ∅,zH,pv 0\(pv 1\(zg\ze)))))<|>¬(!ZT (zX (Wj (zS (K:=K)%(pv 2,zg)) zg)) (zr xN (zS (K:=K)%(pv 2,zg)) (pv 1)) Xe)),(by unfold Yz;walk_at "re")⟩)
def ve(fu:Nat):TwS:=(zq (zB (zy (xY fu) [za 0,za 1,za 2]) (gN 3)) (zq (sIf (bE (eOp dGt (eFn zdk [eOp xD (za 3) (sj 1)]) (za 2))) (yj (eC .non)) yC) (yj (eIf (bE (eOp dGt (eOp xD (za 3) (sj 1)) (sj 0))) (za 3) (wS [eUn Uv (eOp xD (za 3) (sj 0)),eUn Uv (eOp xD (za 3) (sj 1))])))))
def vf(fu:Nat):TwF:=yb 3 1 (ve fu)
def VU(T:Tx K mg):T.aH.Ok P w base 34 3 (vf fu):=
 okS T.aH.F ZZ rfl rfl (λhr=>⟨_,((ZZ^^^(3,AH rfl,T.aC\(Yq (fu:=fu) T,hr.mono ∅,zH,pv 0\(pv 1\(pv 2\ze)))))<|>yU (zX (YJ (zE YL rfl T.dz boot_abs ((zS (K:=K)%(pv 3,zg))\ze)) (pv 2))) (¬(!Xe)) zU<|>¬(!ZT (zX (YJ (zS (K:=K)%(pv 3,zg)) zg)) (pv 3) (~~~(TV Wm (zS (K:=K)%(pv 3,zg))\(TV Wm (zS (K:=K)%(pv 3,zg))\ze))))),(by unfold ve;walk_at "re")⟩)
def vP(fu:Nat):TwS:=(zq (zB (eOp vZ (za 0) (za 1)) (gN 2)) (yj (eIf (bE (eOp dLt (eOp zaq (sj 2) (za 2)) (za 1))) (za 2) (eOp Yh (za 2) (za 1)))))
def vQ(fu:Nat):TwF:=yb 2 1 (vP fu)
def UO(T:Tx K mg):T.aN.Ok P w base 1 2 (vQ fu):=
 okS T.aN.F Yp rfl rfl (λhr=>⟨_,((Yp^^^(2,AH rfl,zr xN (pv 0) (pv 1)))<|>¬(!ZT (zX (zii (zr Ta zg (pv 2)) (pv 1))) (pv 2) (zr wZ (pv 2) (pv 1)))),(by unfold vP;walk_at "re")⟩)
def wO(fu:Nat):TwS:=(zq (zB (Yg []) (gN 3)) (zq (zB (sj 1) (gN 4)) (zq (YV (iL (za 0)) (gN 5) (zq (zB (zy (vQ fu) [eOp yP (za 5) (za 4),za 1]) (gN 6)) (zq (sIf (bE (eOp dGt (eFn zdk [za 6]) (za 2))) (zq (zB (zy (vf fu) [za 6,za 1,za 2]) (gN 7)) (zq (sIf (bOr (bE (eUn za5 (za 7))) (bE (eOp dGt (eOp yP (za 4) (eOp xD (za 7) (sj 1))) (za 2)))) (yj (eC .non)) yC) (zq (zB (yO [fC,dE 7] (iL (za 3)) (gN 0) xa (eOp yP (za 0) (eOp xD (za 1) (sj 1)))) (gN 3)) (zq (zB (eOp yP (za 4) (eOp xD (za 7) (sj 1))) (gN 4)) (zB (eOp xD (za 7) (sj 0)) (gN 6)))))) yC) (YU (eMt xw (za 3) [za 6]))))) (yj (wS [za 3,za 4])))))
def xA(fu:Nat):TwF:=yb 3 5 (wO fu)
def Vr(T:Tx K mg):T.aE.Ok P w base 35 3 (xA fu):=
 okS T.aE.F zW rfl rfl (λhr=>⟨_,((zW^^^(3,AH rfl,@xC _ _ _ _ ze))<|>(zW^^^(4,AH rfl,zg))<|>wa PassesOwn.leaving rfl (ya (K:=K) (pv 0)) (zu (i:=5) zW.nd rfl (AH rfl)) ((zW^^^(6,AH rfl,T.aN\(UO (fu:=fu) T,hr.mono ∅,zH,zr yv (pv 5) (pv 4)\(pv 1\ze))))<|>yU (zX (YJ (zE YL rfl T.dz boot_abs (pv 6\ze)) (pv 2))) ((zW^^^(7,Dd rfl,T.aH\(VU (fu:=fu) T,hr.mono ∅,zH,pv 6\(pv 1\(pv 2\ze)))))<|>yU (PW.pt (Wc (zX (Wk (pv 7))) (Xh (zX (YJ (zr yv (pv 4) (zS (K:=K)%(pv 7,zg))) (pv 2)))))) (¬(!Xe)) zU<|>yt (i:=3) (N':=["one","found"]) rfl (vU (osc:=zh xS) rfl (*...*)) (zO (yw (i:=7) rfl rfl yc)) (ya (K:=K) (pv 3)) (zA rfl) (λC s₀ H₀ fp=>zu (i:=0) (by walk_at "q4") rfl (AH rfl)) (λC s₀ H₀ fp=>yo) (λC s₀ H₀ fp=>(zr yv (pv 0) (zS (K:=K)%(pv 1,zg)))) zW.nd rfl rfl<|>(zW^^^(4,AH rfl,zr yv (pv 4) (zS (K:=K)%(pv 7,zg))))<|>¬(zW^^^(6,AH rfl,zS (K:=K)%(pv 7,zg)))) zU<|>¬ZL (Um BE BM BO xU (pv 3) (pv 6\ze)))<|>¬(!(~~~(pv 3\(pv 4\ze))))),(by unfold wO;walk_at "re")⟩)
def Zd(fu:Nat):TwS:=(zq (UE "Step" "row" (za 0) (za 1)) (zq (UE "Step" "column" (za 0) (za 2)) (zq (UE "Step" "inverse" (za 0) (za 3)) (zq (UE "Step" "factors" (za 0) (za 4)) (UE "Step" "parts" (za 0) (za 5))))))
def Ze(fu:Nat):TwF:=yb 6 0 (Zd fu)
def Tq(T:Tx K mg):T.aG.Ok P w mg base 1 6 (Ze fu):=
 okS T.aG.F To rfl rfl (λhr=>⟨_,(VG (pv 0) (pv 1) rfl<|>VG (pv 0) (pv 2) rfl<|>VG (pv 0) (pv 3) rfl<|>VG (pv 0) (pv 4) rfl<|>¬VG (pv 0) (pv 5) rfl),(by unfold Zd;walk_at "re")⟩)
def Zf(fu:Nat):TwS:=(zq (zB zdm (gN 1)) (zq (YV (iL (za 0)) (gN 2) (YV (iL (Zt "WholeRow" "parts" (za 2))) (gT 2 (zV (gN 3) (zV (gN 4) wI))) (Ti (za 1) (za 3) (eOp vw (zbh (za 1) (za 3) (sj 0)) (sj 1))))) (yj (za 1))))
def Zg(fu:Nat):TwF:=yb 1 4 (Zf fu)
def Tr(T:Tx K mg):T.aV.Ok P w base 1 1 (Zg fu):=
 okS T.aV.F xE rfl rfl (λhr=>⟨_,((xE^^^(1,AH rfl,zd8))<|>wa PassesOwn.leaving rfl (ya (K:=K) (pv 0)) (zu (i:=2) xE.nd rfl (AH rfl)) (¬wa PassesOwn.leaving rfl (ya (K:=K) (vB (pv 2) rfl)) (xu (K:=K) (n:=2) rfl (zK (zu (i:=3) xE.nd rfl (AH rfl)) (zK (zu (i:=4) xE.nd rfl (AH rfl)) xt))) (¬zc2 (zck hr) (pv 1) (pv 3) (zr xB (zd9 (zck hr) (pv 1) (pv 3) zg ⟨rfl,rfl,rfl,rfl⟩) zg) rfl))<|>¬(!pv 1)),(by unfold Zf;walk_at "re")⟩)
def WT(fu:Nat):TwS:=(zq (zB (Yg []) (gN 3)) (zq (YV (iEn (za 1)) (gT 2 (zV (gN 4) (zV (gN 5) wI))) (zq (zB (eOp vZ (zfL (za 0) (Zt "Step" "column" (za 5)) (sj 0)) (za 2)) (gN 6)) (sIf (bE (eOp Uu (za 6) (sj 0))) (zq (YU (eMt xw (za 3) [wS [za 4,za 6]])) (YV (iL (Zt "Step" "parts" (za 5))) (gT 2 (zV (gN 7) (zV (gN 8) wI))) (Ti (za 0) (za 7) (eOp Yh (zbh (za 0) (za 7) (sj 0)) (eOp yP (za 6) (za 8)))))) yC))) (yj (za 3))))
def WU(fu:Nat):TwF:=yb 3 6 (WT fu)
def zeR(T:Tx K mg):T.cw.Ok P w base 1 3 (WU fu):=
 okS T.cw.F wk rfl rfl (λhr=>⟨_,((wk^^^(3,AH rfl,@xC _ _ _ _ ze))<|>wa PassesOwn.leaving rfl (zgx (K:=K) rfl T.cE (pv 1\ze)) (xu (K:=K) (n:=2) rfl (zK (zu (i:=4) wk.nd rfl (AH rfl)) (zK (zu (i:=5) wk.nd rfl (AH rfl)) xt))) ((wk^^^(6,AH rfl,zr xN (ziM (pv 0) (vB (pv 5) rfl) zg ⟨rfl,rfl,rfl,rfl⟩) (pv 2)))<|>¬yU (zX (Yt (pv 6) zg)) (ZL (Um BE BM BO xU (pv 3) ((~~~(pv 4\(pv 6\ze)))\ze))<|>¬wa PassesOwn.leaving rfl (ya (K:=K) (vB (pv 5) rfl)) (xu (K:=K) (n:=2) rfl (zK (zu (i:=7) wk.nd rfl (AH rfl)) (zK (zu (i:=8) wk.nd rfl (AH rfl)) xt))) (¬zc2 (zck hr) (pv 0) (pv 7) (zr wZ (zd9 (zck hr) (pv 0) (pv 7) zg ⟨rfl,rfl,rfl,rfl⟩) (zr yv (pv 6) (pv 8))) rfl)) zU)<|>¬(!pv 3)),(by unfold WT;walk_at "re")⟩)
def Zh(fu:Nat):TwS:=(zq (zB zdm (gN 2)) (zq (YV (iIt (za 0)) (gT 2 (zV (gN 3) (zV (gN 4) wI))) (sIf (bE (eOp Uu (eOp vZ (za 4) (za 1)) (sj 0))) (Ti (za 2) (za 3) (eOp vZ (za 4) (za 1))) yC)) (yj (za 2))))
def Zi(fu:Nat):TwF:=yb 2 3 (Zh fu)
def Ts(T:Tx K mg):T.aU.Ok P w base 1 2 (Zi fu):=
 okS T.aU.F wE rfl rfl (λhr=>⟨_,((wE^^^(2,AH rfl,zd8))<|>wa PassesOwn.leaving rfl (zez (zfj D0 DY FC zey (pv 0))) (xu (K:=K) (n:=2) rfl (zK (zu (i:=3) wE.nd rfl (AH rfl)) (zK (zu (i:=4) wE.nd rfl (AH rfl)) xt))) (¬yU (zX (Yt (zr xN (pv 4) (pv 1)) zg)) (¬zc2 (zck hr) (pv 2) (pv 3) (zr xN (pv 4) (pv 1)) rfl) zU)<|>¬(!pv 2)),(by unfold Zh;walk_at "re")⟩)
def zpY(fu:Nat):TwE:=(eFn vF [Zt "WholeRow" "parts" (eOp wT (za 1) (za 0))])
def zeS(fu:Nat):mZ Xv->TwF:=zhL 1 1 (zpY fu)
def zpZ(T:Tx K mg):WB P w K mg base 1 Yc (zeS fu):=
 zjW (ps:=["k"]) ⟨rfl,rfl,rfl, *...*, *...*, *...*, *...*⟩ rfl rfl (λ_ _ _ _=>at_ λ_=>at0 rfl) (λaO f c A outer s H hr=>⟨_,zE (yd (K:=K)) rfl T.aP boot_len (vB (yi (K:=K)%(pv 1,pv 0)) rfl\ze),zcn zbd (zG (Xy T.bz T.bD T.au (yV ZB (zk 1) (zk 0))) yB)⟩)
def zp1(fu:Nat):TwE:=(wS [zgI (za 1) (za 0),za 0])
def zcD(fu:Nat):mZ Xv->TwF:=zhL 1 1 (zp1 fu)
def zp2(T:Tx K mg):WB P w K mg base 1 zcC (zcD fu):=
 zjW (ps:=["k"]) ⟨rfl,rfl,rfl, *...*, *...*, *...*, *...*⟩ rfl rfl (λ_ _ _ _=>at_ λ_=>at0 rfl) (λaO f c A outer s H hr=>⟨_,~~~(zlx (zck hr) (pv 1) (pv 0) (λ_ _=>rfl)\(pv 0\ze)),zfr (zG (zlR (zk 1) (zk 0)) (zG (zk 0) yB))⟩)
def WV(fu:Nat):TwS:=(zq (zB (zy (Zg fu) [za 0]) (gN 2)) (zq (zB (Yg []) (gN 3)) (zq (YV (iL (zdw [(Yc,zeS fu)] (eFn vF [za 0]) (zhK Yc 1 [0]))) (gN 4) (zq (zB (eFn zdv [Zt "WholeRow" "parts" (eOp wT (za 0) (za 4))]) (gN 5)) (zq (zB (za8 (WU fu) [za 5,za 3,za 1]) (gN 6)) (zq (zB (za8 (Zi fu) [za 5,za 1]) (gN 7)) (sIf (bE (eOp dGt (eFn zeu [za 7]) (sj 0))) (zq (zB (zkf [(zcC,zcD fu)] (za 7) (zhK zcC 1 [2])) (gN 8)) (zq (zB (za8 (YA fu) [zfK (za 7) (za 8),za 1]) (gN 9)) (zq (sIf (bE (eUn za5 (za 9))) (yj (eC .non)) yC) (zq (zB (yO [fC,fC,dE 1,dE 9] (iIt (za 7)) (gT 2 (zV (gN 0) (zV (gN 1) wI))) xa (wS [za 0,eOp vZ (eOp yP (za 1) (za 3)) (za 2)])) (gN 10)) (YU (eMt xw (za 3) [zbo "Step" (Ze fu) [za 4,za 8,za 9,za 6,za 10]])))))) yC))))) (yj (za 3)))))
def Yr(fu:Nat):TwF:=yb 2 9 (WV fu)
def zag(T:Tx K mg):T.bx.Ok P w base 35 2 (Yr fu):=by
 obtain⟨zc,zp,hz,hk⟩:=zj2 T.cZ T.dj;exact T.bx.F.okZ2 (fz:=["rows","counts"]) hz xb (λvs H Q E h=>h.1) (λA outer s H vs Q E hr h=>⟨_,zeK (xb^^^(2,Dd rfl,T.aV\(Tr (fu:=fu) T,hr.mono ∅,zH,pv 0\ze))) (zeK (xb^^^(3,AH rfl,@xC _ _ _ _ ze)) (zow (wa PassesOwn.leaving rfl (ya (K:=K) (zhP (k:=1) (zgU (fns:=[(Yc,zeS fu)]) (zcx (zpZ (fu:=fu) T) ∅ zeI)) (hr.mono ∅) rfl rfl T.eE rfl T.aY (zE (yd (K:=K)) rfl T.aP boot_len (pv 0\ze)) (zgY (L:=Yc) (is:=[0]) (zgX (osc:=zh wg) (N:=["rows","modulus","counts","steps","place","entries","factors","left","column","inverse","parts"]) (fz:=["rows","counts"]) rfl rfl rfl rfl (*...*)) rfl rfl (UH hz).1))) (zu (i:=4) xb.nd rfl (AH rfl)) ((xb^^^(5,AH rfl,zcd (zfP rfl) rfl T.gq PyProof.Rows.Boot.«dict» (vB (yi (K:=K)%(pv 0,pv 4)) rfl\ze)))<|>(xb^^^(6,AH rfl,T.cw\(zeR (fu:=fu) T,hr.mono ∅,Wr,pv 5\(pv 3\(pv 1\ze)))))<|>(xb^^^(7,AH rfl,T.aU\(Ts (fu:=fu) T,hr.mono ∅,Wr,pv 5\(pv 1\ze))))<|>¬yU (zX (YJ (zE zhw rfl T.aP boot_len (pv 7\ze)) zg)) ((xb^^^(8,AH rfl,zmd (K:=K) (k:=1) (zgU (fns:=[(zcC,zcD fu)]) (zcx (zp2 (fu:=fu) T) ∅ zeI)) (hr.mono ∅) rfl rfl T.iK (pv 7) (zgY (L:=zcC) (is:=[2]) (zgX (osc:=zh wg) (N:=["rows","modulus","counts","steps","place","entries","factors","left","column","inverse","parts"]) (fz:=["rows","counts"]) rfl rfl rfl rfl (*...*)) rfl rfl (UH hz).1)))<|>(xb^^^(9,Dd rfl,T.bK\(zbV (fu:=fu) T,hr.mono ∅,Wr,ziL (pv 7) (pv 8) ⟨rfl,rfl,rfl,rfl⟩\(pv 1\ze))))<|>yU (zX (Wk (pv 9))) (¬(!Xe)) zU<|>yt (i:=10) (N':=["k","number","modulus","inverse"]) rfl (vU (osc:=zh wg) rfl (*...*)) (zO (zO (yw (i:=1) rfl rfl (yw (i:=9) rfl rfl yc)))) (zez (zfj D0 DY FC zey (pv 7))) (Zs (yk (zA rfl) (yk (zA rfl) vm ym) ym)) (λC s₀ H₀ fp=>xu (K:=K) (n:=2) rfl (zK (zu (i:=0) (by walk_at "q4") rfl (AH rfl)) (zK (zu (i:=1) (by walk_at "q4") rfl (AH rfl)) xt))) (λC s₀ H₀ fp=>yo) (λC s₀ H₀ fp=>(~~~(pv 0\(zr xN (zr yv (pv 1) (pv 3)) (pv 2)\ze)))) xb.nd rfl rfl<|>¬ZL (Um BE BM BO xU (pv 3) (zgo T.fE (Tq (fu:=fu) T) (hr.mono ∅) rfl T.gu T.aG.b .nil Wr (pv 4\(pv 8\(pv 9\(pv 6\(pv 10\ze)))))\ze))) zU)<|>¬(!pv 3)))),znh (n:=2) (k:=9) (b:=WV fu) rfl (yJ (vc (Vh (zG (zk 0) yB)) zY) (yJ (vc (Wt yB) zY) (yJ (zjf (Yj (zhQ (zcn zbd (zG (zk 0) yB)) (zjV hk))) zY (yJ (vc (zcn zj9 (zG (Xy T.bz T.bD T.au (yV ZB (zk 0) (zk 4))) yB)) zY) (yJ (vc (za9 (zG (zk 5) (zG (zk 3) (zG (zk 1) yB)))) zY) (yJ (vc (za9 (zG (zk 5) (zG (zk 1) yB))) zY) (zej (zdd (zjj (zcn zlU (zG (zk 7) yB)) (wL _))) (yJ (vc (zme (zk 7) (zjV hk)) zY) (yJ (vc (za9 (zG (zj3 (zk 7) (zk 8)) (zG (zk 1) yB))) zY) (yJ (zej (zdd (zi7 (zk 9))) (VJ zi6) Us) (yJ (wc (wB (cap:=[fC,fC,dE 1,dE 9]) (zbn (zk 7)) (zdg (ZU zY (ZU zY zav))) wW (zfr (zG (zk 0) (zG (yV zfv (yV Uw (zk 1) (zk 3)) (zk 2)) yB))))) (Ut (za6 ZQ (zk 3) (zG (zhV T.cN (zG (zk 4) (zG (zk 8) (zG (zk 9) (zG (zk 6) (zG (zk 10) yB)))))) yB))))))) Us))))) (VJ (zk 3))))) h⟩)
def xV(fu:Nat):TwS:=(zq (zB (Yg []) (gN 4)) (zq (YV (zdp (za 0) (za 1)) (gT 2 (zV (gN 5) (zV (gN 6) wI))) (zq (zB (eFn zeo [yO [fC,fC,dE 4] (iL (Zt "Step" "factors" (za 5))) (gT 2 (zV (gN 0) (zV (gN 1) wI))) xa (eOp yP (za 1) (eOp wT (za 2) (za 0)))]) (gN 7)) (YU (eMt xw (za 4) [eOp vZ (eOp yP (eOp Yh (eOp vZ (za 6) (za 3)) (za 7)) (Zt "Step" "inverse" (za 5))) (za 3)])))) (zq (zB (eOp zcA (Yg [sj 0]) (za 2)) (gN 8)) (zq (YV (iRv (zfW [za 0,za 4])) (gT 2 (zV (gN 5) (zV (gN 9) wI))) (zq (zB (eFn zeo [yO [fC,fC,dE 8] (iL (Zt "Step" "parts" (za 5))) (gT 2 (zV (gN 0) (zV (gN 1) wI))) xa (eOp yP (za 1) (eOp wT (za 2) (za 0)))]) (gN 7)) (zB (eOp vZ (eOp Yh (za 9) (za 7)) (za 3)) (VI (za 8) (Zt "Step" "column" (za 5)))))) (yj (za 8))))))
def xc(fu:Nat):TwF:=yb 4 6 (xV fu)
def Wh(T:Tx K mg):T.aA.Ok P w base 1 4 (xc fu):=
 okS T.aA.F zP rfl rfl (λhr=>⟨_,((zP^^^(4,Dd rfl,@xC _ _ _ _ ze))<|>wa PassesOwn.leaving rfl (Up (K:=K) rfl T.dw (pv 0\(pv 1\ze))) (xu (K:=K) (n:=2) rfl (zK (zu (i:=5) zP.nd rfl (AH rfl)) (zK (zu (i:=6) zP.nd rfl (AH rfl)) xt))) ((zP^^^(7,AH rfl,zE (Tg (K:=K) rfl) rfl T.fD PyProof.Rows.Boot.«sum» (yg (yW (N':=["place","factor","values"]) rfl (vU (osc:=zh yQ) rfl (*...*)) (zO (zO (yw (i:=4) rfl rfl yc))) (ya (K:=K) (vB (pv 5) rfl)) (Zs (yk (zA rfl) (yk (zA rfl) vm ym) ym)) (λC s₀ H₀ fp=>xu (K:=K) (n:=2) rfl (zK (zu (i:=0) (by walk_at "q4") rfl (AH rfl)) (zK (zu (i:=1) (by walk_at "q4") rfl (AH rfl)) xt))) (λC s₀ H₀ fp=>yo) (λC s₀ H₀ fp=>(zr yv (pv 1) (yi (K:=K)%(pv 2,pv 0))))) ze)))<|>¬ZL (Um BE BM BO xU (pv 4) (zr xN (zr yv (zr wZ (zr xN (pv 6) (pv 3)) (pv 7)) (vB (pv 5) rfl)) (pv 3)\ze)))<|>(zP^^^(8,Dd rfl,zr (zgy (K:=K)) (@xC _ _ _ _ (zg\ze)) (pv 2)))<|>wa PassesOwn.leaving rfl (znX (K:=K) rfl T.dy (zkj (K:=K) rfl rfl T.dO rfl T.dw (pv 0\(pv 4\ze))\ze)) (xu (K:=K) (n:=2) rfl (zK (zu (i:=5) zP.nd rfl (AH rfl)) (zK (zu (i:=9) zP.nd rfl (AH rfl)) xt))) ((zP^^^(7,AH rfl,zE (Tg (K:=K) rfl) rfl T.fD PyProof.Rows.Boot.«sum» (yg (yW (N':=["column","number","numbers"]) rfl (vU (osc:=zh yQ) rfl (*...*)) (zO (zO (yw (i:=8) rfl rfl yc))) (ya (K:=K) (vB (pv 5) rfl)) (Zs (yk (zA rfl) (yk (zA rfl) vm ym) ym)) (λC s₀ H₀ fp=>xu (K:=K) (n:=2) rfl (zK (zu (i:=0) (by walk_at "q4") rfl (AH rfl)) (zK (zu (i:=1) (by walk_at "q4") rfl (AH rfl)) xt))) (λC s₀ H₀ fp=>yo) (λC s₀ H₀ fp=>(zr yv (pv 1) (yi (K:=K)%(pv 2,pv 0))))) ze)))<|>¬UY (zr xN (zr wZ (pv 9) (pv 7)) (pv 3)) (zaK (pv 8) (vB (pv 5) rfl) Wo))<|>¬(!pv 8)),(by unfold xV;walk_at "re")⟩)
def WW(fu:Nat):TwS:=(yj (zi5 (eUn (zar "int") (za 0)) (eB (VH (bE (eUn (zar "bool") (za 0)))))))
def Ys(fu:Nat):TwF:=yb 1 0 (WW fu)
def zah(T:Tx K mg):T.bP.Ok P w base 1 1 (Ys fu):=
 okS T.bP.F zeP rfl rfl (λhr=>⟨_,¬(!ze9 (zE (vo (K:=K)) rfl T.ao boot_isinstance (yg (pv 0) (yg (Yi (v:= .ty "int") rfl T.gn boot_int rfl) ze))) (ze8 (znA (zE (vo (K:=K)) rfl T.ao boot_isinstance (yg (pv 0) (yg (Yi (v:= .ty "bool") rfl T.f7 boot_bool rfl) ze)))))),(by unfold WW;walk_at "re")⟩)
def Yd(fu:Nat):TwS:=(zq (zB (eFn zdk [za 0]) (gN 0)) (zq (zB (eFn zdk [za 1]) (gN 1)) (zq (sWh fu (bE (eOp Uu (za 1) (sj 0))) (zq (zB (eOp vZ (za 0) (za 1)) (gN 2)) (zq (zB (za 1) (gN 0)) (zB (za 2) (gN 1))))) (yj (za 0)))))
def vR(fu:Nat):TwF:=yb 2 1 (Yd fu)
def WX(T:Tx K mg):T.aR.Ok P w base 1 2 (vR fu):=
 okS T.aR.F xF rfl rfl (λhr=>⟨_,((xF^^^(0,AH rfl,zE YL rfl T.dz boot_abs (pv 0\ze)))<|>(xF^^^(1,AH rfl,zE YL rfl T.dz boot_abs (pv 1\ze)))<|>Wl PassesOwn.leaving (zX (Yt (pv 1) zg)) ((xF^^^(2,AH rfl,zr xN (pv 0) (pv 1)))<|>(xF^^^(0,AH rfl,pv 1))<|>¬(xF^^^(1,AH rfl,pv 2)))<|>¬(!pv 0)),(by unfold Yd;walk_at "re")⟩)
def Tt(fu:Nat):TwS:=(zq (zB (zy (vR fu) [za 0,za 1]) (gN 2)) (zq (sIf (bE (eOp dLt (za 1) (sj 0))) (zB (eUn Uv (za 2)) (gN 2)) yC) (yj (wS [eOp XA (za 0) (za 2),eOp XA (za 1) (za 2)]))))
def Tu(fu:Nat):TwF:=yb 2 1 (Tt fu)
def zhX(T:Tx K mg):T.cS.Ok P w base 33 2 (Tu fu):=
 okS T.cS.F Tp rfl rfl (λhr=>⟨_,((Tp^^^(2,AH rfl,T.aR\(WX (fu:=fu) T,hr.mono ∅,zH,pv 0\(pv 1\ze))))<|>yU (zX (zii (pv 1) zg)) (¬(Tp^^^(2,AH rfl,TV Wm (pv 2)))) zU<|>¬(!(~~~(zr (WD hr) (pv 0) (pv 2)\(zr (WD hr) (pv 1) (pv 2)\ze))))),(by unfold Tt;walk_at "re")⟩)
def WY(fu:Nat):TwS:=(zq (sIf (bOr (VH (bE (zy (Ys fu) [za 0]))) (VH (bE (zy (Ys fu) [za 1])))) zfs yC) (zq (sIf (bE (eOp zbO (za 1) (sj 0))) zfs yC) (yj (zy (Tu fu) [za 0,za 1]))))
def WZ(fu:Nat):TwF:=yb 2 0 (WY fu)
def zeT(T:Tx K mg):T.cx.Ok P w base 34 2 (WZ fu):=
 okS T.cx.F zeQ rfl rfl (λhr=>⟨_,(yU (PW.pt (Wc (ZS (vA (T.bP\(zah (fu:=fu) T,hr.mono ∅,zH,pv 0\ze)))) (Xh (ZS (vA (T.bP\(zah (fu:=fu) T,hr.mono ∅,zH,pv 1\ze))))))) (¬zg5) zU<|>yU (zX (Wj (pv 1) zg)) (¬zg5) zU<|>¬(!(T.cS\(zhX (fu:=fu) T,hr.mono ∅,zH,pv 0\(pv 1\ze))))),(by unfold WY;walk_at "re")⟩)
def wu(fu:Nat):TwS:=(zq (UE "WholeRow" "parts" (za 0) (za 1)) (UE "WholeRow" "last" (za 0) (za 2)))
def wv(fu:Nat):TwF:=yb 3 0 (wu fu)
def Va(T:Tx K mg):T.ak.Ok P w mg base 1 3 (wv fu):=
 okS T.ak.F WP rfl rfl (λhr=>⟨_,(VG (pv 0) (pv 1) rfl<|>¬VG (pv 0) (pv 2) rfl),(by unfold wu;walk_at "re")⟩)
def Zj(fu:Nat):TwS:=(zq (zB (sj 1) (gN 1)) (zq (YV (iL (za 0)) (gN 2) (sIf (bE (eOp Uu (eOp vZ (za 1) (eOp xD (za 2) (sj 1))) (sj 0))) (zB (eOp yP (eOp Wu (za 1) (zy (vR fu) [za 1,eOp xD (za 2) (sj 1)])) (eOp xD (za 2) (sj 1))) (gN 1)) yC)) (yj (za 1))))
def Zk(fu:Nat):TwF:=yb 1 2 (Zj fu)
def Tv(T:Tx K mg):T.aS.Ok P w base 2 1 (Zk fu):=
 okS T.aS.F wF rfl rfl (λhr=>⟨_,((wF^^^(1,AH rfl,zg))<|>wa PassesOwn.leaving rfl (ya (K:=K) (pv 0)) (zu (i:=2) wF.nd rfl (AH rfl)) (¬yU (zX (Yt (zr xN (pv 1) (zS (K:=K)%(pv 2,zg))) zg)) (¬(wF^^^(1,AH rfl,zr yv (zr za3 (pv 1) (T.aR\(WX (fu:=fu) T,hr.mono ∅,zH,pv 1\((zS (K:=K)%(pv 2,zg))\ze)))) (zS (K:=K)%(pv 2,zg))))) zU)<|>¬(!pv 1)),(by unfold Zj;walk_at "re")⟩)
def XG(fu:Nat):TwS:=(yj (yO [fC,dE 1] (iL (za 0)) (gN 0) xa (eOp yP (eOp xD (za 0) (sj 0)) (eOp Wu (za 1) (eOp xD (za 0) (sj 1))))))
def XH(fu:Nat):TwF:=yb 2 0 (XG fu)
def zdD(T:Tx K mg):T.bT.Ok P w base 1 2 (XH fu):=
 okS T.bT.F zdA rfl rfl (λhr=>⟨_,¬(!yW (N':=["one","bottom"]) rfl (vU (osc:=zh Ym) rfl (*...*)) (zO (yw (i:=1) rfl rfl yc)) (ya (K:=K) (pv 0)) (zA rfl) (λC s₀ H₀ fp=>zu (i:=0) (by walk_at "q4") rfl (AH rfl)) (λC s₀ H₀ fp=>yo) (λC s₀ H₀ fp=>(zr yv (zS (K:=K)%(pv 0,zg)) (zr za3 (pv 1) (zS (K:=K)%(pv 0,zg)))))),(by unfold XG;walk_at "re")⟩)
def XI(fu:Nat):TwS:=(zq (zB (zy (XH fu) [za 0,zy (Zk fu) [za 0]]) (gN 1)) (zq (zB (eMt zjb (za 1) []) (gN 2)) (yj (zbo "WholeRow" (wv fu) [yO [fC,fC] (iEn (za 1)) (gT 2 (zV (gN 0) (zV (gN 1) wI))) (bE (eOp Uu (za 1) (sj 0))) (wS [za 0,za 1]),za 2]))))
def XJ(fu:Nat):TwF:=yb 1 2 (XI fu)
def zdE(T:Tx K mg):T.bS.Ok P w base 3 1 (XJ fu):=
 okS T.bS.F XE rfl rfl (λhr=>⟨_,((XE^^^(1,AH rfl,T.bT\(zdD (fu:=fu) T,hr.mono ∅,zH,pv 0\((T.aS\(Tv (fu:=fu) T,hr.mono ∅,zH,pv 0\ze))\ze))))<|>(XE^^^(2,AH rfl,zfj BE PySem.F.slot_list_pop PySem.F.type_list_pop znS (pv 1)))<|>¬(!zgo T.d7 (Va (fu:=fu) T) (hr.mono ∅) rfl T.dA T.ak.b .nil zH (yg (yW (N':=["place","top"]) rfl (vU (osc:=zh Yn) rfl (*...*)) (zO (zO yc)) (zgx (K:=K) rfl T.cE (pv 1\ze)) (Zs (yk (zA rfl) (yk (zA rfl) vm ym) ym)) (λC s₀ H₀ fp=>xu (K:=K) (n:=2) rfl (zK (zu (i:=0) (by walk_at "q4") rfl (AH rfl)) (zK (zu (i:=1) (by walk_at "q4") rfl (AH rfl)) xt))) (λC s₀ H₀ fp=>zc3 (zX (Yt (pv 1) zg))) (λC s₀ H₀ fp=>(~~~(pv 0\(pv 1\ze))))) (pv 2\ze)))),(by unfold XI;walk_at "re")⟩)
def YB(fu:Nat):TwS:=(yj (yO [fC] (iL (za 0)) (gN 0) xa (zy (XJ fu) [za 0])))
def Zp(fu:Nat):TwF:=yb 1 0 (YB fu)
def VC(T:Tx K mg):T.bj.Ok P w base 4 1 (Zp fu):=
 okS T.bj.F zbT rfl rfl (λhr=>⟨_,¬(!yW (N':=["row"]) rfl (vU (osc:=zh ZN) rfl (*...*)) (zO yc) (ya (K:=K) (pv 0)) (zA rfl) (λC s₀ H₀ fp=>zu (i:=0) (by walk_at "q4") rfl (AH rfl)) (λC s₀ H₀ fp=>yo) (λC s₀ H₀ fp=>(T.bS\(zdE (fu:=fu) T,hr.mono ∅,Wr,pv 0\ze)))),(by unfold YB;walk_at "re")⟩)
def Tw(fu:Nat):TwS:=(yj (eFn zeo [yO [fC,fC,dE 1] (iL (Zt "WholeRow" "parts" (za 0))) (gT 2 (zV (gN 0) (zV (gN 1) wI))) xa (eOp yP (za 1) (eOp wT (za 2) (za 0)))]))
def YY(fu:Nat):TwF:=yb 2 0 (Tw fu)
def zcE(T:Tx K mg):T.cF.Ok P w base 1 2 (YY fu):=
 okS T.cF.F zhW rfl rfl (λhr=>⟨_,¬(!zE (Tg (K:=K) rfl) rfl T.fD PyProof.Rows.Boot.«sum» (yg (yW (N':=["place","number","numbers"]) rfl (vU (osc:=zh UM) rfl (*...*)) (zO (zO (yw (i:=1) rfl rfl yc))) (ya (K:=K) (vB (pv 0) rfl)) (Zs (yk (zA rfl) (yk (zA rfl) vm ym) ym)) (λC s₀ H₀ fp=>xu (K:=K) (n:=2) rfl (zK (zu (i:=0) (by walk_at "q4") rfl (AH rfl)) (zK (zu (i:=1) (by walk_at "q4") rfl (AH rfl)) xt))) (λC s₀ H₀ fp=>yo) (λC s₀ H₀ fp=>(zr yv (pv 1) (yi (K:=K)%(pv 2,pv 0))))) ze)),(by unfold Tw;walk_at "re")⟩)
def Vb(fu:Nat):TwS:=(zq (YV (iL (za 0)) (gN 3) (sIf (bE (eOp Uu (zy (YY fu) [za 3,za 1]) (eOp yP (Zt "WholeRow" "last" (za 3)) (za 2)))) (yj (eC (.bl kb))) yC)) (yj (eC (.bl fJ))))
def Zv(fu:Nat):TwF:=yb 3 1 (Vb fu)
def zai(T:Tx K mg):T.bQ.Ok P w base 2 3 (Zv fu):=
 okS T.bQ.F zaf rfl rfl (λhr=>⟨_,(wa PassesOwn.leaving rfl (ya (K:=K) (pv 0)) (zu (i:=3) zaf.nd rfl (AH rfl)) (¬yU (zX (Yt (T.cF\(zcE (fu:=fu) T,hr.mono ∅,zH,pv 3\(pv 1\ze))) (zr yv (vB (pv 3) rfl) (pv 2)))) (¬(!Wi)) zU)<|>¬(!Wi)),(by unfold Vb;walk_at "re")⟩)
def zcF(fu:Nat):TwS:=(zq (zB (yO [fC,dE 0] (iL (za 1)) (gN 0) xa (eOp wT (za 1) (Zt "Step" "row" (za 0)))) (gN 4)) (zq (zB (yO [fC] (iL (za 4)) (gN 0) xa (Zt "WholeRow" "last" (za 0))) (gN 5)) (zq (zB (eOp zcA (Yg [sj 0]) (za 2)) (gN 6)) (zq (zB (Yg [sj 1]) (gN 7)) (zq (zB (sj 3) (gN 8)) (sWh fu (bE (eC (.bl fJ))) (zq (zB (zy (xc fu) [za 1,za 5,za 2,za 3]) (gN 9)) (zq (zB (yO [fC,fC,dE 7] (zdp (za 6) (za 9)) (gT 2 (zV (gN 0) (zV (gN 1) wI))) xa (eOp vw (za 0) (eOp yP (eOp wT (za 2) (eUn Uv (sj 1))) (za 1)))) (gN 6)) (zq (zB (yO [fC,fC,dE 3,dE 9] (zdp (za 4) (za 5)) (gT 2 (zV (gN 0) (zV (gN 1) wI))) xa (eOp Wu (eOp Yh (za 1) (zy (YY fu) [za 0,za 3])) (za 2))) (gN 5)) (zq (YU (eMt xw (za 7) [eOp yP (eOp wT (za 7) (eUn Uv (sj 1))) (za 3)])) (sIf (bE (eOp dGt (eFn vF [za 7]) (za 8))) (zq (zB (zy (xA fu) [za 6,eOp wT (za 7) (eUn Uv (sj 1)),eOp wT (za 7) (eOp zab (eOp Yh (za 8) (sj 1)) (sj 2))]) (gN 10)) (zq (sIf (zlE (bE (eUn zgB (za 10))) (bE (zy (Zv fu) [za 4,eOp Th (za 10) (sj 0),eOp Th (za 10) (sj 1)]))) (yj (za 10)) yC) (zB (eOp vw (za 8) (eOp zaq (sj 2) (eOp vw (eOp zab (za 8) (sj 8)) (sj 1)))) (gN 8)))) yC)))))))))))
def Tz(fu:Nat):TwF:=yb 4 7 (zcF fu)
def zhY(T:Tx K mg):T.cT.Ok P w base 36 4 (Tz fu):=
 okS T.cT.F xG rfl rfl (λhr=>⟨_,(yt (i:=4) (N':=["step","rows"]) rfl (vU (osc:=zh ZY) rfl (*...*)) (zO (yw (i:=0) rfl rfl yc)) (ya (K:=K) (pv 1)) (zA rfl) (λC s₀ H₀ fp=>zu (i:=0) (by walk_at "q4") rfl (AH rfl)) (λC s₀ H₀ fp=>yo) (λC s₀ H₀ fp=>(yi (K:=K)%(pv 1,vB (pv 0) rfl))) xG.nd rfl rfl<|>yt (i:=5) (N':=["row"]) rfl (vU (osc:=zh ZY) rfl (*...*)) (zO yc) (ya (K:=K) (pv 4)) (zA rfl) (λC s₀ H₀ fp=>zu (i:=0) (by walk_at "q4") rfl (AH rfl)) (λC s₀ H₀ fp=>yo) (λC s₀ H₀ fp=>(vB (pv 0) rfl)) xG.nd rfl rfl<|>(xG^^^(6,AH rfl,zr (zgy (K:=K)) (@xC _ _ _ _ (zg\ze)) (pv 2)))<|>(xG^^^(7,Dd rfl,@xC _ _ _ _ (zg\ze)))<|>(xG^^^(8,AH rfl,zg))<|>¬Wl PassesOwn.leaving (vA Wi) ((xG^^^(9,Dd rfl,T.aA\(Wh (fu:=fu) T,hr.mono ∅,zH,pv 1\(pv 5\(pv 2\(pv 3\ze))))))<|>yt (i:=6) (N':=["number","digit","powers"]) rfl (vU (osc:=zh ZY) rfl (*...*)) (zO (zO (yw (i:=7) rfl rfl yc))) (Up (K:=K) rfl T.dw (pv 6\(pv 9\ze))) (Zs (yk (zA rfl) (yk (zA rfl) vm ym) ym)) (λC s₀ H₀ fp=>xu (K:=K) (n:=2) rfl (zK (zu (i:=0) (by walk_at "q4") rfl (AH rfl)) (zK (zu (i:=1) (by walk_at "q4") rfl (AH rfl)) xt))) (λC s₀ H₀ fp=>yo) (λC s₀ H₀ fp=>(zr xB (pv 0) (zr yv (yi (K:=K)%(pv 2,TV Wm zg)) (pv 1)))) xG.nd rfl rfl<|>yt (i:=5) (N':=["row","last","modulus","digits"]) rfl (vU (osc:=zh ZY) rfl (*...*)) (zO (zO (yw (i:=3) rfl rfl (yw (i:=9) rfl rfl yc)))) (Up (K:=K) rfl T.dw (pv 4\(pv 5\ze))) (Zs (yk (zA rfl) (yk (zA rfl) vm ym) ym)) (λC s₀ H₀ fp=>xu (K:=K) (n:=2) rfl (zK (zu (i:=0) (by walk_at "q4") rfl (AH rfl)) (zK (zu (i:=1) (by walk_at "q4") rfl (AH rfl)) xt))) (λC s₀ H₀ fp=>yo) (λC s₀ H₀ fp=>(zr za3 (zr wZ (pv 1) (T.cF\(zcE (fu:=fu) T,hr.mono ∅,Wr,pv 0\(pv 3\ze)))) (pv 2))) xG.nd rfl rfl<|>ZL (Um BE BM BO xU (pv 7) (zr yv (yi (K:=K)%(pv 7,TV Wm zg)) (pv 3)\ze))<|>¬yU (zX (YJ (zE (yd (K:=K)) rfl T.aP boot_len (pv 7\ze)) (pv 8))) ((xG^^^(10,AH rfl,T.aE\(Vr (fu:=fu) T,hr.mono ∅,zH,pv 6\((yi (K:=K)%(pv 7,TV Wm zg))\((yi (K:=K)%(pv 7,zr zgj (zr wZ (pv 8) zg) zg))\ze)))))<|>yU (PW.pt (znz (zX (zli (pv 10))) (zlj (vA (T.bQ\(zai (fu:=fu) T,hr.mono ∅,zH,pv 4\((UF (K:=K)%(pv 10,zg))\((UF (K:=K)%(pv 10,zg))\ze)))))))) (¬(!pv 10)) zU<|>¬(xG^^^(8,AH rfl,zr xB (pv 8) (zr Ta zg (zr xB (zr zgj (pv 8) zg) zg))))) zU)),yJ (wc (wB (cap:=[fC,dE 0]) (Yj (zk 1)) zY wW (yV ZB (zk 1) (Xy T.cN T.dh T.bO (zk 0))))) (yJ (wc (wB (cap:=[fC]) (Yj (zk 4)) zY wW (Xy T.bz T.bD T.aF (zk 0)))) (yJ (vc (yV zdt (Wt (zG (wL _) yB)) (zk 2)) zY) (yJ (vc (Wt (zG (wL _) yB)) zY) (yJ (vc (wL _) zY) (zek (zdd (znd _)) (yJ (vc (Vh (zG (zk 1) (zG (zk 5) (zG (zk 2) (zG (zk 3) yB))))) zY) (yJ (wc (wB (cap:=[fC,fC,dE 7]) (zfz (zk 6) (zk 9)) (zdg (ZU zY (ZU zY zav))) wW (yV zba (zk 0) (yV Uw (yV ZB (zk 2) (zgz zbc (wL _))) (zk 1))))) (yJ (wc (wB (cap:=[fC,fC,dE 3,dE 9]) (zfz (zk 4) (zk 5)) (zdg (ZU zY (ZU zY zav))) wW (yV zbb (yV zdj (zk 1) (Vh (zG (zk 0) (zG (zk 3) yB)))) (zk 2)))) (yJ (Ut (za6 ZQ (zk 7) (zG (yV Uw (yV ZB (zk 7) (zgz zbc (wL _))) (zk 3)) yB))) (zej (zdd (zjj (zcn zbd (zG (zk 7) yB)) (zk 8))) (yJ (vc (Vh (zG (zk 6) (zG (yV ZB (zk 7) (zgz zbc (wL _))) (zG (yV ZB (zk 7) (yV zgE (yV zdj (zk 8) (wL _)) (wL _))) yB)))) zY) (yJ (zej (zn0 (zdd (zlF (zk 10))) (zdd (Vh (zG (zk 4) (zG (yV zde (zk 10) (wL _)) (zG (yV zde (zk 10) (wL _)) yB)))))) (VJ (zk 10)) Us) (vc (yV zba (zk 8) (yV zfu (wL _) (yV zba (yV zgE (zk 8) (wL _)) (wL _)))) zY))) Us))))))))))⟩)
def VD(fu:Nat):TwS:=(zq (zB (yO [fC] (iL (za 0)) (gN 0) xa (Zt "Step" "column" (za 0))) (gN 2)) (yj (eOp wT (yO [fC,dE 2] (iR1 (za 1)) (gN 0) (bE (eOp (dIn fJ) (za 0) (za 1))) (za 0)) (sj 0))))
def YC(fu:Nat):TwF:=yb 2 1 (VD fu)
def zbW(T:Tx K mg):T.bL.Ok P w base 1 2 (YC fu):=
 okS T.bL.F Vz rfl rfl (λhr=>⟨_,((Vz^^^(2,Dd rfl,yW (N':=["step"]) rfl (vU (osc:=zh vK) rfl (*...*)) (zO yc) (ya (K:=K) (pv 0)) (zA rfl) (λC s₀ H₀ fp=>zu (i:=0) (by walk_at "q4") rfl (AH rfl)) (λC s₀ H₀ fp=>yo) (λC s₀ H₀ fp=>(vB (pv 0) rfl))))<|>¬(!(yi (K:=K)%(yW (N':=["place","settled"]) rfl (vU (osc:=zh vK) rfl (*...*)) (zO (yw (i:=2) rfl rfl yc)) (wA rfl T.aY (pv 1\ze)) (zA rfl) (λC s₀ H₀ fp=>zu (i:=0) (by walk_at "q4") rfl (AH rfl)) (λC s₀ H₀ fp=>zc3 (Xk (zhA (K:=K)) (pv 0) (pv 1) (by rfl))) (λC s₀ H₀ fp=>(pv 0)),zg)))),yJ (vc (wB (cap:=[fC]) (Yj (zk 0)) zY wW (Xy T.cN T.dh T.aQ (zk 0))) zY) (VJ (yV ZB (wB (cap:=[fC,dE 2]) (Vf (zk 1)) zY (zgA (yV zpG (zk 0) (zk 1))) (zk 0)) (wL _)))⟩)
def ZH(fu:Nat):TwS:=(zq (zB (zy (Tz fu) [za 0,za 1,za 2,za 3]) (gN 4)) (zq (sIf (VH (bE (zy (Zv fu) [za 0,eOp xD (za 4) (sj 0),eOp xD (za 4) (sj 1)]))) (yj (eC .non)) yC) (yj (yO [fC,dE 4] (iL (eOp xD (za 4) (sj 0))) (gN 0) xa (zy (WZ fu) [za 0,eOp xD (za 1) (sj 1)])))))
def wX(fu:Nat):TwF:=yb 4 1 (ZH fu)
def We(T:Tx K mg):T.aM.Ok P w base 37 4 (wX fu):=
 okS T.aM.F Wd rfl rfl (λhr=>⟨_,((Wd^^^(4,Dd rfl,T.cT\(zhY (fu:=fu) T,hr.mono ∅,zH,pv 0\(pv 1\(pv 2\(pv 3\ze))))))<|>yU (ZS (vA (T.bQ\(zai (fu:=fu) T,hr.mono ∅,zH,pv 0\((zS (K:=K)%(pv 4,zg))\((zS (K:=K)%(pv 4,zg))\ze)))))) (¬(!Xe)) zU<|>¬(!yW (N':=["top","found"]) rfl (vU (osc:=zh vJ) rfl (*...*)) (zO (yw (i:=4) rfl rfl yc)) (ya (K:=K) (zS (K:=K)%(pv 4,zg))) (zA rfl) (λC s₀ H₀ fp=>zu (i:=0) (by walk_at "q4") rfl (AH rfl)) (λC s₀ H₀ fp=>yo) (λC s₀ H₀ fp=>(T.cx\(zeT (fu:=fu) T,hr.mono ∅,Wr,pv 0\((zS (K:=K)%(pv 1,zg))\ze)))))),(by unfold ZH;walk_at "re")⟩)
def VE(fu:Nat):TwS:=(zq (zB (yO [fC,dE 1] (iL (za 0)) (gN 0) xa (eOp Wv (eSl zdf (za 0) oNo (zeh (za 1))) (Yg [eC (.ct [.int 0,.int 1])]))) (gN 3)) (zq (YU (eMt xw (za 3) [eOp Wv (yO [fC,dE 2] (iR1 (za 1)) (gN 0) xa (eIf (bE (eOp zbO (za 0) (za 1))) (eC (.ct [.int 1,.int 1])) (eC (.ct [.int 0,.int 1])))) (Yg [eC (.ct [.int 1,.int 1])])])) (yj (za 3))))
def YD(fu:Nat):TwF:=yb 3 1 (VE fu)
def zbX(T:Tx K mg):T.bJ.Ok P w base 1 3 (YD fu):=
 okS T.bJ.F VA rfl rfl (λhr=>⟨_,(yt (i:=3) (N':=["row","many"]) rfl (vU (osc:=zh vL) rfl (*...*)) (zO (yw (i:=1) rfl rfl yc)) (ya (K:=K) (pv 0)) (zA rfl) (λC s₀ H₀ fp=>zu (i:=0) (by walk_at "q4") rfl (AH rfl)) (λC s₀ H₀ fp=>yo) (λC s₀ H₀ fp=>(zr (Xp (K:=K)) (zaS (za4 (K:=K)) (pv 0) zcT (zcU (pv 1))) (@xC _ _ _ _ (Xg (v:= .ref T.bF) rfl T.cO rfl\ze)))) VA.nd rfl rfl<|>ZL (Um BE BM BO xU (pv 3) (zr (Xp (K:=K)) (yW (N':=["place","free"]) rfl (vU (osc:=zh vL) rfl (*...*)) (zO (yw (i:=2) rfl rfl yc)) (wA rfl T.aY (pv 1\ze)) (zA rfl) (λC s₀ H₀ fp=>zu (i:=0) (by walk_at "q4") rfl (AH rfl)) (λC s₀ H₀ fp=>yo) (λC s₀ H₀ fp=>(ZT (zX (Wj (pv 0) (pv 1))) (Xg (v:= .ref T.d8) rfl T.fF rfl) (Xg (v:= .ref T.bF) rfl T.cO rfl)))) (@xC _ _ _ _ (Xg (v:= .ref T.d8) rfl T.fF rfl\ze))\ze))<|>¬(!pv 3)),yJ (wc (wB (cap:=[fC,dE 1]) (Yj (zk 0)) zY wW (yV Vi (zi9 (zk 0) znf (zgD (zk 1))) (Wt (zG (zbN λj H=> .ct (λH=>T.cU H) (.cons (.int _) (.cons (.int _) .nil))) yB))))) (yJ (Ut (za6 ZQ (zk 3) (zG (yV Vi (wB (cap:=[fC,dE 2]) (Vf (zk 1)) zY wW (zne (zdd (zjk (zk 0) (zk 1))) (zbN λj H=> .ct (λH=>T.fH H) (.cons (.int _) (.cons (.int _) .nil))) (zbN λj H=> .ct (λH=>T.cU H) (.cons (.int _) (.cons (.int _) .nil))))) (Wt (zG (zbN λj H=> .ct (λH=>T.fH H) (.cons (.int _) (.cons (.int _) .nil))) yB))) yB))) (VJ (zk 3)))⟩)
def VW(fu:Nat):TwS:=(zq (zB (zy (Zp fu) [za 0]) (gN 3)) (zq (zB (zy (Yr fu) [za 3,za 2]) (gN 4)) (yj (eIf (bE (eUn za5 (za 4))) (eC .non) (zy (wX fu) [za 3,za 4,za 1,za 2])))))
def XL(fu:Nat):TwF:=yb 3 2 (VW fu)
def zbw(T:Tx K mg):T.cj.Ok P w base 38 3 (XL fu):=
 okS T.cj.F VT rfl rfl (λhr=>⟨_,((VT^^^(3,AH rfl,T.bj\(VC (fu:=fu) T,hr.mono ∅,zH,pv 0\ze)))<|>(VT^^^(4,AH rfl,T.bx\(zag (fu:=fu) T,hr.mono ∅,zH,pv 3\(pv 2\ze))))<|>¬(!ZT (zX (Wk (pv 4))) Xe (T.aM\(We (fu:=fu) T,hr.mono ∅,zH,pv 3\(pv 4\(pv 1\(pv 2\ze))))))),(by unfold VW;walk_at "re")⟩)
def VX(fu:Nat):TwS:=(zq (zB (zy (XL fu) [zy (YD fu) [za 0,za 1,za 3],za 1,za 4]) (gN 5)) (yj (eIf (bE (eUn za5 (za 5))) (eC .non) (wS [sC "many",za 2,za 5]))))
def VY(fu:Nat):TwF:=yb 5 1 (VX fu)
def zf1(T:Tx K mg):T.cH.Ok P w base 39 5 (VY fu):=
 okS T.cH.F zbv rfl rfl (λhr=>⟨_,((zbv^^^(5,AH rfl,T.cj\(zbw (fu:=fu) T,hr.mono ∅,zH,(T.bJ\(zbX (fu:=fu) T,hr.mono ∅,zH,pv 0\(pv 1\(pv 3\ze))))\(pv 1\(pv 4\ze)))))<|>¬(!ZT (zX (Wk (pv 5))) Xe (~~~(UX\(pv 2\(pv 5\ze)))))),(by unfold VX;walk_at "re")⟩)
def zcG(fu:Nat):TwS:=(zq (zB (yO [fC,dE 0] (iR1 (za 1)) (gN 0) xa (eOp Wv (yO [fC,dE 0] (iL (za 1)) (gN 0) xa (eOp wT (za 0) (za 1))) (Yg [eC (.ct [.int 0,.int 1])]))) (gN 2)) (zq (YU (eMt xw (za 2) [eOp Wv (yO [fC,dE 1] (iL (za 0)) (gN 0) xa (eOp wT (za 0) (za 1))) (Yg [eC (.ct [.int 1,.int 1])])])) (yj (za 2))))
def TB(fu:Nat):TwF:=yb 2 1 (zcG fu)
def zhZ(T:Tx K mg):T.cR.Ok P w base 1 2 (TB fu):=
 okS T.cR.F zcB rfl rfl (λhr=>⟨_,(yt (i:=2) (N':=["place","rows"]) rfl (vU (osc:=zh WK) rfl (*...*)) (zO (yw (i:=0) rfl rfl yc)) (wA rfl T.aY (pv 1\ze)) (zA rfl) (λC s₀ H₀ fp=>zu (i:=0) (by walk_at "q4") rfl (Dd rfl)) (λC s₀ H₀ fp=>yo) (λC s₀ H₀ fp=>(zr (Xp (K:=K)) (yW (N':=["row","place"]) rfl (zpU (*...*)) (zO (yw (i:=0) rfl rfl yc)) (ya (K:=K) (pv 1)) (zA rfl) (λC s₀ H₀ fp=>zu (i:=0) (by walk_at "q4") rfl (AH rfl)) (λC s₀ H₀ fp=>yo) (λC s₀ H₀ fp=>(yi (K:=K)%(pv 0,pv 1)))) (@xC _ _ _ _ (Xg (v:= .ref T.bF) rfl T.cO rfl\ze)))) zcB.nd rfl rfl<|>ZL (Um BE BM BO xU (pv 2) (zr (Xp (K:=K)) (yW (N':=["row","many"]) rfl (vU (osc:=zh WK) rfl (*...*)) (zO (yw (i:=1) rfl rfl yc)) (ya (K:=K) (pv 0)) (zA rfl) (λC s₀ H₀ fp=>zu (i:=0) (by walk_at "q4") rfl (AH rfl)) (λC s₀ H₀ fp=>yo) (λC s₀ H₀ fp=>(yi (K:=K)%(pv 0,pv 1)))) (@xC _ _ _ _ (Xg (v:= .ref T.d8) rfl T.fF rfl\ze))\ze))<|>¬(!pv 2)),yJ (wc (wB (cap:=[fC,dE 0]) (Vf (zk 1)) zY wW (yV Vi (wB (cap:=[fC,dE 0]) (Yj (zk 1)) zY wW (yV ZB (zk 0) (zk 1))) (Wt (zG (zbN λj H=> .ct (λH=>T.cU H) (.cons (.int _) (.cons (.int _) .nil))) yB))))) (yJ (Ut (za6 ZQ (zk 2) (zG (yV Vi (wB (cap:=[fC,dE 1]) (Yj (zk 0)) zY wW (yV ZB (zk 0) (zk 1))) (Wt (zG (zbN λj H=> .ct (λH=>T.fH H) (.cons (.int _) (.cons (.int _) .nil))) yB))) yB))) (VJ (zk 2)))⟩)
def VZ(fu:Nat):TwS:=(zq (zB (zy (XL fu) [zy (TB fu) [za 0,za 1],eFn vF [za 0],za 2]) (gN 3)) (yj (eIf (bE (eUn za5 (za 3))) (eC .non) (wS [sC "none",za 3]))))
def Ua(fu:Nat):TwF:=yb 3 1 (VZ fu)
def zf2(T:Tx K mg):T.cG.Ok P w base 39 3 (Ua fu):=
 okS T.cG.F zbu rfl rfl (λhr=>⟨_,((zbu^^^(3,AH rfl,T.cj\(zbw (fu:=fu) T,hr.mono ∅,zH,(T.cR\(zhZ (fu:=fu) T,hr.mono ∅,zH,pv 0\(pv 1\ze)))\(zE (yd (K:=K)) rfl T.aP boot_len (pv 0\ze)\(pv 2\ze)))))<|>¬(!ZT (zX (Wk (pv 3))) Xe (~~~(UX\(pv 3\ze))))),(by unfold VZ;walk_at "re")⟩)
def XM(fu:Nat):TwS:=(zq (zB (zy (Zp fu) [za 0]) (gN 3)) (zq (zB (zy (Yr fu) [za 3,za 2]) (gN 4)) (zq (sIf (bE (eUn za5 (za 4))) (yj (eC .non)) yC) (zq (zB (zy (wX fu) [za 3,za 4,za 1,za 2]) (gN 5)) (zq (sIf (bE (eUn za5 (za 5))) (yj (zy (Ua fu) [za 0,za 1,za 2])) yC) (zq (sIf (bE (eOp zbO (eFn vF [za 4]) (za 1))) (yj (wS [sC "one",za 5])) yC) (yj (zy (VY fu) [za 0,za 1,za 5,zy (YC fu) [za 4,za 1],za 2]))))))))
def xq(fu:Nat):TwF:=yb 3 3 (XM fu)
def UP(T:Tx K mg):T.bA.Ok P w base 40 3 (xq fu):=
 okS T.bA.F ZO rfl rfl (λhr=>⟨_,((ZO^^^(3,AH rfl,T.bj\(VC (fu:=fu) T,hr.mono ∅,zH,pv 0\ze)))<|>(ZO^^^(4,AH rfl,T.bx\(zag (fu:=fu) T,hr.mono ∅,zH,pv 3\(pv 2\ze))))<|>yU (zX (Wk (pv 4))) (¬(!Xe)) zU<|>(ZO^^^(5,AH rfl,T.aM\(We (fu:=fu) T,hr.mono ∅,zH,pv 3\(pv 4\(pv 1\(pv 2\ze))))))<|>yU (zX (Wk (pv 5))) (¬(!(T.cG\(zf2 (fu:=fu) T,hr.mono ∅,zH,pv 0\(pv 1\(pv 2\ze)))))) zU<|>yU (zX (Wj (zE (yd (K:=K)) rfl T.aP boot_len (pv 4\ze)) (pv 1))) (¬(!(~~~(UX\(pv 5\ze))))) zU<|>¬(!(T.cH\(zf1 (fu:=fu) T,hr.mono ∅,zH,pv 0\(pv 1\(pv 5\((T.bL\(zbW (fu:=fu) T,hr.mono ∅,zH,pv 4\(pv 1\ze)))\(pv 2\ze)))))))),(by unfold XM;walk_at "re")⟩)
def XN(fu:Nat):TwS:=(zq (zB (sj 1000000000000000000000000000000000000000000009) (gN 2)) (zq (zB (zy (xq fu) [za 0,za 1,za 2]) (gN 3)) (zq (sWh fu (bE (eUn za5 (za 3))) (zq (zB (eOp vw (za 2) (sj 2)) (gN 2)) (zB (zy (xq fu) [za 0,za 1,za 2]) (gN 3)))) (yj (za 3)))))
def wG(fu:Nat):TwF:=yb 2 2 (XN fu)
def zdF(T:Tx K mg):T.bU.Ok P w base 41 2 (wG fu):=
 okS T.bU.F vM rfl rfl (λhr=>⟨_,((vM^^^(2,AH rfl,match T.cz with|⟨t,h⟩=>Xg (v:= .int 1000000000000000000000000000000000000000000009) rfl h ⟨t,rfl⟩))<|>(vM^^^(3,AH rfl,T.bA\(UP (fu:=fu) T,hr.mono ∅,zH,pv 0\(pv 1\(pv 2\ze)))))<|>Wl PassesOwn.leaving (zX (Wk (pv 3))) ((vM^^^(2,AH rfl,zr xB (pv 2) zg))<|>¬(vM^^^(3,AH rfl,T.bA\(UP (fu:=fu) T,hr.mono ∅,zH,pv 0\(pv 1\(pv 2\ze))))))<|>¬(!pv 3)),(by unfold XN;walk_at "re")⟩)
def XO(fu:Nat):TwS:=(zq (zB (sj 0) (gN 4)) (zq (sIf (bE (eOp dGt (eFn vF [za 0]) (sj 0))) (zB (eOp wT (za 0) (eOp vZ (za 1) (eFn vF [za 0]))) (gN 4)) yC) (yj (eOp vZ (eOp vZ (eOp vw (eOp zaq (eOp vw (za 4) (eOp yP (za 1) (za 1))) (sj 48271)) (sj 11)) (za 2)) (za 3)))))
def zJ(fu:Nat):TwF:=yb 4 1 (XO fu)
def zT(T:Tx K mg):T.ah.Ok P w base 1 4 (zJ fu):=
 okS T.ah.F XF rfl rfl (λhr=>⟨_,((XF^^^(4,AH rfl,zg))<|>yU (zX (YJ (zE (yd (K:=K)) rfl T.aP boot_len (pv 0\ze)) zg)) (¬(XF^^^(4,AH rfl,yi (K:=K)%(pv 0,zr xN (pv 1) (zE (yd (K:=K)) rfl T.aP boot_len (pv 0\ze)))))) zU<|>¬(!zr xN (zr xN (zr xB (zr Ta (zr xB (pv 4) (zr yv (pv 1) (pv 1))) zg) zg) (pv 2)) (pv 3))),(by unfold XO;walk_at "re")⟩)
def XQ(fu:Nat):TwS:=(zq (sIf (bE (eOp dGt (eFn vF [za 0]) (sj 0))) (yj (eOp wT (za 0) (eOp vZ (za 1) (eFn vF [za 0])))) yC) (yj (sj 0)))
def ZP(fu:Nat):TwF:=yb 2 0 (XQ fu)
def UQ(T:Tx K mg):T.bC.Ok P w base 1 2 (ZP fu):=
 okS T.bC.F zdB rfl rfl (λhr=>⟨_,(yU (zX (YJ (zE (yd (K:=K)) rfl T.aP boot_len (pv 0\ze)) zg)) (¬(!(yi (K:=K)%(pv 0,zr xN (pv 1) (zE (yd (K:=K)) rfl T.aP boot_len (pv 0\ze)))))) zU<|>¬(!zg)),(by unfold XQ;walk_at "re")⟩)
def Ye(fu:Nat):TwS:=(zq (zB (eFn zdk [za 0]) (gN 2)) (zq (zB (eFn zdk [za 1]) (gN 3)) (zq (sWh fu (bE (eOp dGt (za 3) (sj 0))) (zlH 2 3 [za 3,eOp vZ (za 2) (za 3)])) (yj (wS [eOp XA (za 0) (za 2),eOp XA (za 1) (za 2)])))))
def yR(fu:Nat):TwF:=yb 2 2 (Ye fu)
def xH(T:Tx K mg):T.ai.Ok P w base 33 2 (yR fu):=
 okS T.ai.F vN rfl rfl (λhr=>⟨_,((vN^^^(2,AH rfl,zE YL rfl T.dz boot_abs (pv 0\ze)))<|>(vN^^^(3,AH rfl,zE YL rfl T.dz boot_abs (pv 1\ze)))<|>Wl PassesOwn.leaving (zX (YJ (pv 3) zg)) (¬znI (i:=2) (j:=3) rfl vN.nd rfl rfl ∅ rfl rfl (pv 3\(zr xN (pv 2) (pv 3)\ze)) rfl)<|>¬(!(~~~(zr (WD hr) (pv 0) (pv 2)\(zr (WD hr) (pv 1) (pv 2)\ze))))),(by unfold Ye;walk_at "re")⟩)
def Zl(fu:Nat):TwS:=(zq (zB (zy (zJ fu) [za 0,za 1,sj 10007,sj 4]) (gN 2)) (zq (zB (eOp vw (sj 1) (zy (zJ fu) [za 0,za 1,sj 10009,sj 9])) (gN 3)) (zq (sIf (bE (eOp zbO (za 2) (sj 0))) (yj (wS [sj 0,sj 1])) yC) (zq (sIf (bE (eOp zbO (za 2) (sj 1))) (yj (zy (yR fu) [eOp Yh (eOp vZ (zy (ZP fu) [za 0,za 1]) (eOp zaq (sj 2) (eOp zel (sj 10) (sj 59)))) (eOp zel (sj 10) (sj 59)),za 3])) yC) (yj (zy (yR fu) [eOp Yh (zy (zJ fu) [za 0,za 1,sj 10037,sj 13]) (sj 6),za 3]))))))
def Zm(fu:Nat):TwF:=yb 2 2 (Zl fu)
def TC(T:Tx K mg):T.aW.Ok P w base 34 2 (Zm fu):=
 okS T.aW.F Zc rfl rfl (λhr=>⟨_,((Zc^^^(2,AH rfl,T.ah\(zT (fu:=fu) T,hr.mono ∅,zH,pv 0\(pv 1\(zg\(zg\ze))))))<|>(Zc^^^(3,AH rfl,zr xB zg (T.ah\(zT (fu:=fu) T,hr.mono ∅,zH,pv 0\(pv 1\(zg\(zg\ze)))))))<|>yU (zX (Wj (pv 2) zg)) (¬(!(~~~(zg\(zg\ze))))) zU<|>yU (zX (Wj (pv 2) zg)) (¬(!(T.ai\(xH (fu:=fu) T,hr.mono ∅,zH,zr wZ (zr xN (T.bC\(UQ (fu:=fu) T,hr.mono ∅,zH,pv 0\(pv 1\ze))) (zr Ta zg (zr zaM zg zg))) (zr zaM zg zg)\(pv 3\ze))))) zU<|>¬(!(T.ai\(xH (fu:=fu) T,hr.mono ∅,zH,zr wZ (T.ah\(zT (fu:=fu) T,hr.mono ∅,zH,pv 0\(pv 1\(zg\(zg\ze))))) zg\(pv 3\ze))))),(by unfold Zl;walk_at "re")⟩)
def Vc(fu:Nat):TwS:=(zq (zB (sj 0) (gN 2)) (zq (zB (sj 1) (gN 3)) (zq (YV (zdp (za 0) (za 1)) (gT 2 (zV (gN 4) (zV (gN 5) wI))) (zq (zB (eOp vw (eOp yP (eOp yP (za 2) (eOp xD (za 4) (sj 1))) (eOp xD (za 5) (sj 1))) (eOp yP (eOp yP (eOp xD (za 4) (sj 0)) (eOp xD (za 5) (sj 0))) (za 3))) (gN 2)) (zB (eOp yP (eOp yP (za 3) (eOp xD (za 4) (sj 1))) (eOp xD (za 5) (sj 1))) (gN 3)))) (yj (zy (yR fu) [za 2,za 3])))))
def yS(fu:Nat):TwF:=yb 2 4 (Vc fu)
def xL(T:Tx K mg):T.ax.Ok P w base 34 2 (yS fu):=
 okS T.ax.F wm rfl rfl (λhr=>⟨_,((wm^^^(2,AH rfl,zg))<|>(wm^^^(3,AH rfl,zg))<|>wa PassesOwn.leaving rfl (Up (K:=K) rfl T.dw (pv 0\(pv 1\ze))) (xu (K:=K) (n:=2) rfl (zK (zu (i:=4) wm.nd rfl (AH rfl)) (zK (zu (i:=5) wm.nd rfl (AH rfl)) xt))) ((wm^^^(2,AH rfl,zr xB (zr yv (zr yv (pv 2) (zS (K:=K)%(pv 4,zg))) (zS (K:=K)%(pv 5,zg))) (zr yv (zr yv (zS (K:=K)%(pv 4,zg)) (zS (K:=K)%(pv 5,zg))) (pv 3))))<|>¬(wm^^^(3,AH rfl,zr yv (zr yv (pv 3) (zS (K:=K)%(pv 4,zg))) (zS (K:=K)%(pv 5,zg)))))<|>¬(!(T.ai\(xH (fu:=fu) T,hr.mono ∅,zH,pv 2\(pv 3\ze))))),(by unfold Vc;walk_at "re")⟩)
def YE(fu:Nat):TwS:=(zq (sIf (bOr (VH (bE (eUn (zar "tuple") (za 0)))) (bE (eOp Uu (eFn vF [za 0]) (sj 2)))) (yj (eC (.bl kb))) yC) (zq (YV (iA (za 0)) (gN 1) (sIf (bOr (VH (bE (eUn (zar "int") (za 1)))) (bE (eUn (zar "bool") (za 1)))) (yj (eC (.bl kb))) yC)) (yj (zi5 (eOp dGt (eOp Th (za 0) (sj 1)) (sj 0)) (eOp (zas kb) (zy (yR fu) [eOp Th (za 0) (sj 0),eOp Th (za 0) (sj 1)]) (za 0))))))
def YF(fu:Nat):TwF:=yb 1 1 (YE fu)
def zbY(T:Tx K mg):T.bM.Ok P w base 34 1 (YF fu):=
 okS T.bM.F VB rfl rfl (λhr=>⟨_,(yU (PW.pt (Wc (ZS (vA (zE (vo (K:=K)) rfl T.ao boot_isinstance (yg (pv 0) (yg (Yi (v:= .ty "tuple") rfl T.dM boot_tuple rfl) ze))))) (Xh (zX (Yt (zE (yd (K:=K)) rfl T.aP boot_len (pv 0\ze)) zg))))) (¬(!Wi)) zU<|>wa PassesOwn.leaving rfl (zgS (K:=K) (pv 0)) (zu (i:=1) VB.nd rfl (AH rfl)) (¬yU (PW.pt (Wc (ZS (vA (zE (vo (K:=K)) rfl T.ao boot_isinstance (yg (pv 1) (yg (Yi (v:= .ty "int") rfl T.gn boot_int rfl) ze))))) (Xh (vA (zE (vo (K:=K)) rfl T.ao boot_isinstance (yg (pv 1) (yg (Yi (v:= .ty "bool") rfl T.f7 boot_bool rfl) ze))))))) (¬(!Wi)) zU)<|>¬(!ze9 (zij (YJ (UF (K:=K)%(pv 0,zg)) zg)) (ze8 (zcR (zjG (K:=K) hr) (T.ai\(xH (fu:=fu) T,hr.mono ∅,zH,(UF (K:=K)%(pv 0,zg))\((UF (K:=K)%(pv 0,zg))\ze))) (pv 0) (by rfl))))),(by unfold YE;walk_at "re")⟩)
def XR(fu:Nat):TwS:=(zq (sIf (bOr (VH (bE (eUn (zar "list") (za 0)))) (bE (eOp Uu (eFn vF [za 0]) (za 1)))) (yj (eC (.bl kb))) yC) (yj (eFn zlJ [yO [fC] (iA (za 0)) (gN 0) xa (zy (YF fu) [za 0])])))
def vS(fu:Nat):TwF:=yb 2 0 (XR fu)
def XS(T:Tx K mg):T.aX.Ok P w base 35 2 (vS fu):=
 okS T.aX.F zdC rfl rfl (λhr=>⟨_,(yU (PW.pt (Wc (ZS (vA (zE (vo (K:=K)) rfl T.ao boot_isinstance (yg (pv 0) (yg (Yi (v:= .ty "list") rfl T.dO boot_list rfl) ze))))) (Xh (zX (Yt (zE (yd (K:=K)) rfl T.aP boot_len (pv 0\ze)) (pv 1)))))) (¬(!Wi)) zU<|>¬(!zE (zhD (K:=K) rfl) rfl T.iM PyProof.Rows.Boot.«all» (yg (yW (N':=["_law_one"]) rfl (vU (osc:=zh Yo) rfl (*...*)) (zO yc) (zgS (K:=K) (pv 0)) (zA rfl) (λC s₀ H₀ fp=>zu (i:=0) (by walk_at "q4") rfl (AH rfl)) (λC s₀ H₀ fp=>yo) (λC s₀ H₀ fp=>(T.bM\(zbY (fu:=fu) T,hr.mono ∅,Wr,pv 0\ze)))) ze))),(by unfold XR;walk_at "re")⟩)
def vg(fu:Nat):TwS:=(zq (sIf (bOr (bE (eOp Uu (eFn vF [za 0]) (sj 3))) (bOr (VH (bE (zy (vS fu) [eOp xD (za 0) (sj 1),za 2]))) (VH (bE (zy (vS fu) [eOp xD (za 0) (sj 2),za 2]))))) (yj (eC (.bl kb))) yC) (zq (YV (iL (za 1)) (gN 3) (sIf (bOr (bE (eOp (zas fJ) (zy (yS fu) [za 3,eOp xD (za 0) (sj 1)]) (eOp wT (za 3) (za 2)))) (bE (eOp (zas fJ) (zy (yS fu) [za 3,eOp xD (za 0) (sj 2)]) (wS [sj 0,sj 1])))) (yj (eC (.bl kb))) yC)) (yj (eOp dGt (eFn vF [yO [fC] (iL (eOp xD (za 0) (sj 2))) (gN 0) (bE (eOp (zas fJ) (za 0) (wS [sj 0,sj 1]))) (za 0)]) (sj 0)))))
def vh(fu:Nat):TwF:=yb 3 1 (vg fu)
def Ub(T:Tx K mg):T.aJ.Ok P w base 36 3 (vh fu):=
 okS T.aJ.F Ya rfl rfl (λhr=>⟨_,(yU (PW.pt (Wc (zX (Yt (zE (yd (K:=K)) rfl T.aP boot_len (pv 0\ze)) zg)) (Wc (ZS (vA (T.aX\(XS (fu:=fu) T,hr.mono ∅,zH,(zS (K:=K)%(pv 0,zg))\(pv 2\ze))))) (Xh (ZS (vA (T.aX\(XS (fu:=fu) T,hr.mono ∅,zH,(zS (K:=K)%(pv 0,zg))\(pv 2\ze))))))))) (¬(!Wi)) zU<|>wa PassesOwn.leaving rfl (ya (K:=K) (pv 1)) (zu (i:=3) Ya.nd rfl (AH rfl)) (¬yU (PW.pt (Wc (Xk (zbi (K:=K) hr) (T.ax\(xL (fu:=fu) T,hr.mono ∅,zH,pv 3\((zS (K:=K)%(pv 0,zg))\ze))) (yi (K:=K)%(pv 3,pv 2)) (by rfl)) (Xh (Xk (zbi (K:=K) hr) (T.ax\(xL (fu:=fu) T,hr.mono ∅,zH,pv 3\((zS (K:=K)%(pv 0,zg))\ze))) (~~~(zg\(zg\ze))) (by rfl))))) (¬(!Wi)) zU)<|>¬(!zij (YJ (zE (yd (K:=K)) rfl T.aP boot_len (yg (yW (N':=["_law_one"]) rfl (vU (osc:=zh xX) rfl (*...*)) (zO yc) (ya (K:=K) (zS (K:=K)%(pv 0,zg))) (zA rfl) (λC s₀ H₀ fp=>zu (i:=0) (by walk_at "q4") rfl (AH rfl)) (λC s₀ H₀ fp=>zc3 (Xk (zbi (K:=K) hr) (pv 0) (~~~(zg\(zg\ze))) (by rfl))) (λC s₀ H₀ fp=>(pv 0))) ze)) zg))),(by unfold vg;walk_at "re")⟩)
def vi(fu:Nat):TwS:=(zq (sIf (bOr (bE (eOp Uu (eFn vF [za 0]) (sj 2))) (VH (bE (zy (vS fu) [eOp xD (za 0) (sj 1),eFn vF [za 1]])))) (yj (eC (.bl kb))) yC) (zq (YV (iR1 (za 2)) (gN 3) (sIf (bE (eOp (zas fJ) (zy (yS fu) [yO [fC,dE 3] (iL (za 1)) (gN 0) xa (eOp wT (za 0) (za 1)),eOp xD (za 0) (sj 1)]) (wS [sj 0,sj 1]))) (yj (eC (.bl kb))) yC)) (yj (eOp (zas fJ) (zy (yS fu) [yO [fC,dE 2] (iL (za 1)) (gN 0) xa (eOp wT (za 0) (za 1)),eOp xD (za 0) (sj 1)]) (wS [sj 0,sj 1])))))
def vj(fu:Nat):TwF:=yb 3 1 (vi fu)
def Uc(T:Tx K mg):T.aI.Ok P w base 36 3 (vj fu):=
 okS T.aI.F Yb rfl rfl (λhr=>⟨_,(yU (PW.pt (Wc (zX (Yt (zE (yd (K:=K)) rfl T.aP boot_len (pv 0\ze)) zg)) (Xh (ZS (vA (T.aX\(XS (fu:=fu) T,hr.mono ∅,zH,(zS (K:=K)%(pv 0,zg))\(zE (yd (K:=K)) rfl T.aP boot_len (pv 1\ze)\ze)))))))) (¬(!Wi)) zU<|>wa PassesOwn.leaving rfl (wA rfl T.aY (pv 2\ze)) (zu (i:=3) Yb.nd rfl (Dd rfl)) (¬yU (Xk (zbi (K:=K) hr) (T.ax\(xL (fu:=fu) T,hr.mono ∅,zH,yg (yW (N':=["_law_row","_law_at"]) rfl (vU (osc:=zh xo) rfl (*...*)) (zO (yw (i:=3) rfl rfl yc)) (ya (K:=K) (pv 1)) (zA rfl) (λC s₀ H₀ fp=>zu (i:=0) (by walk_at "q4") rfl (AH rfl)) (λC s₀ H₀ fp=>yo) (λC s₀ H₀ fp=>(yi (K:=K)%(pv 0,pv 1)))) ((zS (K:=K)%(pv 0,zg))\ze))) (~~~(zg\(zg\ze))) (by rfl)) (¬(!Wi)) zU)<|>¬(!zcR (zbi (K:=K) hr) (T.ax\(xL (fu:=fu) T,hr.mono ∅,zH,yg (yW (N':=["_law_row","_law_many"]) rfl (vU (osc:=zh xo) rfl (*...*)) (zO (yw (i:=2) rfl rfl yc)) (ya (K:=K) (pv 1)) (zA rfl) (λC s₀ H₀ fp=>zu (i:=0) (by walk_at "q4") rfl (AH rfl)) (λC s₀ H₀ fp=>yo) (λC s₀ H₀ fp=>(yi (K:=K)%(pv 0,pv 1)))) ((zS (K:=K)%(pv 0,zg))\ze))) (~~~(zg\(zg\ze))) (by rfl))),(by unfold vi;walk_at "re")⟩)
def YG(fu:Nat):TwS:=(zq (sIf (bOr (VH (bE (eUn (zar "tuple") (za 0)))) (bOr (bE (eOp dLt (eFn vF [za 0]) (sj 2))) (bOr (VH (bE (eUn (zar "str") (eOp xD (za 0) (sj 0))))) (bE (eOp (zfw fJ) (eOp xD (za 0) (sj 0)) (za 1)))))) (yj (eC (.bl kb))) yC) (zq (sIf (bE (eOp (zfw kb) (za 1) (sC "many"))) (yj (zy (vh fu) [za 0,za 2,za 3])) yC) (yj (zy (vj fu) [za 0,za 2,za 3]))))
def YH(fu:Nat):TwF:=yb 4 0 (YG fu)
def zbZ(T:Tx K mg):T.bN.Ok P w base 37 4 (YH fu):=
 okS T.bN.F zbU rfl rfl (λhr=>⟨_,(yU (PW.pt (Wc (ZS (vA (zE (vo (K:=K)) rfl T.ao boot_isinstance (yg (pv 0) (yg (Yi (v:= .ty "tuple") rfl T.dM boot_tuple rfl) ze))))) (Wc (zX (zii (zE (yd (K:=K)) rfl T.aP boot_len (pv 0\ze)) zg)) (Wc (ZS (vA (zE (vo (K:=K)) rfl T.ao boot_isinstance (yg (zS (K:=K)%(pv 0,zg)) (yg (Yi (v:= .ty "str") rfl T.iJ boot_str rfl) ze))))) (Xh (Xk zpf (zS (K:=K)%(pv 0,zg)) (pv 1) (by rfl))))))) (¬(!Wi)) zU<|>yU (Xk zpe (pv 1) UX (by rfl)) (¬(!(T.aJ\(Ub (fu:=fu) T,hr.mono ∅,zH,pv 0\(pv 2\(pv 3\ze)))))) zU<|>¬(!(T.aI\(Uc (fu:=fu) T,hr.mono ∅,zH,pv 0\(pv 2\(pv 3\ze)))))),(by unfold YG;walk_at "re")⟩)
def XT(fu:Nat):TwS:=(zq (zB (zy (zJ fu) [za 0,za 1,sj 10151,sj 9]) (gN 2)) (zq (sIf (bE (eOp zbO (za 2) (sj 0))) (yj (wS [eOp vw (eOp Yh (eOp vZ (zy (ZP fu) [za 0,za 1]) (eOp Yh (eOp zaq (sj 2) (eOp zel (sj 10) (sj 9))) (sj 1))) (eOp zel (sj 10) (sj 9))) (sj 1),sj 1])) yC) (yj (zy (yR fu) [eOp Yh (zy (zJ fu) [za 0,za 1,sj 10159,sj 5]) (sj 2),eOp vw (sj 1) (zy (zJ fu) [za 0,za 1,sj 10163,sj 4])]))))
def XU(fu:Nat):TwF:=yb 2 1 (XT fu)
def zdG(T:Tx K mg):T.bW.Ok P w base 34 2 (XU fu):=
 okS T.bW.F UN rfl rfl (λhr=>⟨_,((UN^^^(2,AH rfl,T.ah\(zT (fu:=fu) T,hr.mono ∅,zH,pv 0\(pv 1\(zg\(zg\ze))))))<|>yU (zX (Wj (pv 2) zg)) (¬(!(~~~(zr xB (zr wZ (zr xN (T.bC\(UQ (fu:=fu) T,hr.mono ∅,zH,pv 0\(pv 1\ze))) (zr wZ (zr Ta zg (zr zaM zg zg)) zg)) (zr zaM zg zg)) zg\(zg\ze))))) zU<|>¬(!(T.ai\(xH (fu:=fu) T,hr.mono ∅,zH,zr wZ (T.ah\(zT (fu:=fu) T,hr.mono ∅,zH,pv 0\(pv 1\(zg\(zg\ze))))) zg\(zr xB zg (T.ah\(zT (fu:=fu) T,hr.mono ∅,zH,pv 0\(pv 1\(zg\(zg\ze)))))\ze))))),(by unfold XT;walk_at "re")⟩)
def XV(fu:Nat):TwS:=(zq (zB (zy (zJ fu) [za 0,sj 1,sj 10061,za 1]) (gN 2)) (zq (zB (Yg []) (gN 3)) (zq (YV (iR1 (za 1)) (gN 4) (YU (eMt xw (za 3) [zy (yR fu) [eOp Yh (zy (zJ fu) [za 0,eOp vw (sj 2) (za 4),sj 10067,sj 7]) (sj 3),eOp vw (sj 1) (zy (zJ fu) [za 0,eOp vw (sj 2) (za 4),sj 10069,sj 3])]]))) (zq (zB (wS [sj 1,sj 1]) (VI (za 3) (za 2))) (zq (zB (yO [fC,dE 0] (iR1 (za 1)) (gN 0) xa (zy (Zm fu) [za 1,eOp vw (sj 7) (za 0)])) (gN 5)) (zq (zB (Yg []) (gN 6)) (zq (YV (iR1 (zy (zJ fu) [za 0,sj 12,sj 10079,sj 6])) (gN 7) (zq (zB (yO [fC,dE 0,dE 7] (iR1 (za 1)) (gN 0) xa (zy (XU fu) [za 1,eOp vw (eOp vw (sj 13) (eOp zaq (za 2) (sj 5))) (za 0)])) (gN 8)) (zq (zB (wS [sj 0,sj 1]) (VI (za 8) (za 2))) (zq (zB (zy (yS fu) [za 8,za 3]) (gT 2 (zV (gN 9) (zV (gN 10) wI)))) (zq (zB (wS [eUn Uv (za 9),za 10]) (VI (za 8) (za 2))) (YU (eMt xw (za 6) [eOp Wv (za 8) (Yg [zy (yS fu) [za 8,za 5]])]))))))) (yj (za 6)))))))))
def XW(fu:Nat):TwF:=yb 2 9 (XV fu)
def zdH(T:Tx K mg):T.bV.Ok P w base 35 2 (XW fu):=
 okS T.bV.F yM rfl rfl (λhr=>⟨_,((yM^^^(2,AH rfl,T.ah\(zT (fu:=fu) T,hr.mono ∅,zH,pv 0\(zg\(zg\(pv 1\ze))))))<|>(yM^^^(3,AH rfl,@xC _ _ _ _ ze))<|>wa PassesOwn.leaving rfl (wA rfl T.aY (pv 1\ze)) (zu (i:=4) yM.nd rfl (AH rfl)) (¬ZL (Um BE BM BO xU (pv 3) ((T.ai\(xH (fu:=fu) T,hr.mono ∅,zH,zr wZ (T.ah\(zT (fu:=fu) T,hr.mono ∅,zH,pv 0\(zr xB zg (pv 4)\(zg\(zg\ze))))) zg\(zr xB zg (T.ah\(zT (fu:=fu) T,hr.mono ∅,zH,pv 0\(zr xB zg (pv 4)\(zg\(zg\ze)))))\ze)))\ze)))<|>UY (~~~(zg\(zg\ze))) (zaK (pv 3) (pv 2) Wo)<|>yt (i:=5) (N':=["_law_k","_law_script"]) rfl (vU (osc:=zh Zu) rfl (*...*)) (zO (yw (i:=0) rfl rfl yc)) (wA rfl T.aY (pv 1\ze)) (zA rfl) (λC s₀ H₀ fp=>zu (i:=0) (by walk_at "q4") rfl (AH rfl)) (λC s₀ H₀ fp=>yo) (λC s₀ H₀ fp=>(T.aW\(TC (fu:=fu) T,hr.mono ∅,Wr,pv 1\(zr xB zg (pv 0)\ze)))) yM.nd rfl rfl<|>(yM^^^(6,AH rfl,@xC _ _ _ _ ze))<|>wa PassesOwn.leaving rfl (wA rfl T.aY ((T.ah\(zT (fu:=fu) T,hr.mono ∅,zH,pv 0\(zg\(zg\(zg\ze)))))\ze)) (zu (i:=7) yM.nd rfl (Dd rfl)) (yt (i:=8) (N':=["_law_k","_law_script","_law_number"]) rfl (vU (osc:=zh Zu) rfl (*...*)) (zO (yw (i:=0) rfl rfl (yw (i:=7) rfl rfl yc))) (wA rfl T.aY (pv 1\ze)) (zA rfl) (λC s₀ H₀ fp=>zu (i:=0) (by walk_at "q4") rfl (AH rfl)) (λC s₀ H₀ fp=>yo) (λC s₀ H₀ fp=>(T.bW\(zdG (fu:=fu) T,hr.mono ∅,Wr,pv 1\(zr xB (zr xB zg (zr Ta (pv 2) zg)) (pv 0)\ze)))) yM.nd rfl rfl<|>UY (~~~(zg\(zg\ze))) (zaK (pv 8) (pv 2) Wo)<|>UY (T.ax\(xL (fu:=fu) T,hr.mono ∅,zH,pv 8\(pv 3\ze))) (xu (K:=K) (n:=2) rfl (zK (zu (i:=9) yM.nd rfl (AH rfl)) (zK (zu (i:=10) yM.nd rfl (AH rfl)) xt)))<|>UY (~~~(TV Wm (pv 9)\(pv 10\ze))) (zaK (pv 8) (pv 2) Wo)<|>¬ZL (Um BE BM BO xU (pv 6) (zr (Xp (K:=K)) (pv 8) (@xC _ _ _ _ ((T.ax\(xL (fu:=fu) T,hr.mono ∅,zH,pv 8\(pv 5\ze)))\ze))\ze)))<|>¬(!pv 6)),(by unfold XV;walk_at "re")⟩)
def ZI(fu:Nat):TwS:=(zq (zB (yO [fC] (iR1 (eOp vw (za 2) (sj 1))) (gN 0) xa (wS [sj 0,sj 1])) (gN 3)) (zq (sIf (bE (eOp dGt (eFn vF [za 1]) (sj 0))) (zq (zB (eOp wT (za 1) (zy (zJ fu) [za 0,sj 41,sj 10099,eFn vF [za 1]])) (gN 4)) (zq (zB (eOp wT (za 1) (zy (zJ fu) [za 0,sj 42,sj 10103,eFn vF [za 1]])) (gN 5)) (zq (zB (wS [eOp Yh (zy (zJ fu) [za 0,sj 43,sj 10111,sj 5]) (sj 2),sj 1]) (gN 6)) (zB (yO [fC,fC,dE 6] (zdp (za 4) (za 5)) (gT 2 (zV (gN 0) (zV (gN 1) wI))) xa (zy (yS fu) [Yg [za 0,za 1],Yg [za 2,wS [sj 1,sj 1]]])) (gN 3))))) yC) (zq (zB (eOp wT (Yg [wS [sj 1,sj 1],wS [eUn Uv (sj 1),sj 1],wS [eOp zel (sj 10) (sj 40),sj 1]]) (zy (zJ fu) [za 0,sj 44,sj 10133,sj 3])) (gN 7)) (zq (zB (zy (yS fu) [Yg [eOp wT (za 3) (za 2),za 7],Yg [wS [sj 1,sj 1],wS [sj 1,sj 1]]]) (VI (za 3) (za 2))) (zq (zB (zy (zJ fu) [za 0,sj 45,sj 10139,eOp vw (eFn vF [za 1]) (sj 1)]) (gN 8)) (yj (eOp Wv (eOp Wv (eSl zdf (za 1) oNo (zeh (za 8))) (Yg [za 3])) (eSl zdf (za 1) (zeh (za 8)) oNo))))))))
def ZJ(fu:Nat):TwF:=yb 3 6 (ZI fu)
def zat(T:Tx K mg):T.bo.Ok P w base 35 3 (ZJ fu):=
 okS T.bo.F yF rfl rfl (λhr=>⟨_,(yt (i:=3) (N':=["_law_k"]) rfl (vU (osc:=zh wj) rfl (*...*)) (zO yc) (wA rfl T.aY (zr xB (pv 2) zg\ze)) (zA rfl) (λC s₀ H₀ fp=>zu (i:=0) (by walk_at "q4") rfl (AH rfl)) (λC s₀ H₀ fp=>yo) (λC s₀ H₀ fp=>(~~~(zg\(zg\ze)))) yF.nd rfl rfl<|>yU (zX (YJ (zE (yd (K:=K)) rfl T.aP boot_len (pv 1\ze)) zg)) ((yF^^^(4,AH rfl,yi (K:=K)%(pv 1,T.ah\(zT (fu:=fu) T,hr.mono ∅,zH,pv 0\(zg\(zg\(zE (yd (K:=K)) rfl T.aP boot_len (pv 1\ze)\ze)))))))<|>(yF^^^(5,AH rfl,yi (K:=K)%(pv 1,T.ah\(zT (fu:=fu) T,hr.mono ∅,zH,pv 0\(zg\(zg\(zE (yd (K:=K)) rfl T.aP boot_len (pv 1\ze)\ze)))))))<|>(yF^^^(6,Dd rfl,~~~(zr wZ (T.ah\(zT (fu:=fu) T,hr.mono ∅,zH,pv 0\(zg\(zg\(zg\ze))))) zg\(zg\ze))))<|>¬yt (i:=3) (N':=["_law_a","_law_b","_law_turn"]) rfl (vU (osc:=zh wj) rfl (*...*)) (zO (zO (yw (i:=6) rfl rfl yc))) (Up (K:=K) rfl T.dw (pv 4\(pv 5\ze))) (Zs (yk (zA rfl) (yk (zA rfl) vm ym) ym)) (λC s₀ H₀ fp=>xu (K:=K) (n:=2) rfl (zK (zu (i:=0) (by walk_at "q4") rfl (AH rfl)) (zK (zu (i:=1) (by walk_at "q4") rfl (AH rfl)) xt))) (λC s₀ H₀ fp=>yo) (λC s₀ H₀ fp=>(T.ax\(xL (fu:=fu) T,hr.mono ∅,Wr,@xC _ _ _ _ (pv 0\(pv 1\ze))\(@xC _ _ _ _ (pv 2\((~~~(zg\(zg\ze)))\ze))\ze)))) yF.nd rfl rfl) zU<|>(yF^^^(7,AH rfl,yi (K:=K)%(@xC _ _ _ _ ((~~~(zg\(zg\ze)))\((~~~(TV Wm zg\(zg\ze)))\((~~~(zr zaM zg zg\(zg\ze)))\ze))),T.ah\(zT (fu:=fu) T,hr.mono ∅,zH,pv 0\(zg\(zg\(zg\ze)))))))<|>UY (T.ax\(xL (fu:=fu) T,hr.mono ∅,zH,@xC _ _ _ _ ((yi (K:=K)%(pv 3,pv 2))\(pv 7\ze))\(@xC _ _ _ _ ((~~~(zg\(zg\ze)))\((~~~(zg\(zg\ze)))\ze))\ze))) (zaK (pv 3) (pv 2) Wo)<|>(yF^^^(8,AH rfl,T.ah\(zT (fu:=fu) T,hr.mono ∅,zH,pv 0\(zg\(zg\(zr xB (zE (yd (K:=K)) rfl T.aP boot_len (pv 1\ze)) zg\ze))))))<|>¬(!zr (Xp (K:=K)) (zr (Xp (K:=K)) (zaS (za4 (K:=K)) (pv 1) zcT (zcU (pv 8))) (@xC _ _ _ _ (pv 3\ze))) (zaS (za4 (K:=K)) (pv 1) (zcU (pv 8)) zcT))),(by unfold ZI;walk_at "re")⟩)
def zf3(fu:Nat):TwS:=(zq (zB (eOp vw (sj 1) (zy (zJ fu) [za 0,sj 0,sj 10039,sj 5])) (gN 1)) (zq (zB (zy (XW fu) [za 0,za 1]) (gN 2)) (zq (zB (sC "many") (gN 3)) (zq (sIf (bE (eOp zbO (zy (zJ fu) [za 0,sj 46,sj 10141,sj 2]) (sj 0))) (zq (zB (zy (ZJ fu) [za 0,za 2,za 1]) (gN 2)) (zB (sC "none") (gN 3))) yC) (zq (zB (yO [fC] (iL (za 2)) (gN 0) xa (eFn zem [za 0])) (gN 4)) (zq (zB (zy (wG fu) [za 4,za 1]) (gN 5)) (yj (zi5 (zy (YH fu) [za 5,za 3,za 2,za 1]) (eOp (zas kb) (za 4) (za 2))))))))))
def zf4(fu:Nat):TwF:=yb 1 5 (zf3 fu)
def zmo(T:Tx K mg):T.dD.Ok P w base 42 1 (zf4 fu):=
 okS T.dD.F WQ rfl rfl (λhr=>⟨_,((WQ^^^(1,AH rfl,zr xB zg (T.ah\(zT (fu:=fu) T,hr.mono ∅,zH,pv 0\(zg\(zg\(zg\ze)))))))<|>(WQ^^^(2,AH rfl,T.bV\(zdH (fu:=fu) T,hr.mono ∅,zH,pv 0\(pv 1\ze))))<|>(WQ^^^(3,AH rfl,UX))<|>yU (zX (Wj (T.ah\(zT (fu:=fu) T,hr.mono ∅,zH,pv 0\(zg\(zg\(zg\ze))))) zg)) ((WQ^^^(2,AH rfl,T.bo\(zat (fu:=fu) T,hr.mono ∅,zH,pv 0\(pv 2\(pv 1\ze)))))<|>¬(WQ^^^(3,AH rfl,UX))) zU<|>yt (i:=4) (N':=["_law_row"]) rfl (vU (osc:=zh zg6) rfl (*...*)) (zO yc) (ya (K:=K) (pv 2)) (zA rfl) (λC s₀ H₀ fp=>zu (i:=0) (by walk_at "q4") rfl (AH rfl)) (λC s₀ H₀ fp=>yo) (λC s₀ H₀ fp=>(zcd (zfn (K:=K)) rfl T.dO boot_list (pv 0\ze))) WQ.nd rfl rfl<|>(WQ^^^(5,AH rfl,T.bU\(zdF (fu:=fu) T,hr.mono ∅,zH,pv 4\(pv 1\ze))))<|>¬(!ze9 (T.bN\(zbZ (fu:=fu) T,hr.mono ∅,zH,pv 5\(pv 3\(pv 2\(pv 1\ze))))) (ze8 (zcR (zjG (K:=K) hr) (pv 4) (pv 2) (by rfl))))),(by unfold zf3;walk_at "re")⟩)
end
section
open Mth
def Big(fu:Nat):Prop:=2^9000<=fu
local macro_rules|`(tactic|walk_at "w1")=>do
 let g(s:String):=(s.splitOn " ").toArray.mapM fun n=>`(tacticSeq|apply $(Lean.mkIdent (.mkSimple n)))
 let a<-g "zfx zoa yh zlW zQ"
 let b<-g "Xs vG zjA vp zpH zju zpI zn8 xy zjw zn9 zcs zaw zjx zpJ zjy zod zoe zof zpK qf zpL qg zog zoh nh ni zok zol"
 `(tactic|first|with_reducible apply zqn|((with_reducible apply zjt); exact rfl)|(with_reducible first $[| $a]*)|((with_reducible apply xQ); try dsimp only[Bt])|(with_reducible first $[| $b]*)|((with_reducible apply zoj); exact⟨∅, by decide, by decide⟩)|((with_reducible apply zoi); first | exact .inl ∅ | exact .inr ∅)|with_reducible refine Exists.intro _ (And.intro rfl ?_))
local macro_rules | `(tactic| walk_at "w") => `(tactic| repeat walk_at "w1")
local macro_rules|`(tactic|ext)=>`(tactic|walk_at "w")
local macro_rules | `(tactic| walk_at "wr") => `(tactic| (refine zoc rfl rfl ?_; dsimp only [List.map, HAppend.hAppend, Append.append, List.append, List.replicate]))
section
variable{S' S2:Sto}{x y:Xv}
def yY{c:Prop}[Decidable c]{A B:Prop}(h:c->A)(g:¬c->B):(decide c=fJ->A)/\(decide c=kb->B):=⟨λe=>h (of_decide_eq_true e),λe=>g (of_decide_eq_false e)⟩
def TD{c:Prop}[Decidable c]{A B:Prop}(h:¬c->A)(g:c->B):((!decide c)=fJ->A)/\((!decide c)=kb->B):=⟨λe=>h (by simpa using e),λe=>g (by simpa using e)⟩
def Le(S S':Sto):Prop:=S.length<=S'.length/\∀(n:Nat) c,S[n]? =dE c->S'[n]? =dE c
def Le.refl:Le S S:=⟨AF _,λ_ _ e=>e⟩
def Le.trans(a:Le S S')(b:Le S' S2):Le S S2:=⟨AA a.1 b.1,λn c e=>b.2 n c (a.2 n c e)⟩
def Le.app(a:Le S S'):Le S (S'++T):=⟨by rw[Ba];have:=a.1;omega,λn c e=>by
 have:=a.2 n c e;rw[Az (Au.1 this).1]
 exact this⟩
def Le.set(a:Le S S')(h:S.length<=n):Le S (S'.set n c):=⟨by simpa using a.1,λm d e=>by
 rw[Bc,if_neg λq=>by have:=(Au.1 e).1;omega]
 exact a.2 m d e⟩
def LeX(d:Nat)(S S':Sto):Prop:=S.length<=S'.length/\∀(n:Nat) c,n≠d->S[n]? =dE c->S'[n]? =dE c
def Le.toX(a:Le S S'):LeX d S S':=⟨a.1,λn c _ e=>a.2 n c e⟩
def LeX.trans(a:LeX d S S')(b:LeX d S' S2):LeX d S S2:=⟨AA a.1 b.1,λn c h e=>b.2 n c h (a.2 n c h e)⟩
def LeX.set(a:LeX d S S'):LeX d S (S'.set d c):=⟨by simpa using a.1,λm e h q=>by
 rw[Bc,if_neg λz=>h z.symm]
 exact a.2 m e h q⟩
def LeX.set'(a:LeX d S S')(h:S.length<=n):LeX d S (S'.set n c):=⟨by simpa using a.1,λm e h' q=>by
 rw[Bc,if_neg λz=>by have:=(Au.1 q).1;omega]
 exact a.2 m e h' q⟩
def LeX.le(a:LeX d S S')(h:S.length<=d):Le S S':=⟨a.1,λn c e=>a.2 n c (λz=>by have:=(Au.1 e).1;omega) e⟩
def zx:(S++[c])[S.length]? =dE c:=by simp
def zj{n:Nat}{c d:Ce}(h:S[n]? =dE c):(S++[d])[n]? =dE c:=by rw[Az (Au.1 h).1];exact h
def yG(h:S[n]? =dE c):(S.set n c')[n]? =dE c':=by rw[Bc,if_pos rfl,if_pos (Au.1 h).1]
def yz(h:S[m]? =dE c)(q:n≠m):(S.set n c')[m]? =dE c:=by rw[Bc,if_neg q];exact h
def Zw(h:S[n]? =dE c):n<S.length:=(Au.1 h).1
def yE(h:n<=20000):n<sizeLine:=B9 h ∅
def TF(k:P (.int (p.natAbs:Int)) S):WO (zdk [.int p] S) P:= .of (show zdk [.int p] S=dE (.int (if p<0 then -p else p),S) from rfl) (by
 rw[show(if p<0 then -p else p)=(p.natAbs:Int) by split<;>omega]
 exact k)
def zm(n:Nat)(p:Int):Prop:=p.natAbs<2^n
def zm.mono(h:zm n p)(hn:n<=m):zm m p:=AJ h (C3 ∅ hn)
def zm.le(h:zm n p):intBits p<=n:=EB.mpr h
def zm.of(h:intBits p<=n):zm n p:=EB.mp h
def zm.mul(h:zm n p)(g:zm m q):zm (n+m) (p*q):= .of (PySem.intBits_mul_le h.le g.le)
def zm.add(h:zm n p)(g:zm n q)(hm:n+1<=m):zm m (p+q):= .of (zmm h.le g.le hm)
def zm.sub(h:zm n p)(g:zm n q)(hm:n+1<=m):zm m (p-q):= .of (zmn h.le g.le hm)
def zm.abs(h:zm n p)(hq:q.natAbs<=p.natAbs):zm n q:=B9 hq h
def zm.small(h:p.natAbs<1024)(hn:10<=n):zm n p:=zm.mono (n:=10) h hn
def yH(h:zm n p)(g:zm m q)(hn:n+m<=134217728)(k:P (.int (p*q)) S):WO (yP (.int p) (.int q) S) P:=zlX (AA (HG h.le g.le) hn) k
def zf5(h0:0<q)(h:zm 9000 q)(k:P (.int (p / q)) S):WO (Wu (.int p) (.int q) S) P:=zjD ⟨⋯,h.le⟩ (by rw[CH _ ⋯];exact k)
def zoB{N':Rho->Sto->Prop}{R':Xv->Sto->Prop}(h:WS r N R)(hn:∀ρ S,N ρ S->N' ρ S)(hr:∀x S,R x S->R' x S):WS r N' R':=by
 rcases h with⟨ρ,S,e,h⟩|⟨x,S,e,h⟩
 .exact .inl ⟨ρ,S,e,hn _ _ h⟩
 exact .inr ⟨x,S,e,hr _ _ h⟩
def Big.bits(hf:Big fu)(h:zm n p)(hn:n<=9000):p.natAbs<fu:=AJ h (AA (C3 ∅ hn) hf)
def wP(k:P (.bl x.isNon) S):WO (za5 x S) P:= .of rfl k
def zg7(k:P (.bl (!x.isNon)) S):WO (zgB x S) P:= .of rfl k
def zdI{α:Type}{l:mZ α}{a z:α}(e:(l++[a])[i]? =dE z):l[i]? =dE z\/(i=l.length/\a=z):=by
 by_cases h:i<l.length;rw[Az h] at e;exact .inl e
 have:=(Au.1 e).1;rw[Ba,CJ] at this;obtain rfl:i=l.length:=by omega
 rw[AG (AF _),BL] at e;cases e;exact .inr ⟨rfl,rfl⟩
def zbx{α:Type}{l:mZ α}{a z:α}(h:l.length=j)(e:(l++[a])[i]? =dE z):l[i]? =dE z\/(i=j/\a=z):=h ▸ zdI e
def zeU{α β:Type}{l:mZ α}{m:mZ β}{a z:α}{b w:β}(h:l.length=m.length)(e:(l++[a])[i]? =dE z)(g:(m++[b])[i]? =dE w):(l[i]? =dE z/\m[i]? =dE w)\/(i=l.length/\a=z/\b=w):=by
 rcases zdI e with e|⟨rfl,rfl⟩
 .rcases zdI g with g|⟨rfl,_⟩
  .exact .inl ⟨e,g⟩
  have:=(Au.1 e).1;omega
 rcases zbx h.symm g with g|⟨_,rfl⟩
 .have:=(Au.1 g).1;omega
 exact .inr ⟨rfl,rfl,rfl⟩
end
def Pr(q:Nat):Prop:=1<q/\∀d,d∣q->d=1\/d=q
def php:∀(n k:Nat) (f:Nat->Nat),(∀i,i<k->f i<n)->(∀i j,i<j->j<k->f i≠f j)->k<=n:=by
 intro n
 induction n with
 |zero=>
  intro k f h _;cases k with
  |zero=>exact AF _
  |succ k=>exact absurd (h 0 ⋯) ⋯
 |succ n ih=>
  intro k f h hi;cases k with
  |zero=>omega
  |succ k=>
   have:=ih k (λi=>if f i=n then f k else f i) (λi uj=>by
    have h1:=h i ⋯;have h2:=h k ⋯;have h3:=hi i k uj ⋯;split<;>omega) (λi j gU hj=>by
    have h1:=hi i j gU ⋯;have h2:=hi i k ⋯ ⋯;have h3:=hi j k ⋯ ⋯
    split<;>split<;>omega)
   omega
def zp3{P:Nat->Prop}:∀n,P n->∃d,P d/\∀j,j<d->¬P j:=by
 intro n
 induction n using Nat.strongRecOn with
 |ind n ih=>
  intro h;by_cases hx:∃j,j<n/\P j;obtain⟨j,h1,h2⟩:=hx;exact ih j h1 h2;exact⟨n,h,λj h1 h2=>hx ⟨j,h1,h2⟩⟩
def zaj(hr:1<r)(h:a^i % r=1):a^(i*j) % r=1:=by
 rw[Ef,Nat.pow_mod,h,Nat.one_pow,Em hr]
def zoC{r a N:Nat}(hr:1<r)(hN:0<N)(h:a^N % r=1):∃d,d∣N/\d<r/\a^d % r=1:=by
 obtain⟨d,⟨h0,hd⟩,hm⟩:=zp3 (P:=λd=>0<d/\a^d % r=1) N ⟨hN,h⟩;have dv:∀M,a^M % r=1->d∣M:=λM hM=>by
  have e1:a^M % r=a^(M % d) % r:=by
   conv=>lhs;rw[<-DG M d,ER,EV,zaj hr hd,Nat.one_mul,Nat.mod_mod]
  rw[hM] at e1;by_cases hz:M % d=0;exact Nat.dvd_of_mod_eq_zero hz;exact absurd ⟨⋯,e1.symm⟩ (hm (M % d) (Fc _ h0))
 refine⟨d,dv N h,?_,hd⟩;have pos:∀i,i<d->0<a^i % r:=λi hi=>by
  apply Nat.pos_of_ne_zero;intro hz;have:a^d % r=0:=by
   rw[show d=i+(d-i) by omega,ER,EV,hz,Nat.zero_mul,Nat.zero_mod]
  omega
 have:=php (r-1) d (λi=>a^i % r-1) (λi hi=>by
  have:=Fc (a^i) (show r>0 by omega);have:=pos i hi;omega) (λi j gU hj=>by
  have p1:=pos i ⋯;have p2:=pos j hj;intro he;have he:a^i % r=a^j % r:=by omega
  have:a^(i+(d-j)) % r=1:=by
   rw[ER,EV,he,<-EV,<-ER,show j+(d-j)=d by omega,hd]
  exact hm (i+(d-j)) ⋯ ⟨⋯,this⟩)
 omega
def zqp(hp:1<p)(hF:p<F*F)(h1:a^(p-1) % p=1)(h:∀r d,1<r->r∣p->d∣p-1->a^d % r=1->F∣d):Pr p:=by
 have big:∀r,r∣p->1<r->F<r:=λr mE hr=>by
  have e1:a^(p-1) % r=1:=by
   rw[<-GL _ mE,h1,Em hr]
  obtain⟨d,h2,h3,h4⟩:=zoC hr ⋯ e1;have:=Gr (Nat.pos_of_dvd_of_pos h2 ⋯) (h r d hr mE h2 h4);omega
 refine⟨hp,λd hd=> ?_⟩;by_cases h1:d=1;exact .inl h1;by_cases h2:d=p;exact .inr h2
 exfalso;obtain⟨e,he⟩:=hd;have d0:d≠0:=λz=>by subst z;simp at he;omega
 have e0:e≠0:=λz=>by subst z;simp at he;omega
 have e1:e≠1:=λz=>by subst z;simp at he;omega
 have b1:=big d ⟨e,he⟩ ⋯;have b2:=big e ⟨d,by rw[he,DJ]⟩ ⋯;have:=D2 (AX b1) (AX b2);omega
noncomputable def sqs(p:Nat):Nat->Nat->Nat
 |0,x=>x
 |j+1,x=>match x*x % p with
  |0=>0
  |y+1=>sqs p j (y+1)
set_option tactic.hygienic true in
def zoD:∀j x,sqs p j x % p=x^(2^j) % p:=by
 intro j
 induction j with
 |zero=>intro x;rw[sqs,Fp,Nat.pow_one]
 |succ j ih=>
  intro x;rw[DP,DJ,Ef,Nat.pow_two,Nat.pow_mod,sqs];split;rename_i e;rw[e,Nat.zero_pow (EW ∅)];rename_i y e;rw[e];exact ih (y+1)
def zp4(hp:p=k*2^(n+1)+1)(k0:0<k)(hk:k<2^(n+1))(h:sqs p n (a^k)=p-1):Pr p:=by
 have p2:p-1=k*2^n+k*2^n:=by rw[hp,CK,DP,<-Eh,Nat.mul_two]
 have e0:0<k*2^n:=Nat.mul_pos k0 (EW ∅);have he:a^(k*2^n) % p=p-1:=by
  rw[Ef,<-zoD,h,Em ⋯]
 refine zqp (a:=a) (F:=2^(n+1)) ⋯ ?_ ?_ λr d hr mE hd h1=> ?_;have:=Bn (2^(n+1)) (show k+1<=2^(n+1) from hk);rw[Hc,Nat.one_mul] at this;omega;rw[p2,ER,EV,he];obtain⟨m,rfl⟩:∃m,p=m+2:=⟨p-2,⋯⟩;rw[show(m+2-1)*(m+2-1)=1+(m+2)*m by rw[show m+2-1=m+1 by omega];grind,Nat.add_mul_mod_self_left];exact Em ⋯
 apply Bg;intro hF;obtain⟨e,gW⟩:=hd;have pj:d∣k*2^n:=by
  by_cases h2:e % 2=0
  .refine⟨e / 2,?_⟩;have:d*e=2*(d*(e / 2)):=by rw[Nat.mul_left_comm,show 2*(e / 2)=e by omega]
   omega
  refine absurd (Nat.Coprime.dvd_of_dvd_mul_right (k:=2^(n+1)) (n:=e) (m:=d) (Nat.Coprime.pow_left _ ?_) ⟨k,?_⟩) hF
  .have:Cu 2 e∣2:=Hm ..;have h3:=Gr ∅ this;have h4:Cu 2 e∣e:=GZ ..;have h5:0<Cu 2 e:=Nat.gcd_pos_of_pos_left _ ∅;apply Bg;intro h6;have:Cu 2 e=2:=by unfold Hd at h6;omega
   rw[this] at h4;omega
  rw[<-gW,hp,CK,DJ]
 obtain⟨j,hj⟩:=pj;have h3:a^(k*2^n) % r=1:=by rw[hj];exact zaj hr h1
 obtain⟨u,hu⟩:=mE;rw[<-GL _ ⟨u,hu⟩,he] at h3;have h4:r∣p-2:=by
  have:=DG (p-1) r;rw[h3] at this;exact⟨(p-1) / r,⋯⟩
 have h5:=Nat.dvd_sub ⟨u,hu⟩ h4;rw[show p-(p-2)=2 by omega] at h5;have h6:=Gr ∅ h5;obtain rfl:r=2:=by omega
 omega
noncomputable abbrev pN:Nat:=1000000000000000000000000000000000000000000009
noncomputable abbrev pB:Nat:=249*2^5394+1
def zmp:Pr pB:=zp4 (a:=5) (k:=249) (n:=5393) rfl ∅ (*...*) (*...*)
def zf6:2^5390<=pB/\pB<2^5500/\pB % 2=1:=by decide+kernel
structure Eu(M N bf rs fb f:Int):Prop where
 pos:0<=rs/\rs<bf
 cg:∃k,f*N=rs+M*k
 cb:∃k,fb*N=bf+M*k
 dv:∀g:Int,g∣bf->g∣rs->g∣M/\g∣N
 sg:(fb<=0/\0<f/\f*bf-fb*rs=M)\/(0<=fb/\f<0/\fb*rs-f*bf=M)
 gen:∀x d k:Int,d*N=x+M*k->∃a b,x=a*bf+b*rs/\d=a*fb+b*f
def Eu.start{M N:Int}(hM:0<M):Eu M N M (N % M) 0 1:=by
 have e:=Dy N M;refine⟨⟨BG _ ⋯,Br _ hM⟩,⟨N / M,⋯⟩,⟨-1,⋯⟩,λg h1 h2=>⟨h1,?_⟩,.inl ⟨⋯,⋯,⋯⟩,λx d k h=>⟨d*(N / M)-k,d,?_,⋯⟩⟩;rw[<-e];exact Int.dvd_add (F5 h1 (Int.dvd_mul_right _ _)) h2;grind
def Eu.turn{M N bf rs fb f:Int}(h:Eu M N bf rs fb f)(hr:0<rs):Eu M N rs (bf-bf / rs*rs) f (fb-bf / rs*f):=by
 have e:=Dy bf rs;have e1:bf-bf / rs*rs=bf % rs:=by rw[C4];omega
 have q1:1<=bf / rs:=by
  have:=h.pos.2;exact(Int.le_ediv_iff_mul_le hr).2 ⋯
 obtain⟨k,hk⟩:=h.cg;obtain⟨k2,fU⟩:=h.cb;refine⟨?_,⟨k2-bf / rs*k,by grind⟩,⟨k,hk⟩,λg h1 h2=>h.dv g ?_ h1,?_,λx d k hx=> ?_⟩;rw[e1];exact⟨BG _ ⋯,Br _ hr⟩;have:=Int.dvd_add h2 (show g∣bf / rs*rs from Int.dvd_mul_of_dvd_right h1);rwa [GN] at this
 .rcases h.sg with⟨s1,s2,s3⟩|⟨s1,s2,s3⟩
  .have:f<=bf / rs*f:=by
    have:=Bs q1 (BP s2);omega
   exact .inr ⟨⋯,⋯,by grind⟩
  have:bf / rs*f<=f:=by
   have:=Bs q1 (show 0<= -f by omega);rw[DE,DE] at this;omega
  exact .inl ⟨⋯,⋯,by grind⟩
 obtain⟨a,b,h1,h2⟩:=h.gen x d k hx;exact⟨b+a*(bf / rs),a,by grind,by grind⟩
def zaB{bf rs fb f B M x d a b:Int}(hf:0<f)(uv:fb<=0)(hM:f*bf-fb*rs=M)(h0:0<=rs)(hr:rs<=B)(hB:B<bf)(hx: -B<=x/\x<=B)(hd: -B<=d/\d<=B)(h2:2*(B*B)<M)(ex:x=a*bf+b*rs)(ed:d=a*fb+b*f):¬1<=a:=by
 intro ha;have p1:bf<=a*bf:=by
  have:=Bs ha (show 0<=bf by omega);omega
 by_cases hb:0<=b;have:=D9 hb h0;omega
 have p2:a*fb<=0:=Int.mul_nonpos_of_nonneg_of_nonpos ⋯ uv;have p3:b*f<= -f:=by
  have:=Bs (show b<= -1 by omega) (BP hf);omega
 have uy:f<=B:=by omega
 have p4:x*f-d*rs=a*M:=by rw[<-hM];grind
 have p5:x*f<=B*B:=Bv (Bs hx.2 (BP hf)) (B1 uy ⋯);have p6: -d*rs<=B*B:=Bv (Bs (show -d<=B by omega) h0) (B1 hr ⋯);have p7:M<=a*M:=by
  have:0<=B*B:=D9 ⋯ ⋯;have:=Bs ha (show 0<=M by omega);omega
 rw[EY] at p6;omega
def Eu.rat{M N bf rs fb f B x d k:Int}(h:Eu M N bf rs fb f)(hr:rs<=B)(hB:B<bf)(hx: -B<=x/\x<=B)(hd: -B<=d/\d<=B)(h2:2*(B*B)<M)(e:d*N=x+M*k):∃b,x=b*rs/\d=b*f:=by
 obtain⟨a,b,e1,e2⟩:=h.gen x d k e;have h0:=h.pos.1;have:a=0:=by
  rcases h.sg with⟨s1,s2,s3⟩|⟨s1,s2,s3⟩
  .have n1:=zaB s2 s1 s3 h0 hr hB hx hd h2 e1 e2;have n2:=zaB (x:= -x) (d:= -d) (a:= -a) (b:= -b) s2 s1 s3 h0 hr hB ⋯ ⋯ h2 (by grind) (by grind);omega
  have qd: -f*bf - -fb*rs=M:=by grind
  have n1:=zaB (f:= -f) (fb:= -fb) (d:= -d) (a:=a) (b:=b) ⋯ ⋯ qd h0 hr hB hx ⋯ h2 e1 (by grind);have n2:=zaB (f:= -f) (fb:= -fb) (x:= -x) (a:= -a) (b:= -b) ⋯ ⋯ qd h0 hr hB ⋯ hd h2 (by grind) (by grind);omega
 subst this;exact⟨b,⋯,⋯⟩
def Cg(m a b:Int):Prop:=∃k,a=b+m*k
def Cg.refl:Cg m a a:=⟨0,⋯⟩
def Cg.symm(h:Cg m a b):Cg m b a:=by
 obtain⟨k,e⟩:=h;exact⟨-k,by grind⟩
def Cg.trans(h:Cg m a b)(g:Cg m b c):Cg m a c:=by
 obtain⟨k,e⟩:=h;obtain⟨l,f⟩:=g;exact⟨k+l,by grind⟩
def Cg.add(h:Cg m a b)(g:Cg m c d):Cg m (a+c) (b+d):=by
 obtain⟨k,e⟩:=h;obtain⟨l,f⟩:=g;exact⟨k+l,by grind⟩
def Cg.sub(h:Cg m a b)(g:Cg m c d):Cg m (a-c) (b-d):=by
 obtain⟨k,e⟩:=h;obtain⟨l,f⟩:=g;exact⟨k-l,by grind⟩
def Cg.mul(h:Cg m a b)(g:Cg m c d):Cg m (a*c) (b*d):=by
 obtain⟨k,e⟩:=h;obtain⟨l,f⟩:=g;exact⟨k*d+b*l+m*k*l,by grind⟩
def Cg.mod(m a:Int):Cg m (a % m) a:=⟨-(a / m),by have:=Dy a m;grind⟩
def Cg.dvd:Cg m a 0↔m∣a:=⟨λ⟨k,e⟩=>⟨k,⋯⟩,λ⟨k,e⟩=>⟨k,⋯⟩⟩
def Cg.small(h:Cg m a b)(h1:a-b<m)(h2:b-a<m):a=b:=by
 obtain⟨k,e⟩:=h;by_cases h0:k=0;subst h0;omega;by_cases hk:1<=k;have:=B1 hk (show 0<=m by omega);omega;have:=B1 (show 1<= -k by omega) (show 0<=m by omega);rw[DE] at this;omega
noncomputable def zD(ps:mZ (Nat×Int))(x:Nat->Int):Int:=(ps.map λp=>p.2*x p.1).sum
def zaC{x:Nat->Int}:zD [] x=0:=rfl
def ye{x:Nat->Int}:zD (p::ps) x=p.2*x p.1+zD ps x:=by simp[zD]
def zaD{x:Nat->Int}:zD (ps++qs) x=zD ps x+zD qs x:=by simp[zD]
def zaE{x:Nat->Int}:zD [p] x=p.2*x p.1:=by simp[zD]
def xi{x y:Nat->Int}(h:∀p∈ps,x p.1=y p.1):zD ps x=zD ps y:=by
 unfold zD;rw[Dj λp hp=>by rw[h p hp]]
def zdJ{x y:Nat->Int}(h:∀p∈ps,Cg m (x p.1) (y p.1)):Cg m (zD ps x) (zD ps y):=by
 induction ps with
 |nil=>exact .refl
 |cons p r ih=>
  rw[ye,ye];exact(Cg.mul .refl (h p (.head _))).add (ih λq hq=>h q (.tail _ hq))
def YZ:zD ps (λ_=>0)=0:=by
 induction ps with
 |nil=>rfl
 |cons p r ih=>rw[ye,ih];simp
def XX{x y:Nat->Int}:zD ps (λc=>a*x c+b*y c)=a*zD ps x+b*zD ps y:=by
 induction ps with
 |nil=>simp[zD]
 |cons p r ih=>rw[ye,ye,ye,ih];grind
def TH{x:Nat->Int}:zD ps (λc=>a*x c)=a*zD ps x:=by
 induction ps with
 |nil=>simp[zD]
 |cons p r ih=>rw[ye,ye,ih];grind
def zko{x:Nat->Int}:Cg m (zD (ps.map λp=>(p.1,p.2*v % m)) x) (v*zD ps x):=by
 induction ps with
 |nil=>exact⟨0,by simp[zD]⟩
 |cons p r ih=>
  rw[AZ,ye,ye];have h:Cg m (p.2*v % m*x p.1) (p.2*v*x p.1):=(Cg.mod m _).mul .refl;have:=h.add ih;rwa [show p.2*v*x p.1+v*zD r x=v*(p.2*x p.1+zD r x) by grind] at this
structure Stp where
 row:Nat
 col:Nat
 inv:Int
 fac:mZ (Nat×Int)
 par:mZ (Nat×Int)
noncomputable def Stp.at(s:Stp)(x:Nat->Int):Int:=x s.col+zD s.par x
noncomputable def ats(ss:mZ Stp)(x:Nat->Int)(j:Nat):Int:=((ss[j]?).map λs=>s.at x).getD 0
noncomputable def zZ(ss:mZ Stp):mZ Nat:=ss.map (·.col)
def Spn(m:Int)(ss:mZ Stp)(ps:mZ (Nat×Int)):Prop:=∃fs:mZ (Nat×Int),(∀f∈fs,f.1<ss.length)/\∀x,Cg m (zD ps x) (zD fs (ats ss x))
structure zkp(m:Int)(many:Nat)(rows:mZ (mZ (Nat×Int)×Int))(ss:mZ Stp)(s:Stp):Prop where
 col:s.col<many/\s.col∉zZ ss
 par:∀p∈s.par,p.1<many/\p.1≠s.col/\p.1∉zZ ss
 fac:∀p∈s.fac,p.1<ss.length
 eq:∃ps l u,rows[s.row]? =dE (ps,l)/\Cg m (u*s.inv) 1/\∀x,Cg m (zD ps x) (zD s.fac (ats ss x)+u*s.at x)
inductive Sts(m:Int)(many:Nat)(rows:List (List (Nat×Int)×Int)):List Stp->Prop where
 |nil:Sts m many rows []
 |snoc {ss:List Stp} {s:Stp}:Sts m many rows ss->zkp m many rows ss s->Sts m many rows (ss++[s])
def zaF{x:Nat->Int}(h:j<ss.length):ats (ss++ts) x j=ats ss x j:=by
 unfold ats;rw[Az h]
def zby{s:Stp}{x:Nat->Int}:ats (ss++[s]) x ss.length=s.at x:=by
 unfold ats;rw[AG (AF _)];simp
def Spn.app(h:Spn m ss ps):Spn m (ss++ts) ps:=by
 obtain⟨fs,h1,h2⟩:=h;refine⟨fs,λf hf=>by have:=h1 f hf;rw[Ba];omega,λx=> ?_⟩;rw[xi (y:=ats ss x) λp hp=>zaF (h1 p hp)];exact h2 x
def Sts.at(h:Sts m many rows ss):∀i s,ss[i]? =dE s->zkp m many rows (ss.take i) s:=by
 induction h with
 |nil=>intro i s e;simp at e
 | @snoc ss s h hs ih=>
  intro i t e;by_cases hi:i<ss.length;rw[Az hi] at e;rw[EJ (AX hi)];exact ih i t e
  have uk:i=ss.length:=by
   have:=(Au.1 e).1;rw[Ba] at this;simp at this;omega
  subst uk;rw[AG (AF _)] at e;simp at e;subst e;rw[EJ (AF _),Bq];exact hs
def Sts.ats0{x:Nat->Int}(h:Sts m many rows ss):(∀s∈ss,∀ps l,rows[s.row]? =dE (ps,l)->Cg m (zD ps x) 0)->∀j,j<ss.length->Cg m (ats ss x j) 0:=by
 induction h with
 |nil=>intro _ j hj;simp at hj
 | @snoc ss s h hs ih=>
  intro hx j hj;have ih:=ih λt ht=>hx t (D6 _ ht);by_cases mM:j<ss.length;rw[zaF mM];exact ih j mM
  obtain rfl:j=ss.length:=by rw[Ba] at hj;simp at hj;omega
  rw[zby];obtain⟨ps,l,u,e1,e2,e3⟩:=hs.eq;have h1:=hx s (by simp) ps l e1;have h2:Cg m (zD s.fac (ats ss x)) 0:=by
   have:=zdJ (m:=m) (ps:=s.fac) (x:=ats ss x) (y:=λ_=>0) λp hp=>ih p.1 (hs.fac p hp);rwa [YZ] at this
  have h3:=(e3 x).symm.trans h1;obtain⟨k1,f1⟩:=h2;obtain⟨k2,f2⟩:=h3;obtain⟨k3,f3⟩:=e2;exact⟨s.inv*(k2-k1)-k3*s.at x,by grind⟩
def TJ{s:Stp}:c∉zZ (ss++[s])↔c∉zZ ss/\c≠s.col:=by
 unfold zZ;rw[C5,AU,not_or,Dp,AI]
def Sts.zero{x:Nat->Int}(h:Sts m many rows ss):(∀c,c∉zZ ss->Cg m (x c) 0)->(∀j,j<ss.length->Cg m (ats ss x j) 0)->∀c,Cg m (x c) 0:=by
 induction h with
 |nil=>intro h1 _ c;exact h1 c (by simp[zZ])
 | @snoc ss s h hs ih=>
  intro h1 h2;have mY:=h2 ss.length (by simp);rw[zby] at mY;have hp:∀p∈s.par,Cg m (x p.1) 0:=λp hp=>by
   obtain⟨_,e1,e2⟩:=hs.par p hp;exact h1 p.1 (TJ.2 ⟨e2,e1⟩)
  have hd:Cg m (zD s.par x) 0:=by
   have:=zdJ (m:=m) (ps:=s.par) (x:=x) (y:=λ_=>0) hp;rwa [YZ] at this
  have hc:Cg m (x s.col) 0:=by
   have:=mY.sub hd;unfold Stp.at at this;rwa [show x s.col+zD s.par x-zD s.par x=x s.col by omega,Int.sub_zero] at this
  refine ih (λc eM=> ?_) λj hj=> ?_;by_cases e:c=s.col;rw[e];exact hc;exact h1 c (TJ.2 ⟨eM,e⟩);have:=h2 j (by rw[Ba];omega);rwa [zaF hj] at this
def Sts.pow(h:Sts m many rows ss)(hm:m≠0):∀(k:Nat) (x:Nat->Int),(∀c,c∉zZ ss->x c=0)->(∀s∈ss,∀ps l,rows[s.row]? =dE (ps,l)->m^k∣zD ps x)->∀c,m^k∣x c:=by
 intro k
 induction k with
 |zero=>intro x _ _ c;rw[EE];exact⟨x c,⋯⟩
 |succ k ih=>
  intro x h1 h2;have z:=h.zero (x:=x) (λc hc=>by rw[h1 c hc];exact .refl) (h.ats0 λs hs ps l e=>Cg.dvd.2 (F5 ⟨m^k,by rw[CT,C4]⟩ (h2 s hs ps l e)));have hy:∀c,x c=m*(x c / m):=λc=>(Gh (Cg.dvd.1 (z c))).symm;have:=ih (λc=>x c / m) (λc hc=>by rw[h1 c hc];exact Int.zero_ediv m) λs hs ps l e=>by
   have h3:=h2 s hs ps l e;rw[xi (y:=λc=>m*(x c / m)) λp _=>hy p.1,TH,CT,C4] at h3;exact Int.dvd_of_mul_dvd_mul_left hm h3
  intro c;rw[hy c,CT,C4];exact Int.mul_dvd_mul (GO m) (this c)
def Sts.only(h:Sts m many rows ss)(hm:2<=m){x:Nat->Int}(h1:∀c,c∉zZ ss->x c=0)(h2:∀s∈ss,∀ps l,rows[s.row]? =dE (ps,l)->zD ps x=0)(c:Nat):x c=0:=by
 have h3:=h.pow ⋯ (x c).natAbs x h1 (λs hs ps l e=>by rw[h2 s hs ps l e];exact Int.dvd_zero _) c;have h4:∀n:Nat,(n:Int)<m^n:=λn=>by
  induction n with
  |zero=>simp
  |succ n ih=>
   rw[CT];have:=B1 hm (show 0<=m^n by omega);omega
 have h5:=h4 (x c).natAbs;obtain⟨k,e⟩:=h3;by_cases hk:k=0;rw[e,hk,CU]
 exfalso;have:m^(x c).natAbs<=(m^(x c).natAbs*k).natAbs:=by
  rw[Bz];have:=Cm (m^(x c).natAbs).natAbs (show 1<=k.natAbs by omega);omega
 rw[<-e] at this;omega
def Sts.solve{x vs lasts:Nat->Int}(h:Sts m many rows ss)(hv:∀i s,ss[i]? =dE s->Cg m (vs i) ((lasts i-zD s.fac vs)*s.inv))(hx:∀i,i<ss.length->Cg m (ats ss x i) (vs i)){i:Nat}{s:Stp}(e:ss[i]? =dE s)(hr:rows[s.row]? =dE (ps,l)):Cg m (zD ps x) (lasts i):=by
 have hi:=(Au.1 e).1;have so:=h.at i s e;obtain⟨ps',l',u,e1,e2,e3⟩:=so.eq;rw[hr] at e1;cases e1;have h1:Cg m (zD s.fac (ats (ss.take i) x)) (zD s.fac vs):=zdJ λp hp=>by
  have gQ:=so.fac p hp;rw[B6] at gQ;have:=hx p.1 ⋯;rwa [show ats ss x p.1=ats (ss.take i) x p.1 by unfold ats;rw[BK ⋯]] at this
 have h2:Cg m (s.at x) (vs i):=by
  have:=hx i hi;rwa [show ats ss x i=s.at x by unfold ats;rw[e];rfl] at this
 have h3:=(e3 x).trans (h1.add ((Cg.refl (a:=u)).mul (h2.trans (hv i s e))));obtain⟨k1,f1⟩:=h3;obtain⟨k2,f2⟩:=e2;exact⟨k1+k2*(lasts i-zD s.fac vs),by grind⟩
noncomputable def zb0(x:Nat->Int)(c:Nat)(v:Int):Nat->Int:=λd=>if d=c then v else x d
def Bk(m:Int)(ss:mZ Stp)(vs:Nat->Int)(k:Nat)(x:Nat->Int):Prop:=(∀j,k<=j->j<ss.length->Cg m (ats ss x j) (vs j))/\∀c,c∉zZ (ss.drop k)->x c=0
def Sts.back{x vs:Nat->Int}{s:Stp}(h:Sts m many rows ss)(e:ss[k]? =dE s)(b:Bk m ss vs (k+1) x)(hv:Cg m v (vs k-zD s.par x)):Bk m ss vs k (zb0 x s.col v):=by
 have hk:=(Au.1 e).1;have hd:ss.drop k=s::ss.drop (k+1):=by
  rw[DF hk,(Au.1 e).2]
 refine⟨λj hj iY=> ?_,λc hc=> ?_⟩
 .by_cases uf:j=k
  .subst uf;have e2:ats ss (zb0 x s.col v) j=s.at (zb0 x s.col v):=by unfold ats;rw[e];rfl
   rw[e2];unfold Stp.at;rw[xi (y:=x) λp hp=>if_neg ((h.at j s e).par p hp).2.1];have:zb0 x s.col v s.col=v:=if_pos rfl;rw[this];have:=hv.add (Cg.refl (a:=zD s.par x));rwa [GN] at this
  have e3:=As iY;have so:=h.at j _ e3;have oS:s.col∈zZ (ss.take j):=Be.2 ⟨s,Ay (i:=k) (by rw[BK ⋯];exact e),rfl⟩;have:=b.1 j ⋯ iY;have e4:∀y,ats ss y j=(ss[j]).at y:=λy=>by unfold ats;rw[e3];rfl
  rw[e4] at this ⊢;unfold Stp.at at this ⊢;rw[xi (y:=x) λp hp=>if_neg λz:p.1=s.col=>(so.par p hp).2.2 (z ▸ oS),show zb0 x s.col v (ss[j]).col=x (ss[j]).col from if_neg λz:(ss[j]).col=s.col=>so.col.2 (z ▸ oS)];exact this
 rw[hd] at hc;have hc:c≠s.col/\c∉zZ (ss.drop (k+1)):=by
  unfold zZ at hc ⊢;rw[AZ,AW,not_or] at hc;exact hc
 show zb0 x s.col v c=0;unfold zb0;rw[if_neg hc.1];exact b.2 c hc.2
def Sts.nodup(h:Sts m many rows ss):(zZ ss).Nodup/\∀c∈zZ ss,c<many:=by
 induction h with
 |nil=>exact⟨G7,λc hc=>nomatch hc⟩
 | @snoc ss s h hs ih=>
  unfold zZ at ih ⊢;rw[C5,Dp];refine⟨Ha.2 ⟨ih.1,(by simp),λa ha b hb=> ?_⟩,λc hc=> ?_⟩;rw[AI.1 hb];intro z;exact hs.col.2 (by unfold zZ;rw[<-z];exact ha);rcases AU.1 hc with hc|hc;exact ih.2 c hc;rw[AI.1 hc];exact hs.col.1
def Sts.le(h:Sts m many rows ss):ss.length<=many:=by
 obtain⟨n1,n2⟩:=h.nodup;have hl:(zZ ss).length=ss.length:=Aw ..;have e:∀i,i<ss.length->∃hi:i<(zZ ss).length,((zZ ss)[i]?).getD 0=(zZ ss)[i]:=λi hi=>⟨⋯,by rw[As ⋯];rfl⟩;refine php many ss.length (λi=>((zZ ss)[i]?).getD 0) (λi hi=> ?_) λi j gU hj=> ?_;obtain⟨ie,e1⟩:=e i hi;rw[e1];exact n2 _ (C8 _)
 obtain⟨ie,e1⟩:=e i ⋯;obtain⟨g8,e2⟩:=e j hj;rw[e1,e2];exact λz=>by have:=(Cv n1).1 z;omega
noncomputable def yI(es:mZ (Nat×Int))(c:Nat):pU Int:=(es.find? λp=>decide (p.1=c)).map (·.2)
noncomputable def TK(es:mZ (Nat×Int))(c:Nat)(v:Int):mZ (Nat×Int):=if (es.any λp=>decide (p.1=c))=fJ then es.map (λp=>if p.1=c then (p.1,v) else p) else es++[(c,v)]
noncomputable def xZ(es:mZ (Nat×Int))(c:Nat):mZ (Nat×Int):=es.filter λp=>decide (p.1≠c)
def NdE(es:mZ (Nat×Int)):Prop:=(es.map (·.1)).Nodup
def zf7(h:∀p∈es,p.1≠c):yI es c=fC:=by
 unfold yI;rw[GK.2 λp hp=>by simpa using h p hp];rfl
def zcH(h:∀p∈es,p.1≠c):xZ es c=es:=List.filter_eq_self.2 λp hp=>by simpa using h p hp
def Ud:yI (p::es) c=if p.1=c then dE p.2 else yI es c:=by
 unfold yI;rw[C2];by_cases h:p.1=c;rw[if_pos h,decide_eq_true h];rfl;rw[if_neg h,decide_eq_false h]
def zh0:xZ (p::es) c=if p.1=c then xZ es c else p::xZ es c:=by
 unfold xZ;rw[Dc];by_cases h:p.1=c;rw[if_pos h,if_neg (by simpa using h)];rw[if_neg h,if_pos (by simpa using h)]
def NdE.tail(h:NdE (p::es)):NdE es/\∀q∈es,q.1≠p.1:=by
 unfold NdE at h ⊢;rw[AZ,BU] at h;exact⟨h.2,λq hq e=>h.1 (Be.2 ⟨q,hq,e⟩)⟩
def zg8{x:Nat->Int}(h:NdE es):zD es x=(yI es c).getD 0*x c+zD (xZ es c) x:=by
 induction es with
 |nil=>simp[yI,xZ,zD]
 |cons p r ih=>
  obtain⟨h1,h2⟩:=h.tail;rw[ye,Ud,zh0];by_cases e:p.1=c;rw[if_pos e,if_pos e,zcH λq hq=>e ▸ h2 q hq,e];rfl;rw[if_neg e,if_neg e,ye,ih h1];omega
def zg9(h:NdE es):NdE (xZ es c):=(Gx.map _).nodup h
def Vd(h:p∈xZ es c):p∈es/\p.1≠c:=by
 unfold xZ at h;rw[Dk] at h;exact⟨h.1,by simpa using h.2⟩
def zeV(h:p∈TK es c v):(p.1=c/\p.2=v)\/p∈es:=by
 unfold TK at h;split at h;obtain⟨q,hq,rfl⟩:=Be.1 h;by_cases e:q.1=c;rw[if_pos e];exact .inl ⟨e,rfl⟩;rw[if_neg e];exact .inr hq;rcases AU.1 h with h|h;exact .inr h;left;rw[AI.1 h];exact⟨rfl,rfl⟩
set_option tactic.hygienic true in
def zmq(h:NdE es):NdE (TK es c v):=by
 unfold TK;split
 .have:(es.map λp=>if p.1=c then (p.1,v) else p).map (·.1)=es.map (·.1):=by
   rw[DQ];refine Dj λp _=> ?_;simp only[Gs];split<;>rfl
  unfold NdE;rw[this];exact h
 rename_i hn;unfold NdE;rw[C5,Ha];refine⟨h,by simp,λa ha b hb e=> ?_⟩;obtain⟨p,hp,rfl⟩:=Be.1 ha;have hb:b=c:=by simpa using hb
 exact hn (De.2 ⟨p,hp,by simpa using e.trans hb⟩)
def zkq:(TK es c v).length<=es.length+1:=by
 unfold TK;split<;>simp
set_option tactic.hygienic true in
def zmr{x:Nat->Int}(h:NdE es):zD (TK es c v) x=zD es x+(v-(yI es c).getD 0)*x c:=by
 unfold TK;split
 .rename_i ha
  induction es with
  |nil=>simp at ha
  |cons p r ih=>
   obtain⟨h1,h2⟩:=h.tail;rw[AZ,ye,ye,Ud];by_cases e:p.1=c
   .have hr:(r.map λp=>if p.1=c then (p.1,v) else p)=r:=by
     conv=>rhs;rw[<-List.map_id r]
     exact Dj λq hq=>if_neg λz:q.1=c=>h2 q hq (z.trans e.symm)
    rw[if_pos e,if_pos e,hr,<-e];show v*x p.1+zD r x=p.2*x p.1+zD r x+(v-p.2)*x p.1;grind
   rw[if_neg e,if_neg e,ih h1 (by simpa [e] using ha)];omega
 rename_i hn;rw[zaD,zaE,zf7 λp hp e=>hn (De.2 ⟨p,hp,by simpa using e⟩)];show _+v*x c=_+(v-0)*x c;rw[Int.sub_zero]
def TL(h:NdE es)(hp:p∈es):yI es p.1=dE p.2:=by
 induction es with
 |nil=>cases hp
 |cons q r ih=>
  obtain⟨h1,h2⟩:=h.tail;rw[Ud];rcases AW.1 hp with rfl|hp;rw[if_pos rfl];rw[if_neg λz=>h2 p hp z.symm];exact ih h1 hp
def zms{x:Nat->Int}:Cg m (zD ((es.filter λp=>decide (p.2 % m≠0)).map λp=>(p.1,p.2 % m)) x) (zD es x):=by
 induction es with
 |nil=>exact .refl
 |cons p r ih=>
  rw[Dc];by_cases e:p.2 % m≠0;rw[if_pos (decide_eq_true e),AZ,ye,ye];exact((Cg.mod m p.2).mul .refl).add ih
  rw[if_neg (by simpa using e),ye];have e:p.2 % m=0:=by simpa using e
  have h0:Cg m 0 p.2:=by have:=Cg.mod m p.2;rwa [e] at this
  have:=(h0.mul (Cg.refl (a:=x p.1))).add ih;rwa [DR,CV] at this
noncomputable def wH:Nat->(Nat->Int)->Int
 |0,_=>0
 |n+1,f=>wH n f+f n
def Ue{f g:Nat->Int}:∀n,(∀j,j<n->f j=g j)->wH n f=wH n g:=by
 intro n
 induction n with
 |zero=>intro _;rfl
 |succ n ih=>intro h;rw[wH,wH,ih λj hj=>h j ⋯,h n ⋯]
def zkr{f g:Nat->Int}:∀n,wH n (λj=>f j-g j)=wH n f-wH n g:=by
 intro n
 induction n with
 |zero=>rfl
 |succ n ih=>rw[wH,wH,wH,ih];omega
def zmt{f:Nat->Int}:∀n,(∀j,j<n->(f j).natAbs<=B)->(wH n f).natAbs<=n*B:=by
 intro n
 induction n with
 |zero=>intro _;simp[wH]
 |succ n ih=>
  intro h;have h1:=ih λj hj=>h j ⋯;have h2:=h n ⋯;rw[wH,GF];omega
noncomputable def xh:Nat->(Nat->Nat)->Nat
 |0,_=>1
 |n+1,f=>xh n f*f n
def zks{f g:Nat->Nat}:∀n,(∀j,j<n->f j<=g j)->xh n f<=xh n g:=by
 intro n
 induction n with
 |zero=>intro _;exact AF _
 |succ n ih=>intro h;exact D2 (ih λj hj=>h j ⋯) (h n ⋯)
def zh1{f:Nat->Nat}:∀n,xh n (λj=>f j*c)=xh n f*c^n:=by
 intro n
 induction n with
 |zero=>simp[xh]
 |succ n ih=>rw[xh,xh,ih,DP];grind
noncomputable def zau(w g:Nat->Nat):Nat->Nat
 |0=>0
 |k+1=>zau w g k+g k*xh k w
def zdK{w g:Nat->Nat}:∀k,(∀i,i<k->g i<w i)->zau w g k<xh k w:=by
 intro k
 induction k with
 |zero=>intro _;exact Nat.one_pos
 |succ k ih=>
  intro h;have h1:=ih λi hi=>h i ⋯;have h2:=h k ⋯;rw[zau,xh];have:=Cm (xh k w) (show g k+1<=w k from h2);rw[Nat.mul_succ,DJ (xh k w) (g k)] at this;omega
def zkt{w g h:Nat->Nat}:∀k,(∀i,i<k->g i<w i)->(∀i,i<k->h i<w i)->zau w g k=zau w h k->∀i,i<k->g i=h i:=by
 intro k
 induction k with
 |zero=>intro _ _ _ i hi;omega
 |succ k ih=>
  intro h1 h2 e i hi;have g1:=zdK k λi hi=>h1 i ⋯;have g2:=zdK k λi hi=>h2 i ⋯;rw[zau,zau] at e;have p0:0<xh k w:=by omega
  have e1:g k=h k:=by
   have a1:(zau w g k+g k*xh k w) / xh k w=g k:=by rw[G9 _ _ p0,Hn g1,DL]
   have a2:(zau w h k+h k*xh k w) / xh k w=h k:=by rw[G9 _ _ p0,Hn g2,DL]
   rw[<-a1,<-a2,e]
  by_cases hk:i=k;rw[hk];exact e1;rw[e1] at e;exact ih (λi hi=>h1 i ⋯) (λi hi=>h2 i ⋯) ⋯ i ⋯
def zmu(hb:0<b):∀(n m m':Nat),m<b^n->m'<b^n->(∀j,j<n->m / b^j % b=m' / b^j % b)->m=m':=by
 intro n
 induction n with
 |zero=>intro m m' h1 h2 _;rw[Fp] at h1 h2;omega
 |succ n ih=>
  intro m m' h1 h2 h;have h0:=h 0 ⋯;rw[Fp,Nat.div_one,Nat.div_one] at h0;have e:m / b=m' / b:=ih _ _ (Gi (by rw[<-Gu];exact h1)) (Gi (by rw[<-Gu];exact h2)) λj hj=>by
   have:=h (j+1) ⋯;rwa [Gu,<-FW,<-FW] at this
  rw[<-DG m b,<-DG m' b,e,h0]
def zoE(hn:n=k+1)(A:Nat->Nat->Int)(B:Nat->Nat)(hA:∀i,i<k->∀j,j<n->(A i j).natAbs<=B i):∃x:Nat->Int,(∃j,j<n/\x j≠0)/\(∀j,n<=j->x j=0)/\(∀j,(x j).natAbs<=xh k λi=>2*n*B i+1)/\∀i,i<k->wH n (λj=>A i j*x j)=0:=by
 obtain⟨H,hH⟩:∃H,H=xh k λi=>2*n*B i+1:=⟨_,rfl⟩;rw[<-hH];let dg:Nat->Nat->Nat:=λm j=>m / (H+1)^j % (H+1);let val:Nat->Nat->Int:=λm i=>wH n λj=>A i j*(dg m j:Int);let w:Nat->Nat:=λi=>2*n*B i*H+1;let g:Nat->Nat->Nat:=λm i=>(val m i+(n*(B i*H):Nat)).toNat;have dl:∀m j,dg m j<=H:=λm j=>Hb (Fc _ ⋯);have vb:∀m i,i<k->(val m i).natAbs<=n*(B i*H):=λm i hi=>zmt n λj hj=>by
  rw[Bz,DS];exact D2 (hA i hi j hj) (dl m j)
 have gl:∀m i,i<k->g m i<w i:=λm i hi=>by
  have:=vb m i hi;show(val m i+(n*(B i*H):Nat)).toNat<2*n*B i*H+1;rw[show 2*n*B i*H=n*(B i*H)+n*(B i*H) by rw[Eh,Eh,He,<-Hc,<-He]];omega
 have cQ:xh k w<(H+1)^n:=by
  have h1:xh k w<=xh k λi=>(2*n*B i+1)*(H+1):=zks k λi _=>by
   show 2*n*B i*H+1<=(2*n*B i+1)*(H+1);rw[Hc,Nat.mul_add];omega
  rw[zh1,<-hH] at h1;rw[hn,DP,DJ];have h2:0<(H+1)^k:=EW ⋯;have h3:H*(H+1)^k<(H+1)*(H+1)^k:=Nat.mul_lt_mul_of_pos_right ⋯ h2;omega
 have hex:∃m m',m<m'/\m'<(H+1)^n/\zau w (g m) k=zau w (g m') k:=by
  apply Bg;intro dS;have:=php (xh k w) ((H+1)^n) (λm=>zau w (g m) k) (λm _=>zdK k λi hi=>gl m i hi) λm m' h1 h2 e=>dS ⟨m,m',h1,h2,e⟩;omega
 obtain⟨m,m',h1,h2,e⟩:=hex;have ev:=zkt k (λi hi=>gl m i hi) (λi hi=>gl m' i hi) e;refine⟨λj=>if j<n then (dg m j:Int)-(dg m' j:Int) else 0,?_,λj hj=>if_neg ⋯,λj=> ?_,λi hi=> ?_⟩
 .apply Bg;intro dS;have:m=m':=zmu (b:=H+1) ⋯ n m m' ⋯ h2 λj hj=>by
   apply Bg;intro cu;refine dS ⟨j,hj,?_⟩;dsimp only;rw[if_pos hj];show((m / (H+1)^j % (H+1):Nat):Int)-((m' / (H+1)^j % (H+1):Nat):Int)≠0;omega
  omega
 .dsimp only;have a1:=dl m j;have a2:=dl m' j;split<;>omega
 have e1:=ev i hi;have b1:=vb m i hi;have b2:=vb m' i hi;have e2:val m i=val m' i:=by
  have:(val m i+(n*(B i*H):Nat)).toNat=(val m' i+(n*(B i*H):Nat)).toNat:=e1;omega
 have e3:wH n (λj=>A i j*(if j<n then (dg m j:Int)-(dg m' j:Int) else 0))=wH n (λj=>A i j*(dg m j:Int)-A i j*(dg m' j:Int)):=Ue n λj hj=>by rw[if_pos hj,FX]
 rw[e3,zkr];show val m i-val m' i=0;omega
def Gst:Nat->Nat->Nat->Prop
 |0,_,_=>False
 |n+1,a,b=>b=0\/Gst n b (a % b)
def zoF:∀(n k1 k2 a b:Nat),b<=a->a<2^k1->b<2^k2->k1+k2<n->Gst n a b:=by
 intro n
 induction n with
 |zero=>intro k1 k2 a b _ _ _ h;omega
 |succ n ih=>
  intro k1 k2 a b gf h1 h2 h;rcases GP b with z|z;exact .inl z
  refine .inr ?_;cases k1 with
  |zero=>rw[Fp] at h1;omega
  |succ k1=>
   have hr:=Fc a z;have hq:b+a % b<=a:=by
    have e:=DG a b;have:b*1<=b*(a / b):=Cm _ (Nat.div_pos gf z);omega
   rw[DP] at h1;exact ih k2 k1 b (a % b) ⋯ h2 ⋯ ⋯
def zoG(hb:b<2^k)(h:2*k+1<n):Gst n a b:=by
 obtain⟨n,rfl⟩:∃m,n=m+1:=⟨n-1,⋯⟩;rcases GP b with z|z;exact .inl z;have hr:=Fc a z;exact .inr (zoF n k k b (a % b) ⋯ hb ⋯ ⋯)
def zm.fuel{p t:Int}(hb:Big fu)(h:zm n p)(hn:n<=1000000):Gst fu t.natAbs p.natAbs:=by
 apply zoG h;have h2:2^25<=fu:=AA (C3 ∅ ∅) hb;have h1:2^25=33554432:=by decide
 omega
section
variable{M N B:Int}
def Eu.fle{bf rs fb f:Int}(h:Eu M N bf rs fb f):(f.natAbs:Int)<=M/\(fb.natAbs:Int)*rs<=M/\f≠0:=by
 have p:=h.pos;rcases h.sg with⟨s1,s2,s3⟩|⟨s1,s2,s3⟩
 .have h1:0<= -fb*rs:=D9 ⋯ p.1;have h2:f<=f*bf:=by
   have:=B1 (show 1<=bf by omega) (BP s2);omega
  have h3:0<=f*bf:=D9 ⋯ ⋯;rw[EY] at h1;refine⟨⋯,?_,⋯⟩;rw[show((fb.natAbs:Int))= -fb by omega,EY];omega
 have h1:0<=fb*rs:=D9 s1 p.1;have h2: -f<= -f*bf:=by
  have:=B1 (show 1<=bf by omega) (show 0<= -f by omega);omega
 have h3:0<= -f*bf:=D9 ⋯ ⋯;rw[EY] at h2 h3;refine⟨⋯,?_,⋯⟩;rw[show((fb.natAbs:Int))=fb by omega];omega
def zf8(hM:0<M/\zm 50000 M)(hb:0<=B):∀(n:Nat) (bf rs fb f:Int) (a7 a8 a9:pU Xv),Eu M N bf rs fb f->B<bf->bf<=M->Gst n bf.natAbs rs.natAbs->
  WS (Xr (bE (eOp dGt (za 4) (za 2))) (zq (zB (eOp XA (za 3) (za 4)) (gN 7)) (zq (zB (eOp Yh (za 3) (eOp yP (za 7) (za 4))) (gN 8)) (zq (zB (za 4) (gN 3)) (zq (zB (za 8) (gN 4)) (zq (zB (eOp Yh (za 5) (eOp yP (za 7) (za 6))) (gN 9)) (zq (zB (za 6) (gN 5)) (zB (za 9) (gN 6)))))))) n [dE a,dE b,dE (.int B),dE (.int bf),dE (.int rs),dE (.int fb),dE (.int f),a7,a8,a9] S)
   (λρ S'=>S=S'/\∃bf rs fb f a7 a8 a9,ρ=[dE a,dE b,dE (.int B),dE (.int bf),dE (.int rs),dE (.int fb),dE (.int f),a7,a8,a9]/\Eu M N bf rs fb f/\rs<=B/\B<bf/\bf<=M) (λ_ _=>False):=by
 intro n
 induction n with
 |zero=>intro bf rs fb f a7 a8 a9 _ _ _ h;exact h.elim
 |succ n ih=>
  intro bf rs fb f a7 a8 a9 eu hB uM hn;apply Xt;ext;refine yY (λh=> ?_) (λh=> ?_)
  .have p:=eu.pos;have hr:0<rs:=by omega
   have t:=eu.turn hr;have b1:∀z:Int,(z.natAbs:Int)<=M->zm 50000 z:=λz hz=>hM.2.abs ⋯;have q0:0<=bf / rs:=Int.ediv_nonneg ⋯ ⋯;have q1:bf / rs<=bf:=Ho _ ⋯;ext;apply WE ⋯;rw[CH _ ⋯];ext;apply yH (b1 (bf / rs) ⋯) (b1 rs ⋯) ∅;ext;apply yH (b1 (bf / rs) ⋯) (b1 f eu.fle.1) ∅;ext;have em:bf-bf / rs*rs=bf % rs:=by have:=Dy bf rs;rw[C4] at this;omega
   exact ih _ _ _ _ _ _ _ t ⋯ ⋯ (by rw[em,Int.natAbs_emod_of_nonneg ⋯];exact hn.resolve_left ⋯)
  exact⟨rfl,bf,rs,fb,f,_,_,_,rfl,eu,⋯,hB,uM⟩
def zha(hf:Big fu)(hM:0<M/\zm 50000 M)(hb:0<=B)(pL:B<M):W (xY fu [.int N,.int M,.int B] S) λv S'=>S=S'/\∃bf rs fb f,v= .tup [.int rs,.int f]/\Eu M N bf rs fb f/\rs<=B/\B<bf:=by
 walk_at "wr";unfold vO;ext;apply xR hM.1;ext;refine VM (λρ S'=>S=S'/\∃bf rs fb f a7 a8 a9,ρ=[dE (.int N),dE (.int M),dE (.int B),dE (.int bf),dE (.int rs),dE (.int fb),dE (.int f),a7,a8,a9]/\Eu M N bf rs fb f/\rs<=B/\B<bf/\bf<=M) (zoB (zf8 hM hb fu _ _ _ _ _ _ _ (Eu.start hM.1) pL (EL _) ?_) (λ_ _ h=>h) (λ_ _ z=>z.elim)) ?_;have h1:=Br N hM.1;have h2:=BG N (show M≠0 by omega);exact zm.fuel hf (hM.2.abs ⋯) ∅;rintro _ _ ⟨rfl,bf,rs,fb,f,a7,a8,a9,rfl,eu,h1,h2,h3⟩;ext;exact⟨rfl,bf,rs,fb,f,rfl,eu,h1,h2⟩
def zh2(hf:Big fu){q:Nat}(q1:1<q)(hb:zm 50000 (q:Int)){r:Int}(h0:0<r)(h1:r<q):W (YA fu [.int r,.int (q:Int)] S) λv S'=>S=S'/\((v= .non/\¬Pr q)\/∃i:Int,v= .int i/\0<=i/\i<q/\Cg (q:Int) (r*i) 1):=by
 walk_at "wr";unfold Yz;ext;refine(zha hf ⟨⋯,hb⟩ ∅ ⋯).imp ?_;rintro _ _ ⟨rfl,bf,rs,fb,f,rfl,eu,h2,h3⟩;have p:=eu.pos;ext;apply Yw;ext;refine yY (λe=> ?_) (λz=> ?_);subst e;ext;apply xR ⋯;refine⟨rfl,.inr ⟨f % (q:Int),rfl,BG _ ⋯,Br _ ⋯,?_⟩⟩;obtain⟨k,hk⟩:=eu.cg;have:=(Cg.refl (m:=(q:Int)) (a:=r)).mul (Cg.mod (q:Int) f);exact this.trans ⟨k,by rw[C4];exact hk⟩
 ext;refine⟨rfl,.inl ⟨rfl,λhq=> ?_⟩⟩;have z:rs=0:=by omega
 obtain⟨d1,d2⟩:=eu.dv bf (GO _) (by rw[z];exact Int.dvd_zero _);have d1:bf.natAbs∣q:=by
  have:=Et.2 d1;simpa using this
 rcases hq.2 _ d1 with e|e;omega;have:bf<=r:=Int.le_of_dvd h0 d2;omega
def Ra(M B N X D:Int):Prop:= -B<=X/\X<=B/\0<D/\D<=B/\∃k,D*N=X+M*k
def zoH(hf:Big fu)(hM:0<M/\zm 50000 M)(hb:0<=B)(h2:2*(B*B)<M):W (vf fu [.int N,.int M,.int B] S) λv S'=>S=S'/\((v= .non/\∀X D,¬Ra M B N X D)\/∃t b,v= .tup [.int t,.int b]/\0<b/\b<=B/\ -B<=t/\t<=B/\∀X D,Ra M B N X D->∃e,X=e*t/\D=e*b):=by
 have pL:B<M:=by
  have:B<=B*B\/B=0:=by
   by_cases z:B=0;exact .inr z;left;have:=B1 (show 1<=B by omega) hb;omega
  omega
 walk_at "wr";unfold ve;ext;refine(zha hf hM hb pL).imp ?_;rintro _ _ ⟨rfl,bf,rs,fb,f,rfl,eu,h3,h4⟩;have rat:∀X D,Ra M B N X D->∃e,X=e*rs/\D=e*f:=λX D ⟨a1,a2,a3,a4,k,a5⟩=>eu.rat h3 h4 ⟨a1,a2⟩ ⟨⋯,a4⟩ h2 a5;have p:=eu.pos;have f0:=eu.fle.2.2;ext;apply yA;ext;apply TF;ext;refine yY (λh=> ?_) (λh=> ?_)
 .ext;refine⟨rfl,.inl ⟨rfl,λX D hr=> ?_⟩⟩;obtain⟨e,_,e2⟩:=rat X D hr;obtain⟨_,_,a3,a4,_⟩:=hr;have e0:e≠0:=λz=>by rw[z,DR] at e2;omega
  have:f.natAbs<=D.natAbs:=by
   rw[e2,Bz];exact FY _ ⋯
  omega
 ext;apply Yw;ext;refine yY (λh5=> ?_) (λh5=> ?_);ext;exact⟨rfl,.inr ⟨rs,f,rfl,h5,⋯,⋯,h3,rat⟩⟩;ext;refine⟨rfl,.inr ⟨-rs, -f,rfl,⋯,⋯,⋯,⋯,λX D hr=> ?_⟩⟩;obtain⟨e,e1,e2⟩:=rat X D hr;exact⟨-e,by rw[HC];exact e1,by rw[HC];exact e2⟩
def zoI(hM:0<M):W (vQ fu [.int N,.int M] S) λv S'=>S=S'/\∃t:Int,v= .int t/\Cg M t N/\(t.natAbs:Int)<=M:=by
 walk_at "wr";unfold vP;ext;apply xR hM;have h1:=Br N hM;have h2:=BG N (show M≠0 by omega);ext;apply Yw;ext;refine yY (λ_=> ?_) (λ_=> ?_);ext;exact⟨rfl,_,rfl,Cg.mod M N,⋯⟩;ext;refine⟨rfl,_,rfl,(Cg.mod M N).trans .refl|>λh=> ?_,⋯⟩;obtain⟨k,e⟩:=h;exact⟨k-1,by rw[e,FX];omega⟩
def RaL(M B:Int)(Ns:mZ Int)(X:Nat->Int)(D:Int):Prop:=0<D/\D<=B/\∀(i:Nat) N,Ns[i]? =dE N-> -B<=X i/\X i<=B/\∃k,D*N=X i+M*k
def QuP(M B:Int)(Ns:mZ Int)(ts:mZ Int)(b:Int):Prop:=0<b/\b<=B/\(∀t∈ts,zm 2200000 t)/\∀X D,RaL M B Ns X D->∃e,D=e*b/\∀(i:Nat) t,ts[i]? =dE t->X i=e*t
def QuR(M B:Int)(Ns:mZ Int)(S:Sto)(v:Xv)(S':Sto):Prop:=Le S S'/\((v= .non/\∀X D,¬RaL M B Ns X D)\/∃(tn:Nat) (ts:mZ Int) (b:Int),v= .tup [.ref tn,.int b]/\S'[tn]? =dE (.lst (ts.map .int))/\ts.length=Ns.length/\QuP M B Ns ts b)
def QuI(M B:Int)(Ns:mZ Int)(nn:Nat)(S:Sto)(i:Nat)(ρ:Rho)(S':Sto):Prop:=∃(tn:Nat) (ts:mZ Int) (b:Int) (a5 a6 a7:pU Xv),ρ=[dE (.ref nn),dE (.int M),dE (.int B),dE (.ref tn),dE (.int b),a5,a6,a7]/\Le S S'/\S.length<=tn/\S'[tn]? =dE (.lst (ts.map .int))/\ts.length=i/\0<b/\b<=B/\(∀t∈ts,zm (50000+i*50000) t)/\∀X D,RaL M B Ns X D->∃e,D=e*b/\∀(j:Nat) t,ts[j]? =dE t->X j=e*t
def zmv(hf:Big fu)(hM:0<M/\zm 50000 M)(hb:1<=B)(h2:2*(B*B)<M)(hn:S[nn]? =dE (.lst (Ns.map .int)))(hl:Ns.length<=40)(hN:∀N∈Ns,zm 50000 N):
  W (xA fu [.ref nn,.int M,.int B] S) (QuR M B Ns S):=by
 have hB:zm 50000 B:=hM.2.abs (by
  have:B*1<=B*B:=B1 hb ⋯
  omega)
 walk_at "wr";unfold wO;ext;refine wd (vq ?_);ext;refine⟨_,zb (zj hn),_,zb (zj hn),?_⟩;refine xk (xs:=Ns.map .int) (QuI M B Ns nn S) ?_ ?_ ?_ ?_;rintro i ρ S' _ ⟨tn,ts,b,a5,a6,a7,rfl,le,_⟩;exact zb (le.2 _ _ hn)
 .rintro i x ρ S' hx ⟨tn,ts,b,a5,a6,a7,rfl,le,qT,eI,g6,b0,bB,lO,lh⟩;rw[Ax,AB] at hx;obtain⟨N,hx,rfl⟩:=hx;have uQ:=hN N (Ay hx);have cW:i<100:=by have:=(Au.1 hx).1;omega
  have jb:zm 50000 b:=hB.abs ⋯;ext;refine .of rfl ?_;dsimp only[Bt];ext;refine yH uQ jb ∅ ?_;ext;refine(zoI hM.1).imp ?_;rintro _ _ ⟨rfl,t,rfl,o9,jv⟩;have o8:zm 50000 t:=hM.2.abs ⋯;ext;have fin:∀(S1:Sto) (tn':Nat) (ts':mZ Int) (b' t':Int) (a7:pU Xv),Le S S1->S.length<=tn'->S1[tn']? =dE (.lst (ts'.map .int))->ts'.length=i->0<b'->b'<=B->(∀t∈ts',zm (50000+(i+1)*50000) t)->zm 50000 t'->(∀X D,RaL M B Ns X D->∃e,D=e*b'/\(∀(j:Nat) t,ts'[j]? =dE t->X j=e*t)/\X i=e*t')->
    W (eMt xw (za 3) [za 6] [dE (.ref nn),dE (.int M),dE (.int B),dE (.ref tn'),dE (.int b'),dE (.int N),dE (.int t'),a7] S1) λ_ S2=>QuI M B Ns nn S (i+1) [dE (.ref nn),dE (.int M),dE (.int B),dE (.ref tn'),dE (.int b'),dE (.int N),dE (.int t'),a7] S2:=by
   intro S1 tn' ts' b' t' a7 fY kY ju kZ y6 y4 pC o7 oj;refine Vw ?_;ext;refine⟨⟨_,zb ju⟩,?_⟩;ext;refine wD (xz ju) (by rw[Aw];exact yE ⋯) ?_;refine⟨tn',ts'++[t'],b',_,_,_,rfl,fY.set kY,kY,by rw[yG ju];simp,by simp[kZ],y6,y4,λt ht=> ?_,λX D hr=> ?_⟩;rcases AU.1 ht with ht|ht;exact pC t ht;rw[AI.1 ht];exact o7.mono ⋯;obtain⟨e,e1,e2,e3⟩:=oj X D hr;refine⟨e,e1,λj t hj=> ?_⟩;by_cases iY:j<ts'.length;rw[Az iY] at hj;exact e2 j t hj
   rw[AG ⋯] at hj;have:j=i:=by
    have:=(Au.1 hj).1;simp at this;omega
   subst this;rw[kZ,BL] at hj;cases hj;exact e3
  have pair:∀X D,RaL M B Ns X D->∃e,D=e*b/\(∀(j:Nat) t,ts[j]? =dE t->X j=e*t)/\0<e/\Ra M B t (X i) e:=λX D hr=>by
   obtain⟨e,e1,e2⟩:=lh X D hr;obtain⟨d0,d1,d2⟩:=id hr;obtain⟨c1,c2,k,c3⟩:=d2 i N hx;have e0:0<e:=by
    apply Eo;intro z;have:=Ec z (show -b<=0 by omega);rw[DE] at this;omega
   have eB:e<=B:=by
    have:=B1 (show 1<=b by omega) (BP e0);omega
   obtain⟨k2,c4⟩:=o9;exact⟨e,e1,e2,e0,c1,c2,e0,eB,k+e*k2,by rw[c4];grind⟩
  refine yA ?_;ext;refine TF ?_;ext;refine yY (λfV=> ?_) (λfV=> ?_)
  .ext;refine(zoH hf hM ⋯ h2).imp ?_;rintro _ _ ⟨rfl,⟨rfl,dS⟩|⟨t1,b1,rfl,f1,f2,f3,f4,f5⟩⟩;ext;refine yA (YX ?_);ext;refine wP ?_;ext;refine⟨λ_=> ?_,nofun⟩;refine⟨λ_=> ?_,nofun⟩;ext;refine⟨le,.inl ⟨rfl,λX D hr=> ?_⟩⟩;obtain⟨e,_,_,_,jz⟩:=pair X D hr;exact dS _ _ jz;have mS:zm 50000 b1:=hB.abs ⋯;ext;refine yA (YX ?_);ext;refine wP ?_;ext;refine⟨nofun,λ_=> ?_⟩;ext;refine yH jb mS ∅ ?_;ext;refine yY (λuo=> ?_) (λuo=> ?_)
   .ext;refine⟨le,.inl ⟨rfl,λX D hr=> ?_⟩⟩;obtain⟨e,e1,_,e0,jz⟩:=pair X D hr;obtain⟨e',g1,g2⟩:=f5 _ _ jz;have Ak:0<e':=by
     apply Eo;intro z;have:=Ec z (show -b1<=0 by omega);rw[DE] at this;omega
    have:b*b1<=D:=by
     rw[e1,g2];have:=B1 (show 1<=e' by omega) (BP (Dt b0 f1));rw[show e'*b1*b=b*b1*e' by grind];omega
    have:=hr.2.1;omega
   ext;refine yx (vq ?_);ext;refine⟨_,zb eI,_,zb eI,?_⟩;refine yp (xs:=ts.map .int) (by rw[Aw];exact AX (yE ⋯)) (λj es S1=>S'=S1/\es=((ts.take j).map (· *b1)).map .int) ?_ ?_ ?_ ?_;rintro j es S1 _ ⟨rfl,_⟩;exact zb eI;rintro j x es S1 fh c9 ⟨rfl,rfl⟩;rw[Ax,AB] at fh;obtain⟨tj,fh,rfl⟩:=fh;have uK:=lO tj (Ay fh);refine .of rfl ?_;ext;refine⟨rfl,?_⟩;ext;refine yH uK mS ⋯ ?_;refine⟨rfl,?_⟩;rw[Bf,fh];simp;exact⟨rfl,by simp⟩;rintro es S1 c9 ⟨rfl,rfl⟩;rw[Aw,Bq];ext;refine yH jb mS ∅ ?_;ext;refine fin _ _ (ts.map (· *b1)) (b*b1) t1 _ le.app (AA le.1 (AF _)) zx (by simp[g6]) (Dt b0 f1) ⋯ (λt ht=> ?_) (hB.abs ⋯) λX D hr=> ?_;obtain⟨t',tI,rfl⟩:=Be.1 ht;exact((lO t' tI).mul mS).mono ⋯;obtain⟨e,e1,e2,e0,jz⟩:=pair X D hr;obtain⟨e',g1,g2⟩:=f5 _ _ jz;refine⟨e',by rw[e1,g2];grind,λj t hj=> ?_,g1⟩;rw[Ax,AB] at hj;obtain⟨t',hj,rfl⟩:=hj;rw[e2 j t' hj,g2];grind
  ext;refine fin S' tn ts b t _ le qT eI g6 b0 bB (λt ht=>(lO t ht).mono ⋯) o8 λX D hr=> ?_;obtain⟨e,e1,e2,e0,c1,c2,_,c4,k,c5⟩:=pair X D hr;refine⟨e,e1,e2,?_⟩;have s1:(e*t).natAbs<=(B*B).natAbs:=by
   rw[Bz,Bz];exact D2 ⋯ ⋯
  have s2:B<=B*B:=by
   have:=B1 hb (show 0<=B by omega);omega
  exact(Cg.small (m:=M) ⟨k,c5⟩ ⋯ ⋯).symm
 .exact⟨_,[],1,_,_,_,rfl,Le.refl.app,AF _,zx,rfl,∅,hb,(λt ht=>by cases ht),λX D hr=>⟨D,⋯,λj t hj=>by simp at hj⟩⟩
 rintro ρ S' ⟨tn,ts,b,a5,a6,a7,rfl,le,qT,eI,g6,b0,bB,lO,lh⟩;ext;refine⟨le,.inr ⟨tn,ts,b,rfl,eI,by rw[g6,Aw],b0,bB,λt ht=>(lO t ht).mono ?_,lh⟩⟩;rw[Aw];omega
end
section
noncomputable def prt(p:Nat×Int):Xv:= .tup [.int p.1,.int p.2]
noncomputable def vec(vs:mZ Int)(i:Nat):Int:=vs.getD i 0
def zbz(h:i<vs.length):vs[i]? =dE (vec vs i):=by unfold vec;rw[Av,As h];rfl
def zku(bs:mZ Int):Ww (bs.map Xv.int)=dE bs:=zhF bs
def zoJ(h:zF S x=dE l)(h2:Ww l=dE bs)(k:P (.int bs.sum) S):WO (zeo [x] S) P:= .of (by unfold zeo;dsimp only;rw[h,AO,h2];rfl) k
structure zak(S:Sto)(n:Nat)(r:mZ (Nat×Int)×Int):Prop where
 ex:∃pn,S[n]? =dE (.ins "WholeRow" [("parts",.ref pn),("last",.int r.2)])/\S[pn]? =dE (.lst (r.1.map prt))
def zak.le(h:zak S n r)(l:Le S S'):zak S' n r:=by
 obtain⟨pn,h1,h2⟩:=h.ex;exact⟨pn,l.2 _ _ h1,l.2 _ _ h2⟩
structure Wf(many:Nat)(r:mZ (Nat×Int)×Int):Prop where
 nd:NdE r.1
 lt:∀p∈r.1,p.1<many/\zm 2000 p.2
 last:zm 2000 r.2
def NdE.len(h:NdE es)(hl:∀p∈es,p.1<many):es.length<=many:=by
 have e:∀i,i<es.length->((es.map (·.1))[i]?).getD 0=(es.map (·.1)).getD i 0:=λi hi=>by rw[Av]
 refine php many es.length (λi=>((es.map (·.1))[i]?).getD 0) (λi hi=> ?_) λi j gU hj z=> ?_;rw[Ax,As hi];exact hl _ (C8 hi)
 have h1:i<(es.map (·.1)).length:=by rw[Aw];omega
 have h2:j<(es.map (·.1)).length:=by rw[Aw];omega
 rw[As h1,As h2] at z;have:=(Cv h).1 z;omega
def zkv(he:W (e ρ S) λy S1=>y= .ref pn/\S=S1)(hk:(ρ[k]?).join=dE (.ref vn))(hp:S[pn]? =dE (.lst (ps.map prt)))(hv:S[vn]? =dE (.lst (vs.map .int)))(hl:ps.length<=20000)(cQ:∀p∈ps,p.1<vs.length/\zm n p.2)(hb:∀v∈vs,zm m v)(hn:n+m<=134217728)(q:∀T,P (.int (zD ps (vec vs))) (S++[T])):
  W (eFn zeo [yO [fC,fC,dE k] (iL e) (gT 2 (zV (gN 0) (zV (gN 1) wI))) xa (eOp yP (za 1) (eOp wT (za 2) (za 0)))] ρ S) P:=by
 refine zcs (xy (yx (vq (he.imp ?_))));rintro _ _ ⟨rfl,rfl⟩;refine⟨_,zb hp,_,zb hp,?_⟩;have hc:za7 [fC,fC,dE k] ρ=[fC,fC,dE (.ref vn)]:=by
  simp only[za7,List.map,Hq,AO,hk]
 rw[hc];refine yp (xs:=ps.map prt) (by rw[Aw];exact AX (yE hl)) (λj es S1=>S=S1/\es=((ps.take j).map λp=>p.2*vec vs p.1).map .int) ?_ ?_ ?_ ?_;rintro j es S1 _ ⟨rfl,_⟩;exact zb hp;rintro j y es S1 hy c9 ⟨rfl,rfl⟩;rw[Ax,AB] at hy;obtain⟨p,hy,rfl⟩:=hy;obtain⟨l1,l2⟩:=cQ p (Ay hy);refine .of rfl ?_;ext;refine⟨rfl,?_⟩;ext;refine wf (zb hv) (ZW (z:= .int (vec vs p.1)) ⋯ (by rw[Ax,AV,zbz l1];rfl)) ?_;apply yH l2 (hb _ (Ay (zbz l1))) hn;refine⟨rfl,?_⟩;rw[Bf,hy];simp;exact⟨rfl,by simp⟩;rintro es S1 c9 ⟨rfl,rfl⟩;rw[Aw,Bq];refine zfx (zoJ (zb zx) (zku _) ?_);exact q _
def zeW(cQ:∀p∈ps,p.1<vs.length/\zm n p.2)(hb:∀v∈vs,zm m v)(hl:ps.length<=k):zm (n+m+k) (zD ps (vec vs)):=by
 induction ps generalizing k with
 |nil=>unfold zm;rw[zaC];exact EW ∅
 |cons p r ih=>
  obtain⟨k,rfl⟩:∃k',k=k'+1:=⟨k-1,by simp at hl;omega⟩;obtain⟨l1,l2⟩:=cQ p (.head _);rw[ye];exact zm.add (n:=n+m+k) ((l2.mul (hb _ (Ay (zbz l1)))).mono ⋯) (ih (λq hq=>cQ q (.tail _ hq)) (by simp at hl;omega)) ⋯
def zhb(h:zak S rn r)(ok:Wf many r)(hv:S[vn]? =dE (.lst (vs.map .int)))(hl:vs.length=many)(hm:many<=100)(hb:∀v∈vs,zm m v)(iV:m<=10000000):
  W (YY fu [.ref rn,.ref vn] S) λv S'=>v= .int (zD r.1 (vec vs))/\Le S S':=by
 obtain⟨pn,h1,h2⟩:=h.ex;have hlen:=ok.nd.len λp hp=>(ok.lt p hp).1;walk_at "wr";unfold Tw;refine vG (zkv (pn:=pn) (vn:=vn) (n:=2000) (m:=m) (ps:=r.1) (vs:=vs) (vH ?_) rfl h2 hv ⋯ (λp hp=>⟨by rw[hl];exact(ok.lt p hp).1,(ok.lt p hp).2⟩) hb ⋯ λT=>⟨rfl,Le.refl.app⟩);ext;exact⟨rn,_,.ref pn,rfl,h1,rfl,rfl,rfl⟩
def vk(S:Sto)(n:Nat)(rs:mZ (mZ (Nat×Int)×Int)):Prop:=∃ms:mZ Nat,S[n]? =dE (.lst (ms.map .ref))/\ms.length=rs.length/\∀(i m:Nat) r,ms[i]? =dE m->rs[i]? =dE r->zak S m r
def vk.le(h:vk S n rs)(l:Le S S'):vk S' n rs:=by
 obtain⟨ms,h1,h2,h3⟩:=h;exact⟨ms,l.2 _ _ h1,h2,λi m r e1 e2=>(h3 i m r e1 e2).le l⟩
def zcI(h:vk S rn rs)(ok:∀r∈rs,Wf many r)(hv:S[vn]? =dE (.lst (vs.map .int)))(hl:vs.length=many)(hm:many<=100)(hb:∀v∈vs,zm m v)(iV:m<=10000000)(jb:zm 50000 b):
  W (Zv fu [.ref rn,.ref vn,.int b] S) λv S'=>v= .bl (decide (∀r∈rs,zD r.1 (vec vs)=r.2*b))/\Le S S':=by
 obtain⟨ms,h1,h2,h3⟩:=id h;walk_at "wr";unfold Vb;ext;refine wd (vq ?_);ext;refine⟨_,zb h1,_,zb h1,?_⟩;refine xk (xs:=ms.map .ref) (λi ρ S'=>∃a3,ρ=[dE (.ref rn),dE (.ref vn),dE (.int b),a3]/\Le S S'/\∀r∈rs.take i,zD r.1 (vec vs)=r.2*b) ?_ ?_ ?_ ?_;rintro i ρ S' _ ⟨a3,rfl,le,_⟩;exact zb (le.2 _ _ h1)
 .rintro i y ρ S' hy ⟨a3,rfl,le,cY⟩;rw[Ax,AB] at hy;obtain⟨mi,hy,rfl⟩:=hy;have hi:i<rs.length:=by rw[<-h2];exact(Au.1 hy).1
  have er:rs[i]? =dE rs[i]:=As hi;generalize rs[i]=r at er;have hr:=Ay er;have ra:=(h3 i mi r hy er).le le;refine .of rfl ?_;dsimp only[Bt];apply yA;ext;refine(zhb ra (ok r hr) (le.2 _ _ hv) hl hm hb iV).imp ?_;rintro _ S1 ⟨rfl,fY⟩;obtain⟨pn,g1,g2⟩:=(ra.le fY).ex;refine vp (vH ?_);ext;refine⟨mi,_,.int r.2,rfl,g1,rfl,?_⟩;ext;apply yH (ok r hr).last jb ∅;ext;refine TD (λcu=> ?_) (λhe=> ?_);ext;refine⟨?_,le.trans fY⟩;rw[decide_eq_false λz=>cu (z r hr)];ext;refine⟨le.trans fY,λr' dR=> ?_⟩;rw[Bf,er] at dR;rcases AU.1 dR with dR|dR;exact cY r' dR;rw[show r'=r by simpa using dR];exact he
 .exact⟨_,rfl,Le.refl,λr hr=>by simp at hr⟩
 rintro ρ S' ⟨a3,rfl,le,cY⟩;ext;rw[Aw,h2,Bq] at cY;exact⟨by rw[decide_eq_true cY],le⟩
noncomputable def dkE(es:mZ (Nat×Int)):mZ (Key×Xv):=es.map λp=>((.inl (p.1:Int):Key),Xv.int p.2)
def Uf{a b:Nat}:((.inl (a:Int):Key)= .inl (b:Int))↔a=b:=by
 constructor;intro h;injection h with h;omega;intro h;rw[h]
def Vk{c:Nat}:vT (dkE es) (.inl (c:Int))=(yI es c).map .int:=by
 unfold vT yI dkE
 induction es with
 |nil=>rfl
 |cons p r ih=>
  rw[AZ,C2,C2];by_cases e:p.1=c;rw[decide_eq_true (Uf.2 e),decide_eq_true e];rfl;rw[decide_eq_false (λz=>e (Uf.1 z)),decide_eq_false e];exact ih
def zdL{c:Nat}:zhH (dkE es) (.inl (c:Int)) (.int v)=dkE (TK es c v):=by
 unfold zhH TK;have h1:((dkE es).any λkv=>decide (kv.1=(.inl (c:Int):Key)))=es.any λp=>decide (p.1=c):=by
  unfold dkE;rw[HZ]
  congr 1
  funext p;exact decide_eq_decide.2 Uf
 rw[h1];split;unfold dkE;rw[DQ,DQ];refine Dj λp _=> ?_;simp only[Gs];by_cases e:p.1=c;rw[if_pos (Uf.2 e),if_pos e];rw[if_neg (λz=>e (Uf.1 z)),if_neg e];unfold dkE;simp
def zhc{c:Nat}:zeL (dkE es) (.inl (c:Int))=dkE (xZ es c):=by
 unfold zeL xZ dkE;rw[List.filter_map]
 congr 1
 refine List.filter_congr λp _=> ?_;simp only[Gs];exact decide_eq_decide.2 (not_congr Uf)
def Zx{c:Nat}:Uy (.int (c:Int))=dE (.inl (c:Int)):=rfl
structure zeX(S:Sto)(n:Nat)(s:Stp):Prop where
 ex:∃fn pn,S[n]? =dE (.ins "Step" [("row",.int s.row),("column",.int s.col),("inverse",.int s.inv),("factors",.ref fn),("parts",.ref pn)])/\S[fn]? =dE (.lst (s.fac.map prt))/\S[pn]? =dE (.lst (s.par.map prt))
def zeX.le{s:Stp}(h:zeX S n s)(l:Le S S'):zeX S' n s:=by
 obtain⟨fn,pn,h1,h2,h3⟩:=h.ex;exact⟨fn,pn,l.2 _ _ h1,l.2 _ _ h2,l.2 _ _ h3⟩
structure zb1(s:Stp):Prop where
 inv:zm 5500 s.inv
 fac:s.fac.length<=100/\∀p∈s.fac,zm 5500 p.2
 par:s.par.length<=100/\∀p∈s.par,zm 5500 p.2
def xW(S:Sto)(n:Nat)(ss:mZ Stp):Prop:=∃ms:mZ Nat,S[n]? =dE (.lst (ms.map .ref))/\ms.length=ss.length/\∀(i m:Nat) s,ms[i]? =dE m->ss[i]? =dE s->zeX S m s
def xW.le(h:xW S n ss)(l:Le S S'):xW S' n ss:=by
 obtain⟨ms,h1,h2,h3⟩:=h;exact⟨ms,l.2 _ _ h1,h2,λi m r e1 e2=>(h3 i m r e1 e2).le l⟩
structure znn(S:Sto)(d n:Nat)(ss:mZ Stp):Prop where
 ex:∃ms:mZ Nat,n≠d/\S[n]? =dE (.lst (ms.map .ref))/\ms.length=ss.length/\∀(i m:Nat) s,ms[i]? =dE m->ss[i]? =dE s->m≠d/\∃fn pn,fn≠d/\pn≠d/\S[m]? =dE (.ins "Step" [("row",.int s.row),("column",.int s.col),("inverse",.int s.inv),("factors",.ref fn),("parts",.ref pn)])/\S[fn]? =dE (.lst (s.fac.map prt))/\S[pn]? =dE (.lst (s.par.map prt))
def xW.toX(h:xW S n ss)(hd:S[d]? =dE (.dk c)):znn S d n ss:=by
 obtain⟨ms,h1,h2,h3⟩:=h;refine⟨ms,(λz=>by rw[z,hd] at h1;cases h1),h1,h2,λi m s e1 e2=> ?_⟩;obtain⟨fn,pn,g1,g2,g3⟩:=(h3 i m s e1 e2).ex;exact⟨(λz=>by rw[z,hd] at g1;cases g1),fn,pn,(λz=>by rw[z,hd] at g2;cases g2),(λz=>by rw[z,hd] at g3;cases g3),g1,g2,g3⟩
structure TkI(C:Nat->Prop)(m:Int)(many:Nat)(ss:mZ Stp)(es0:mZ (Nat×Int))(i:Nat)(es fs:mZ (Nat×Int)):Prop where
 nd:NdE es
 col:∀p∈es,p.1<many/\p.1∉zZ (ss.take i)/\zm (11001+i*100) p.2
 cc:∀p∈es,C p.1
 fl:fs.length<=i
 fac:∀f∈fs,f.1<i/\zm 5500 f.2
 eq:∀x,Cg m (zD es0 x) (zD fs (ats ss x)+zD es x)
def zh3{C:Nat->Prop}(hm:0<m/\zm 5500 m)(hd:S[dn]? =dE (.dk (dkE es0)))(hs:znn S dn sn ss)(dY:Sts m many rows ss)(gE:∀s∈ss,zb1 s)(nd:NdE es0)(hc:∀p∈es0,p.1<many/\zm 5500 p.2)(dJ:many<=100)(uW:∀p∈es0,C p.1)(uU:∀s∈ss,∀p∈s.par,C p.1):
  W (WU fu [.ref dn,.ref sn,.int m] S) λv S'=>LeX dn S S'/\∃fn es fs,v= .ref fn/\S.length<=fn/\S'[fn]? =dE (.lst (fs.map prt))/\S'[dn]? =dE (.dk (dkE es))/\TkI C m many ss es0 ss.length es fs:=by
 obtain⟨ms,h0,h1,h2,h3⟩:=hs.ex;have og:ss.length<=100:=AA dY.le dJ;walk_at "wr";unfold WT;ext;refine wd (zjC ?_);ext;refine⟨_,zb (zj h1),_,congrArg (EF ZK) (zb (zj h1)),?_⟩;have c9:(ZK (ms.map .ref)).length=ss.length:=by rw[zcr,Aw,h2]
 refine xk (xs:=ZK (ms.map .ref)) (λi ρ S'=>∃fn es fs a4 a5 a6 a7 a8,ρ=[dE (.ref dn),dE (.ref sn),dE (.int m),dE (.ref fn),a4,a5,a6,a7,a8]/\LeX dn S S'/\S.length<=fn/\S'[fn]? =dE (.lst (fs.map prt))/\S'[dn]? =dE (.dk (dkE es))/\TkI C m many ss es0 i es fs) ?_ ?_ ?_ ?_;rintro i ρ S' _ ⟨fn,es,fs,a4,a5,a6,a7,a8,rfl,le,_⟩;exact congrArg (EF ZK) (zb (le.2 _ _ h0 h1))
 .rintro i y ρ S' hy ⟨fn,es,fs,a4,a5,a6,a7,a8,rfl,le,gI,hf,gW,tk⟩;obtain⟨y',mB,rfl⟩:=zet hy;clear hy;rw[Ax,AB] at mB;obtain⟨mi,hy,rfl⟩:=mB;have hi:i<ss.length:=by rw[<-h2];exact(Au.1 hy).1
  have er:ss[i]? =dE ss[i]:=As hi;generalize ss[i]=s at er;have so:=dY.at i s er;have sb:=gE s (Ay er);obtain⟨g0,fn',pn,g1,g2,g3,g4,g5⟩:=h3 i mi s hy er;have q3:=le.2 _ _ g0 g3;have q5:=le.2 _ _ g2 g5;have pE:∀x,ats ss x i=s.at x:=λx=>by unfold ats;rw[er];rfl
  have htk:∀c,c∉zZ (ss.take i)->c≠s.col->c∉zZ (ss.take (i+1)):=λc a b=>by
   rw[Bf,er];exact TJ.2 ⟨a,b⟩
  have e1:∀p∈xZ es s.col,p.1<many/\p.1∉zZ (ss.take (i+1))/\zm (11001+i*100) p.2:=λp hp=>by
   obtain⟨a,b⟩:=Vd hp;obtain⟨c1,c2,c3⟩:=tk.col p a;exact⟨c1,htk _ c2 b,c3⟩
  refine .of rfl ?_;dsimp only[Bt];refine zQ (xQ (vp (zj6 ?_)));ext;refine⟨⟨_,xm gW⟩,vH ?_⟩;ext;refine⟨mi,_,.int (s.col:Int),rfl,q3,rfl,?_⟩;ext;have go:∀(S1:Sto) (e:Int),Le (S.set dn (.lst [])) (S.set dn (.lst []))->LeX dn S' S1->S1[dn]? =dE (.dk (dkE (xZ es s.col)))->S1[fn]? =dE (.lst (fs.map prt))->(∀x,zD es x=e*x s.col+zD (xZ es s.col) x)->
    W (za 2 [dE (.ref dn),dE (.ref sn),dE (.int m),dE (.ref fn),dE (.int (i:Int)),dE (.ref mi),a6,a7,a8] S1) λy S2=>WO (vZ (.int e) y S2) λd S3=>WS (sIf (bE (eOp Uu (za 6) (sj 0))) (zq (YU (eMt xw (za 3) [wS [za 4,za 6]])) (YV (iL (Zt "Step" "parts" (za 5))) (gT 2 (zV (gN 7) (zV (gN 8) wI))) (Ti (za 0) (za 7) (eOp Yh (zbh (za 0) (za 7) (sj 0)) (eOp yP (za 6) (za 8)))))) yC ([dE (.ref dn),dE (.ref sn),dE (.int m),dE (.ref fn),dE (.int (i:Int)),dE (.ref mi),a6,a7,a8].set 6 (dE d)) S3)
     (λρ S'=>∃fn es fs a4 a5 a6 a7 a8,ρ=[dE (.ref dn),dE (.ref sn),dE (.int m),dE (.ref fn),a4,a5,a6,a7,a8]/\LeX dn S S'/\S.length<=fn/\S'[fn]? =dE (.lst (fs.map prt))/\S'[dn]? =dE (.dk (dkE es))/\TkI C m many ss es0 (i+1) es fs) (λv S'=>LeX dn S S'/\∃fn es fs,v= .ref fn/\S.length<=fn/\S'[fn]? =dE (.lst (fs.map prt))/\S'[dn]? =dE (.dk (dkE es))/\TkI C m many ss es0 ss.length es fs):=by
   intro S1 e _ l1 d1 f1 lL;have rH:fn≠dn:=λz=>by rw[z,d1] at f1;cases f1
   ext;refine xR hm.1 ?_;dsimp only[Bt];have pd:Cg m (e % m) e:=Cg.mod m e;have pf:zm 5500 (e % m):=hm.2.abs (by have:=Br e hm.1;have:=BG e (show m≠0 by omega);omega);refine yA ?_;ext;refine TD (λcu=> ?_) (λhz=> ?_)
   .
    refine zQ (Xs (Vw ?_));ext;refine⟨⟨_,zb f1⟩,?_⟩;ext;refine wD (xz f1) (by rw[Aw];exact yE (by have:=tk.fl;omega)) ?_;have f2:(S1.set fn (.lst (fs.map prt++[.tup [.int (i:Int),.int (e % m)]])))[fn]? =dE (.lst ((fs++[(i,e % m)]).map prt)):=by rw[yG f1];simp[prt]
    have d2:(S1.set fn (.lst (fs.map prt++[.tup [.int (i:Int),.int (e % m)]])))[dn]? =dE (.dk (dkE (xZ es s.col))):=yz d1 rH;have l2:LeX dn S (S1.set fn (.lst (fs.map prt++[.tup [.int (i:Int),.int (e % m)]]))):=(le.trans l1).set' gI;have m9:(S1.set fn (.lst (fs.map prt++[.tup [.int (i:Int),.int (e % m)]])))[pn]? =dE (.lst (s.par.map prt)):=l2.2 _ _ g2 g5;have qe:=l2.2 _ _ g0 g3;generalize (S1.set fn (.lst (fs.map prt++[.tup [.int (i:Int),.int (e % m)]])))=S2 at f2 d2 l2 m9 qe;refine wd (vq (vH ?_));ext;refine⟨mi,_,.ref pn,rfl,qe,rfl,_,zb m9,_,zb m9,?_⟩;refine xk (xs:=s.par.map prt) (λk ρ S3=>∃es' a7 a8,ρ=[dE (.ref dn),dE (.ref sn),dE (.int m),dE (.ref fn),dE (.int (i:Int)),dE (.ref mi),dE (.int (e % m)),a7,a8]/\LeX dn S2 S3/\S3[dn]? =dE (.dk (dkE es'))/\NdE es'/\(∀p∈es',p.1<many/\p.1∉zZ (ss.take (i+1))/\zm (11001+i*100+k) p.2)/\(∀p∈es',C p.1)/\∀x,zD es' x=zD (xZ es s.col) x-(e % m)*zD (s.par.take k) x) ?_ ?_ ?_ ?_;rintro k ρ S3 _ ⟨es',b7,b8,rfl,l3,_⟩;exact zb (l3.2 _ _ g2 m9)
    .rintro k z ρ S3 hz ⟨es',b7,b8,rfl,l3,d3,kG,c3,pT,t3⟩;rw[Ax,AB] at hz;obtain⟨p,hz,rfl⟩:=hz;have ot:=Ay hz;obtain⟨p1,p2,p3⟩:=so.par p ot;have pb:=sb.par.2 p ot;have cL:k<100:=AJ (Au.1 hz).1 sb.par.1;have uB:es'.length<=100:=AA (kG.len λp hp=>(c3 p hp).1) dJ;have gb:zm (11001+i*100+k) ((yI es' p.1).getD 0):=by
      cases mK:yI es' p.1 with
      |none=>exact zm.small ∅ ⋯
      |some v=>
       unfold yI at mK;rw[AB] at mK;obtain⟨q,tO,rfl⟩:=mK;exact(c3 q (List.mem_of_find?_eq_some tO)).2.2
     refine .of rfl ?_;dsimp only[Bt];refine zdo (vp (zev ?_));ext;refine⟨⟨_,xm d3⟩,?_⟩;ext;refine⟨dn,_,_,xm d3,Zx,?_⟩;rw[Vk,show(EF Xv.int (yI es' p.1)).getD (.int 0)= .int ((yI es' p.1).getD 0) by cases yI es' p.1<;>rfl];ext;refine yH pf pb ∅ ?_;ext;refine⟨dn,_,_,xm d3,Zx,by unfold dkE;rw[Aw];exact yE ⋯,?_⟩;rw[zdL];refine⟨_,_,_,rfl,l3.set,yG d3,zmq kG,λq hq=> ?_,λq hq=> ?_,λx=> ?_⟩;rcases zeV hq with⟨z1,z2⟩|hq;rw[z1,z2];exact⟨p1,htk _ p3 p2,zm.sub (n:=11001+i*100+k) gb ((pf.mul pb).mono ⋯) ⋯⟩;obtain⟨a,b,c⟩:=c3 q hq;exact⟨a,b,c.mono ⋯⟩;rcases zeV hq with⟨z1,_⟩|hq;rw[z1];exact uU s (Ay er) p ot;exact pT q hq;rw[zmr kG,t3 x,Bf,hz,zaD];show _=_-(e % m)*(_+zD [p] x);rw[zaE];grind
    .exact⟨_,_,_,rfl,Le.refl.toX,d2,zg9 tk.nd,λp hp=>e1 p hp,λp hp=>tk.cc p (Vd hp).1,λx=>by rw[HF,zaC];omega⟩
    rintro ρ S3 ⟨es',b7,b8,rfl,l3,d3,kG,c3,pT,t3⟩;rw[Aw] at c3 t3;rw[Bq] at t3;have oW:fn≠dn:=rH;refine⟨fn,es',fs++[(i,e % m)],_,_,_,_,_,rfl,l2.trans l3,gI,l3.2 _ _ oW f2,d3,kG,λp hp=> ?_,pT,by have:=tk.fl;simp;omega,λf hf=> ?_,λx=> ?_⟩;obtain⟨a,b,c⟩:=c3 p hp;exact⟨a,b,c.mono (by have:=sb.par.1;omega)⟩;rcases AU.1 hf with hf|hf;have:=tk.fac f hf;exact⟨⋯,this.2⟩;rw[AI.1 hf];exact⟨by show i<i+1;omega,pf⟩;have h5:=tk.eq x;rw[lL x] at h5;rw[zaD,zaE,pE x,t3 x];unfold Stp.at;obtain⟨k1,h5⟩:=h5;obtain⟨k2,h6⟩:=pd;exact⟨k1-k2*x s.col,by dsimp only;grind⟩
   ext;refine⟨fn,xZ es s.col,fs,_,_,_,_,_,rfl,le.trans l1,gI,f1,d1,zg9 tk.nd,λp hp=> ?_,λp hp=>tk.cc p (Vd hp).1,by have:=tk.fl;omega,λf hf=> ?_,λx=> ?_⟩;obtain⟨a,b,c⟩:=e1 p hp;exact⟨a,b,c.mono ⋯⟩;have:=tk.fac f hf;exact⟨⋯,this.2⟩;have h5:=tk.eq x;rw[lL x] at h5;rw[hz] at pd;obtain⟨k1,h5⟩:=h5;obtain⟨k2,h6⟩:=pd;exact⟨k1-k2*x s.col,by grind⟩
  refine⟨dn,_,_,xm gW,Zx,λv hv=> ?_,λhv=> ?_⟩;rw[Vk,AB] at hv;obtain⟨e,hv,rfl⟩:=hv;rw[zhc];refine go _ e Le.refl (Le.refl.toX).set (yG gW) (yz hf (λz=>by rw[z,hf] at gW;cases gW)) λx=> ?_;rw[zg8 (c:=s.col) tk.nd,hv];rfl
  rw[Vk,Option.map_eq_none_iff] at hv;have dS:∀p∈es,p.1≠s.col:=λp hp z=>by
   have:=TL tk.nd hp;rw[z,hv] at this;cases this
  have ho:=zcH dS;refine go _ 0 Le.refl Le.refl.toX (by rw[ho];exact gW) hf λx=> ?_;rw[ho];omega
 .refine⟨_,es0,[],_,_,_,_,_,rfl,Le.refl.app.toX,AF _,zx,zj hd,nd,λp hp=>⟨(hc p hp).1,by simp[zZ],(hc p hp).2.mono ⋯⟩,uW,AF _,(λf hf=>by cases hf),λx=>⟨0,by rw[zaC];omega⟩⟩
 rintro ρ S' ⟨fn,es,fs,a4,a5,a6,a7,a8,rfl,le,gI,hf,gW,tk⟩;rw[c9] at tk;ext;exact⟨le,fn,es,fs,rfl,gI,hf,gW,tk⟩
def zkw(h:∀p∈es,p.1≠c):TK es c v=es++[(c,v)]:=if_neg λz=>by
 obtain⟨p,hp,e⟩:=De.1 z;exact h p hp (of_decide_eq_true e)
noncomputable def vV(m:Int)(es:mZ (Nat×Int)):mZ (Nat×Int):=(es.filter λp=>decide (p.2 % m≠0)).map λp=>(p.1,p.2 % m)
def zeY(h:p∈vV m es):∃q∈es,q.1=p.1/\q.2 % m=p.2/\p.2≠0:=by
 unfold vV at h;obtain⟨q,hq,rfl⟩:=Be.1 h;rw[Dk] at hq;exact⟨q,hq.1,rfl,rfl,of_decide_eq_true hq.2⟩
def zmw(h:NdE es):NdE (vV m es):=by
 unfold NdE vV;rw[DQ];exact(Gx.map _).nodup h
def zcJ:zbl (dkE es)=es.map prt:=by
 unfold zbl dkE;rw[DQ];rfl
def zmx(hm:0<m)(hd:S[dn]? =dE (.dk (dkE es)))(nd:NdE es)(hl:es.length<=100):
  W (Zi fu [.ref dn,.int m] S) λv S'=>LeX dn S S'/\∃rn,v= .ref rn/\S.length<=rn/\S'[rn]? =dE (.dk (dkE (vV m es))):=by
 walk_at "wr";unfold Zh;ext;refine wd (zjR ?_);ext;have g9:(S++[.dk []])[dn]? =dE (.dk (dkE es)):=zj hd;have f0:((S++[Ce.dk []]).set dn (.fdk (dkE es)))[dn]? =dE (.fdk (dkE es)):=yG g9;have fa:∀{S1:Sto},S1[dn]? =dE (.fdk (dkE es))->zbm dn S1=dE (es.map prt):=λ{S1} h=>by unfold zbm;rw[h];exact congrArg dE zcJ
 have cu:dn≠S.length:=B3 (Zw hd);refine⟨dn,_,xm g9,_,fa f0,?_⟩;refine xk (xs:=es.map prt) (λi ρ S'=>∃a3 a4,ρ=[dE (.ref dn),dE (.int m),dE (.ref S.length),a3,a4]/\LeX dn S S'/\S'[dn]? =dE (.fdk (dkE es))/\S'[S.length]? =dE (.dk (dkE (vV m (es.take i))))) ?_ ?_ ?_ ?_;rintro i ρ S' _ ⟨a3,a4,rfl,_,h,_⟩;exact fa h
 .rintro i y ρ S' hy ⟨a3,a4,rfl,le,hf,hr⟩;rw[Ax,AB] at hy;obtain⟨p,hy,rfl⟩:=hy;refine .of rfl ?_;dsimp only[Bt];have cW:=(Au.1 hy).1;have eK:∀q∈vV m (es.take i),q.1≠p.1:=λq hq=>by
   obtain⟨q',ck,e,_⟩:=zeY hq;rw[<-e];obtain⟨j,hj,rfl⟩:=ED.1 ck;rw[B6] at hj;rw[GW];intro z;have:=(Cv (xs:=es.map λq:Nat×Int=>q.1) (i:=j) (j:=i) (h₀:=by rw[Aw];omega) (h₁:=by rw[Aw];omega) nd).1 (by rw[Ej,Ej,z,(Au.1 hy).2]);omega
  apply yA;ext;apply xR hm;ext;refine TD (λhz=> ?_) (λhz=> ?_)
  .apply zdo;ext;apply xR hm;ext
   refine⟨S.length,_,_,xm hr,Zx,by
    unfold dkE vV;rw[Aw,Aw]
    exact yE (AA (Ep _ _) (by rw[B6];omega)),?_⟩
   rw[zdL,zkw eK];refine⟨_,_,rfl,le.set' (AF _),yz hf cu.symm,?_⟩;rw[yG hr]
   congr 2
   congr 1
   unfold vV;rw[Bf,hy,DT,C5]
   congr 1
   simp[hz]
  ext;refine⟨_,_,rfl,le,hf,?_⟩;rw[hr]
  congr 2
  congr 1
  unfold vV;rw[Bf,hy,DT,C5];simp[hz]
 .exact⟨_,_,rfl,(Le.refl.app).toX.set,f0,yz zx cu⟩
 rintro ρ S' ⟨a3,a4,rfl,le,hf,hr⟩;ext;rw[Aw,Bq] at hr;exact⟨le,_,rfl,AF _,hr⟩
set_option tactic.hygienic true in
def TM:(yI es d).isSome=fJ\/d=c->(yI (TK es c v) d).isSome=fJ:=by
 intro h;have key:∀l:mZ (Nat×Int),(yI l d).isSome=fJ↔∃p∈l,p.1=d:=λl=>by
  unfold yI;rw[GU,List.find?_isSome];simp
 rw[key] at h ⊢;unfold TK;split
 .rename_i ha;rcases h with⟨p,hp,rfl⟩|rfl
  .refine⟨_,Be.2 ⟨p,hp,rfl⟩,?_⟩;split<;>rfl
  obtain⟨p,hp,e⟩:=De.1 ha;refine⟨_,Be.2 ⟨p,hp,rfl⟩,?_⟩;have e:=of_decide_eq_true e;rw[if_pos e];exact e
 rcases h with⟨p,hp,rfl⟩|rfl;exact⟨p,D6 _ hp,rfl⟩;exact⟨_,B5 _ (AI.2 rfl),rfl⟩
def zkx(h:vk S rn rs)(ok:∀r∈rs,Wf many r)(hm:many<=100)(hl:rs.length<=100):
  W (Zg fu [.ref rn] S) λv S'=>Le S S'/\∃cn cs,v= .ref cn/\S.length<=cn/\S'[cn]? =dE (.dk (dkE cs))/\∀r∈rs,∀p∈r.1,(yI cs p.1).isSome=fJ:=by
 obtain⟨ms,h1,h2,h3⟩:=id h;walk_at "wr";unfold Zf;ext;refine wd (vq ?_);ext;refine⟨_,zb (zj h1),_,zb (zj h1),?_⟩;refine xk (xs:=ms.map .ref) (λi ρ S'=>∃cs a2 a3 a4,ρ=[dE (.ref rn),dE (.ref S.length),a2,a3,a4]/\Le S S'/\S'[S.length]? =dE (.dk (dkE cs))/\cs.length<=i*100/\∀r∈rs.take i,∀p∈r.1,(yI cs p.1).isSome=fJ) ?_ ?_ ?_ ?_;rintro i ρ S' _ ⟨cs,a2,a3,a4,rfl,le,_⟩;exact zb (le.2 _ _ h1)
 .rintro i y ρ S' hy ⟨cs,a2,a3,a4,rfl,le,hc,dG,cY⟩;rw[Ax,AB] at hy;obtain⟨mi,hy,rfl⟩:=hy;have hi:i<rs.length:=by rw[<-h2];exact(Au.1 hy).1
  have er:rs[i]? =dE rs[i]:=As hi;generalize rs[i]=r at er;obtain⟨pn,g1,g2⟩:=((h3 i mi r hy er).le le).ex;have eV:=ok r (Ay er);have fR:r.1.length<=100:=AA (eV.nd.len λp hp=>(eV.lt p hp).1) hm;refine .of rfl ?_;dsimp only[Bt];refine wd (vq (vH ?_));ext;refine⟨mi,_,.ref pn,rfl,g1,rfl,_,zb g2,_,zb g2,?_⟩;have jH:S.length≠pn:=λz=>by rw[z,g2] at hc;cases hc
  refine xk (xs:=r.1.map prt) (λk ρ S1=>∃cs a3 a4,ρ=[dE (.ref rn),dE (.ref S.length),dE (.ref mi),a3,a4]/\Le S S1/\S1[pn]? =dE (.lst (r.1.map prt))/\S1[S.length]? =dE (.dk (dkE cs))/\cs.length<=i*100+k/\(∀r∈rs.take i,∀p∈r.1,(yI cs p.1).isSome=fJ)/\∀p∈r.1.take k,(yI cs p.1).isSome=fJ) ?_ ?_ ?_ ?_;rintro k ρ S1 _ ⟨cs,a3,a4,rfl,_,h,_⟩;exact zb h;rintro k z ρ S1 hz ⟨cs,a3,a4,rfl,l1,gQ,c1,su,all1,all2⟩;rw[Ax,AB] at hz;obtain⟨p,hz,rfl⟩:=hz;have cL:=(Au.1 hz).1;refine .of rfl ?_;dsimp only[Bt];refine zdo (vp (zev ?_));ext;refine⟨⟨_,xm c1⟩,?_⟩;ext;refine⟨_,_,_,xm c1,Zx,?_⟩;rw[Vk,show(EF Xv.int (yI cs p.1)).getD (.int 0)= .int ((yI cs p.1).getD 0) by cases yI cs p.1<;>rfl];ext;refine⟨_,_,_,xm c1,Zx,by unfold dkE;rw[Aw];exact yE ⋯,?_⟩;rw[zdL];refine⟨_,_,_,rfl,l1.set (AF _),yz gQ jH,yG c1,AA zkq ⋯,λr' dR p' fi=>TM (.inl (all1 r' dR p' fi)),λp' fi=> ?_⟩;rw[Bf,hz] at fi;rcases AU.1 fi with fi|fi;exact TM (.inl (all2 p' fi));rw[show p'=p by simpa using fi];exact TM (.inr rfl);exact⟨cs,_,_,rfl,le,g2,hc,⋯,cY,λp hp=>by simp at hp⟩;rintro ρ S1 ⟨cs,a3,a4,rfl,l1,gQ,c1,su,all1,all2⟩;rw[Aw] at su all2;rw[Bq] at all2;refine⟨cs,_,_,_,rfl,l1,c1,⋯,λr' dR=> ?_⟩;rw[Bf,er] at dR;rcases AU.1 dR with dR|dR;exact all1 r' dR;rw[show r'=r by simpa using dR];exact all2
 .exact⟨[],_,_,_,rfl,Le.refl.app,zx,AF _,λr hr=>by simp at hr⟩
 rintro ρ S' ⟨cs,a2,a3,a4,rfl,le,hc,dG,cY⟩;ext;rw[Aw,h2,Bq] at cY;exact⟨le,_,cs,rfl,AF _,hc,cY⟩
def ww(h:l.length<=k):(zdr f v l).length<=k+1:=by
 induction l generalizing k with
 |nil=>simp[zdr]
 |cons p r ih=>
  obtain⟨g,y⟩:=p;unfold zdr;simp at h;split;simp;omega;obtain⟨k,rfl⟩:∃k',k=k'+1:=⟨k-1,⋯⟩;have:=ih (k:=k) ⋯;simp;omega
def zf9(h:S[n]? =dE (.ins "Step" [])):W (Ze fu [.ref n,a,b,c,d,e] S) λv S'=>v= .non/\S'=S.set n (.ins "Step" [("row",a),("column",b),("inverse",c),("factors",d),("parts",e)]):=by
 walk_at "wr";unfold Zd;refine zQ (Xz ?_);ext;refine⟨n,_,rfl,h,∅,zQ (Xz ?_)⟩;ext;refine⟨n,_,rfl,yG h,B9 (ww (AF 0)) ∅,zQ (Xz ?_)⟩;ext;rw[DU];refine⟨n,_,rfl,yG h,B9 (ww (ww (AF 0))) ∅,zQ (Xz ?_)⟩;ext;rw[DU];refine⟨n,_,rfl,yG h,B9 (ww (ww (ww (AF 0)))) ∅,Xz ?_⟩;ext;rw[DU];refine⟨n,_,rfl,yG h,B9 (ww (ww (ww (ww (AF 0))))) ∅,?_⟩;rw[DU];exact⟨rfl,rfl⟩
def zh4(h:S[n]? =dE (.ins "WholeRow" [])):W (wv fu [.ref n,a,b] S) λv S'=>v= .non/\S'=S.set n (.ins "WholeRow" [("parts",a),("last",b)]):=by
 walk_at "wr";unfold wu;refine zQ (Xz ?_);ext;refine⟨n,_,rfl,h,∅,Xz ?_⟩;ext;refine⟨n,_,rfl,yG h,B9 (ww (AF 0)) ∅,?_⟩;rw[DU];exact⟨rfl,rfl⟩
def zoK{j:Nat}{r:mZ (Nat×Int)×Int}(h:vk S rn rs)(hj:rs[j]? =dE r):zeS fu [.ref rn] [.int (j:Int)] S=dE (.ok (.int (r.1.length:Int)) S):=by
 obtain⟨ms,h1,h2,h3⟩:=h;have iY:j<ms.length:=by rw[h2];exact(Au.1 hj).1
 have em:=As iY;generalize ms[j]=m at em;obtain⟨pn,g1,g2⟩:=(h3 j m r em hj).ex;have:W (zeS fu [.ref rn] [.int (j:Int)] S) λv S'=>v= .int (r.1.length:Int)/\S=S':=by
  apply zgV rfl rfl;unfold zpY;refine zcs (xy (vH (vp ?_)));ext;refine wf (zb h1) (ZW (z:= .ref m) ⋯ (by rw[Ax,AV,em];rfl)) ?_;refine⟨m,_,.ref pn,rfl,g1,rfl,?_⟩;ext;apply we (zb g2);rw[Aw];exact⟨rfl,rfl⟩
 obtain⟨v,S1,e,rfl,rfl⟩:=this;exact e
def zoL(h:S[cn]? =dE (.dk (dkE cs)))(hc:(yI cs c).isSome=fJ):zcD fu [.ref cn] [.int (c:Int)] S=dE (.ok (.tup [.int ((yI cs c).getD 0),.int (c:Int)]) S):=by
 obtain⟨k,hk⟩:=Cw.1 hc;have:W (zcD fu [.ref cn] [.int (c:Int)] S) λv S'=>v= .tup [.int k,.int (c:Int)]/\S=S':=by
  apply zgV rfl rfl;unfold zp1;refine zjw (xy (zlV ?_));ext;refine⟨cn,_,_,.int k,xm h,Zx,by rw[Vk,hk];rfl,?_⟩;ext;exact⟨rfl,rfl⟩
 obtain⟨v,S1,e,rfl,rfl⟩:=this;rw[hk];exact e
def xW.push{sn m:Nat}{ss:mZ Stp}{s:Stp}{ms:mZ Nat}(h1:S[sn]? =dE (.lst (ms.map .ref)))(h2:ms.length=ss.length)(h3:∀(i m:Nat) s,ms[i]? =dE m->ss[i]? =dE s->zeX S m s)(hs:∃fn pn,S[m]? =dE (.ins "Step" [("row",.int s.row),("column",.int s.col),("inverse",.int s.inv),("factors",.ref fn),("parts",.ref pn)])/\S[fn]? =dE (.lst (s.fac.map prt))/\S[pn]? =dE (.lst (s.par.map prt))/\fn≠sn/\pn≠sn):xW (S.set sn (.lst (ms.map .ref++[.ref m]))) sn (ss++[s]):=by
 refine⟨ms++[m],by rw[yG h1];simp,by simp[h2],λi m' s' e1 e2=> ?_⟩;by_cases hi:i<ms.length
 .rw[Az hi] at e1;rw[Az ⋯] at e2;obtain⟨fn,pn,g1,g2,g3⟩:=(h3 i m' s' e1 e2).ex;have cu:∀(n:Nat) (l:mZ (Nat×Int)),S[n]? =dE (.lst (l.map prt))->sn≠n:=λn l hn z=>by
   rw[<-z,h1] at hn;injection hn with hn;injection hn with hn
   cases ms with
   |nil=>simp at hi
   |cons a r=>
    cases l with
    |nil=>cases hn
    |cons b t=>rw[AZ,AZ] at hn;injection hn with hn;cases hn
  exact⟨fn,pn,yz g1 (λz=>by rw[<-z,h1] at g1;cases g1),yz g2 (cu _ _ g2),yz g3 (cu _ _ g3)⟩
 rw[AG ⋯] at e1 e2;have:i-ms.length=0:=by
  have:=(Au.1 e1).1;simp at this;omega
 rw[this] at e1;rw[show i-ss.length=0 by omega] at e2;cases e1;cases e2;obtain⟨fn,pn,g1,g2,g3,g4,g5⟩:=hs;exact⟨fn,pn,yz g1 (λz=>by rw[<-z,h1] at g1;cases g1),yz g2 (BH g4),yz g3 (BH g5)⟩
def zno(rs:mZ (mZ (Nat×Int)×Int))(c:Nat):Prop:=∃r∈rs,∃p∈r.1,p.1=c
structure SoI(q:Nat)(many:Nat)(rs:mZ (mZ (Nat×Int)×Int))(os:mZ Nat)(S:Sto)(rn cn sn i:Nat)(S':Sto):Prop where
 le:Le S S'
 k9:S.length<=sn
 cnt:∃cs,S'[cn]? =dE (.dk (dkE cs))/\∀r∈rs,∀p∈r.1,(yI cs p.1).isSome=fJ
 st:∃ss,xW S' sn ss/\Sts (q:Int) many rs ss/\(∀s∈ss,zb1 s)/\(∀s∈ss,∀p∈s.par,zno rs p.1)/\∀(k:Nat) o r,k<i->os[k]? =dE o->rs[o]? =dE r->Spn (q:Int) ss r.1
def zmy:∀ps:mZ (Nat×Int),zfQ (ps.map prt)=dE (dkE ps):=by
 intro ps
 induction ps with
 |nil=>rfl
 |cons p r ih=>
  rw[AZ];show(zfQ (r.map prt)).map ((.inl (p.1:Int),.int p.2):: ·)=_;rw[ih];rfl
def zoM(h:NdE ps):((dkE ps).map (·.1)).Nodup:=by
 unfold dkE;rw[DQ];unfold NdE List.Nodup at*;rw[List.pairwise_map] at h ⊢;exact h.imp λh z=>h (Uf.1 z)
def zmz(h:S[n]? =dE (.dk kvs))(k:P (.int kvs.length) S):WO (zeu [.ref n] S) P:= .of (by unfold zeu;dsimp only;rw[xm h];rfl) k
def zbA(h:W (evL ms ρ S) λds S1=>W (tw ds S1) P):W (za8 tw ms ρ S) P:=W.bind (h.imp λds S1 h=>by
 obtain⟨a,S2,e,k⟩:=h;rw[e]
 exact .of rfl k)
def Spn.of(h1:∀f∈fs,f.1<ss.length)(h:∀x,Cg m (zD ps x) (zD fs (ats ss x))):Spn m ss ps:=⟨fs,h1,h⟩
set_option tactic.hygienic true in
def zhd(hf:Big fu){q:Nat}(q1:1<q)(lj:zm 5500 (q:Int))(h:vk S rn rs)(ok:∀r∈rs,Wf many r)(hm:many<=60)(hl:rs.length<64)(bI:S[1]? =dE (.tab Yc.t)):
  W (Yr fu [.ref rn,.int (q:Int)] S) λv S'=>Le S S'/\((v= .non/\¬Pr q)\/∃sn ss,v= .ref sn/\S.length<=sn/\xW S' sn ss/\Sts (q:Int) many rs ss/\(∀s∈ss,zb1 s)/\∀r∈rs,Spn (q:Int) ss r.1):=by
 walk_at "wr";unfold WV;ext;refine(zkx h ok ⋯ ⋯).imp ?_;rintro _ S1 ⟨fY,cn,cs,rfl,dU,hc,j8⟩;ext;have mq:Le S (S1++[.lst []]):=fY.app;have h2:=h.le mq;obtain⟨ms,rm,tW,tT⟩:=id h2;have k9:(S1++[Ce.lst []])[S1.length]? =dE (.lst []):=zx;have dW:(S1++[Ce.lst []])[cn]? =dE (.dk (dkE cs)):=zj hc;have jv:=mq.2 _ _ bI;have mW:S.length<=S1.length:=fY.1;generalize rS:S1++[Ce.lst []]=S2 at mq h2 rm tT k9 dW jv;refine wd (vq (zhR ?_));ext;refine we (zb rm) ?_;rw[Aw,tW];ext;refine⟨⟨⋯,⋯⟩,?_⟩;refine zjX jv rfl ?_;refine⟨_,_,_,_,_,rfl,zgT,zfS (g:=λj=>((rs[j]?).map λr=>(r.1.length:Int)).getD 0) _ _ λj _ hj=> ?_,?_⟩
 .have hj:j<rs.length:=by omega
  have er:rs[j]? =dE rs[j]:=As hj;rw[zoK h2 er,er];rfl
 generalize rh:Wg _=os;have gF:os.Perm (BD rs.length):=by
  have:=Vj ((List.range' 0 (rs.length:Int).toNat).map λj=>((rs[j]?).map λr=>(r.1.length:Int)).getD 0) ({}:pX);rw[rh] at this;simpa using this
 have tQ:os.length=rs.length:=by rw[gF.length_eq,GY]
 refine⟨_,zb zx,_,zb zx,?_⟩;refine xk (xs:=os.map λi:Nat=>Xv.int (i:Int)) (λi ρ S'=>∃a4 a5 a6 a7 a8 a9 cV,ρ=[dE (.ref rn),dE (.int (q:Int)),dE (.ref cn),dE (.ref S1.length),a4,a5,a6,a7,a8,a9,cV]/\S'[S2.length]? =dE (.lst (os.map λi:Nat=>Xv.int (i:Int)))/\SoI q many rs os S rn cn S1.length i S') ?_ ?_ ?_ ?_;rintro i ρ S' _ ⟨a4,a5,a6,a7,a8,a9,cV,rfl,h,_⟩;exact zb h
 .rintro i y ρ S' hy ⟨a4,a5,a6,a7,a8,a9,cV,rfl,lA,so⟩;rw[Ax,AB] at hy;obtain⟨o,hy,rfl⟩:=hy;have ho:o<rs.length:=Ca.1 (gF.mem_iff.1 (Ay hy));have er:rs[o]? =dE rs[o]:=As ho;generalize rs[o]=r at er;have hr:=Ay er;have eV:=ok r hr;obtain⟨le,_,⟨cs',eM,jQ⟩,ss,dY,aL,sb,n5,gM⟩:=so;obtain⟨ms',oG,tV,oH⟩:=h.le le;have em:ms'[o]? =dE ms'[o]:=As ⋯;generalize ms'[o]=mi at em;obtain⟨pn,g1,g2⟩:=(oH o mi r em er).ex;have oe:∃jk:mZ Nat,S'[S1.length]? =dE (.lst (jk.map Xv.ref)):=by obtain⟨jk,e,_⟩:=id dY;exact⟨jk,e⟩
  refine .of rfl ?_;dsimp only[Bt];refine zQ (xQ (zcs (xy (vH (vp ?_)))));ext;refine wf (zb oG) (ZW (z:= .ref mi) ⋯ (by rw[Ax,AV,em];rfl)) ?_;refine⟨mi,_,.ref pn,rfl,g1,rfl,?_⟩;ext;refine zka (xz g2) (zmy _) (zoM eV.nd) ?_;have l3:Le S' (S'++[.dk (dkE r.1)]):=Le.refl.app;have d3:(S'++[.dk (dkE r.1)])[S'.length]? =dE (.dk (dkE r.1)):=zx;refine zQ (xQ (zbA ?_));ext;refine(zh3 (C:=zno rs) (many:=many) (rows:=rs) (es0:=r.1) ⟨⋯,lj⟩ d3 ((dY.le l3).toX d3) aL sb eV.nd (λp hp=>⟨(eV.lt p hp).1,(eV.lt p hp).2.mono ∅⟩) ⋯ (λp hp=>⟨r,hr,p,hp,rfl⟩) n5).imp ?_;rintro _ S4 ⟨l4,fn,es,fs,rfl,gI,uz,d4,tk⟩;ext;refine zbA ?_;ext;have c9:es.length<=many:=tk.nd.len λp hp=>(tk.col p hp).1;refine(zmx (m:=(q:Int)) ⋯ d4 tk.nd ⋯).imp ?_;rintro _ S5 ⟨l5,ln,rfl,A6,d5⟩;have sS:LeX S'.length (S'++[.dk (dkE r.1)]) S5:=l4.trans l5;have jn:Le S' S5:=(l3.toX.trans sS).le (AF _);have rG:(S'++[Ce.dk (dkE r.1)]).length=S'.length+1:=by rw[Ba,CJ]
  have oX:fn≠S'.length:=by omega
  have rL:=l5.2 _ _ oX uz;have tL:S1.length<S'.length:=by obtain⟨jk,e⟩:=oe;exact Zw e
  have uG:cn<S'.length:=Zw eM;have lD:S'.length<=ln:=by have:=l4.1;omega
  have ur:S'.length<fn:=by omega
  have mo:=zmw (m:=(q:Int)) tk.nd;have fO:∀p∈vV (q:Int) es,p.1<many/\p.1∉zZ ss/\0<p.2/\p.2<q/\∃v,(p.1,v)∈es:=λp hp=>by
   obtain⟨q',ck,e1,e2,e3⟩:=zeY hp;obtain⟨c1,c2,_⟩:=tk.col q' ck;rw[Bq] at c2;have b1:=Br q'.2 (show(0:Int)<q by omega);have b2:=BG q'.2 (show(q:Int)≠0 by omega);exact⟨by rw[<-e1];exact c1,by rw[<-e1];exact c2,⋯,⋯,q'.2,by rw[<-e1];exact ck⟩
  have kM:∀x,Cg (q:Int) (zD r.1 x) (zD fs (ats ss x)+zD (vV (q:Int) es) x):=λx=>(tk.eq x).trans ((Cg.refl).add zms.symm);have iB:∀f∈fs,f.1<ss.length:=λf hf=>(tk.fac f hf).1;ext;refine yA ?_;ext;refine zmz d5 ?_;ext;refine yY (λlr=> ?_) (λhz=> ?_)
  .
   unfold dkE at lr;rw[Aw] at lr;have ny:S5[1]? =dE (.tab zcC.t):=jn.2 _ _ (le.2 _ _ bI);have pq:S5[cn]? =dE (.dk (dkE cs')):=jn.2 _ _ eM;have dG:cn≠ln:=by omega
   refine zQ (xQ (zmf ?_));ext;refine⟨⟨_,xm d5⟩,zjX ny rfl ?_⟩;have dZ:zae (zcD fu [.ref cn]) (dkE (vV (q:Int) es)) (S5.set ln (.fdk (dkE (vV (q:Int) es))))=dE ((dkE (vV (q:Int) es)).map λp=>(match p.1 with| .inl c=>[(yI cs' c.toNat).getD 0,c]|_=>[]),S5.set ln (.fdk (dkE (vV (q:Int) es)))):=by
    refine zfU (g:=λk=>match k with| .inl c=>[(yI cs' c.toNat).getD 0,c]|_=>[]) _ λp hp=> ?_;unfold dkE at hp;obtain⟨p',fi,rfl⟩:=Be.1 hp;obtain⟨_,_,_,_,v,hv⟩:=fO p' fi;obtain⟨r',dR,p2,lu,e2⟩:=tk.cc _ hv;refine⟨_,zoL (yz pq (BH dG)) (by have:=jQ r' dR p2 lu;rw[e2] at this;exact this),?_⟩;show dE _=dE _;simp
   have jS:xg ((dkE (vV (q:Int) es)).map λp=>(match p.1 with| .inl c=>[(yI cs' c.toNat).getD 0,c]|_=>[])) ((dkE (vV (q:Int) es)).length-1)<(vV (q:Int) es).length:=by
    have:=zaA (λi j=>ltL (((dkE (vV (q:Int) es)).map λp=>(match p.1 with| .inl c=>[(yI cs' c.toNat).getD 0,c]|_=>[])).getD i []) (((dkE (vV (q:Int) es)).map λp=>(match p.1 with| .inl c=>[(yI cs' c.toNat).getD 0,c]|_=>[])).getD j [])) ((dkE (vV (q:Int) es)).length-1);have mQ:(dkE (vV (q:Int) es)).length=(vV (q:Int) es).length:=Aw ..;unfold xg;omega
   generalize uL:xg ((dkE (vV (q:Int) es)).map λp=>(match p.1 with| .inl c=>[(yI cs' c.toNat).getD 0,c]|_=>[])) ((dkE (vV (q:Int) es)).length-1)=bi at jS;generalize A7:vV (q:Int) es=lf at*;have e0:lf[bi]? =dE lf[bi]:=As jS;generalize lf[bi]=p0 at e0;have p0m:=Ay e0;obtain⟨p1,p2,p3,p4,_⟩:=fO p0 p0m;have w9:(dkE lf)[bi]? =dE ((.inl (p0.1:Int):Key),.int p0.2):=by unfold dkE;rw[Ax,e0];rfl
   refine⟨_,_,_,_,_,_,_,((.inl (p0.1:Int):Key),.int p0.2),rfl,zgT,xm d5,dZ,by rw[uL];exact w9,?_⟩;have lQ:(S5.set ln (.fdk (dkE lf))).set ln (.dk (dkE lf))=S5:=by
    rw[DU];apply GX;intro n;rw[Bc];split;rename_i z;subst z;rw[if_pos (Zw d5),d5];rfl
   rw[lQ];dsimp only[Bt];refine zQ (xQ (zbA (xy (zj5 ?_))));ext;refine⟨⟨_,xm d5⟩,?_⟩;ext;refine⟨ln,_,_,.int p0.2,xm d5,Zx,by rw[Vk,TL mo p0m];rfl,?_⟩;rw[zhc];ext;have d6:(S5.set ln (.dk (dkE (xZ lf p0.1))))[ln]? =dE (.dk (dkE (xZ lf p0.1))):=yG d5;have l6:Le S' (S5.set ln (.dk (dkE (xZ lf p0.1)))):=jn.set lD;have p9:(S5.set ln (.dk (dkE (xZ lf p0.1))))[fn]? =dE (.lst (fs.map prt)):=yz rL (λz=>by rw[z,rL] at d5;cases d5);generalize S5.set ln (.dk (dkE (xZ lf p0.1)))=S6 at d6 l6 p9;refine(zh2 hf q1 (lj.mono ∅) p3 p4).imp ?_;rintro _ _ ⟨rfl,⟨rfl,jH⟩|⟨inv,rfl,i1,i2,i3⟩⟩;ext;refine yA ?_;ext;refine wP ?_;ext;refine⟨λ_=> ?_,nofun⟩;ext;exact⟨le.trans l6,.inl ⟨rfl,jH⟩⟩
   ext;refine yA ?_;ext;refine wP ?_;ext;refine⟨nofun,λ_=> ?_⟩;ext;have ib:zm 5500 inv:=lj.abs ⋯;refine yx (zjR ?_);ext;have f6:(S6.set ln (.fdk (dkE (xZ lf p0.1))))[ln]? =dE (.fdk (dkE (xZ lf p0.1))):=yG d6;have fa:zbm ln (S6.set ln (.fdk (dkE (xZ lf p0.1))))=dE ((xZ lf p0.1).map prt):=by unfold zbm;rw[f6];exact congrArg dE zcJ
   have l7:Le S' (S6.set ln (.fdk (dkE (xZ lf p0.1)))):=l6.set lD;have rK:(S6.set ln (.fdk (dkE (xZ lf p0.1))))[fn]? =dE (.lst (fs.map prt)):=yz p9 (λz=>by rw[z,p9] at d6;cases d6);refine⟨ln,_,xm d6,_,fa,?_⟩;generalize S6.set ln (.fdk (dkE (xZ lf p0.1)))=S7 at fa l7 rK;have sM:(xZ lf p0.1).length<=60:=AA (AA (Ep _ _) (mo.len λp hp=>(fO p hp).1)) hm;refine yp (xs:=(xZ lf p0.1).map prt) (by rw[Aw];exact AX (yE ⋯)) (λj es S8=>S7=S8/\es=(((xZ lf p0.1).take j).map λp=>(p.1,p.2*inv % (q:Int))).map prt) ?_ ?_ ?_ ?_;rintro j es S8 _ ⟨rfl,_⟩;exact fa;rintro j y es S8 fZ c9 ⟨rfl,rfl⟩;rw[Ax,AB] at fZ;obtain⟨p,fZ,rfl⟩:=fZ;have tP:=(Vd (Ay fZ)).1;obtain⟨_,_,b3,b4,_⟩:=fO p tP;refine .of rfl ?_;ext;refine⟨rfl,?_⟩;ext;refine yH (lj.abs ⋯) ib ∅ ?_;ext;refine xR ⋯ ?_;ext;refine⟨rfl,?_⟩;rw[Bf,fZ];simp[prt];exact⟨rfl,by simp⟩
   rintro Ai S8 uA ⟨rfl,rfl⟩;rw[Aw,Bq];generalize jC:(xZ lf p0.1).map (λp=>(p.1,p.2*inv % (q:Int)))=par;have l8:Le S' (S7++[.lst (par.map prt)]):=l7.app;have jD:(S7++[Ce.lst (par.map prt)])[S7.length]? =dE (.lst (par.map prt)):=zx;have rJ:(S7++[Ce.lst (par.map prt)])[fn]? =dE (.lst (fs.map prt)):=zj rK;have oq:S1.length≠S7.length:=by have:=l7.1;omega
   ext;generalize Ac:S7++[Ce.lst (par.map prt)]=S8 at l8 jD rJ;obtain⟨jk,m1,m2,m3⟩:=dY.le l8;refine Vw ?_;ext;refine⟨⟨_,zb m1⟩,?_⟩;refine xy (zgR ?_);ext;refine(zf9 zx).imp ?_;rintro _ _ ⟨rfl,rfl⟩;refine⟨rfl,?_⟩;have gD:(S8++[Ce.ins "Step" []]).set S8.length (.ins "Step" [("row",.int (o:Int)),("column",.int (p0.1:Int)),("inverse",.int inv),("factors",.ref fn),("parts",.ref S7.length)])=S8++[.ins "Step" [("row",.int (o:Int)),("column",.int (p0.1:Int)),("inverse",.int inv),("factors",.ref fn),("parts",.ref S7.length)]]:=by simp
   rw[show kX (.inl (p0.1:Int))= .int (p0.1:Int) from rfl,gD];have z4:jk.length=ss.length:=m2;have ssl:ss.length<=many:=aL.le;refine zfx ?_;refine wD (xz (zj m1)) (by rw[Aw];exact yE ⋯) ?_;have ll:=xW.push (S:=S8++[.ins "Step" [("row",.int (o:Int)),("column",.int (p0.1:Int)),("inverse",.int inv),("factors",.ref fn),("parts",.ref S7.length)]]) (m:=S8.length) (s:=⟨o,p0.1,inv,fs,par⟩) (zj m1) m2 (λi m s e1 e2=>(m3 i m s e1 e2).le Le.refl.app) ⟨fn,S7.length,zx,zj rJ,zj jD,⋯,BH oq⟩;have kx:∀(n:Nat) c,n≠S1.length->S'[n]? =dE c->((S8++[Ce.ins "Step" [("row",.int (o:Int)),("column",.int (p0.1:Int)),("inverse",.int inv),("factors",.ref fn),("parts",.ref S7.length)]]).set S1.length (.lst (jk.map Xv.ref++[Xv.ref S8.length])))[n]? =dE c:=λn c hn e=>yz (zj (l8.2 _ _ e)) (BH hn);have ki:∀x,Cg (q:Int) (zD r.1 x) (zD fs (ats ss x)+p0.2*(⟨o,p0.1,inv,fs,par⟩:Stp).at x):=λx=>by
    have h5:=kM x;rw[zg8 (c:=p0.1) mo,TL mo p0m] at h5;have h6:Cg (q:Int) (zD par x) (inv*zD (xZ lf p0.1) x):=by rw[<-jC];exact zko
    unfold Stp.at;obtain⟨k1,h5⟩:=h5;obtain⟨k2,h6⟩:=h6;obtain⟨k3,i3⟩:=i3;exact⟨k1-p0.2*k2-k3*zD (xZ lf p0.1) x,by dsimp only[By] at*;grind⟩
   have jh:∀p∈par,∃p'∈lf,p'.1=p.1/\p.1≠p0.1/\0<=p.2/\p.2<q:=λp hp=>by
    rw[<-jC] at hp;obtain⟨p',fi,rfl⟩:=Be.1 hp;obtain⟨a,b⟩:=Vd fi;exact⟨p',a,rfl,b,BG _ ⋯,Br _ ⋯⟩
   refine⟨_,_,_,_,_,_,_,rfl,kx _ _ (by rw[<-rS,Ba];simp) lA,⟨AA le.1 (by simpa using AA l8.1 (C7 _)),λn c e=>kx n c (by have:=Zw e;omega) (le.2 _ _ e)⟩,mW,⟨cs',kx _ _ (λz=>by obtain⟨mm,e,_⟩:=id dY;rw[z,e] at eM;cases eM) eM,jQ⟩,ss++[⟨o,p0.1,inv,fs,par⟩],ll,.snoc aL ⟨⟨p1,p2⟩,λp hp=> ?_,iB,r.1,r.2,p0.2,er,i3,ki⟩,λs hs=> ?_,λs hs p hp=> ?_,λk o' r' hk e1 e2=> ?_⟩;obtain⟨p',a,b,c,_⟩:=jh p hp;obtain⟨d1,d2,_⟩:=fO p' a;rw[b] at d1 d2;exact⟨d1,c,d2⟩;rcases AU.1 hs with hs|hs;exact sb s hs;rw[AI.1 hs];refine⟨ib,⟨AA tk.fl ⋯,λp hp=>(tk.fac p hp).2⟩,⟨by show par.length<=100;rw[<-jC,Aw];omega,λp hp=> ?_⟩⟩;obtain⟨_,_,_,_,c1,c2⟩:=jh p hp;exact lj.abs ⋯;rcases AU.1 hs with hs|hs;exact n5 s hs p hp;rw[AI.1 hs] at hp;obtain⟨p',a,b,_⟩:=jh p hp;obtain⟨_,_,_,_,v,hv⟩:=fO p' a;have:=tk.cc _ hv;rw[b] at this;exact this;by_cases lH:k<i;exact (gM k o' r' lH e1 e2).app
   obtain rfl:k=i:=by omega
   rw[hy] at e1;cases e1;rw[er] at e2;cases e2;refine Spn.of (fs:=fs++[(ss.length,p0.2)]) (λf hf=> ?_) λx=> ?_;rw[Ba];rcases AU.1 hf with hf|hf;have:=iB f hf;omega;rw[AI.1 hf];simp;rw[zaD,zaE,zby,xi (y:=ats ss x) λp hp=>zaF (iB p hp)];exact ki x
  .
   have oE:vV (q:Int) es=[]:=by
    unfold dkE at hz;rw[Aw] at hz;exact DZ.1 ⋯
   ext;refine⟨_,_,_,_,_,_,_,rfl,jn.2 _ _ lA,le.trans jn,mW,⟨cs',jn.2 _ _ eM,jQ⟩,ss,dY.le jn,aL,sb,n5,λk o' r' hk e1 e2=> ?_⟩;by_cases lH:k<i;exact gM k o' r' lH e1 e2
   obtain rfl:k=i:=by omega
   rw[hy] at e1;cases e1;rw[er] at e2;cases e2;refine Spn.of iB λx=> ?_;have:=kM x;rwa [oE,zaC,GQ] at this
 .refine⟨_,_,_,_,_,_,_,rfl,zx,mq.app,mW,⟨cs,zj dW,j8⟩,[],⟨[],zj k9,rfl,λi m s e=>by simp at e⟩,.nil,(λs hs=>by cases hs),(λs hs=>by cases hs),λk o r hk=>by omega⟩
 rintro ρ S' ⟨a4,a5,a6,a7,a8,a9,cV,rfl,_,le,_,_,ss,dY,aL,sb,_,gM⟩;ext;refine⟨le,.inr ⟨_,ss,rfl,mW,dY,aL,sb,λr hr=> ?_⟩⟩;obtain⟨o,ho⟩:=Bi hr;have mI:o∈os:=gF.mem_iff.2 (Ca.2 (Au.1 ho).1);obtain⟨k,hk⟩:=Bi mI;exact gM k o r (by rw[Aw];exact(Au.1 hk).1) hk ho
def zoN{Q':(Sto->pU (mZ Xv))->Sto->Prop}(h:W (m ρ S) λx S1=>∃l,zF S1 x=dE l/\Q' (λS=>(zF S x).bind λl2=>if l2.length=l.length then dE l2.reverse else fC) S1):W (iRv m ρ S) Q':=W.bind (h.imp λx S1 h=>by
 obtain⟨l,e,k⟩:=h;rw[e]
 exact .of rfl k)
def Xx{l k:mZ Xv}{i:Nat}{y:Xv}(h:(Xw l k)[i]? =dE y):∃a b,l[i]? =dE a/\k[i]? =dE b/\y= .tup [a,b]:=by
 unfold Xw at h;rw[Ax,AB] at h;obtain⟨⟨a,b⟩,h1,rfl⟩:=h;rw[Ct] at h1;exact⟨a,b,h1.1,h1.2,rfl⟩
def ZX(h:l.length=k.length):(Xw l k).length=l.length:=by unfold Xw;rw[Aw,FJ,h,Fo]
def zky(h:l.length=k.length):(zbS l k).length=l.length:=by unfold zbS;rw[Aw,FJ,h,Fo]
def zhe(h:i<vs.length):vec (vs++[v]) i=vec vs i:=by unfold vec;rw[Av,Az h,Av]
def zkz:vec (vs++[v]) vs.length=v:=by unfold vec;rw[Av,AG (AF _),BL];rfl
def zmA(h:c<vs.length):vec (vs.set c v) d=zb0 (vec vs) c v d:=by
 unfold vec zb0;rw[Av,Bc];by_cases e:d=c;subst e;rw[if_pos rfl,if_pos h,if_pos rfl];rfl;rw[if_neg (BH e),if_neg e];exact(Av ..).symm
def zaG(h:vs.length<=c):vec vs c=0:=by unfold vec;rw[Av,BQ h];rfl
def zp5:∀n:Nat,(AK n [Xv.int 0]).flatten=(AK n (0:Int)).map .int:=by
 intro n
 induction n with
 |zero=>rfl
 |succ n ih=>rw[BW,CY,BW,AZ,<-ih];rfl
def UR(h:c<l):ixN l (c:Int)=dE c:=by
 unfold ixN;rw[if_pos ⋯,if_pos ⋯,AV]
def zh5(hm:0<m/\zm 5500 m)(hs:xW S sn ss)(aL:Sts m many rows ss)(sb:∀s∈ss,zb1 s)(hl:S[ln]? =dE (.lst (ls.map .int)))(kc:ls.length=ss.length)(dJ:many<=60):
  W (xc fu [.ref sn,.ref ln,.int many,.int m] S) λv S'=>Le S S'/\∃nn ns,v= .ref nn/\S'[nn]? =dE (.lst (ns.map .int))/\ns.length=many/\(∀n∈ns,0<=n/\n<m)/\(∀c,c∉zZ ss->vec ns c=0)/\∀(i:Nat) s ps l,ss[i]? =dE s->rows[s.row]? =dE (ps,l)->Cg m (zD ps (vec ns)) (vec ls i):=by
 obtain⟨ms,h1,h2,h3⟩:=id hs;have og:ss.length<=60:=AA aL.le dJ;have mb:∀z:Int,0<=z->z<m->zm 5500 z:=λz a b=>hm.2.abs ⋯;walk_at "wr";unfold xV;ext;refine wd (UA ?_);ext;refine⟨⟨_,zb (zj h1)⟩,⟨_,zb (zj hl)⟩,_,Zo (zb (zj h1)) (zb (zj hl)),?_⟩;have gx:(Xw (ms.map Xv.ref) (ls.map Xv.int)).length=ss.length:=by rw[ZX (by simp[h2,kc]),Aw,h2]
 refine VM (λρ S'=>∃vs a5 a6 a7,ρ=[dE (.ref sn),dE (.ref ln),dE (.int many),dE (.int m),dE (.ref S.length),a5,a6,a7,fC,fC]/\Le S S'/\S'[S.length]? =dE (.lst (vs.map .int))/\vs.length=ss.length/\(∀v∈vs,0<=v/\v<m)/\∀(j:Nat) s,ss[j]? =dE s->Cg m (vec vs j) ((vec ls j-zD s.fac (vec vs))*s.inv)) ?_ ?_
 .refine xk (xs:=Xw (ms.map Xv.ref) (ls.map Xv.int)) (λi ρ S'=>∃vs a5 a6 a7,ρ=[dE (.ref sn),dE (.ref ln),dE (.int many),dE (.int m),dE (.ref S.length),a5,a6,a7,fC,fC]/\Le S S'/\S'[S.length]? =dE (.lst (vs.map .int))/\vs.length=i/\(∀v∈vs,0<=v/\v<m)/\∀(j:Nat) s,j<i->ss[j]? =dE s->Cg m (vec vs j) ((vec ls j-zD s.fac (vec vs))*s.inv)) ?_ ?_ ?_ ?_;rintro i ρ S' _ ⟨vs,a5,a6,a7,rfl,le,_⟩;exact Zo (zb (le.2 _ _ h1)) (zb (le.2 _ _ hl))
  .rintro i y ρ S' hy ⟨vs,a5,a6,a7,rfl,le,hv,gA,k8,k7⟩;obtain⟨a,b,e1,e2,rfl⟩:=Xx hy;rw[Ax,AB] at e1 e2;obtain⟨mi,e1,rfl⟩:=e1;obtain⟨l,e2,rfl⟩:=e2;have hi:i<ss.length:=by rw[<-h2];exact(Au.1 e1).1
   have es:ss[i]? =dE ss[i]:=As hi;generalize ss[i]=s at es;have so:=aL.at i s es;have sb':=sb s (Ay es);obtain⟨fn,pn,g1,g2,g3⟩:=((h3 i mi s e1 es).le le).ex;have cQ:∀p∈s.fac,p.1<vs.length/\zm 5500 p.2:=λp hp=>⟨by have:=so.fac p hp;rw[B6] at this;omega,sb'.fac.2 p hp⟩;have kU:∀v∈vs,zm 5500 v:=λv hv=>mb v (k8 v hv).1 (k8 v hv).2;refine .of rfl ?_;dsimp only[Bt];refine zQ (xQ (zkv (pn:=fn) (vn:=S.length) (n:=5500) (m:=5500) (ps:=s.fac) (vs:=vs) (vH ?_) rfl g2 hv (by have:=sb'.fac.1;omega) cQ kU ∅ λT=> ?_));ext;exact⟨mi,_,.ref fn,rfl,g1,rfl,rfl,rfl⟩;dsimp only[Bt];have iQ:(S'++[T])[S.length]? =dE (.lst (vs.map .int)):=zj hv;refine Xs (Vw ?_);ext;refine⟨⟨_,zb iQ⟩,?_⟩;refine xy (vp (vp (vp ?_)));ext;apply xR hm.1;ext;apply vH;ext;refine⟨mi,_,.int s.inv,rfl,zj g1,rfl,?_⟩;have b1:zm 5500 (l % m):=mb _ (BG _ ⋯) (Br _ hm.1);have b2:zm 11100 (zD s.fac (vec vs)):=(zeW cQ kU sb'.fac.1).mono ∅;apply yH (n:=11101) (m:=5500) (zm.sub (n:=11100) (b1.mono ∅) b2 ∅) sb'.inv ∅;ext;apply xR hm.1;ext;apply wD (xz iQ) (by rw[Aw];exact yE ⋯);refine⟨vs++[(l % m-zD s.fac (vec vs))*s.inv % m],_,_,_,rfl,le.app.set (AF _),by rw[yG iQ];simp,by simp[gA],λv hv=> ?_,λj s' hj es'=> ?_⟩;rcases AU.1 hv with hv|hv;exact k8 v hv;rw[AI.1 hv];exact⟨BG _ ⋯,Br _ hm.1⟩
   have p8:∀p∈s'.fac,p.1<vs.length:=λp hp=>by
    have:=(aL.at j s' es').fac p hp;rw[B6] at this;omega
   rw[xi (y:=vec vs) λp hp=>zhe (p8 p hp)];by_cases ug:j<i;rw[zhe ⋯];exact k7 j s' ug es'
   obtain rfl:j=i:=by omega
   rw[es] at es';cases es';rw[show j=vs.length from gA.symm,zkz,gA];have hl2:vec ls j=l:=by unfold vec;rw[Av,e2];rfl
   rw[hl2];exact(Cg.mod m _).trans (((Cg.mod m l).sub .refl).mul .refl)
  .exact⟨[],_,_,_,rfl,Le.refl.app,zx,rfl,(λv hv=>by cases hv),λj s hj=>by omega⟩
  rintro ρ S' ⟨vs,a5,a6,a7,rfl,le,hv,gA,k8,k7⟩;rw[gx] at gA k7;exact⟨vs,a5,a6,a7,rfl,le,hv,gA,k8,λj s es=>k7 j s (Au.1 es).1 es⟩
 rintro ρ S2 ⟨vs,a5,a6,a7,rfl,le,hv,gA,k8,k7⟩;ext;refine zg0 (zb zx) ⟨⋯,⋯,by simp;exact AX (yE ⋯)⟩ ?_;ext;have oh:(AK (many:Int).toNat [Xv.int 0]).flatten=(AK many (0:Int)).map .int:=by rw[AV];exact zp5 many
 rw[oh];have l3:Le S (S2++[.lst [.int 0]]++[.lst ((AK many (0:Int)).map .int)]):=le.app.app;have qQ:(S2++[.lst [.int 0]]++[.lst ((AK many (0:Int)).map .int)])[S.length]? =dE (.lst (vs.map .int)):=zj (zj hv);have mJ:(S2++[.lst [.int 0]]++[.lst ((AK many (0:Int)).map .int)])[(S2++[Ce.lst [.int 0]]).length]? =dE (.lst ((AK many (0:Int)).map .int)):=zx;have fk:S.length<=(S2++[Ce.lst [.int 0]]).length:=le.app.1;generalize (S2++[Ce.lst [.int 0]]).length=nn at mJ fk;generalize (S2++[.lst [.int 0]]++[.lst ((AK many (0:Int)).map .int)])=S3 at l3 qQ mJ;refine wd (zoN (zkl ?_));ext;have gO:(zbS (ms.map Xv.ref) (vs.map Xv.int)).length=ss.length:=by rw[zky (by simp[h2,gA]),Aw,h2]
 refine⟨_,_,_,_,rfl,zb (l3.2 _ _ h1),zb qQ,by simp[h2,gA],_,zb zx,(zbS (ms.map Xv.ref) (vs.map Xv.int)).reverse,?_,?_⟩;dsimp only;rw[zb zx,AO,if_pos rfl];refine xk (xs:=(zbS (ms.map Xv.ref) (vs.map Xv.int)).reverse) (λi ρ S'=>∃ns a5 a7 a9,ρ=[dE (.ref sn),dE (.ref ln),dE (.int many),dE (.int m),dE (.ref S.length),a5,a6,a7,dE (.ref nn),a9]/\Le S S'/\S'[S3.length]? =dE (.lst (zbS (ms.map Xv.ref) (vs.map Xv.int)))/\S'[nn]? =dE (.lst (ns.map .int))/\ns.length=many/\(∀n∈ns,0<=n/\n<m)/\Bk m ss (vec vs) (ss.length-i) (vec ns)) ?_ ?_ ?_ ?_;rintro i ρ S' _ ⟨ns,a5,a7,a9,rfl,_,h,_⟩;rw[zb h,AO,if_pos rfl]
 .rintro i y ρ S' hy ⟨ns,b5,b7,b9,rfl,l4,jr,jJ,fT,gS,bk⟩;have hi:i<ss.length:=by have:=(Au.1 hy).1;rw[Gy,gO] at this;exact this
  rw[G6 (by rw[gO];exact hi),gO] at hy;generalize hk:ss.length-1-i=k at hy;have cL:k<ss.length:=by omega
  unfold zbS at hy;rw[Ax,AB] at hy;obtain⟨⟨a,b⟩,hy,rfl⟩:=hy;rw[Ct,Ax,Ax,AB,AB] at hy;obtain⟨⟨mi,e1,rfl⟩,v,e2,rfl⟩:=hy;have es:ss[k]? =dE ss[k]:=As cL;generalize ss[k]=s at es;have so:=aL.at k s es;have sb':=sb s (Ay es);obtain⟨fn,pn,g1,g2,g3⟩:=((h3 k mi s e1 es).le l4).ex;have cQ:∀p∈s.par,p.1<ns.length/\zm 5500 p.2:=λp hp=>⟨by rw[fT];exact(so.par p hp).1,sb'.par.2 p hp⟩;have oF:∀v∈ns,zm 5500 v:=λv hv=>mb v (gS v hv).1 (gS v hv).2;have dU:s.col<ns.length:=by rw[fT];exact so.col.1
  refine .of rfl ?_;dsimp only[Bt];refine zQ (xQ (zkv (pn:=pn) (vn:=nn) (n:=5500) (m:=5500) (ps:=s.par) (vs:=ns) (vH ?_) rfl g3 jJ (by have:=sb'.par.1;omega) cQ oF ∅ λT=> ?_));ext;exact⟨mi,_,.ref pn,rfl,g1,rfl,rfl,rfl⟩
  dsimp only[Bt];apply Wx;ext;apply xR hm.1;ext;apply vH;ext;refine⟨mi,_,.int (s.col:Int),rfl,zj g1,rfl,nn,_,_,s.col,xz (zj jJ),rfl,by rw[Aw];exact UR dU,?_⟩;have cu:nn≠S3.length:=λz=>by
   have:=Zw mJ;omega
  refine⟨ns.set s.col ((v-zD s.par (vec ns)) % m),_,_,_,rfl,l4.app.set fk,yz (zj jr) cu,by rw[yG (zj jJ),EG],by rw[Cq];exact fT,λn hn=> ?_,?_⟩;rcases CM hn with hn|rfl;exact gS n hn;exact⟨BG _ ⋯,Br _ hm.1⟩
  have tq:vec vs k=v:=by unfold vec;rw[Av,e2];rfl
  rw[show ss.length-(i+1)=k by omega,show vec (ns.set s.col ((v-zD s.par (vec ns)) % m))=zb0 (vec ns) s.col ((v-zD s.par (vec ns)) % m) from funext λd=>zmA dU];apply aL.back es (by rw[show k+1=ss.length-i by omega];exact bk);rw[tq];exact Cg.mod m _
 .refine⟨AK many 0,_,_,_,rfl,l3.app,zx,zj mJ,by simp,λn hn=> ?_,λj hj iY=>by omega,λc _=> ?_⟩;rw[Dg hn];exact⟨⋯,⋯⟩
  unfold vec;rw[Av,CB];split<;>rfl
 rintro ρ S' ⟨ns,b5,b7,b9,rfl,l4,jr,jJ,fT,gS,bk⟩;rw[Gy,gO,BL] at bk;ext;refine⟨l4,nn,ns,rfl,jJ,fT,gS,λc hc=>bk.2 c (by rw[HH];exact hc),λi s ps l es er=> ?_⟩;exact aL.solve (vs:=vec vs) (lasts:=vec ls) k7 (λj hj=>bk.1 j (Cj _) hj) es er
noncomputable def chs(rows:mZ (mZ (Nat×Int)×Int))(ss:mZ Stp):mZ (mZ (Nat×Int)×Int):=ss.map λs=>(rows[s.row]?).getD ([],0)
def XY{m:Int}{ss:mZ Stp}(aL:Sts m many rows ss){i:Nat}{s:Stp}(h:ss[i]? =dE s):∃r,rows[s.row]? =dE r/\(chs rows ss)[i]? =dE r:=by
 obtain⟨ps,l,u,e,_⟩:=(aL.at i s h).eq;refine⟨_,e,?_⟩;unfold chs;rw[Ax,h];show dE ((rows[s.row]?).getD ([],0))=_;rw[e];rfl
def Zq(aL:Sts m many rows ss)(h:r∈chs rows ss):r∈rows:=by
 unfold chs at h;obtain⟨s,hs,rfl⟩:=Be.1 h;obtain⟨i,hi⟩:=Bi hs;obtain⟨ps,l,u,e,_⟩:=(aL.at i s hi).eq;rw[e];exact Ay e
structure zga(rows:mZ (mZ (Nat×Int)×Int))(ss:mZ Stp)(X:Nat->Int)(D H:Int):Prop where
 pos:0<D/\D<=H
 bd:∀c, -H<=X c/\X c<=H
 out:∀c,c∉zZ ss->X c=0
 eq:∀r∈chs rows ss,zD r.1 X=r.2*D
noncomputable def pws(m:Int)(k:Nat):mZ Int:=(BD (k+1)).map λi=>m^i
structure LfI(q many:Nat)(rows:mZ (mZ (Nat×Int)×Int))(ss:mZ Stp)(cn k:Nat)(S:Sto)(ln nn pn:Nat)(S':Sto):Prop where
 le:Le S S'
 ch:vk S' cn (chs rows ss)
 hp:S.length<=pn/\S'[pn]? =dE (.lst ((pws q k).map .int))
 ls:∃ls:mZ Int,S'[ln]? =dE (.lst (ls.map .int))/\ls.length=ss.length/\(∀l∈ls,zm (7700+k) l)/\
  ∃ns:mZ Int,S'[nn]? =dE (.lst (ns.map .int))/\ns.length=many/\(∀n∈ns,0<=n/\n<(q:Int)^k)/\(∀(i:Nat) r,(chs rows ss)[i]? =dE r->zD r.1 (vec ns)+(q:Int)^k*vec ls i=r.2)/\∀c,c∉zZ ss->vec ns c=0
def LfR(many:Nat)(rows:mZ (mZ (Nat×Int)×Int))(ss:mZ Stp)(S:Sto)(v:Xv)(S':Sto):Prop:=Le S S'/\∃(tn:Nat) (ts:mZ Int) (b:Int),v= .tup [.ref tn,.int b]/\S'[tn]? =dE (.lst (ts.map .int))/\ts.length=many/\0<b/\zm 50000 b/\(∀t∈ts,zm 2200000 t)/\∀r∈chs rows ss,zD r.1 (vec ts)=r.2*b
def zaH:(pws m k).length=k+1:=by simp[pws]
def zkA(h:i<=k):(pws m k)[i]? =dE (m^i):=by
 unfold pws;rw[Ax,BX ⋯];rfl
def zkB{l:mZ Xv}{y:Xv}(h:l[l.length-1]? =dE y)(h0:0<l.length):atI l (-1)=dE y:=by
 unfold atI ixN;rw[if_neg ⋯,if_pos ⋯,AO,show((-1:Int)+(l.length:Int)).toNat=l.length-1 by omega];exact h
def zkC{q n:Nat}(hb:zm n (q:Int)):∀k:Nat,zm (n*k+1) ((q:Int)^k):=by
 intro k
 induction k with
 |zero=>rw[EE];unfold zm;rw[Nat.mul_zero];decide
 |succ k ih=>
  rw[CT];exact(ih.mul hb).mono (by rw[Nat.mul_succ];omega)
def zbB{q:Nat}(h:1<q):∀k:Nat,0<(q:Int)^k:=λk=>Hf ⋯
def zhf{q k:Nat}(h:2<q):2*((q:Int)^k*(q:Int)^k)<(q:Int)^(2*k+1):=by
 rw[CT,He,Int.pow_add];have h1:0<(q:Int)^k*(q:Int)^k:=Dt (Hf ⋯) (Hf ⋯);have:=Int.mul_lt_mul_of_pos_left (show(2:Int)<q by omega) h1;rw[C4 2];exact this
def zmB{m H:Int}{X:Nat->Int}{D:Int}(aL:Sts m many rows ss)(sol:zga rows ss X D H)(hl:ts.length=many)(h1:D=e*b)(h2:∀(i:Nat) t,ts[i]? =dE t->X i=e*t):∀r∈chs rows ss,zD r.1 (vec ts)=r.2*b:=by
 intro r hr;have h3:∀c,X c=e*vec ts c:=λc=>by
  by_cases hc:c<ts.length;exact h2 c _ (zbz hc);rw[sol.out c (λz=>by have:=aL.nodup.2 c z;omega),zaG ⋯,CU]
 have h4:=sol.eq r hr;rw[xi (y:=λc=>e*vec ts c) λp _=>h3 p.1,TH,h1,<-Ei,C4 r.2,Ei] at h4;have e0:e≠0:=λz=>by have:=sol.pos.1;rw[h1,z,DR] at this;omega
 exact DH e0 h4
def vk.set(h:vk S cn rs)(hp:S[pn]? =dE (.lst (.int a::l))):vk (S.set pn c) cn rs:=by
 obtain⟨ms,h1,h2,h3⟩:=h;refine⟨ms,yz h1 λz=> ?_,h2,λi m r e1 e2=> ?_⟩
 .rw[<-z,hp] at h1;cases ms<;>cases h1
 obtain⟨pn',g1,g2⟩:=(h3 i m r e1 e2).ex;refine⟨pn',yz g1 λz=> ?_,yz g2 λz=> ?_⟩;rw[<-z,hp] at g1;cases g1
 rw[<-z,hp] at g2;cases e:r.1 with
 |nil=>rw[e] at g2;cases g2
 |cons p t=>rw[e] at g2;cases g2
noncomputable def rng(n:Nat)(f:Nat->Int):mZ Int:=(BD n).map f
def zaI{f:Nat->Int}:(rng n f).length=n:=by simp[rng]
def zbC{f:Nat->Int}:rng (n+1) f=rng n f++[f n]:=by simp[rng,Dq]
def zgb{f:Nat->Int}(h:i<n):vec (rng n f) i=f i:=by
 unfold vec rng;rw[Av,Ax,BX h];rfl
def zdM{f:Nat->Int}(h:v∈rng n f):∃i,i<n/\v=f i:=by
 obtain⟨i,hi,rfl⟩:=Be.1 h;exact⟨i,Ca.1 hi,rfl⟩
def zdN(h:i<vs.length):vec vs i∈vs:=Ay (zbz h)
def zdO(h:vs[i]? =dE v):vec vs i=v:=by unfold vec;rw[Av,h];rfl
def zkD:pws m (k+1)=pws m k++[m^(k+1)]:=by simp[pws,Dq]
def zbD:atI ((pws m k).map Xv.int) (-1)=dE (.int (m^k)):=by
 have hl:((pws m k).map Xv.int).length=k+1:=by rw[Aw,zaH]
 exact zkB (by rw[hl,CK,Ax,zkA (AF _)];rfl) ⋯
def zkE:∃l,(pws m k).map Xv.int= .int 1::l:=by
 unfold pws;rw[FT,AZ,AZ,EE];exact⟨_,rfl⟩
abbrev lfA(fu:Nat)(rest:TwS):TwS:=(zq (zB (zy (xc fu) [za 1,za 5,za 2,za 3]) (gN 9)) (zq (zB (yO [fC,fC,dE 7] (zdp (za 6) (za 9)) (gT 2 (zV (gN 0) (zV (gN 1) wI))) xa (eOp vw (za 0) (eOp yP (eOp wT (za 2) (eUn Uv (sj 1))) (za 1)))) (gN 6)) (zq (zB (yO [fC,fC,dE 3,dE 9] (zdp (za 4) (za 5)) (gT 2 (zV (gN 0) (zV (gN 1) wI))) xa (eOp Wu (eOp Yh (za 1) (zy (YY fu) [za 0,za 3])) (za 2))) (gN 5)) (zq (YU (eMt xw (za 7) [eOp yP (eOp wT (za 7) (eUn Uv (sj 1))) (za 3)])) rest))))
abbrev lfB(fu:Nat):TwS:=(sIf (bE (eOp dGt (eFn vF [za 7]) (za 8))) (zq (zB (zy (xA fu) [za 6,eOp wT (za 7) (eUn Uv (sj 1)),eOp wT (za 7) (eOp zab (eOp Yh (za 8) (sj 1)) (sj 2))]) (gN 10)) (zq (sIf (zlE (bE (eUn zgB (za 10))) (bE (zy (Zv fu) [za 4,eOp Th (za 10) (sj 0),eOp Th (za 10) (sj 1)]))) (yj (za 10)) yC) (zB (eOp vw (za 8) (eOp zaq (sj 2) (eOp vw (eOp zab (za 8) (sj 8)) (sj 1)))) (gN 8)))) yC)
def zhg{q sn cn k ln nn pn:Nat}(hq:2<q/\zm 5500 (q:Int))(mL:zm 50000 ((q:Int)^k))(hs:xW S sn ss)(aL:Sts (q:Int) many rows ss)(sb:∀s∈ss,zb1 s)(ok:∀r∈rows,Wf many r)(hm:many<=40)(hk:k<=130)(I:LfI q many rows ss cn k S ln nn pn S')
  (next:∀ln nn a9 S',LfI q many rows ss cn (k+1) S ln nn pn S'->WS (rest [dE (.ref rn),dE (.ref sn),dE (.int many),dE (.int (q:Int)),dE (.ref cn),dE (.ref ln),dE (.ref nn),dE (.ref pn),dE look,a9,cV] S') N R):
  WS (lfA fu rest [dE (.ref rn),dE (.ref sn),dE (.int many),dE (.int (q:Int)),dE (.ref cn),dE (.ref ln),dE (.ref nn),dE (.ref pn),dE look,a9,cV] S') N R:=by
 obtain⟨le,ch,⟨iU,hp⟩,ls,iW,kc,oO,ns,dB,fT,gS,heq,hW⟩:=I;have qZ:(0:Int)<q:=by omega
 have n9:=hq.2;have og:ss.length<=60:=AA aL.le ⋯;unfold lfA;ext;refine(zh5 ⟨qZ,n9⟩ (hs.le le) aL sb iW kc ⋯).imp ?_;rintro _ S1 ⟨fY,dn,ds,rfl,mP,mQ,gX,uF,uD⟩;have gK:∀v∈ds,zm 5500 v:=λv hv=>n9.abs (by have:=gX v hv;omega);ext;refine yx (UA ?_);ext;have jG:=fY.2 _ _ dB;have gQ:=fY.2 _ _ hp;refine⟨⟨_,zb jG⟩,⟨_,zb mP⟩,_,Zo (zb jG) (zb mP),?_⟩;have gx:(Xw (ns.map Xv.int) (ds.map Xv.int)).length=many:=by rw[ZX (by simp[fT,mQ]),Aw,fT]
 refine yp (by rw[gx];exact AX (yE ⋯)) (λj es S2=>S1=S2/\es=(rng j λi=>vec ns i+(q:Int)^k*vec ds i).map .int) ?_ ?_ ?_ ?_;rintro j es S2 _ ⟨rfl,_⟩;exact Zo (zb jG) (zb mP);rintro j y es S2 hy c9 ⟨rfl,rfl⟩;obtain⟨a,b,e1,e2,rfl⟩:=Xx hy;rw[Ax,AB] at e1 e2;obtain⟨n,e1,rfl⟩:=e1;obtain⟨d,e2,rfl⟩:=e2;refine .of rfl ?_;ext;refine⟨rfl,?_⟩;ext;apply wf (zb gQ) zbD;ext;apply yH mL (gK d (Ay e2)) ∅;ext;refine⟨rfl,?_⟩;rw[zbC,zdO e1,zdO e2];simp;exact⟨rfl,rfl⟩
 rintro es S2 c9 ⟨rfl,rfl⟩;rw[gx];generalize i9:(rng many λi=>vec ns i+(q:Int)^k*vec ds i)=ns';have iQ:∀c,vec ns' c=vec ns c+(q:Int)^k*vec ds c:=λc=>by
  by_cases hc:c<many;rw[<-i9];exact zgb hc;rw[zaG (by rw[<-i9,zaI];omega),zaG ⋯,zaG ⋯];simp
 have oC:ns'.length=many:=by rw[<-i9,zaI]
 have jI:(S1++[Ce.lst (ns'.map Xv.int)])[S1.length]? =dE (.lst (ns'.map .int)):=zx;have l2:Le S' (S1++[Ce.lst (ns'.map Xv.int)]):=fY.app;have hd2:(S1++[Ce.lst (ns'.map Xv.int)])[dn]? =dE (.lst (ds.map .int)):=zj mP;have ou:pn<S1.length:=Zw gQ;generalize S1.length=nn' at jI ou ⊢;generalize S1++[Ce.lst (ns'.map Xv.int)]=S2 at l2 jI hd2 ⊢;ext;refine yx (UA ?_);ext;obtain⟨ms,c1,c2,c3⟩:=ch.le l2;have jL:=l2.2 _ _ iW;refine⟨⟨_,zb c1⟩,⟨_,zb jL⟩,_,Zo (zb c1) (zb jL),?_⟩;have dG:(chs rows ss).length=ss.length:=by unfold chs;rw[Aw]
 have kO:(Xw (ms.map Xv.ref) (ls.map Xv.int)).length=ss.length:=by rw[ZX (by simp[c2,kc,dG]),Aw,c2,dG]
 refine yp (by rw[kO];exact AX (yE ⋯)) (λj es S3=>Le S2 S3/\es=(rng j λi=>(vec ls i-zD (((chs rows ss)[i]?).getD ([],0)).1 (vec ds)) / (q:Int)).map .int) ?_ ?_ ?_ ?_;rintro j es S3 _ ⟨hG,_⟩;exact Zo (zb (hG.2 _ _ c1)) (zb (hG.2 _ _ jL))
 .rintro j y es S3 hy c9 ⟨hG,rfl⟩;obtain⟨a,b,e1,e2,rfl⟩:=Xx hy;rw[Ax,AB] at e1 e2;obtain⟨mi,e1,rfl⟩:=e1;obtain⟨l,e2,rfl⟩:=e2;have hj:j<(chs rows ss).length:=by rw[<-c2];exact(Au.1 e1).1
  have er:(chs rows ss)[j]? =dE (chs rows ss)[j]:=As hj;generalize (chs rows ss)[j]=r at er;refine .of rfl ?_;ext;refine⟨rfl,?_⟩;ext;refine(zhb ((c3 j mi r e1 er).le hG) (ok r (Zq aL (Ay er))) (hG.2 _ _ hd2) mQ ⋯ gK ∅).imp ?_;rintro _ S4 ⟨rfl,sR⟩;ext;apply zf5 qZ (hq.2.mono ∅);refine⟨hG.trans sR,?_⟩;rw[zbC,zdO e2,er];simp
 .exact⟨.refl,rfl⟩
 rintro es S3 c9 ⟨hG,rfl⟩;rw[kO];generalize jM:(rng ss.length λi=>(vec ls i-zD (((chs rows ss)[i]?).getD ([],0)).1 (vec ds)) / (q:Int))=ls';have oM:ls'.length=ss.length:=by rw[<-jM,zaI]
 have ia:(S3++[Ce.lst (ls'.map Xv.int)])[S3.length]? =dE (.lst (ls'.map .int)):=zx;have l4:Le S2 (S3++[Ce.lst (ls'.map Xv.int)]):=hG.app;have oJ:pn<S3.length:=AJ (by have:=Zw (l2.2 _ _ hp);omega) hG.1;generalize S3.length=ln' at ia oJ ⊢;generalize S3++[Ce.lst (ls'.map Xv.int)]=S4 at l4 ia ⊢;have gw:=l2.trans l4;have i6:=gw.2 _ _ hp;ext;apply Vw;ext;refine⟨⟨_,zb i6⟩,?_⟩;refine xy (vp ?_);ext;apply wf (zb i6) zbD;ext;apply yH mL n9 ∅;ext;apply wD (xz i6) (by rw[Aw,zaH];exact yE ⋯);obtain⟨pl,w6⟩:=zkE (m:=(q:Int)) (k:=k);refine next ln' nn' _ _ ⟨(le.trans gw).set iU,(ch.le gw).set (by rw[i6,w6]),⟨iU,?_⟩,ls',yz ia ⋯,oM,λl hl=> ?_,ns',yz (l4.2 _ _ jI) ⋯,oC,λn hn=> ?_,λi r er=> ?_,λc hc=>by rw[iQ,hW c hc,uF c hc];simp⟩
 .rw[yG i6,zkD,C5,CT];rfl
 .rw[<-jM] at hl;obtain⟨i,hi,rfl⟩:=zdM hl;have er:(chs rows ss)[i]? =dE (chs rows ss)[i]:=As ⋯;rw[er];generalize (chs rows ss)[i]=r at er;have eV:=ok r (Zq aL (Ay er));have h1:zm (7700+k) (vec ls i):=oO _ (zdN ⋯);have h2:zm (7700+k) (zD r.1 (vec ds)):=(zeW (n:=2000) (m:=5500) (k:=60) (λp hp=>⟨by rw[mQ];exact(eV.lt p hp).1,(eV.lt p hp).2⟩) gK (AA (eV.nd.len λp hp=>(eV.lt p hp).1) (AA hm ∅))).mono ⋯;exact(h1.sub h2 (AF _)).abs (D8 _ _)
 .rw[<-i9] at hn;obtain⟨i,hi,rfl⟩:=zdM hn;obtain⟨a1,a2⟩:=gS _ (zdN (vs:=ns) (by omega:i<ns.length));obtain⟨b1,b2⟩:=gX _ (zdN (vs:=ds) (by omega:i<ds.length));have rg:=zbB (q:=q) ⋯ k;have h1:=D9 (BP rg) b1;have h2:=B1 (show vec ds i<=q-1 by omega) (BP rg);rw[CT];rw[FX] at h2;exact⟨⋯,⋯⟩
 have hi:i<ss.length:=by rw[<-dG];exact(Au.1 er).1
 have kW:zD r.1 (vec ns')=zD r.1 (vec ns)+(q:Int)^k*zD r.1 (vec ds):=by
  have:=XX (ps:=r.1) (x:=vec ns) (y:=vec ds) (a:=1) (b:=(q:Int)^k);rw[Hg] at this;rw[<-this];exact xi λp _=>by rw[iQ,Hg]
 have hl1:vec ls' i=(vec ls i-zD r.1 (vec ds)) / (q:Int):=by rw[<-jM,zgb hi,er];rfl
 have es:ss[i]? =dE ss[i]:=As hi;obtain⟨r',g1,g2⟩:=XY aL es;rw[er] at g2;cases g2;have kh:=uD i _ r.1 r.2 es g1;have pj:(q:Int)*vec ls' i=vec ls i-zD r.1 (vec ds):=by
  rw[hl1];obtain⟨t,ht⟩:=kh;exact Gh ⟨-t,by rw[ht,DE];omega⟩
 have:=heq i r er;rw[kW,CT,Ei,pj,FX];omega
def zkF(h:atI l i=dE z)(k:P z S):WO (Th (.tup l) (.int i) S) P:= .of (show(atI l i).map (λz=>(z,S))=_ by rw[h];rfl) k
abbrev TN(fu:Nat):TwS:=lfA fu (lfB fu)
def zmC{q sn cn k ln nn pn n lk:Nat}(hq:2<q/\zm 5500 (q:Int))(hs:xW S sn ss)(aL:Sts (q:Int) many rows ss)(sb:∀s∈ss,zb1 s)(ok:∀r∈rows,Wf many r)(hm:many<=40)(hk:k<=130)(mL:zm 50000 ((q:Int)^k))(mK:k+2<=lk)(I:LfI q many rows ss cn k S ln nn pn S')
  (next:∀ln nn a9 S',LfI q many rows ss cn (k+1) S ln nn pn S'->WS (Xr (bE (eC (.bl fJ))) (TN fu) n [dE (.ref rn),dE (.ref sn),dE (.int many),dE (.int (q:Int)),dE (.ref cn),dE (.ref ln),dE (.ref nn),dE (.ref pn),dE (.int (lk:Int)),a9,cV] S') N R):
  WS (Xr (bE (eC (.bl fJ))) (TN fu) (n+1) [dE (.ref rn),dE (.ref sn),dE (.int many),dE (.int (q:Int)),dE (.ref cn),dE (.ref ln),dE (.ref nn),dE (.ref pn),dE (.int (lk:Int)),a9,cV] S') N R:=by
 apply Xt;ext;refine⟨λ_=> ?_,nofun⟩;refine zhg hq mL hs aL sb ok hm hk I λln nn a9 S' I=> ?_;unfold lfB;apply yA;ext;apply we (zb I.hp.2);ext;rw[Aw,zaH];refine yY (λz=>by omega) (λ_=> ?_);ext;exact next _ _ _ _ I
def zmD{q sn cn ln nn pn n h:Nat}(hf:Big fu)(hq:2<q/\zm 5500 (q:Int))(hs:xW S sn ss)(aL:Sts (q:Int) many rows ss)(sb:∀s∈ss,zb1 s)(ok:∀r∈rows,Wf many r)(hm:many<=40)(hh:1<=h/\h<=63)(jA:∀k,k<=2*h+1->zm 50000 ((q:Int)^k)){X:Nat->Int}{D H:Int}(sol:zga rows ss X D H)(I:LfI q many rows ss cn (2*h) S ln nn pn S')
  (next:(q:Int)^h<H->∀ln nn a9 cV S',LfI q many rows ss cn (2*h+1) S ln nn pn S'->WS (Xr (bE (eC (.bl fJ))) (TN fu) n [dE (.ref rn),dE (.ref sn),dE (.int many),dE (.int (q:Int)),dE (.ref cn),dE (.ref ln),dE (.ref nn),dE (.ref pn),dE (.int ((2*(h+(2*h+1) / 8+1)+1:Nat):Int)),a9,cV] S') N (LfR many rows ss S)):
  WS (Xr (bE (eC (.bl fJ))) (TN fu) (n+1) [dE (.ref rn),dE (.ref sn),dE (.int many),dE (.int (q:Int)),dE (.ref cn),dE (.ref ln),dE (.ref nn),dE (.ref pn),dE (.int ((2*h+1:Nat):Int)),a9,cV] S') N (LfR many rows ss S):=by
 refine Xt ?_;ext;refine⟨λ_=> ?_,nofun⟩;refine zhg hq (jA _ ⋯) hs aL sb ok hm ⋯ I λln nn a9 S' I=> ?_;obtain⟨le,ch,⟨iU,hp⟩,ls,iW,kc,oO,ns,dB,fT,gS,heq,hW⟩:=id I;have uS:=zbB (q:=q) ⋯ (2*h+1);have pI:=jA (2*h+1) (AF _);have uX:=zbB (q:=q) ⋯ h;have kI:∀v∈ns,zm 50000 v:=λv hv=>pI.abs (by have:=gS v hv;omega);have ra:H<=(q:Int)^h->RaL ((q:Int)^(2*h+1)) ((q:Int)^h) ns X D:=λhH=>by
  refine⟨sol.pos.1,Bv sol.pos.2 hH,λi N hN=>⟨by have:=(sol.bd i).1;omega,by have:=(sol.bd i).2;omega,?_⟩⟩
  have hz:=aL.pow ⋯ (2*h+1) (λc=>D*vec ns c+(-1)*X c) (λc hc=>by
   rw[hW c hc,sol.out c hc];simp) (λs tK ps l er=>by
   obtain⟨j,hj⟩:=Bi tK;obtain⟨r',g1,g2⟩:=XY aL hj;rw[er] at g1;cases g1;have h1:=heq j _ g2;have h2:=sol.eq _ (Ay g2);rw[XX]
   exact⟨-(D*vec ls j),by dsimp only at h1 h2;rw[h2,<-h1];grind⟩) i
  obtain⟨t,ht⟩:=hz;rw[zdO hN] at ht;exact⟨t,⋯⟩
 unfold lfB;apply yA;ext;apply we (zb hp);ext;rw[Aw,zaH];refine yY (λ_=> ?_) (λz=>by omega);ext;apply wf (zb hp) zbD;ext;apply zgJ ∅;refine wf (zb hp) (ZW (z:=Xv.int ((q:Int)^h)) (k:=(((2*h+1:Nat):Int)-1) / 2) ⋯ (by rw[Ax,show((((2*h+1:Nat):Int)-1) / 2).toNat=h by omega,zkA ⋯];rfl)) ?_;ext;refine(zmv hf ⟨uS,pI⟩ ⋯ (zhf hq.1) dB ⋯ kI).imp ?_;have go:∀(cV:pU Xv) (S2:Sto),Le S' S2->(q:Int)^h<H->WS (zB (eOp vw (za 8) (eOp zaq (sj 2) (eOp vw (eOp zab (za 8) (sj 8)) (sj 1)))) (gN 8) [dE (.ref rn),dE (.ref sn),dE (.int many),dE (.int (q:Int)),dE (.ref cn),dE (.ref ln),dE (.ref nn),dE (.ref pn),dE (.int ((2*h+1:Nat):Int)),a9,cV] S2) (λρ2 S2=>WS (Xr (bE (eC (.bl fJ))) (TN fu) n ρ2 S2) N (LfR many rows ss S)) (LfR many rows ss S):=by
  intro cV S2 l2 dS;ext;apply zgJ ∅;ext;rw[show((2*h+1:Nat):Int)+2*(((2*h+1:Nat):Int) / 8+1)=((2*(h+(2*h+1) / 8+1)+1:Nat):Int) by omega];exact next dS _ _ _ _ _ ⟨le.trans l2,ch.le l2,⟨iU,l2.2 _ _ hp⟩,ls,l2.2 _ _ iW,kc,oO,ns,l2.2 _ _ dB,fT,gS,heq,hW⟩
 rintro v S2 ⟨l2,⟨rfl,dS⟩|⟨tn,ts,b,rfl,eI,g6,b0,bB,tb,lh⟩⟩;ext;refine yA (zjv ?_);ext;apply zg7;ext;refine⟨nofun,λ_=> ?_⟩;refine⟨nofun,λ_=> ?_⟩;apply yh;exact go _ _ l2 (Eo λz=>dS _ _ (ra z));ext;refine yA (zjv ?_);ext;apply zg7;ext;refine⟨λ_=> ?_,nofun⟩;ext
 have bb:zm 50000 b:=pI.abs (by
  have:=zhf (q:=q) (k:=h) hq.1;have:=B1 (show 1<=(q:Int)^h by omega) (BP uX)
  omega)
 apply zkF zjE;ext;apply zkF (z:= .int b) rfl;ext;refine(zcI (ch.le l2) (λr hr=>ok r (Zq aL hr)) eI (g6.trans fT) ⋯ tb ∅ bb).imp ?_;rintro _ S3 ⟨rfl,l3⟩;ext;refine yY (λcY=> ?_) (λdS=> ?_);ext;exact⟨le.trans (l2.trans l3),tn,ts,b,rfl,l3.2 _ _ eI,g6.trans fT,b0,bb,tb,cY⟩;apply yh;refine go _ _ (l2.trans l3) (Eo λz=>dS ?_);obtain⟨e,e1,e2⟩:=lh X D (ra z);exact zmB aL sol (g6.trans fT) e1 e2
def zkG{q a b:Nat}(h1:1<q)(h:a<=b):(q:Int)^a<=(q:Int)^b:=by
 rw[<-Dr,<-Dr];exact Dh.2 (C3 ⋯ h)
def zmE(hf:Big fu){q sn cn pn:Nat}(hq:2<q/\zm 5500 (q:Int))(hs:xW S sn ss)(aL:Sts (q:Int) many rows ss)(sb:∀s∈ss,zb1 s)(ok:∀r∈rows,Wf many r)(hm:many<=40){X:Nat->Int}{D H:Int}(sol:zga rows ss X D H)(rR:1<=hT/\hT<=31)(hH:H<=(q:Int)^hT)(jA:∀k,k<=4*hT+1->zm 50000 ((q:Int)^k)):
  ∀{j n k h ln nn:Nat} {a9 cV:pU Xv} {S':Sto},k+j=4*hT+3->k<=2*h->1<=h/\h<=2*hT->j<n->LfI q many rows ss cn k S ln nn pn S'->
  WS (Xr (bE (eC (.bl fJ))) (TN fu) n [dE (.ref rn),dE (.ref sn),dE (.int many),dE (.int (q:Int)),dE (.ref cn),dE (.ref ln),dE (.ref nn),dE (.ref pn),dE (.int ((2*h+1:Nat):Int)),a9,cV] S') N (LfR many rows ss S):=by
 intro j
 induction j with
 |zero=>intro n k h ln nn a9 cV S' h1 h2 h3 h4 I;omega
 |succ j ih=>
  intro n k h ln nn a9 cV S' h1 h2 h3 h4 I;obtain⟨n,rfl⟩:∃m,n=m+1:=⟨n-1,⋯⟩;by_cases hk:k=2*h
  .subst hk;refine zmD hf hq hs aL sb ok hm ⟨h3.1,⋯⟩ (λk hk=>jA k ⋯) sol I λcQ ln nn a9 cV S' I=> ?_;have:h<hT:=by
    apply Nat.lt_of_not_le;intro z;have:=zkG (q:=q) ⋯ z;omega
   exact ih ⋯ ⋯ ⋯ ⋯ I
  exact zmC hq hs aL sb ok hm ⋯ (jA _ ⋯) ⋯ I λln nn a9 S' I=>ih ⋯ ⋯ h3 ⋯ I
noncomputable def bH:Int:=2^4614
def zp6(h1:pN<=q)(h2:zm 5500 (q:Int)):∃hT,(1<=hT/\hT<=31)/\bH<=(q:Int)^hT/\∀k,k<=4*hT+1->zm 50000 ((q:Int)^k):=by
 have q0:q≠0:=λz=>by rw[z] at h1;exact absurd h1 ∅
 have l1:=Nat.log2_self_le q0;have l2:=Nat.lt_log2_self (n:=q);generalize q.log2=β at l1 l2;have b1:149<=β:=Hb ((Fq (by decide:1<2)).1 (B9 (AA ∅ h1) l2));have b2:β<5500:=(Fq (by decide:1<2)).1 (B9 l1 h2);have Af:4613 / β<=30:=AA (Nat.div_le_div_left b1 ∅) ∅;have hm:=Nat.div_mul_le_self 4613 β;have cQ:=Nat.lt_mul_div_succ 4613 (show 0<β by omega);generalize 4613 / β=d at*;refine⟨d+1,⟨⋯,⋯⟩,?_,λk hk=>(zkC (n:=β+1) l2 k).mono ?_⟩;unfold bH;rw[<-Dr];exact Dh.2 (AA (C3 ∅ cQ) (by rw[Ef];exact Nat.pow_le_pow_left l1 _))
 have h3:=Cm (β+1) hk;have h4:(β+1)*(4*(d+1)+1)=4*(d*β)+5*β+4*d+5:=by grind
 omega
def zkH(hf:Big fu)(hq:pN<=q/\zm 5500 (q:Int))(hr:vk S rn rows)(hs:xW S sn ss)(aL:Sts (q:Int) many rows ss)(sb:∀s∈ss,zb1 s)(ok:∀r∈rows,Wf many r)(hm:many<=40){X:Nat->Int}{D H:Int}(sol:zga rows ss X D H)(hH:H<=bH):
  W (Tz fu [.ref rn,.ref sn,.int many,.int (q:Int)] S) (LfR many rows ss S):=by
 have og:ss.length<=60:=AA aL.le ⋯;have dG:(chs rows ss).length=ss.length:=by unfold chs;rw[Aw]
 obtain⟨ms,r1,r2,r3⟩:=id hr;obtain⟨st,s1,s2,s3⟩:=id hs;walk_at "wr";unfold zcF;refine zQ (xQ (yx (vq ?_)));ext;refine⟨_,zb s1,_,zb s1,?_⟩;refine yp (xs:=st.map .ref) (by rw[Aw];exact AX (yE ⋯)) (λj es S1=>S=S1/\∃cs:mZ Nat,es=cs.map .ref/\cs.length=j/\∀(i m:Nat) r,cs[i]? =dE m->(chs rows ss)[i]? =dE r->zak S m r) ?_ ?_ ?_ ?_;rintro j es S1 _ ⟨rfl,_⟩;exact zb s1
 .rintro j y es S1 hy c9 ⟨rfl,cs,rfl,iq,dW⟩;rw[Ax,AB] at hy;obtain⟨mi,hy,rfl⟩:=hy;have hj:j<ss.length:=by rw[<-s2];exact(Au.1 hy).1
  have es:ss[j]? =dE ss[j]:=As hj;generalize ss[j]=s at es;obtain⟨r,g1,g2⟩:=XY aL es;obtain⟨fn,pn,f1,f2,f3⟩:=(s3 j mi s hy es).ex;have jy:s.row<ms.length:=by rw[r2];exact(Au.1 g1).1
  have em:ms[s.row]? =dE ms[s.row]:=As jy;generalize ms[s.row]=ri at em;refine .of rfl ?_;ext;refine⟨rfl,?_⟩;apply vp;ext;apply vH;ext;refine⟨mi,_,.int (s.row:Int),rfl,f1,rfl,?_⟩;refine wf (zb r1) (ZW (z:= .ref ri) ⋯ (by rw[Ax,AV,em];rfl)) ?_;refine⟨rfl,cs++[ri],by simp,by simp[iq],λi m r' e1 e2=> ?_⟩;rcases zbx iq e1 with e1|⟨rfl,rfl⟩
  .exact dW i m r' e1 e2
  rw[g2] at e2;cases e2;exact r3 _ _ _ em g1
 .exact⟨rfl,[],rfl,rfl,λi m r e=>by simp at e⟩
 rintro es S1 c9 ⟨rfl,cs,rfl,iq,dW⟩;rw[Aw,s2] at iq;have ch:vk (S++[.lst (cs.map .ref)]) S.length (chs rows ss):=⟨cs,zx,by rw[iq,dG],λi m r e1 e2=>(dW i m r e1 e2).le Le.refl.app⟩;have l1:Le S (S++[.lst (cs.map .ref)]):=Le.refl.app;generalize rS:S++[.lst (cs.map .ref)]=S2 at ch l1 ⊢;generalize S.length=cn at ch ⊢;dsimp only[Bt];obtain⟨cs',k1,k2,k3⟩:=id ch;refine zQ (xQ (yx (vq ?_)));ext;refine⟨_,zb k1,_,zb k1,?_⟩;refine yp (xs:=cs'.map .ref) (by rw[Aw];exact AX (yE ⋯)) (λj es S1=>S2=S1/\es=(rng j λi=>(((chs rows ss)[i]?).getD ([],0)).2).map .int) ?_ ?_ ?_ ?_;rintro j es S1 _ ⟨rfl,_⟩;exact zb k1
 .rintro j y es S1 hy c9 ⟨rfl,rfl⟩;rw[Ax,AB] at hy;obtain⟨mi,hy,rfl⟩:=hy;have hj:j<(chs rows ss).length:=by rw[<-k2];exact(Au.1 hy).1
  have er:(chs rows ss)[j]? =dE (chs rows ss)[j]:=As hj;generalize (chs rows ss)[j]=r at er;obtain⟨pn,g1,g2⟩:=(k3 j mi r hy er).ex;refine .of rfl ?_;ext;refine⟨rfl,?_⟩;apply vH;ext;refine⟨mi,_,.int r.2,rfl,g1,rfl,?_⟩;refine⟨rfl,?_⟩;rw[zbC,er];simp
 .exact⟨rfl,rfl⟩
 rintro es S1 c9 ⟨rfl,rfl⟩;rw[Aw,k2,dG];generalize iW:(rng ss.length λi=>(((chs rows ss)[i]?).getD ([],0)).2)=ls;have ia:(S2++[Ce.lst (ls.map Xv.int)])[S2.length]? =dE (.lst (ls.map .int)):=zx;have l3:Le S2 (S2++[Ce.lst (ls.map Xv.int)]):=Le.refl.app;generalize Ad:S2++[Ce.lst (ls.map Xv.int)]=S3 at ia l3 ⊢;generalize S2.length=ln at ia ⊢;ext;refine zg0 (zb zx) ⟨⋯,⋯,by simp;exact AX (yE ⋯)⟩ ?_;rw[show(AK (many:Int).toNat [Xv.int 0]).flatten=(AK many (0:Int)).map .int by rw[AV];exact zp5 many];have l4:Le S3 (S3++[Ce.lst [.int 0]]++[Ce.lst ((AK many (0:Int)).map .int)]):=Le.refl.app.app;have jI:(S3++[Ce.lst [.int 0]]++[Ce.lst ((AK many (0:Int)).map .int)])[(S3++[Ce.lst [.int 0]]).length]? =dE (.lst ((AK many (0:Int)).map .int)):=zx;generalize (S3++[Ce.lst [.int 0]]).length=nn at jI ⊢;generalize S3++[Ce.lst [.int 0]]++[Ce.lst ((AK many (0:Int)).map .int)]=S4 at l4 jI ⊢;have gw:Le S S4:=l1.trans (l3.trans l4);ext;have I0:LfI q many rows ss cn 0 S ln nn S4.length (S4++[Ce.lst [.int 1]]):=by
  refine⟨gw.app,(ch.le (l3.trans l4)).le Le.refl.app,⟨gw.1,zx⟩,ls,zj (l4.2 _ _ ia),by rw[<-iW,zaI],λl hl=> ?_,AK many 0,zj jI,by simp,λn hn=>by rw[Dg hn,EE];decide,λi r er=> ?_,λc _=> ?_⟩;rw[<-iW] at hl;obtain⟨i,hi,rfl⟩:=zdM hl;have er:(chs rows ss)[i]? =dE (chs rows ss)[i]:=As ⋯;rw[er];exact((ok _ (Zq aL (C8 _))).last).mono ⋯
  .have hi:i<ss.length:=by rw[<-dG];exact(Au.1 er).1
   rw[<-iW,zgb hi,er,EE,xi (y:=λ_=>0) λp _=>by
    unfold vec;rw[Av,CB]
    split<;>rfl]
   rw[YZ];simp
  unfold vec;rw[Av,CB];split<;>rfl
 refine VM (λ_ _=>False) ?_ (λ_ _ z=>z.elim);have rE:200<fu:=by have:=hf.bits (n:=10) (p:=200) (by unfold zm;decide) ∅;omega
 generalize uH:S4.length=pn at I0;obtain⟨hT,rR,uN,jA⟩:=zp6 hq.1 hq.2;exact zmE hf ⟨AJ ∅ hq.1,hq.2⟩ hs aL sb ok hm sol rR (Bv hH uN) jA (j:=4*hT+3) (h:=1) ⋯ ⋯ ⋯ ⋯ I0
end
def zkI{f g:Nat->Int}:∀n,wH n (λj=>f j+g j)=wH n f+wH n g:=by
 intro n
 induction n with
 |zero=>rfl
 |succ n ih=>rw[wH,wH,wH,ih];omega
def TQ{f:Nat->Int}:∀n,(∀j,j<n->f j=0)->wH n f=0:=by
 intro n
 induction n with
 |zero=>intro _;rfl
 |succ n ih=>intro h;rw[wH,ih λj hj=>h j ⋯,h n ⋯];rfl
def zkJ{f:Nat->Int}:∀n,i<n->(∀j,j<n->j≠i->f j=0)->wH n f=f i:=by
 intro n
 induction n with
 |zero=>intro h;omega
 |succ n ih=>
  intro h1 h2;rw[wH];by_cases e:i=n;subst e;rw[TQ i λj hj=>h2 j ⋯ ⋯];omega;rw[ih ⋯ λj hj cu=>h2 j ⋯ cu,h2 n ⋯ ⋯];omega
noncomputable def cf(ps:mZ (Nat×Int))(c:Nat):Int:=zD ps λd=>if d=c then 1 else 0
def zmF(h:∀p∈ps,p.1≠c):cf ps c=0:=by
 unfold cf;rw[xi (y:=λ_=>0) λp hp=>if_neg (h p hp),YZ]
def znp:NdE ps->(∀p∈ps,p.2.natAbs<=B)->(cf ps c).natAbs<=B:=by
 induction ps with
 |nil=>intro _ _;simp[cf,zD]
 |cons p r ih=>
  intro nd hB;have nd':p.1∉r.map (·.1)/\NdE r:=BU.1 nd;unfold cf;rw[ye];by_cases e:p.1=c;have:cf r c=0:=zmF λq hq z=>nd'.1 (Be.2 ⟨q,hq,z.trans e.symm⟩);unfold cf at this;rw[this,if_pos e,CF,GQ];exact hB p (.head _);rw[if_neg e,CU,CV];exact ih nd'.2 λq hq=>hB q (.tail _ hq)
noncomputable def onC(cs:mZ Nat)(x:Nat->Int)(c:Nat):Int:=if c∈cs then x (cs.idxOf c) else 0
def zkK(nd:cs.Nodup){x:Nat->Int}:∀ps:mZ (Nat×Int),zD ps (onC cs x)=wH cs.length λj=>cf ps (cs.getD j 0)*x j:=by
 intro ps
 induction ps with
 |nil=>rw[TQ _ λj _=>by simp[cf,zD]];rfl
 |cons p r ih=>
  rw[ye,ih];have e:∀j,cf (p::r) (cs.getD j 0)*x j=p.2*(if p.1=cs.getD j 0 then 1 else 0)*x j+cf r (cs.getD j 0)*x j:=λj=>by
   unfold cf;rw[ye,Int.add_mul]
  rw[Ue _ λj _=>e j,zkI]
  congr 1
  have gd:∀j (hj:j<cs.length),cs.getD j 0=cs[j]:=λj hj=>by rw[Av,As hj];rfl
  by_cases hc:p.1∈cs;have hi:=CD hc;rw[zkJ (i:=cs.idxOf p.1) _ hi λj hj cu=> ?_];unfold onC;rw[if_pos hc,gd _ hi,if_pos (Ds hi).symm,CF];rw[if_neg λz=>cu ?_,CU,DR];rw[gd j hj] at z;exact(Cv nd).1 ((z.symm).trans (Ds hi).symm);rw[TQ _ λj hj=> ?_];unfold onC;rw[if_neg hc,CU];rw[if_neg λz=>hc ?_,CU,DR];rw[z,gd j hj];exact C8 hj
def zkL(aL:Sts m many rows ss)(iV:2<=m)(mh:∀r∈rows,NdE r.1)(B:Nat->Nat)(hB:∀(i:Nat) r,(chs rows ss)[i]? =dE r->(∀p∈r.1,p.2.natAbs<=B i)/\r.2.natAbs<=B i):
  ∃X D,zga rows ss X D ((xh ss.length λi=>2*(ss.length+1)*B i+1:Nat):Int):=by
 have nd:=aL.nodup.1;have cl:(zZ ss).length=ss.length:=Aw ..;have y0:(chs rows ss).length=ss.length:=Aw ..;let rr:Nat->mZ (Nat×Int)×Int:=λi=>((chs rows ss)[i]?).getD ([],0);have rat:∀i,i<ss.length->(chs rows ss)[i]? =dE (rr i):=λi hi=>by
  show _=dE (((chs rows ss)[i]?).getD ([],0));rw[As ⋯];rfl
 obtain⟨x,⟨j0,lI,qO⟩,A1,nW,t7⟩:=zoE (k:=ss.length) (n:=ss.length+1) rfl (λi j=>if j<ss.length then cf (rr i).1 ((zZ ss).getD j 0) else -(rr i).2) B λi hi j _=>by
  obtain⟨b1,b2⟩:=hB i _ (rat i hi);split;exact znp (mh _ (Zq aL (Ay (rat i hi)))) b1;rw[Ga];exact b2
 generalize xh ss.length (λi=>2*(ss.length+1)*B i+1)=H at nW;have heq:∀r∈chs rows ss,zD r.1 (onC (zZ ss) x)=r.2*x ss.length:=λr hr=>by
  obtain⟨i,hi⟩:=Bi hr;have cW:i<ss.length:=by rw[<-y0];exact(Au.1 hi).1
  have e:=t7 i cW;rw[rat i cW] at hi;cases hi;rw[wH,if_neg (C0 _),Ue ss.length λj hj=>by rw[if_pos hj]] at e;rw[zkK nd,cl];rw[EY] at e;omega
 have fj:∀c,c∉zZ ss->onC (zZ ss) x c=0:=λc hc=>if_neg hc;have rQ:∀c, -(H:Int)<=onC (zZ ss) x c/\onC (zZ ss) x c<=(H:Int):=λc=>by
  unfold onC;split;have:=nW ((zZ ss).idxOf c);omega;omega
 have hD:x ss.length≠0:=λz=>by
  have h0:=aL.only iV (x:=onC (zZ ss) x) fj λs hs ps l er=>by
   obtain⟨j,hj⟩:=Bi hs;obtain⟨r',g1,g2⟩:=XY aL hj;rw[er] at g1;cases g1;have:=heq _ (Ay g2);rw[z,CU] at this;exact this
  by_cases hj:j0<ss.length
  .have rA:j0<(zZ ss).length:=by omega
   have:=h0 (zZ ss)[j0];unfold onC at this;rw[if_pos (C8 rA)] at this;have e:(zZ ss).idxOf (zZ ss)[j0]=j0:=(Cv nd).1 (Ds (CD (C8 rA)));rw[e] at this;exact qO this
  obtain rfl:j0=ss.length:=by omega
  exact qO z
 have Ae:=nW ss.length;by_cases hp:0<x ss.length;exact⟨onC (zZ ss) x,x ss.length,⟨hp,⋯⟩,rQ,fj,heq⟩;refine⟨λc=>(-1)*onC (zZ ss) x c, -x ss.length,⟨⋯,⋯⟩,λc=>by have:=rQ c;omega,λc hc=>by rw[fj c hc];rfl,λr hr=> ?_⟩;rw[TH,heq r hr,DE,Int.neg_one_mul]
section
def Run(p many:Nat)(rows:mZ (mZ (Nat×Int)×Int))(ss:mZ Stp):Prop:=Sts (p:Int) many rows ss/\∀r∈rows,Spn (p:Int) ss r.1
def Sts.lasts(h:Sts p many rows ss)(g:mZ (Nat×Int)×Int->Int):Sts p many (rows.map λr=>(r.1,g r)) ss:=by
 induction h with
 |nil=>exact .nil
 |snoc h hs ih=>
  refine ih.snoc ⟨hs.col,hs.par,hs.fac,?_⟩;obtain⟨ps,l,u,e,k⟩:=hs.eq;exact⟨ps,g (ps,l),u,by rw[Ax,e];rfl,k⟩
def zf(aL:Sts p many rows ss)(hm:2<=p)(mh:∀r∈rows,NdE r.1)(hf:f∉zZ ss)(B:Nat->Nat)(hB:∀(i:Nat) r,(chs rows ss)[i]? =dE r->∀p∈r.1,p.2.natAbs<=B i):
  ∃Z:Nat->Int,Z f≠0/\(∀c,c∉zZ ss->c≠f->Z c=0)/\(∀r∈chs rows ss,zD r.1 Z=0)/\∀c,(Z c).natAbs<=xh ss.length λi=>2*(ss.length+1)*B i+1:=by
 have sts':=aL.lasts λr=> -cf r.1 f;have sv:∀(i:Nat) r,(chs rows ss)[i]? =dE r->(chs (rows.map λr=>(r.1, -cf r.1 f)) ss)[i]? =dE (r.1, -cf r.1 f):=λi r hi=>by
  have cW:i<ss.length:=by have:=(Au.1 hi).1;rwa [show(chs rows ss).length=ss.length from Aw ..] at this
  obtain⟨r',g1,g2⟩:=XY aL (As cW);obtain⟨r2,g3,g4⟩:=XY sts' (As cW);rw[hi] at g2;cases g2;rw[Ax,g1] at g3;cases g3;exact g4
 obtain⟨X,D,sol⟩:=zkL sts' hm (λr hr=>by obtain⟨r0,h0,rfl⟩:=Be.1 hr;exact mh r0 h0) B λi r hi=>by
  have cW:i<ss.length:=by have:=(Au.1 hi).1;rwa [show(chs _ ss).length=ss.length from Aw ..] at this
  obtain⟨r',g1,g2⟩:=XY aL (As cW);have:=sv i r' g2;rw[hi] at this;cases this;exact⟨hB i r' g2,by rw[Ga];exact znp (mh r' (Ay g1)) (hB i r' g2)⟩
 have xf:=sol.out f hf;refine⟨λc=>1*X c+D*if c=f then 1 else 0,?_,λc hc cu=>by dsimp only;rw[sol.out c hc,if_neg cu];simp,λr hr=> ?_,λc=> ?_⟩;dsimp only;rw[xf,if_pos rfl];have:=sol.pos.1;omega;obtain⟨i,hi⟩:=Bi hr;have:=sol.eq _ (Ay (sv i r hi));rw[XX,Hg,this];show -cf r.1 f*D+D*cf r.1 f=0;grind;have h1:=sol.bd c;have h2:=sol.pos;dsimp only;by_cases e:c=f;rw[e,xf,if_pos rfl];omega;rw[if_neg e];omega
def zqq(aL:Sts p many rows ss)(hm:2<=p)(lt:∀r∈rows,∀q∈r.1,q.1<many)(hz:∀f,f∉zZ ss->∃Z:Nat->Int,Z f≠0/\(∀c,c∉zZ ss->c≠f->Z c=0)/\∀r∈rows,zD r.1 Z=0){V:Nat->Int}(hV:∀r∈chs rows ss,zD r.1 V=0):∀r∈rows,zD r.1 V=0:=by
 have key:∀(n:Nat) (V:Nat->Int),(∀c,c∉zZ ss->n<=c->V c=0)->(∀r∈chs rows ss,zD r.1 V=0)->∀r∈rows,zD r.1 V=0:=by
  intro n
  induction n with
  |zero=>
   intro V h1 h2 r _;have:=aL.only hm (x:=V) (λc hc=>h1 c hc (Cj _)) λs hs ps l er=>by
    obtain⟨i,hi⟩:=Bi hs;obtain⟨r,g1,g2⟩:=XY aL hi;rw[er] at g1;cases g1;exact h2 _ (Ay g2)
   rw[xi (y:=λ_=>0) λq _=>this q.1,YZ]
  |succ n ih=>
   intro V h1 h2 r hr;by_cases hn:n∈zZ ss;exact ih V (λc hc h=>h1 c hc (by have:c≠n:=λz=>hc (z ▸ hn);omega)) h2 r hr;obtain⟨Z,z0,z1,z2⟩:=hz n hn
   have:=ih (λc=>Z n*V c+ -V n*Z c) (λc hc h=>by
    by_cases e:c=n;rw[e];grind
    rw[h1 c hc ⋯,z1 c hc e];simp) (λr hr=>by rw[XX,h2 r hr,z2 r (Zq aL hr)];simp) r hr
   rw[XX,z2 r hr,CU,GQ] at this;exact(Int.mul_eq_zero.1 this).resolve_left z0
 intro r hr;have cut:∀r∈rows,zD r.1 V=zD r.1 λc=>if c<many then V c else 0:=λr hr=>xi λq hq=>by rw[if_pos (lt r hr q hq)]
 rw[cut r hr];exact key many _ (λc _ h=>if_neg ⋯) (λr hr=>by rw[<-cut r (Zq aL hr)];exact hV r hr) r hr
def zoO{x:Nat->Int}{B H:Nat}(h1:∀q∈ps,q.2.natAbs<=B)(h2:∀c,(x c).natAbs<=H):(zD ps x).natAbs<=ps.length*(B*H):=by
 induction ps with
 |nil=>simp[zD]
 |cons q r ih=>
  rw[ye,B7,GF];have a:=ih λz hz=>h1 z (.tail _ hz);have b:(q.2*x q.1).natAbs<=B*H:=by rw[Bz];exact D2 (h1 q (.head _)) (h2 _)
  omega
end
section
variable{S':Sto}{x y:Xv}
abbrev Q2:=Int×Int
noncomputable def qv(q:Q2):Xv:= .tup [.int q.1,.int q.2]
noncomputable def vW(t b:Int):Q2:=(t / (C1 t b:Int),b / (C1 t b:Int))
def zkM{t b:Int}(h0:0<b):((Cu t.natAbs b.natAbs:Nat):Int)≠0:=by
 have g0:0<Cu t.natAbs b.natAbs:=Fs _ ⋯;omega
def zeZ:qv (vW t b)= .tup [.int (t.fdiv ((Cu t.natAbs b.natAbs:Nat):Int)),.int (b.fdiv ((Cu t.natAbs b.natAbs:Nat):Int))]:=by
 rw[CH _ ⋯,CH _ ⋯];rfl
def zh6:∀(n:Nat) (one other:Nat) (a2:pU Xv),Gst n one other->
  WS (Xr (bE (eOp Uu (za 1) (sj 0))) (zq (zB (eOp vZ (za 0) (za 1)) (gN 2)) (zq (zB (za 1) (gN 0)) (zB (za 2) (gN 1)))) n [dE (.int one),dE (.int other),a2] S) (λρ S'=>∃a2,ρ=[dE (.int (Cu one other:Nat)),dE (.int 0),a2]/\S=S') (λ_ _=>False):=by
 intro n
 induction n with
 |zero=>intro one other a2 h;exact h.elim
 |succ n ih=>
  intro one other a2 hg;apply Xt;ext;rw[show(!decide ((other:Int)=0))=decide (¬(other:Int)=0) by simp];refine yY (λh=> ?_) (λh=> ?_)
  .have h0:0<other:=by omega
   ext;apply xR ⋯;ext;have:=ih other (one % other) (dE (.int ((one % other:Nat):Int))) (hg.resolve_left ⋯);rw[show Cu other (one % other)=Cu one other by rw[Ft other,<-Nat.gcd_rec,Ft]] at this;rw[Hr] at this;exact this
  have:other=0:=by omega
  subst this;exact⟨a2,by simp,rfl⟩
def zkN:∀(n:Nat) (t b:Xv) (one other:Nat),Gst n one other->
  WS (Xr (bE (eOp dGt (za 3) (sj 0))) (zlH 2 3 [za 3,eOp vZ (za 2) (za 3)]) n [dE t,dE b,dE (.int one),dE (.int other)] S) (λρ S'=>ρ=[dE t,dE b,dE (.int (Cu one other:Nat)),dE (.int 0)]/\S=S') (λ_ _=>False):=by
 intro n
 induction n with
 |zero=>intro t b one other h;exact h.elim
 |succ n ih=>
  intro t b one other hg;apply Xt;ext;refine yY (λh=> ?_) (λh=> ?_)
  .have h0:0<other:=by omega
   apply zjA;ext;apply xR ⋯;ext;refine⟨_,_,rfl,?_⟩;have:=ih t b other (one % other) (hg.resolve_left ⋯);rw[show Cu other (one % other)=Cu one other by rw[Ft other,<-Nat.gcd_rec,Ft]] at this;rw[Hr] at this;exact this
  have:other=0:=by omega
  subst this;exact⟨by simp,rfl⟩
def zkO{t b:Int}(h0:0<b)(hb:zm n b):zm n ((Cu t.natAbs b.natAbs:Nat):Int):=hb.abs (by rw[DS];exact Nat.gcd_le_right _ ⋯)
def Xb(aD:Big fu)(h0:0<b)(hb:zm 1000000 b):W (yR fu [.int t,.int b] S) λv S'=>v=qv (vW t b)/\S=S':=by
 have gb:=zkM (t:=t) h0;walk_at "wr";unfold Ye;ext;apply TF;ext;apply TF;ext;apply zjB;rcases zkN (S:=S) fu (.int t) (.int b) t.natAbs b.natAbs (zm.fuel aD hb ∅) with⟨ρ,S',e,rfl,rfl⟩|⟨_,_,_,z⟩
 rotate_left
 .exact z.elim
 refine .nx e ?_;ext;apply WE gb;ext;apply WE gb;ext;exact⟨zeZ.symm,rfl⟩
def zkP(aD:Big fu)(hb:zm 50000 b):W (vR fu [.int t,.int b] S) λv S'=>v= .int (Cu t.natAbs b.natAbs:Nat)/\S=S':=by
 walk_at "wr";unfold Yd;ext;apply TF;ext;apply TF;ext;apply zjB;rcases zh6 (S:=S) fu t.natAbs b.natAbs fC (zm.fuel aD hb ∅) with⟨ρ,S',e,a2,rfl,rfl⟩|⟨_,_,_,z⟩
 .refine .nx e ?_;ext;exact⟨rfl,rfl⟩
 exact z.elim
def zkQ(aD:Big fu)(h0:0<b)(hb:zm 50000 b):W (Tu fu [.int t,.int b] S) λv S'=>v=qv (vW t b)/\S=S':=by
 have gb:=zkM (t:=t) h0;walk_at "wr";unfold Tt;ext;refine(zkP aD hb).imp ?_;rintro _ _ ⟨rfl,rfl⟩;ext;apply yA;ext;refine yY (λh=>absurd h ⋯) (λ_=>yh ?_);ext;apply WE gb;ext;apply WE gb;ext;exact⟨zeZ.symm,rfl⟩
def zhh:W (Ys fu [.int i] S) λv S'=>v= .bl fJ/\S=S':=by
 walk_at "wr";unfold WW;refine vG (zdn ?_);ext;apply Wy (v:=fJ) rfl;refine⟨_,rfl,λ_=> ?_,λz=>(by cases z)⟩;ext;apply Wy (v:=kb) rfl;exact⟨_,rfl,rfl,rfl⟩
def zgc(aD:Big fu)(h0:0<b)(hb:zm 50000 b):W (WZ fu [.int t,.int b] S) λv S'=>v=qv (vW t b)/\S=S':=by
 walk_at "wr";unfold WY;refine zQ (yA (YX ?_));ext;apply zhh.imp;rintro _ _ ⟨rfl,rfl⟩;ext;refine⟨nofun,λ_=> ?_⟩;ext;apply zhh.imp;rintro _ _ ⟨rfl,rfl⟩;ext;refine⟨nofun,λ_=>yh ?_⟩;refine zQ (yA ?_);ext;refine yY (λh=>absurd h ⋯) (λ_=>yh ?_);ext;exact zkQ aD h0 hb
structure IsL(t b:Int)(q:Q2):Prop where
 pos:0<q.2/\q.2<=b
 eq:q.1*b=t*q.2
 co:C1 q.1 q.2=1
 ab:q.1.natAbs<=t.natAbs
def zbE(hb:0<b):IsL t b (vW t b):=by
 have g0:0<C1 t b:=Int.gcd_pos_of_ne_zero_right _ ⋯;obtain⟨t',et⟩:(C1 t b:Int)∣t:=Int.gcd_dvd_left ..;obtain⟨b',eb⟩:(C1 t b:Int)∣b:=Int.gcd_dvd_right ..;have gz:((C1 t b:Int))≠0:=by omega
 have gp:(0:Int)<(C1 t b:Int):=by omega
 have co:C1 t' b'=1:=by
  have h1:C1 t b=C1 t b*C1 t' b':=by
   have:=Int.gcd_mul_left (C1 t b:Int) t' b';rw[<-et,<-eb] at this;simpa using this
  exact Nat.eq_of_mul_eq_mul_left g0 (by rw[Nat.mul_one];exact h1.symm)
 unfold vW;rw[show t / (C1 t b:Int)=t' from Cb gz et,show b / (C1 t b:Int)=b' from Cb gz eb];generalize (C1 t b:Int)=g at*;have eN:0<b':=by
  rcases Int.lt_trichotomy b' 0 with h|h|h;have:=Int.mul_neg_of_pos_of_neg gp h;omega;subst h;simp at eb;omega;exact h
 refine⟨⟨eN,?_⟩,?_,co,?_⟩;have:=Bs (show 1<=g by omega) (BP eN);rw[eb];dsimp only;omega;rw[et,eb];dsimp only;grind;dsimp only;rw[et,Bz];exact FY _ ⋯
def zbF(hb:0<b)(h0:0<q.2)(hc:C1 q.1 q.2=1)(e:t*q.2=b*q.1):vW t b=q:=by
 have l:=zbE (t:=t) hb;generalize vW t b=r at l;obtain⟨⟨r0,_⟩,r1,r2,_⟩:=l;have x:r.1*q.2=q.1*r.2:=by
  have:b*(r.1*q.2)=b*(q.1*r.2):=by
   rw[show b*(r.1*q.2)=(r.1*b)*q.2 by grind,r1,show t*r.2*q.2=(t*q.2)*r.2 by grind,e];grind
  exact DH ⋯ this
 have d1:q.2.natAbs∣r.2.natAbs:=by
  have:q.2.natAbs∣q.1.natAbs*r.2.natAbs:=⟨r.1.natAbs,by rw[<-Bz,<-Bz,<-x,C4]⟩;exact(show Hd q.2.natAbs q.1.natAbs by rw[Hs];exact hc).dvd_of_dvd_mul_left this
 have d2:r.2.natAbs∣q.2.natAbs:=by
  have:r.2.natAbs∣r.1.natAbs*q.2.natAbs:=⟨q.1.natAbs,by rw[<-Bz,<-Bz,x,C4]⟩;exact(show Hd r.2.natAbs r.1.natAbs by rw[Hs];exact r2).dvd_of_dvd_mul_left this
 have e2:r.2=q.2:=by have:=Nat.dvd_antisymm d1 d2;omega
 have e1:r.1=q.1:=by rw[e2] at x;exact Int.eq_of_mul_eq_mul_right ⋯ x
 exact Prod.ext e1 e2
def VF(many:Nat)(rs:mZ (mZ (Nat×Int)×Int))(ss:mZ Stp)(S:Sto)(v:Xv)(S':Sto):Prop:=Le S S'/\∃(ts:mZ Int) (b:Int),ts.length=many/\(0<b/\zm 50000 b/\∀t∈ts,zm 2200000 t)/\(∀r∈chs rs ss,zD r.1 (vec ts)=r.2*b)/\
 ((v= .non/\¬∀r∈rs,zD r.1 (vec ts)=r.2*b)\/∃xn,v= .ref xn/\S.length<=xn/\S'[xn]? =dE (.lst ((ts.map (vW · b)).map qv))/\∀r∈rs,zD r.1 (vec ts)=r.2*b)
def zhi(aD:Big fu)(hq:pN<=q/\zm 5500 (q:Int))(hm:many<=40)(hr:vk S wn rs)(ok:∀r∈rs,Wf many r)(hs:xW S sn ss)(aL:Sts (q:Int) many rs ss)(sb:∀s∈ss,zb1 s){X:Nat->Int}{D H:Int}(sol:zga rs ss X D H)(hH:H<=bH):
  W (wX fu [.ref wn,.ref sn,.int many,.int (q:Int)] S) (VF many rs ss S):=by
 walk_at "wr";unfold ZH;ext;refine(zkH aD hq hr hs aL sb ok hm sol hH).imp ?_;rintro _ S1 ⟨le,tn,ts,b,rfl,ht,g6,b0,bb,tb,heq⟩;ext;apply yA;ext;refine(zcI (hr.le le) ok ht g6 ⋯ tb ∅ bb).imp ?_;rintro _ S2 ⟨rfl,l2⟩;ext;refine TD (λdS=> ?_) (λall=> ?_);ext;exact⟨le.trans l2,ts,b,g6,⟨b0,bb,tb⟩,heq,.inl ⟨rfl,dS⟩⟩;apply yh;refine vG (yx (vq ?_));ext;have jv:=l2.2 _ _ ht;refine⟨_,zb jv,_,zb jv,?_⟩;refine yp (xs:=ts.map .int) (by rw[Aw];exact AX (yE ⋯)) (λj es S3=>S2=S3/\es=((ts.take j).map (vW · b)).map qv) ?_ ?_ ?_ ?_;rintro j es S3 _ ⟨rfl,_⟩;exact zb jv;rintro j y es S3 hy c9 ⟨rfl,rfl⟩;rw[Ax,AB] at hy;obtain⟨t,hy,rfl⟩:=hy;refine .of rfl ?_;ext;refine⟨rfl,?_⟩;ext;refine(zgc aD b0 bb).imp ?_;rintro _ _ ⟨rfl,rfl⟩;refine⟨rfl,?_⟩;rw[Bf,hy];simp;exact⟨rfl,rfl⟩;rintro es S3 c9 ⟨rfl,rfl⟩;rw[Aw,Bq];exact⟨(le.trans l2).app,ts,b,g6,⟨b0,bb,tb⟩,heq,.inr ⟨_,rfl,AA le.1 l2.1,zx,all⟩⟩
noncomputable def dv:mZ Int->(Nat->Int)->Int
 |[],_=>0
 |a::l,y=>a*y 0+dv l λi=>y (i+1)
theorem zkR:∀(l k:mZ Int) (y:Nat->Int),dv (l++k) y=dv l y+dv k λi=>y (i+l.length)
 |[],k,y=>by simp[dv]
 |a::l,k,y=>by
  rw[Ek,dv,dv,zkR l k];simp only[B7,HK,GH 1];omega
noncomputable def ptE:Nat->mZ Int->mZ (Nat×Int)
 |_,[]=>[]
 |k,t::r=>if t≠0 then (k,t)::ptE (k+1) r else ptE (k+1) r
theorem zkS:∀(ts:mZ Int) (k:Nat) (X:Nat->Int),zD (ptE k ts) X=dv ts λi=>X (i+k)
 |[],_,_=>rfl
 |t::r,k,X=>by
  have ih:=zkS r (k+1) X;rw[dv,ptE];have e:(λi=>X (i+(k+1)))=λi=>X (i+1+k):=funext λi=>by rw[HK,GH 1 k]
  rw[e] at ih;by_cases h:t=0;rw[if_neg (by simpa using h),ih,h];simp;rw[if_pos h,ye,ih];simp
theorem zkT:∀(l r:mZ Int) (k:Nat),ptE k (l++r)=ptE k l++ptE (k+l.length) r
 |[],r,k=>rfl
 |t::l,r,k=>by
  rw[Ek,ptE,ptE,zkT l r,B7,show k+1+l.length=k+(l.length+1) by omega];split<;>rfl
theorem zdP:∀(ts:mZ Int) (k:Nat) (p:Nat×Int),p∈ptE k ts->k<=p.1/\p.1<k+ts.length/\p.2∈ts
 |[],_,_,h=>nomatch h
 |t::r,k,p,h=>by
  rw[ptE] at h;have go:p∈ptE (k+1) r->k<=p.1/\p.1<k+(t::r).length/\p.2∈t::r:=λh=>by
   obtain⟨h1,h2,h3⟩:=zdP r (k+1) p h;rw[B7];exact⟨⋯,⋯,.tail _ h3⟩
  split at h;rcases AW.1 h with rfl|h;exact⟨AF _,by simp,.head _⟩;exact go h;exact go h
theorem znq:∀(ts:mZ Int) (k:Nat),NdE (ptE k ts)
 |[],_=>G7
 |t::r,k=>by
  have ih:=znq r (k+1);rw[ptE];split;refine BU.2 ⟨λz=> ?_,ih⟩;obtain⟨p,hp,e⟩:=Be.1 z;have:=(zdP r (k+1) p hp).1;dsimp only at e;omega;exact ih
noncomputable def zM:mZ Q2->Int
 |[]=>1
 |q::r=>q.2*zM r
theorem xJ:∀(l r:mZ Q2),zM (l++r)=zM l*zM r
 |[],r=>by simp[zM]
 |q::l,r=>by rw[Ek,zM,zM,xJ l r,Ei]
theorem xj:∀l:mZ Q2,(∀q∈l,0<q.2)->0<zM l
 |[],_=>by decide
 |q::l,h=>Dt (h q (.head _)) (xj l λp hp=>h p (.tail _ hp))
theorem Ve:∀l:mZ Q2,(∀q∈l,0<q.2/\q.2<=m)->zM l<=m^l.length
 |[],_=>by simp[zM]
 |q::l,h=>by
  have h1:=h q (.head _);have h2:=Ve l λp hp=>h p (.tail _ hp);have h3:=xj l λp hp=>(h p (.tail _ hp)).1;rw[zM,B7,CT,C4];exact D3 h2 h1.2 ⋯ ⋯
def QxL(xs:mZ Xv)(qs:mZ Q2):Prop:=xs.length=qs.length/\∀(i:Nat) x q,xs[i]? =dE x->qs[i]? =dE q->x.tupOf=dE [.int q.1,.int q.2]
def QxL.at{xs:mZ Xv}{qs:mZ Q2}(h:QxL xs qs){i:Nat}{y:Xv}(e:xs[i]? =dE y):∃q,qs[i]? =dE q/\y.tupOf=dE [.int q.1,.int q.2]:=by
 have hi:=(Au.1 e).1;have eq:qs[i]? =dE (qs[i]'(by rw[<-h.1];exact hi)):=As _;exact⟨_,eq,h.2 i y _ e eq⟩
def QxL.qv(qs:mZ Q2):QxL (qs.map qv) qs:=⟨Aw ..,λi x q e1 e2=>by
 rw[Ax,e2] at e1;cases e1
 rfl⟩
noncomputable def shS(b:Int)(q:Q2):Int:=if b % q.2≠0 then b / ((Cu b.natAbs q.2.natAbs:Nat):Int)*q.2 else b
noncomputable def shB(qs:mZ Q2):Int:=qs.foldl shS 1
def zkU(aD:Big fu)(hr:S[rn]? =dE (.lst xs))(hx:QxL xs qs)(hq:∀q∈qs,0<q.2/\zm 100 q.2)(hl:qs.length<=10):
  W (Zk fu [.ref rn] S) λv S'=>S=S'/\v= .int (shB qs)/\0<shB qs/\(∀q∈qs,q.2∣shB qs)/\shB qs<=zM qs/\zm 1001 (shB qs):=by
 walk_at "wr";unfold Zj;ext;refine wd (vq ?_);ext;refine⟨_,zb hr,_,zb hr,?_⟩;refine xk (xs:=xs) (λi ρ S'=>∃(B:Int) (a2:pU Xv),ρ=[dE (.ref rn),dE (.int B),a2]/\S=S'/\B=shB (qs.take i)/\0<B/\zm (100*i+1) B/\(∀q∈qs.take i,q.2∣B)/\B<=zM (qs.take i)) ?_ ?_ ?_ ?_;rintro i ρ S' _ ⟨B,a2,rfl,rfl,_⟩;exact zb hr
 .rintro i y ρ S' hy ⟨B,a2,rfl,rfl,eB,B0,Bb,Bd,Bl⟩;obtain⟨q,hy,ck⟩:=hx.at hy;have hi:i<qs.length:=(Au.1 hy).1;obtain⟨q0,qb⟩:=hq q (Ay hy);have k9:∀B':Int,q.2∣B'->B∣B'->∀p∈qs.take (i+1),p.2∣B':=λB' h1 h2 p hp=>by
   rw[Bf,hy] at hp;rcases AU.1 hp with hp|hp;exact F5 (Bd p hp) h2;rw[show p=q by simpa using hp];exact h1
  have lb:shB (qs.take (i+1))=shS B q:=by
   unfold shB at eB ⊢;rw[Bf,hy,List.foldl_append,<-eB];rfl
  have r9:zM (qs.take (i+1))=zM (qs.take i)*q.2:=by
   rw[Bf,hy,xJ];simp[zM]
  have ka:=D3 Bl (EL q.2) ⋯ ⋯;refine .of rfl ?_;dsimp only[Bt];apply yA;ext;apply wM (z:= .int q.2) ck rfl;ext;apply xR q0;ext;refine TD (λcu=> ?_) (λhe=> ?_)
  .rw[show shS B q=_ from if_pos cu] at lb;ext;apply wM (z:= .int q.2) ck rfl;ext;refine(zkP aD (qb.mono ∅)).imp ?_;rintro _ _ ⟨rfl,rfl⟩;have g0:0<Cu B.natAbs q.2.natAbs:=Fs _ ⋯;have gB:=zkO (t:=B) q0 qb;have d1:((Cu B.natAbs q.2.natAbs:Nat):Int)∣B:=Et.1 (by rw[DS];exact Hm _ _);have d2:((Cu B.natAbs q.2.natAbs:Nat):Int)∣q.2:=Et.1 (by rw[DS];exact GZ _ _);generalize Cu B.natAbs q.2.natAbs=g at*;ext;apply zf5 ⋯ (gB.mono ∅);ext;apply wM (z:= .int q.2) ck rfl;have b1:zm (100*i+1) (B / (g:Int)):=Bb.abs (D8 _ _);apply yH b1 qb ⋯;obtain⟨u,hu⟩:=d1;obtain⟨w,hw⟩:=d2;have eu:B / (g:Int)=u:=Cb ⋯ hu;have u0:0<B / (g:Int):=Int.ediv_pos_of_pos_of_dvd B0 ⋯ ⟨u,hu⟩;have e1:B / (g:Int)*q.2=B*w:=by rw[eu,hu,hw];grind
   refine⟨_,_,rfl,rfl,lb.symm,Dt u0 q0,(b1.mul qb).mono ⋯,k9 _ ⟨B / (g:Int),C4 ..⟩ ⟨w,e1⟩,?_⟩;rw[r9];refine Bv (Bs (Ho _ ⋯) ⋯) ka
  apply yh;have dq:q.2∣B:=Int.dvd_of_emod_eq_zero he;refine⟨_,_,rfl,rfl,by rw[lb];exact(if_neg (by simpa using he)).symm,B0,Bb.mono ⋯,k9 _ dq (GO _),?_⟩;rw[r9];refine Bv ?_ ka;have:=B1 (show 1<=q.2 by omega) (BP B0);omega
 .exact⟨1,_,rfl,rfl,rfl,∅,by unfold zm;decide,λq hq=>by simp at hq,by simp[zM]⟩
 rintro ρ S' ⟨B,a2,rfl,rfl,eB,B0,Bb,Bd,Bl⟩;ext;rw[hx.1] at Bb;rw[hx.1,Bq] at Bd Bl eB;subst eB;exact⟨rfl,rfl,B0,Bd,Bl,Bb.mono ⋯⟩
noncomputable def xT(qs:mZ Q2)(B:Int):mZ Int:=qs.map λq=>q.1*(B / q.2)
def zoP(hr:S[rn]? =dE (.lst xs))(hx:QxL xs qs)(hq:∀q∈qs,0<q.2/\zm 100 q.2/\zm 900 q.1)(hl:qs.length<=10)(hB:zm 1001 B):
  W (XH fu [.ref rn,.int B] S) λv S'=>v= .ref S.length/\S'=S++[.lst ((xT qs B).map .int)]:=by
 walk_at "wr";unfold XG;refine vG (yx (vq ?_));ext;refine⟨_,zb hr,_,zb hr,?_⟩;refine yp (xs:=xs) (by rw[hx.1];exact AX (yE ⋯)) (λj es S1=>S=S1/\es=(xT (qs.take j) B).map .int) ?_ ?_ ?_ ?_;rintro j es S1 _ ⟨rfl,_⟩;exact zb hr;rintro j y es S1 hy c9 ⟨rfl,rfl⟩;obtain⟨q,hy,ck⟩:=hx.at hy;obtain⟨q0,qb,qt⟩:=hq q (Ay hy);refine .of rfl ?_;ext;refine⟨rfl,?_⟩;ext;apply wM (z:= .int q.1) ck rfl;ext;apply wM (z:= .int q.2) ck rfl;apply zf5 q0 (qb.mono ∅);apply yH qt (hB.abs (D8 _ _)) ∅;refine⟨rfl,?_⟩;rw[Bf,hy];simp[xT];exact⟨rfl,rfl⟩;rintro es S1 c9 ⟨rfl,rfl⟩;rw[hx.1,Bq];exact⟨rfl,rfl⟩
noncomputable def wR(many:Nat)(row:mZ Q2):mZ (Nat×Int)×Int:=(ptE 0 (xT (row.take many) (shB row)),(row.getD many (0,1)).1*(shB row / (row.getD many (0,1)).2))
structure US(many:Nat)(row:mZ Q2)(r:mZ (Nat×Int)×Int):Prop where
 ok:Wf many r
 eq:r=wR many row
 len:row.length=many+1
 pos:0<shB row/\shB row<=zM row
 dv:∀q∈row,0<q.2/\q.2∣shB row
structure zb2(many:Nat)(row:mZ Q2):Prop where
 len:row.length=many+1
 bit:∀q∈row,0<q.2/\zm 100 q.2/\zm 900 q.1
def zmG(aD:Big fu)(hm:many<=9)(hr:S[rn]? =dE (.lst xs))(hx:QxL xs row)(h:zb2 many row):
  W (XJ fu [.ref rn] S) λv S'=>Le S S'/\∃m r,v= .ref m/\zak S' m r/\US many row r:=by
 have hl:row.length<=10:=by have:=h.len;omega
 walk_at "wr";unfold XI;ext;refine(zkU aD hr hx (λq hq=>⟨(h.bit q hq).1,(h.bit q hq).2.1⟩) hl).imp ?_;rintro _ _ ⟨rfl,rfl,B0,Bd,Bl,Bb⟩;ext;obtain⟨l,gG⟩:∃l,row=row.dropLast++[l]:=⟨row.getLast (λz=>by have:=h.len;rw[z] at this;simp at this),(List.dropLast_concat_getLast _).symm⟩;have ht:row.take many=row.dropLast:=by rw[Es,h.len,CK]
 have hg:row.getD many (0,1)=l:=by
  have dl:row.dropLast.length=many:=by rw[Gc,h.len,CK]
  rw[Av,gG,AG ⋯,dl,BL];rfl
 have tm:wR many row=(ptE 0 (xT row.dropLast (shB row)),l.1*(shB row / l.2)):=by unfold wR;rw[ht,hg]
 have x8:∀q∈row,0<q.2/\q.2∣shB row:=λq hq=>⟨(h.bit q hq).1,Bd q hq⟩;generalize rY:shB row=B at*;have e1:xT row B=xT row.dropLast B++[l.1*(B / l.2)]:=by
  conv=>lhs;rw[gG]
  simp[xT]
 have e2:(xT row.dropLast B).length=many:=by simp[xT,h.len]
 have bd:∀z:Int,zm 1001 (B / z):=λz=>Bb.abs (D8 _ _);have wo:US many row (ptE 0 (xT row.dropLast B),l.1*(B / l.2)):=by
  refine⟨⟨znq _ _,λp hp=> ?_,?_⟩,tm.symm,h.len,by rw[rY];exact⟨B0,Bl⟩,by rw[rY];exact x8⟩;obtain⟨_,h2,h3⟩:=zdP _ _ _ hp;refine⟨⋯,?_⟩;unfold xT at h3;obtain⟨q,hq,e⟩:=Be.1 h3;rw[<-e];exact(((h.bit q ((List.dropLast_sublist row).subset hq)).2.2).mul (bd _)).mono ∅;have:=(h.bit l (by rw[gG];simp)).2.2;exact(this.mul (bd _)).mono ∅
 refine(zoP hr hx h.bit hl Bb).imp ?_;rintro _ _ ⟨rfl,rfl⟩;have eI:(S++[Ce.lst ((xT row B).map .int)])[S.length]? =dE (.lst ((xT row B).map .int)):=zx;ext;apply Vw;ext;refine⟨⟨_,zb eI⟩,?_⟩;ext;generalize tE:xT row.dropLast B=ts at e1 e2 wo
 refine WO.of (show zjb (.ref S.length) [] (S ++ [Ce.lst ((xT row B).map .int)]) = dE (.int (l.1 * (B / l.2)), (S ++ [Ce.lst ((xT row B).map .int)]).set S.length (.lst (ts.map .int))) by
  unfold zjb;rw[xz eI];dsimp only;rw[e1,C5,Ba,Dp,CJ,CK,AG (AF _),BL,List.dropLast_concat]
  rfl) ?_
 have l2:Le S ((S++[Ce.lst ((xT row B).map .int)]).set S.length (.lst (ts.map .int))):=Le.refl.app.set (AF _);have hJ:((S++[Ce.lst ((xT row B).map .int)]).set S.length (.lst (ts.map .int)))[S.length]? =dE (.lst (ts.map .int)):=yG eI;generalize (S++[Ce.lst ((xT row B).map .int)]).set S.length (.lst (ts.map .int))=S2 at l2 hJ;ext;apply zgR;ext;refine yx (zjC ?_);ext;refine⟨_,zb hJ,ZK (ts.map .int),congrArg (EF ZK) (zb hJ),?_⟩;have c9:(ZK (ts.map Xv.int)).length=many:=by simp[ZK,e2]
 refine zbk (by rw[c9];exact AX (yE ⋯)) (λj es S3=>S2=S3/\es=(ptE 0 (ts.take j)).map prt) ?_ ?_ ?_ ?_;rintro j es S3 _ ⟨rfl,_⟩;exact congrArg (EF ZK) (zb hJ)
 .rintro j y es S3 hy _ ⟨rfl,rfl⟩;unfold ZK at hy;rw[Ax,AB] at hy;obtain⟨⟨v,k⟩,hy,rfl⟩:=hy;rw[Ge,AB] at hy;obtain⟨v',hy,e⟩:=hy;cases e;rw[Ax,AB] at hy;obtain⟨t,hy,rfl⟩:=hy;have hj:=(Au.1 hy).1;have r6:ptE 0 (ts.take (j+1))=ptE 0 (ts.take j)++if t≠0 then [(j,t)] else []:=by
   rw[Bf,hy,zkT,B6,EH (AX hj),DL];rfl
  refine .of rfl ?_;ext;refine TD (λcu=> ?_) (λhe=> ?_);ext;refine⟨rfl,?_⟩;rw[r6,if_pos cu,C5,DL];rfl;refine⟨rfl,?_⟩;rw[r6,if_neg (by simpa using he),CP]
 .exact⟨rfl,rfl⟩
 rintro es S3 _ ⟨rfl,rfl⟩;rw[c9,C9 ⋯];ext;refine(zh4 zx).imp ?_;rintro _ _ ⟨rfl,rfl⟩;refine⟨rfl,?_⟩;refine⟨l2.app.app.set (AA l2.1 (by simp)),_,_,rfl,⟨S2.length,yG zx,yz (zj zx) (by simp)⟩,wo⟩
def vY(S:Sto)(n:Nat)(rws:mZ (mZ Q2)):Prop:=∃ms:mZ Nat,S[n]? =dE (.lst (ms.map .ref))/\ms.length=rws.length/\∀(i m:Nat) row,ms[i]? =dE m->rws[i]? =dE row->∃xs,S[m]? =dE (.lst xs)/\QxL xs row
def vY.le(h:vY S n rws)(l:Le S S'):vY S' n rws:=by
 obtain⟨ms,h1,h2,h3⟩:=h;refine⟨ms,l.2 _ _ h1,h2,λi m r e1 e2=> ?_⟩;obtain⟨xs,a,b⟩:=h3 i m r e1 e2;exact⟨xs,l.2 _ _ a,b⟩
def ze0(aD:Big fu)(hm:many<=9)(hl:rws.length<=20)(h:vY S rn rws)(hg:∀row∈rws,zb2 many row):
  W (Zp fu [.ref rn] S) λv S'=>Le S S'/\∃wn rs,v= .ref wn/\vk S' wn rs/\rs.length=rws.length/\∀(i:Nat) r row,rs[i]? =dE r->rws[i]? =dE row->US many row r:=by
 obtain⟨ms,h1,h2,h3⟩:=id h;walk_at "wr";unfold YB;refine vG (yx (vq ?_));ext;refine⟨_,zb h1,_,zb h1,?_⟩;refine yp (xs:=ms.map .ref) (by rw[Aw];exact AX (yE ⋯)) (λj es S1=>Le S S1/\∃(ks:mZ Nat) (rs:mZ (mZ (Nat×Int)×Int)),es=ks.map .ref/\ks.length=j/\rs.length=j/\(∀(i m:Nat) r,ks[i]? =dE m->rs[i]? =dE r->zak S1 m r)/\∀(i:Nat) r row,rs[i]? =dE r->rws[i]? =dE row->US many row r) ?_ ?_ ?_ ?_;rintro j es S1 _ ⟨le,_⟩;exact zb (le.2 _ _ h1)
 .rintro j y es S1 hy c9 ⟨le,ks,rs,rfl,kl,rl,kr,ko⟩;rw[Ax,AB] at hy;obtain⟨m,hy,rfl⟩:=hy;have hj:j<rws.length:=by rw[<-h2];exact(Au.1 hy).1
  have er:rws[j]? =dE rws[j]:=As hj;generalize rws[j]=row at er;obtain⟨xs,kT,iT⟩:=h3 j m row hy er;refine .of rfl ?_;ext;refine⟨rfl,?_⟩;ext;refine(zmG aD hm (le.2 _ _ kT) iT (hg row (Ay er))).imp ?_;rintro _ S2 ⟨l2,m2,r2,rfl,ra,wo⟩;refine⟨le.trans l2,ks++[m2],rs++[r2],by simp,by simp[kl],by simp[rl],λi m r e1 e2=> ?_,λi r a' e1 e2=> ?_⟩
  .rcases zeU (kl.trans rl.symm) e1 e2 with⟨e1,e2⟩|⟨rfl,rfl,rfl⟩
   .exact (kr i m r e1 e2).le l2
   exact ra
  rcases zbx rl e1 with e1|⟨rfl,rfl⟩
  .exact ko i r a' e1 e2
  rw[er] at e2;cases e2;exact wo
 .exact⟨.refl,[],[],rfl,rfl,rfl,λi m r e=>by simp at e,λi r a e=>by simp at e⟩
 rintro es S1 c9 ⟨le,ks,rs,rfl,kl,rl,kr,ko⟩;rw[Aw,h2] at kl rl;exact⟨le.app,S1.length,rs,rfl,⟨ks,zx,⋯,λi m r e1 e2=>(kr i m r e1 e2).le Le.refl.app⟩,rl,ko⟩
def Xc(many:Nat)(rws:mZ (mZ Q2))(rs:mZ (mZ (Nat×Int)×Int)):Prop:=rs.length=rws.length/\∀(i:Nat) r row,rs[i]? =dE r->rws[i]? =dE row->US many row r
def Xc.ok(h:Xc many rws rs):∀r∈rs,Wf many r:=λr hr=>by
 obtain⟨i,hi⟩:=Bi hr;have e:rws[i]? =dE (rws[i]'(by have:=(Au.1 hi).1;have:=h.1;omega)):=As _;exact(h.2 i r _ hi e).ok
def zbG(q many:Nat)(rws:mZ (mZ Q2)):Prop:=∀rs ss,Xc many rws rs->Sts (q:Int) many rs ss->∃X D H,zga rs ss X D H/\H<=bH
def ByR(q many:Nat)(rws:mZ (mZ Q2))(S:Sto)(v:Xv)(S':Sto):Prop:=Le S S'/\((v= .non/\¬Pr q)\/∃rs ss,Xc many rws rs/\Run q many rs ss/\VF many rs ss S v S')
def VF.from(l:Le S0 S)(h:VF many rs ss S v S1):VF many rs ss S0 v S1:=by
 obtain⟨le,ts,b,h1,h2,h3,h4⟩:=h;refine⟨l.trans le,ts,b,h1,h2,h3,h4.imp (λz=>z) ?_⟩;rintro⟨xn,e1,e2,e3,e4⟩;exact⟨xn,e1,AA l.1 e2,e3,e4⟩
def ze1(aD:Big fu)(hq:pN<=q/\zm 5500 (q:Int))(hm:many<=9)(hl:rws.length<=20)(h:vY S rn rws)(hg:∀row∈rws,zb2 many row)(jx:zbG q many rws)(bI:S[1]? =dE (.tab Yc.t)):
  W (XL fu [.ref rn,.int many,.int (q:Int)] S) (ByR q many rws S):=by
 walk_at "wr";unfold VW;ext;refine(ze0 aD hm hl h hg).imp ?_;rintro _ S1 ⟨l1,wn,rs,rfl,hr,rl,ro⟩;have wr:Xc many rws rs:=⟨rl,ro⟩;ext;refine(zhd aD (AJ ∅ hq.1) hq.2 hr wr.ok ⋯ ⋯ (l1.2 _ _ bI)).imp ?_;rintro _ S2 ⟨l2,⟨rfl,jH⟩|⟨sn,ss,rfl,_,hs,aL,sb,gM⟩⟩;ext;apply Yw;ext;apply wP;ext;refine⟨λ_=> ?_,nofun⟩;ext;exact⟨l1.trans l2,.inl ⟨rfl,jH⟩⟩;ext;apply Yw;ext;apply wP;ext;refine⟨nofun,λ_=> ?_⟩;ext;obtain⟨X,D,H,sol,hH⟩:=jx rs ss wr aL;refine(zhi aD hq ⋯ (hr.le l2) wr.ok hs aL sb sol hH).imp ?_;intro v S3 mr;exact⟨(l1.trans l2).trans mr.1,.inr ⟨rs,ss,wr,⟨aL,gM⟩,mr.from (l1.trans l2)⟩⟩
def XZ(h1:zF S x=dE a)(h2:zF S y=dE b)(h:a.length+b.length<=20000)(k:P (.ref S.length) (S++[.lst (a++b)])):WO (Wv x y S) P:= .of (by unfold Wv;rw[h1,h2];exact if_pos (AX (yE h))) k
def QxL.snoc(h:QxL xs qs)(hz:z.tupOf=dE [.int q.1,.int q.2]):QxL (xs++[z]) (qs++[q]):=by
 refine⟨by simp[h.1],λi x p e1 e2=> ?_⟩;rcases zeU h.1 e1 e2 with⟨e1,e2⟩|⟨_,rfl,rfl⟩
 .exact h.2 i x p e1 e2
 exact hz
noncomputable def Zn(rws:mZ (mZ Q2))(c:Nat):mZ Q2:=rws.map λrow=>row.getD c (0,1)
def zhj(hk:ρ[k]? =dE (dE (.ref rn)))(fU:(ρ[k2]?).join=dE (.int (c:Int)))(hr:vY S rn rws)(hl:rws.length<=20)(hc:∀row∈rws,c<row.length)(q:∀xs,QxL xs (Zn rws c)->P (.ref S.length) (S++[.lst xs])):
  W (yO [fC,dE k2] (iL (za k)) (gN 0) xa (eOp wT (za 0) (za 1)) ρ S) P:=by
 obtain⟨ms,h1,h2,h3⟩:=id hr;refine yx (vq (zjt hk ?_));refine⟨_,zb h1,_,zb h1,?_⟩;have jR:za7 [fC,dE k2] ρ=[fC,dE (.int (c:Int))]:=by
  simp only[za7,List.map,Hq,AO,fU]
 rw[jR];refine yp (xs:=ms.map .ref) (by rw[Aw];exact AX (yE ⋯)) (λj es S1=>S=S1/\QxL es (Zn (rws.take j) c)) ?_ ?_ ?_ ?_;rintro j es S1 _ ⟨rfl,_⟩;exact zb h1
 .rintro j y es S1 hy c9 ⟨rfl,hx⟩;rw[Ax,AB] at hy;obtain⟨m,hy,rfl⟩:=hy;have hj:j<rws.length:=by rw[<-h2];exact(Au.1 hy).1
  have er:rws[j]? =dE rws[j]:=As hj;generalize rws[j]=row at er;obtain⟨xs,kT,iT⟩:=h3 j m row hy er;have dG:=hc row (Ay er);have ex:xs[c]? =dE (xs[c]'(by rw[iT.1];exact dG)):=As _;generalize xs[c]'(by rw[iT.1];exact dG)=z at ex;have eq:row[c]? =dE row[c]:=As dG;refine .of rfl ?_;ext;refine⟨rfl,?_⟩;ext;apply wf (zb kT) (ZW (z:=z) ⋯ (by rw[AV];exact ex));refine⟨rfl,?_⟩;have e:Zn (rws.take (j+1)) c=Zn (rws.take j) c++[row[c]]:=by
   unfold Zn;rw[Bf,er,C5];simp[Av,eq]
  rw[e];exact hx.snoc (iT.2 c z _ ex eq)
 .exact⟨rfl,rfl,λi x q e=>by simp at e⟩
 rintro es S1 c9 ⟨rfl,hx⟩;rw[Aw,h2,Bq] at hx;exact q es hx
noncomputable def xM(many:Nat)(rws:mZ (mZ Q2)):mZ (mZ Q2):=((BD many).map λc=>Zn rws c++[(0,1)])++[Zn rws many++[(1,1)]]
def zkV(hm:many<=9)(hl:rws.length<=20)(h:vY S rn rws)(hg:∀row∈rws,row.length=many+1):
  W (TB fu [.ref rn,.int many] S) λv S'=>Le S S'/\∃cn,v= .ref cn/\S.length<=cn/\vY S' cn (xM many rws):=by
 walk_at "wr";unfold zcG;refine zQ (xQ (yx (Xu ?_)));ext;refine⟨⟨⋯,⋯⟩,yK 0 many,by rw[AV],?_⟩;refine yp (xs:=yK 0 many) (by rw[yD];exact AX (yE ⋯)) (λj es S1=>Le S S1/\∃ks:mZ Nat,es=ks.map .ref/\ks.length=j/\∀(i m:Nat),ks[i]? =dE m->S.length<=m/\∃xs,S1[m]? =dE (.lst xs)/\QxL xs (Zn rws i++[(0,1)])) ?_ ?_ ?_ ?_;rintro j es S1 _ _;rw[AV]
 .rintro j y es S1 hy c9 ⟨le,ks,rfl,kl,hk⟩;obtain⟨hj,rfl⟩:=vt hy;rw[CV];refine .of rfl ?_;ext;refine⟨rfl,vp (zhj (k:=1) (k2:=0) (rn:=rn) (c:=j) rfl rfl (h.le le) hl (λrow hr=>by rw[hg row hr];omega) λxs hx=> ?_)⟩;ext;apply XZ (zb (zj zx)) (zb zx) (by rw[hx.1];unfold Zn;rw[Aw];simp;omega);refine⟨le.app.app.app,ks++[(S1++[Ce.lst xs]++[Ce.lst [Xv.ct [.int 0,.int 1]]]).length],by simp,by simp[kl],λi m e=> ?_⟩;rcases zbx kl e with e|⟨rfl,rfl⟩
  .obtain⟨a,xs',b,c⟩:=hk i m e;exact⟨a,xs',zj (zj (zj b)),c⟩
  exact⟨le.app.app.1,_,zx,hx.snoc rfl⟩
 .exact⟨.refl,[],rfl,rfl,λi m e=>by simp at e⟩
 rintro es S1 c9 ⟨le,ks,rfl,kl,hk⟩;rw[yD] at kl;dsimp only[Bt];have dU:(S1++[Ce.lst (ks.map .ref)])[S1.length]? =dE (.lst (ks.map .ref)):=zx;have l2:Le S (S1++[Ce.lst (ks.map .ref)]):=le.app;have fU:∀(i m:Nat),ks[i]? =dE m->m≠S1.length/\∃xs,(S1++[Ce.lst (ks.map .ref)])[m]? =dE (.lst xs)/\QxL xs (Zn rws i++[(0,1)]):=λi m e=>by
  obtain⟨a,xs,b,c⟩:=hk i m e;exact⟨B3 (Zw b),xs,zj b,c⟩
 have fk:S.length<=S1.length:=le.1;generalize S1.length=cn at dU fU fk ⊢;generalize S1++[Ce.lst (ks.map .ref)]=S2 at dU l2 fU ⊢;refine zQ (Xs (Vw ?_));ext;refine⟨⟨_,zb dU⟩,xy (vp (zhj (k:=0) (k2:=1) (rn:=rn) (c:=many) rfl rfl (h.le l2) hl (λrow hr=>by rw[hg row hr];omega) λxs hx=> ?_))⟩;ext;apply XZ (zb (zj zx)) (zb zx) (by rw[hx.1];unfold Zn;rw[Aw];simp;omega);ext;apply wD (xz (zj (zj (zj dU)))) (by rw[Aw,kl];exact yE ⋯);ext;have cQ:=Zw dU;refine⟨l2.app.app.app.set fk,cn,rfl,fk,ks++[(S2++[Ce.lst xs]++[Ce.lst [Xv.ct [.int 1,.int 1]]]).length],by rw[yG (zj (zj (zj dU)))];simp,by simp[xM,kl],λi m row e1 e2=> ?_⟩;rcases zeU (by simp[kl]) e1 e2 with⟨e1,e2⟩|⟨rfl,rfl,rfl⟩
 .rw[Ax,BX (kl ▸ (Au.1 e1).1)] at e2;cases e2;obtain⟨a,xs',b,c⟩:=fU i m e1;exact⟨xs',yz (zj (zj (zj b))) (BH a),c⟩
 exact⟨_,yz zx (by simp;omega),hx.snoc rfl⟩
def zkW{α:Type}(l:mZ α)(n:Nat):L2.zei l fC (dE (n:Int))=l.take n:=by
 unfold L2.zei;rw[HT.zgp,HT.zd3,HH,Nat.sub_zero,<-List.take_eq_take_min]
def QxL.take(h:QxL xs qs)(n:Nat):QxL (xs.take n) (qs.take n):=by
 refine⟨by rw[B6,B6,h.1],λi x q e1 e2=> ?_⟩;have hi:i<n:=by have:=(Au.1 e1).1;rw[B6] at this;omega
 rw[BK hi] at e1 e2;exact h.2 i x q e1 e2
noncomputable def yT(many free:Nat)(rws:mZ (mZ Q2)):mZ (mZ Q2):=(rws.map λrow=>row.take many++[(0,1)])++[((BD many).map λc=>if c=free then ((1,1):Q2) else (0,1))++[(1,1)]]
def zmH{free:Nat}(hm:many<=9)(hl:rws.length<=20)(h:vY S rn rws)(hg:∀row∈rws,row.length=many+1):
  W (YD fu [.ref rn,.int many,.int (free:Int)] S) λv S'=>Le S S'/\∃cn,v= .ref cn/\S.length<=cn/\vY S' cn (yT many free rws):=by
 obtain⟨ms,h1,h2,h3⟩:=id h;walk_at "wr";unfold VE;refine zQ (xQ (yx (vq ?_)));ext;refine⟨_,zb h1,_,zb h1,?_⟩;refine yp (xs:=ms.map .ref) (by rw[Aw];exact AX (yE ⋯)) (λj es S1=>Le S S1/\∃ks:mZ Nat,es=ks.map .ref/\ks.length=j/\∀(i m:Nat) row,ks[i]? =dE m->rws[i]? =dE row->S.length<=m/\∃xs,S1[m]? =dE (.lst xs)/\QxL xs (row.take many++[(0,1)])) ?_ ?_ ?_ ?_;rintro j es S1 _ ⟨le,_⟩;exact zb (le.2 _ _ h1)
 .rintro j y es S1 hy c9 ⟨le,ks,rfl,kl,hk⟩;rw[Ax,AB] at hy;obtain⟨m,hy,rfl⟩:=hy;have hj:j<rws.length:=by rw[<-h2];exact(Au.1 hy).1
  have er:rws[j]? =dE rws[j]:=As hj;generalize rws[j]=row at er;obtain⟨xs,kT,iT⟩:=h3 j m row hy er;have tM:=hg row (Ay er);refine .of rfl ?_;ext;refine⟨rfl,?_⟩;ext;apply zfy (zb (le.2 _ _ kT));rw[zkW];ext;apply XZ (zb (zj zx)) (zb zx) (by rw[B6,iT.1];simp;omega);refine⟨le.app.app.app,ks++[(S1++[Ce.lst (xs.take many)]++[Ce.lst [Xv.ct [.int 0,.int 1]]]).length],by simp,by simp[kl],λi m row' e e2=> ?_⟩;rcases zbx kl e with e|⟨rfl,rfl⟩
  .obtain⟨a,xs',b,c⟩:=hk i m row' e e2;exact⟨a,xs',zj (zj (zj b)),c⟩
  rw[er] at e2;cases e2;exact⟨le.app.app.1,_,zx,(iT.take many).snoc rfl⟩
 .exact⟨.refl,[],rfl,rfl,λi m row e=>by simp at e⟩
 rintro es S1 c9 ⟨le,ks,rfl,kl,hk⟩;rw[Aw,h2] at kl;dsimp only[Bt];have dU:(S1++[Ce.lst (ks.map .ref)])[S1.length]? =dE (.lst (ks.map .ref)):=zx;have l2:Le S (S1++[Ce.lst (ks.map .ref)]):=le.app;have fU:∀(i m:Nat) row,ks[i]? =dE m->rws[i]? =dE row->m≠S1.length/\∃xs,(S1++[Ce.lst (ks.map .ref)])[m]? =dE (.lst xs)/\QxL xs (row.take many++[(0,1)]):=λi m row e e2=>by
  obtain⟨a,xs,b,c⟩:=hk i m row e e2;exact⟨B3 (Zw b),xs,zj b,c⟩
 have fk:S.length<=S1.length:=le.1;generalize S1.length=cn at dU fU fk ⊢;generalize S1++[Ce.lst (ks.map .ref)]=S2 at dU l2 fU ⊢;refine zQ (Xs (Vw ?_));ext;refine⟨⟨_,zb dU⟩,xy (vp (yx (Xu ?_)))⟩;ext;refine⟨⟨⋯,⋯⟩,yK 0 many,by rw[AV],?_⟩;refine yp (xs:=yK 0 many) (by rw[yD];exact AX (yE ⋯)) (λj es S3=>S2=S3/\QxL es ((BD j).map λc=>if c=free then ((1,1):Q2) else (0,1))) ?_ ?_ ?_ ?_;rintro j es S3 _ _;rw[AV];rintro j y es S3 hy ip ⟨rfl,hx⟩;obtain⟨hj,rfl⟩:=vt hy;rw[CV];refine .of rfl ?_;ext;refine⟨rfl,Yw ?_⟩;ext;refine yY (λe=> ?_) (λe=> ?_);ext;refine⟨rfl,?_⟩;rw[Dq,C5,Dp,if_pos ⋯];exact hx.snoc rfl;ext;refine⟨rfl,?_⟩;rw[Dq,C5,Dp,if_neg ⋯];exact hx.snoc rfl;exact⟨rfl,rfl,λi x q e=>by simp at e⟩
 rintro xs S3 ip ⟨rfl,hx⟩;rw[yD] at hx;ext;apply XZ (zb (zj zx)) (zb zx) (by rw[hx.1];simp;omega);ext;apply wD (xz (zj (zj (zj dU)))) (by rw[Aw,kl];exact yE ⋯);ext;have cQ:=Zw dU;refine⟨l2.app.app.app.set fk,cn,rfl,fk,ks++[(S2++[Ce.lst xs]++[Ce.lst [Xv.ct [.int 1,.int 1]]]).length],by rw[yG (zj (zj (zj dU)))];simp,by simp[yT,kl],λi m row e1 e2=> ?_⟩;rcases zeU (by simp[kl]) e1 e2 with⟨f1,f2⟩|⟨rfl,rfl,rfl⟩
 .rw[Ax,AB] at f2;obtain⟨row',f2,rfl⟩:=f2;obtain⟨a,xs',b,c⟩:=fU i m row' f1 f2;exact⟨xs',yz (zj (zj (zj b))) (BH a),c⟩
 exact⟨_,yz zx (by simp;omega),hx.snoc rfl⟩
def zkX{cs:mZ Nat}{c:Nat}:((cs.map λc:Nat=>Xv.int (c:Int)).any λz=>zep z (.int (c:Int)))=decide (c∈cs):=by
 rw[HZ,Dl,De,decide_eq_true_eq];constructor
 .rintro⟨d,hd,e⟩;have e:decide ((d:Int)=(c:Int))=fJ:=by simpa [zep] using e
  have:=of_decide_eq_true e;rw[show c=d by omega];exact hd
 intro h;exact⟨c,h,by simp[zep]⟩
def zh7{cs:mZ Nat}{c:Nat}:(Yk (.int (c:Int))&&(cs.map λc:Nat=>Xv.int (c:Int)).all Yk)=fJ:=by
 rw[HX,BV,Cy];exact⟨rfl,λd _=>rfl⟩
def zoQ(hs:xW S sn ss)(hm:many<=60)(hl:ss.length<many):
  W (YC fu [.ref sn,.int many] S) λv S'=>Le S S'/\∃free:Nat,v= .int (free:Int)/\free<many/\free∉zZ ss:=by
 obtain⟨st,s1,s2,s3⟩:=id hs;walk_at "wr";unfold VD;refine zQ (xQ (yx (vq ?_)));ext;refine⟨_,zb s1,_,zb s1,?_⟩;refine yp (xs:=st.map .ref) (by rw[Aw];exact AX (yE ⋯)) (λj es S1=>S=S1/\es=((zZ ss).take j).map λc:Nat=>Xv.int (c:Int)) ?_ ?_ ?_ ?_;rintro j es S1 _ ⟨rfl,_⟩;exact zb s1
 .rintro j y es S1 hy c9 ⟨rfl,rfl⟩;rw[Ax,AB] at hy;obtain⟨mi,hy,rfl⟩:=hy;have hj:j<ss.length:=by rw[<-s2];exact(Au.1 hy).1
  have es:ss[j]? =dE ss[j]:=As hj;generalize ss[j]=s at es;obtain⟨fn,pn,f1,f2,f3⟩:=(s3 j mi s hy es).ex;refine .of rfl ?_;ext;refine⟨rfl,vH ?_⟩;ext;refine⟨mi,_,.int (s.col:Int),rfl,f1,rfl,rfl,?_⟩;have:(zZ ss)[j]? =dE s.col:=by unfold zZ;rw[Ax,es];rfl
  rw[Bf,this];simp
 .exact⟨rfl,by simp⟩
 rintro es S1 c9 ⟨rfl,rfl⟩;have cl:(zZ ss).length=ss.length:=Aw ..;rw[Aw,s2,C9 ⋯];dsimp only[Bt];have hc:(S++[Ce.lst ((zZ ss).map λc:Nat=>Xv.int (c:Int))])[S.length]? =dE (.lst ((zZ ss).map λc:Nat=>Xv.int (c:Int))):=zx;have l1:Le S (S++[Ce.lst ((zZ ss).map λc:Nat=>Xv.int (c:Int))]):=Le.refl.app;generalize S.length=cn at hc ⊢;generalize S++[Ce.lst ((zZ ss).map λc:Nat=>Xv.int (c:Int))]=S1 at hc l1 ⊢;refine vG (vp (yx (Xu ?_)));ext;refine⟨⟨⋯,⋯⟩,yK 0 many,by rw[AV],?_⟩;refine zbk (xs:=yK 0 many) (by rw[yD];exact AX (yE ⋯)) (λj es S2=>S1=S2/\es=((BD j).filter λc=>decide (c∉zZ ss)).map λc:Nat=>Xv.int (c:Int)) ?_ ?_ ?_ ?_;rintro j es S2 _ _;rw[AV]
 .rintro j y es S2 hy _ ⟨rfl,rfl⟩;obtain⟨hj,rfl⟩:=vt hy;rw[CV];refine .of rfl ?_;ext;apply zpN (l:=(zZ ss).map λc:Nat=>Xv.int (c:Int)) (by unfold YT;rw[show(Xv.ref cn).tupOf=fC from rfl];exact zb hc) zh7;rw[zkX];refine⟨_,rfl,λe=> ?_,λe=> ?_⟩
  .ext;have:j∉zZ ss:=by simpa using e
   refine⟨rfl,?_⟩;rw[Dq,DT];simp[this]
  have:j∈zZ ss:=by simpa using e
  refine⟨rfl,?_⟩;rw[Dq,DT];simp[this]
 .exact⟨rfl,rfl⟩
 rintro es S2 _ ⟨rfl,rfl⟩;rw[yD];ext;obtain⟨c,iq,dW⟩:∃c,c<many/\c∉zZ ss:=by
  apply Bg;intro dS;have:=php ss.length many (λc=>(zZ ss).idxOf c) (λc hc=>by rw[<-cl];exact CD (Bg λz=>dS ⟨c,hc,z⟩)) λc d df hd=>by
   intro z;have e1:=Ds (CD (l:=zZ ss) (a:=c) (Bg λz=>dS ⟨c,⋯,z⟩));have e2:=Ds (CD (l:=zZ ss) (a:=d) (Bg λz=>dS ⟨d,hd,z⟩));have:=(e1.symm.trans (getElem_congr_idx z)).trans e2;omega
  omega
 cases e:(BD many).filter λc=>decide (c∉zZ ss) with
 |nil=>
  have:c∈(BD many).filter λc=>decide (c∉zZ ss):=Dk.2 ⟨Ca.2 iq,decide_eq_true dW⟩;rw[e] at this;cases this
 |cons f r=>
  have hf:f∈(BD many).filter λc=>decide (c∉zZ ss):=by rw[e];exact .head _
  obtain⟨f1,f2⟩:=Dk.1 hf;apply wf (zb zx) (z:= .int (f:Int)) zjE;exact⟨l1.app,f,rfl,Ca.1 f1,of_decide_eq_true f2⟩
def ByR.from(l:Le S0 S)(h:ByR q many rws S v S1):ByR q many rws S0 v S1:=by
 obtain⟨le,h⟩:=h;refine⟨l.trans le,h.imp (λz=>z) ?_⟩;rintro⟨rs,ss,a,b,c⟩;exact⟨rs,ss,a,b,c.from l⟩
def ByR.kind(h:ByR q many rws S v S'):v= .non\/∃n,v= .ref n:=by
 obtain⟨_,⟨rfl,_⟩|⟨rs,ss,_,_,_,ts,b,_,_,_,⟨rfl,_⟩|⟨xn,rfl,_⟩⟩⟩:=h;exact .inl rfl;exact .inl rfl;exact .inr ⟨xn,rfl⟩
def zkY(aD:Big fu)(hq:pN<=q/\zm 5500 (q:Int))(hm:many<=9)(hl:rws.length<=9)(h:vY S rn rws)(hg:∀row∈rws,row.length=many+1)(fV:∀row∈xM many rws,zb2 rws.length row)(jx:zbG q rws.length (xM many rws))(bI:S[1]? =dE (.tab Yc.t)):
  W (Ua fu [.ref rn,.int many,.int (q:Int)] S) λv S'=>∃w,ByR q rws.length (xM many rws) S w S'/\((w= .non/\v= .non)\/∃n,w= .ref n/\v= .tup [.str "none",.ref n]):=by
 walk_at "wr";unfold VZ;ext;refine(zkV hm ⋯ h hg).imp ?_;rintro _ S1 ⟨l1,cn,rfl,_,hc⟩;obtain⟨ms,h1,h2,_⟩:=id (h.le l1);ext;apply we (zb h1);rw[Aw,h2];ext;refine(ze1 aD hq hl (by simp[xM];omega) hc fV jx (l1.2 _ _ bI)).imp ?_;intro w S2 hb;have jU:=hb.from l1
 rcases hb.kind with rfl|⟨n,rfl⟩
 .ext;apply Yw;ext;apply wP;ext;refine⟨λ_=> ?_,nofun⟩;ext;exact⟨_,jU,.inl ⟨rfl,rfl⟩⟩
 ext;apply Yw;ext;apply wP;ext;refine⟨nofun,λ_=> ?_⟩;ext;exact⟨_,jU,.inr ⟨n,rfl,rfl⟩⟩
def zkZ(aD:Big fu)(hq:pN<=q/\zm 5500 (q:Int))(hm:many<=9)(hl:rws.length<=9)(h:vY S rn rws)(hg:∀row∈rws,row.length=many+1)(fV:∀row∈yT many free rws,zb2 many row)(jx:zbG q many (yT many free rws))(bI:S[1]? =dE (.tab Yc.t)):
  W (VY fu [.ref rn,.int many,xv,.int (free:Int),.int (q:Int)] S) λv S'=>∃w,ByR q many (yT many free rws) S w S'/\((w= .non/\v= .non)\/∃n,w= .ref n/\v= .tup [.str "many",xv,.ref n]):=by
 walk_at "wr";unfold VX;ext;refine(zmH hm ⋯ h hg).imp ?_;rintro _ S1 ⟨l1,cn,rfl,_,hc⟩;ext;refine(ze1 aD hq hm (by simp[yT];omega) hc fV jx (l1.2 _ _ bI)).imp ?_;intro w S2 hb;have jU:=hb.from l1
 rcases hb.kind with rfl|⟨n,rfl⟩
 .ext;apply Yw;ext;apply wP;ext;refine⟨λ_=> ?_,nofun⟩;ext;exact⟨_,jU,.inl ⟨rfl,rfl⟩⟩
 ext;apply Yw;ext;apply wP;ext;refine⟨nofun,λ_=> ?_⟩;ext;exact⟨_,jU,.inr ⟨n,rfl,rfl⟩⟩
def zh8(q many:Nat)(rws:mZ (mZ Q2))(S:Sto)(v:Xv)(S':Sto):Prop:=Le S S'/\((v= .non/\¬Pr q)\/∃rs ss w S1,Xc many rws rs/\Run q many rs ss/\VF many rs ss S w S1/\Le S1 S'/\
  ((w= .non/\∃u,ByR q rws.length (xM many rws) S u S'/\((u= .non/\v= .non)\/∃n,u= .ref n/\v= .tup [.str "none",.ref n]))\/
   (∃xn,w= .ref xn/\ss.length=many/\v= .tup [.str "one",.ref xn])\/
   ∃xn free u,w= .ref xn/\ss.length≠many/\free<many/\free∉zZ ss/\ByR q many (yT many free rws) S u S'/\((u= .non/\v= .non)\/∃n,u= .ref n/\v= .tup [.str "many",.ref xn,.ref n])))
def zp7(aD:Big fu)(hq:pN<=q/\zm 5500 (q:Int))(hm:many<=9)(hl:rws.length<=9)(h:vY S rn rws)(hg:∀row∈rws,zb2 many row)(jx:zbG q many rws)(fV:∀row∈xM many rws,zb2 rws.length row)(dY:zbG q rws.length (xM many rws))(um:∀free,free<many->(∀row∈yT many free rws,zb2 many row)/\zbG q many (yT many free rws))(bI:S[1]? =dE (.tab Yc.t)):
  W (xq fu [.ref rn,.int many,.int (q:Int)] S) (zh8 q many rws S):=by
 have lK:∀row∈rws,row.length=many+1:=λrow hr=>(hg row hr).len;walk_at "wr";unfold XM;ext;refine(ze0 aD hm ⋯ h hg).imp ?_;rintro _ S1 ⟨l1,wn,rs,rfl,hr,rl,ro⟩;have wr:Xc many rws rs:=⟨rl,ro⟩;ext;refine(zhd aD (AJ ∅ hq.1) hq.2 hr wr.ok ⋯ ⋯ (l1.2 _ _ bI)).imp ?_;rintro _ S2 ⟨l2,⟨rfl,jH⟩|⟨sn,ss,rfl,_,hs,aL,sb,gM⟩⟩;ext;apply yA;ext;apply wP;ext;refine⟨λ_=> ?_,nofun⟩;ext;exact⟨l1.trans l2,.inl ⟨rfl,jH⟩⟩;have qo:=l1.trans l2;ext;apply yA;ext;apply wP;ext;refine⟨nofun,λ_=>yh ?_⟩;ext;obtain⟨X,D,H,sol,hH⟩:=jx rs ss wr aL;refine(zhi aD hq ⋯ (hr.le l2) wr.ok hs aL sb sol hH).imp ?_;intro w S3 mr;have k4:=qo.trans mr.1;have nu:=mr.from qo
 have kind:w= .non\/∃n,w= .ref n:=by
  obtain⟨_,ts,b,_,_,_,⟨rfl,_⟩|⟨xn,rfl,_⟩⟩:=mr;exact .inl rfl;exact .inr ⟨xn,rfl⟩
 rcases kind with rfl|⟨xn,rfl⟩
 .ext;apply yA;ext;apply wP;ext;refine⟨λ_=> ?_,nofun⟩;ext;refine(zkY aD hq hm hl (h.le k4) lK fV dY (k4.2 _ _ bI)).imp ?_;rintro v S4 ⟨u,hb,hv⟩;exact⟨k4.trans hb.1,.inr ⟨rs,ss,_,S3,wr,⟨aL,gM⟩,nu,hb.1,.inl ⟨rfl,u,hb.from k4,hv⟩⟩⟩
 ext;apply yA;ext;apply wP;ext;refine⟨nofun,λ_=>yh ?_⟩;obtain⟨st,s1,s2,_⟩:=id (hs.le mr.1);refine zQ (yA ?_);ext;apply we (zb s1);ext;rw[Aw,s2];refine yY (λe=> ?_) (λe=>yh ?_);ext;exact⟨k4,.inr ⟨rs,ss,_,S3,wr,⟨aL,gM⟩,nu,.refl,.inr (.inl ⟨xn,rfl,⋯,rfl⟩)⟩⟩;ext;refine(zoQ (hs.le mr.1) ⋯ (by have:=aL.le;omega)).imp ?_;rintro _ S4 ⟨l4,free,rfl,f1,f2⟩;have gw:=k4.trans l4;obtain⟨g1,g2⟩:=um free f1;ext;refine(zkZ aD hq hm hl (h.le gw) lK g1 g2 (gw.2 _ _ bI)).imp ?_;rintro v S5 ⟨u,hb,hv⟩;exact⟨gw.trans hb.1,.inr ⟨rs,ss,_,S3,wr,⟨aL,gM⟩,nu,l4.trans hb.1,.inr (.inr ⟨xn,free,u,rfl,⋯,f1,f2,hb.from gw,hv⟩)⟩⟩
end
noncomputable def rq(q:Q2):Rat:=(q.1:Rat) / (q.2:Rat)
noncomputable def yq:Nat->(Nat->Rat)->Rat
 |0,_=>0
 |n+1,f=>yq n f+f n
def yf{f g:Nat->Rat}:∀n,(∀j,j<n->f j=g j)->yq n f=yq n g:=by
 intro n
 induction n with
 |zero=>intro _;rfl
 |succ n ih=>intro h;rw[yq,yq,ih λj hj=>h j ⋯,h n ⋯]
def Yf{f:Nat->Rat}:∀n,yq n (λj=>a*f j)=a*yq n f:=by
 intro n
 induction n with
 |zero=>rw[yq,yq,Dz]
 |succ n ih=>rw[yq,yq,ih,Rat.mul_add]
def zbH{f g:Nat->Rat}:∀n,yq n (λj=>f j+g j)=yq n f+yq n g:=by
 intro n
 induction n with
 |zero=>rw[yq,yq,yq,Fu]
 |succ n ih=>rw[yq,yq,yq,ih];grind
def TR{f:Nat->Rat}:∀n,(∀j,j<n->f j=0)->yq n f=0:=by
 intro n
 induction n with
 |zero=>intro _;rfl
 |succ n ih=>intro h;rw[yq,ih λj hj=>h j ⋯,h n ⋯,Fu]
def zh9{f:Nat->Nat->Rat}:∀n,yq n (λi=>yq m λj=>f i j)=yq m λj=>yq n λi=>f i j:=by
 intro n
 induction n with
 |zero=>exact(TR m λ_ _=>rfl).symm
 |succ n ih=>rw[yq,ih,<-zbH];rfl
def UT{f:Nat->Rat}:∀n,i<n->(∀j,j<n->j≠i->f j=0)->yq n f=f i:=by
 intro n
 induction n with
 |zero=>intro h;omega
 |succ n ih=>
  intro h1 h2;rw[yq];by_cases e:i=n;subst e;rw[TR i λj hj=>h2 j ⋯ ⋯,Rat.zero_add];rw[ih ⋯ λj hj cu=>h2 j ⋯ cu,h2 n ⋯ ⋯,Fu]
def zia{f:Nat->Int}:∀n,((wH n f:Int):Rat)=yq n λj=>(f j:Rat):=by
 intro n
 induction n with
 |zero=>rfl
 |succ n ih=>rw[wH,yq,<-ih,FK]
def zoR{l:mZ Int}{X:Nat->Int}:∀k,k<=l.length->dv (l.take k) X=wH k λc=>l.getD c 0*X c:=by
 intro k
 induction k with
 |zero=>intro _;rfl
 |succ k ih=>
  intro h;have e:l[k]? =dE l[k]:=As ⋯;rw[Bf,zkR,ih ⋯,e,wH,Av,e,B6,EH ⋯];simp[dv]
def YI{a:Int}(h:a≠0):(a:Rat)≠0:=λz=>h (Rat.intCast_eq_zero_iff.1 z)
def Ug:rq (1,1)=1:=by unfold rq;simp;grind
def Wa:rq (0,1)=0:=by unfold rq;simp;grind
def Wb(h:0<q.2):rq q*q.2=q.1:=Rat.div_mul_cancel (YI ⋯)
def zk0(hb:0<b):rq (vW t b)*b=t:=by
 have l:=zbE (t:=t) hb;generalize vW t b=q at l;have h1:=Wb l.pos.1;have h2:(q.1:Rat)*b=t*q.2:=by rw[<-C6,<-C6,l.eq]
 have h3:=YI (show q.2≠0 by have:=l.pos;omega);grind
noncomputable def el(rws:mZ (mZ Q2))(i c:Nat):Rat:=rq ((rws.getD i []).getD c (0,1))
def Vs(many:Nat)(rws:mZ (mZ Q2))(X:Nat->Int)(D:Int):Prop:=∀i,i<rws.length->yq many (λc=>el rws i c*(X c:Rat))=el rws i many*(D:Rat)
def US.val(h:US many row r)(X:Nat->Int):((zD r.1 X:Int):Rat)=(shB row:Rat)*yq many (λc=>rq (row.getD c (0,1))*(X c:Rat)):=by
 have hl:=h.len;have tl:(xT (row.take many) (shB row)).length=many:=by simp[xT];omega
 rw[h.eq];show((zD (ptE 0 _) X:Int):Rat)=_;rw[zkS,<-C9 (Ci tl),zoR many ⋯,zia,<-Yf];refine yf _ λc hc=> ?_;have e:row[c]? =dE (row[c]'⋯):=As _;generalize row[c]'⋯=q at e;obtain⟨q0,k,hk⟩:=h.dv q (Ay e);have e2:(xT (row.take many) (shB row))[c]? =dE (q.1*k):=by
  unfold xT;rw[Ax,BK hc,e,Cr,show shB row / q.2=k from Cb ⋯ hk]
 rw[Av,Av,e,e2,hk];simp only[By,Nat.add_zero,C6];have:=Wb q0;grind
def US.last(h:US many row r):(r.2:Rat)=shB row*rq (row.getD many (0,1)):=by
 have hl:=h.len;have e:row[many]? =dE (row[many]'⋯):=As _;generalize row[many]'⋯=q at e;obtain⟨q0,k,hk⟩:=h.dv q (Ay e);rw[h.eq];show(((row.getD many (0,1)).1*(shB row / (row.getD many (0,1)).2):Int):Rat)=_;rw[Av,e,By,show shB row / q.2=k from Cb ⋯ hk,hk,C6,C6];have:=Wb q0;grind
def US.sol{row:mZ Q2}{r:mZ (Nat×Int)×Int}(h:US many row r){X:Nat->Int}{D:Int}:zD r.1 X=r.2*D↔yq many (λc=>rq (row.getD c (0,1))*(X c:Rat))=rq (row.getD many (0,1))*(D:Rat):=by
 have hv:=h.val X;have hl:=h.last;have b0:=YI (show shB row≠0 by have:=h.pos;omega);constructor;intro e;rw[e,C6,hl] at hv;grind;intro e;rw[e] at hv;refine FN.1 (hv.trans ?_);rw[C6,hl,Rat.mul_assoc]
def Xc.sol(h:Xc many rws rs){X:Nat->Int}{D:Int}:Vs many rws X D↔∀r∈rs,zD r.1 X=r.2*D:=by
 have g:∀i (hi:i<rws.length),∃r,rs[i]? =dE r/\rws.getD i []=rws[i]/\US many rws[i] r:=λi hi=>by
  have e:rs[i]? =dE (rs[i]'(by have:=h.1;omega)):=As _;have e2:rws[i]? =dE rws[i]:=As hi;exact⟨_,e,by rw[Av,e2];rfl,h.2 i _ _ e e2⟩
 constructor
 .intro hs r hr;obtain⟨i,hi⟩:=Bi hr;have cW:i<rws.length:=by have:=(Au.1 hi).1;have:=h.1;omega
  obtain⟨r',e,e2,w⟩:=g i cW;rw[hi] at e;cases e;have:=hs i cW;unfold el at this;rw[e2] at this;exact w.sol.2 this
 intro hs i hi;obtain⟨r,e,e2,w⟩:=g i hi;unfold el;rw[e2];exact w.sol.1 (hs r (Ay e))
def zp8{E:Nat->Nat->Rat}{L X Y:Nat->Rat}(hx:∀i,i<n->yq many (λc=>E i c*X c)=L i)(hy:∀c,c<many->yq n (λi=>E i c*Y i)=0):yq n (λi=>L i*Y i)=0:=by
 rw[yf (g:=λi=>yq many λc=>X c*(E i c*Y i)) n λi hi=> ?_,zh9];refine TR _ λc hc=> ?_;rw[Yf,hy c hc,Dz]
 rw[<-hx i hi,Rat.mul_comm,<-Yf];exact yf _ λc _=>by grind
def Vl(hc:c<=many):(∀i,i<rws.length->el (xM many rws) c i=el rws i c)/\el (xM many rws) c rws.length=if c=many then 1 else 0:=by
 have dG:(Zn rws c).length=rws.length:=Aw ..;have jy:(xM many rws).getD c []=Zn rws c++[if c=many then (1,1) else (0,1)]:=by
  unfold xM;rw[Av];by_cases e:c=many;subst e;rw[AG (by simp),if_pos rfl];simp;rw[Az (by simp;omega),Ax,BX ⋯,if_neg e];rfl
 unfold el;rw[jy];refine⟨λi hi=> ?_,?_⟩
 .have pk:(Zn rws c)[i]? =dE ((rws.getD i []).getD c (0,1)):=by
   unfold Zn;rw[Ax,As hi,show rws.getD i []=rws[i] by rw[Av,As hi];rfl];rfl
  rw[Av,Az ⋯,pk];rfl
 rw[Av,AG ⋯,dG,BL];split;exact Ug;exact Wa
def ze2:(xM many rws).length=many+1:=by simp[xM]
set_option tactic.hygienic true in
def ze3{Y:Nat->Int}{E:Int}:Vs rws.length (xM many rws) Y E↔(∀c,c<many->yq rws.length (λi=>el rws i c*(Y i:Rat))=0)/\yq rws.length (λi=>el rws i many*(Y i:Rat))=E:=by
 have key:∀c,c<=many->(yq rws.length (λi=>el (xM many rws) c i*(Y i:Rat))=yq rws.length λi=>el rws i c*(Y i:Rat)):=λc hc=>yf _ λi hi=>by rw[(Vl hc).1 i hi]
 unfold Vs;rw[ze2];constructor;intro h;refine⟨λc hc=> ?_,?_⟩;have:=h c ⋯;rwa [key c ⋯,(Vl ⋯).2,if_neg ⋯,EI] at this;have:=h many ⋯;rwa [key many ⋯,(Vl ⋯).2,if_pos rfl,Eg] at this;rintro⟨h1,h2⟩ c hc;rw[key c ⋯,(Vl ⋯).2];split;rename_i e;rw[e,h2,Eg];rw[h1 c ⋯,EI]
def ze4{X Y:Nat->Int}{D E:Int}(hD:D≠0)(hE:E≠0)(hx:Vs many rws X D)(hy:Vs rws.length (xM many rws) Y E):False:=by
 obtain⟨h1,h2⟩:=ze3.1 hy;have:=zp8 hx h1;rw[yf (g:=λi=>(D:Rat)*(el rws i many*(Y i:Rat))) _ λi _=>by grind,Yf,h2] at this;rcases Rat.mul_eq_zero.1 this with z|z;exact YI hD z;exact YI hE z
def zcK:(yT many free rws).length=rws.length+1:=by simp[yT]
def ze5(hl:∀row∈rws,row.length=many+1):(∀i,i<rws.length->(∀c,c<many->el (yT many free rws) i c=el rws i c)/\el (yT many free rws) i many=0)/\(∀c,c<many->el (yT many free rws) rws.length c=if c=free then 1 else 0)/\el (yT many free rws) rws.length many=1:=by
 refine⟨λi hi=> ?_,?_⟩
 .have e:rws[i]? =dE rws[i]:=As hi;have tM:=hl _ (Ay e);have hr:(yT many free rws).getD i []=rws[i].take many++[(0,1)]:=by
   unfold yT;rw[Av,Az (by simpa using hi),Ax,e];rfl
  have jz:rws.getD i []=rws[i]:=by rw[Av,e];rfl
  unfold el;rw[hr,jz];refine⟨λc hc=> ?_,?_⟩;rw[Av,Av,Az (by simp;omega),BK hc];rw[Av,AG (by simp;omega)];simp[show many-min many rws[i].length=0 by omega,Wa]
 have hr:(yT many free rws).getD rws.length []=((BD many).map λc=>if c=free then ((1,1):Q2) else (0,1))++[(1,1)]:=by
  unfold yT;rw[Av,AG (by simp)];simp
 unfold el;rw[hr];refine⟨λc hc=> ?_,?_⟩;rw[Av,Az (by simpa using hc),Ax,BX hc];simp only[Cr,By];split;exact Ug;exact Wa;rw[Av,AG (by simp)];simp[Ug]
def zcL(hl:∀row∈rws,row.length=many+1)(hf:free<many){Z:Nat->Int}{E:Int}:Vs many (yT many free rws) Z E↔(∀i,i<rws.length->yq many (λc=>el rws i c*(Z c:Rat))=0)/\Z free=E:=by
 obtain⟨h1,h2,h3⟩:=ze5 (free:=free) hl;have k1:∀i,i<rws.length->yq many (λc=>el (yT many free rws) i c*(Z c:Rat))=yq many λc=>el rws i c*(Z c:Rat):=λi hi=>yf _ λc hc=>by rw[(h1 i hi).1 c hc]
 have k2:yq many (λc=>el (yT many free rws) rws.length c*(Z c:Rat))=Z free:=by
  rw[UT (i:=free) _ hf λc hc cu=>by rw[h2 c hc,if_neg cu,EI],h2 free hf,if_pos rfl,Eg]
 unfold Vs;rw[zcK];constructor;intro h;refine⟨λi hi=> ?_,?_⟩;have:=h i ⋯;rwa [k1 i hi,(h1 i hi).2,EI] at this;have:=h rws.length ⋯;rw[k2,h3,Eg] at this;exact FN.1 this;rintro⟨a,b⟩ i hi;by_cases e:i<rws.length;rw[k1 i e,(h1 i e).2,EI,a i e]
 obtain rfl:i=rws.length:=by omega
 rw[k2,h3,Eg,b]
def US.bd(h:US many row r){V P:Nat}(hv:∀q∈row,q.1.natAbs<=V*q.2.natAbs)(hp:zM row<=(P:Int)):(∀p∈r.1,p.2.natAbs<=V*P)/\r.2.natAbs<=V*P:=by
 have key:∀q∈row,(q.1*(shB row / q.2)).natAbs<=V*P:=λq hq=>by
  obtain⟨q0,k,hk⟩:=h.dv q hq;rw[show shB row / q.2=k from Cb ⋯ hk,Bz];have h1:=Bn k.natAbs (hv q hq);rw[Eh,<-Bz q.2 k,<-hk] at h1;exact AA h1 (Cm _ (by have:=h.pos;omega))
 rw[h.eq];refine⟨λp hp=> ?_,?_⟩;obtain⟨_,_,h3⟩:=zdP _ _ _ hp;unfold xT at h3;obtain⟨q,hq,e⟩:=Be.1 h3;rw[<-e];exact key q (CW hq)
 have hl:=h.len;have e:row.getD many (0,1)=row[many]'⋯:=by rw[Av,As];rfl
 show((row.getD many (0,1)).1*(shB row / (row.getD many (0,1)).2)).natAbs<=_;rw[e];exact key _ (C8 _)
def Sb(many:Nat)(rws:mZ (mZ Q2)):Prop:=∀row∈rws,zb2 many row/\∃V P:Nat,(∀q∈row,q.1.natAbs<=V*q.2.natAbs)/\zM row<=(P:Int)/\V*P<=2^764
def Sb.at(h:Sb many rws)(wr:Xc many rws rs)(hr:r∈rs):(∀p∈r.1,p.2.natAbs<=2^764)/\r.2.natAbs<=2^764:=by
 obtain⟨i,e⟩:=Bi hr;have er:rws[i]? =dE (rws[i]'(by have:=(Au.1 e).1;have:=wr.1;omega)):=As _;obtain⟨_,V,P,hv,hp,qP⟩:=h _ (Ay er);obtain⟨h1,h2⟩:=(wr.2 i r _ e er).bd hv hp;exact⟨λp hp=>AA (h1 p hp) qP,AA h2 qP⟩
def zcM{s:Nat}(hs:s<=6):(xh s λ_=>2*(s+1)*2^764+1)<=2^4614:=by
 have:∀n,n<=6->(xh n λ_=>2*(s+1)*2^764+1)<=(2^769)^n:=by
  intro n
  induction n with
  |zero=>intro _;exact AF _
  |succ n ih=>
   intro hn;rw[xh,DP];refine D2 (ih ⋯) (AA (Nat.add_le_add_right (Bn _ (show 2*(s+1)<=14 by omega)) 1) (*...*))
 exact AA (this s hs) (by rw[<-Ef];exact C3 ∅ ⋯)
def Sb.small(h:Sb many rws)(hq:pN<=q)(hm:many<=6):zbG q many rws:=λrs ss wr aL=>by
 obtain⟨X,D,sol⟩:=zkL aL (Dh.2 (AA ∅ hq)) (λr hr=>(wr.ok r hr).nd) (λ_=>2^764) λi r hi=>h.at wr (Zq aL (Ay hi));refine⟨X,D,_,sol,?_⟩;unfold bH;rw[show(2:Int)^4614=((2^4614:Nat):Int) from(Dr 2 4614).symm];exact Dh.2 (zcM (AA aL.le hm))
def Gd(q many:Nat)(rws:mZ (mZ Q2)):Prop:=Pr q/\∀rs ss,Xc many rws rs->Run q many rs ss->(∀V:Nat->Int,(∀r∈chs rs ss,zD r.1 V=0)->∀r∈rs,zD r.1 V=0)/\∀f,f∉zZ ss->∃Z:Nat->Int,Z f≠0/\∀r∈rs,zD r.1 Z=0
def Sb.gd(h:Sb many rws)(hm:many<=6):Gd pB many rws:=⟨zmp,λrs ss wr run=>by
 have big:=zf6.1;generalize pB=P at run big;have q2:(2:Int)<=(P:Int):=Dh.2 (AA (*...*) big);have hz:∀f,f∉zZ ss->∃Z:Nat->Int,Z f≠0/\(∀c,c∉zZ ss->c≠f->Z c=0)/\∀r∈rs,zD r.1 Z=0:=λf hf=>by
  obtain⟨Z,z0,z1,z2,z3⟩:=zf run.1 q2 (λr hr=>(wr.ok r hr).nd) hf (λ_=>2^764) λi r hi=>(h.at wr (Zq run.1 (Ay hi))).1;refine⟨Z,z0,z1,λr hr=> ?_⟩;have eV:=wr.ok r hr;have h1:=zoO (h.at wr hr).1 λc=>AA (z3 c) (zcM (AA run.1.le hm));have h3:(zD r.1 Z).natAbs<P:=B9 (AA h1 (Bn _ (AA (eV.nd.len λp hp=>(eV.lt p hp).1) hm))) (AJ (*...*) big);obtain⟨fs,f1,f2⟩:=run.2 r hr;have a0:=run.1.ats0 (x:=Z) λs hs ps l er=>by
   obtain⟨j,hj⟩:=Bi hs;obtain⟨r',g1,g2⟩:=XY run.1 hj;rw[er] at g1;cases g1;rw[z2 _ (Ay g2)];exact .refl
  have h4:=(f2 Z).trans (zdJ (y:=λ_=>0) λq hq=>a0 q.1 (f1 q hq));rw[YZ] at h4;exact h4.small ⋯ ⋯
 refine⟨λV hV=>zqq run.1 q2 (λr hr p hp=>((wr.ok r hr).lt p hp).1) hz hV,λf hf=> ?_⟩;obtain⟨Z,z0,_,z2⟩:=hz f hf
 exact⟨Z,z0,z2⟩⟩
structure RB(many:Nat)(row:mZ Q2):Prop where
 len:row.length=many+1
 pos:∀q∈row,0<q.2
 par:∀(c:Nat) q,c<many->row[c]? =dE q->q.1.natAbs<=2^37*q.2.natAbs/\q.2.natAbs<=2^36
 las:∀q,row[many]? =dE q->q.1.natAbs<=2^236*q.2.natAbs/\q.2.natAbs<=2^88
 pro:zM row<=((2^144:Nat):Int)
structure RBs(many:Nat)(rws:mZ (mZ Q2)):Prop where
 m:1<=many/\many<=5
 n:rws.length<=6
 rb:∀row∈rws,RB many row
def RB.q(h:RB many row):∀q∈row,0<q.2/\q.2.natAbs<=2^88/\q.1.natAbs<=2^236*q.2.natAbs:=λq hq=>by
 obtain⟨c,hc⟩:=Bi hq;have hl:=h.len;have dG:=(Au.1 hc).1;by_cases e1:c<many;obtain⟨h1,h2⟩:=h.par c q e1 hc;exact⟨h.pos q hq,AA h2 ∅,AA h1 (Bn _ ∅)⟩
 obtain rfl:c=many:=by omega
 obtain⟨h1,h2⟩:=h.las q hc;exact⟨h.pos q hq,h2,h1⟩
def zdQ{q:Q2}(h:0<q.2/\q.2.natAbs<=2^88/\q.1.natAbs<=2^236*q.2.natAbs):0<q.2/\zm 100 q.2/\zm 900 q.1:=⟨h.1,B9 h.2.1 ∅,B9 (AA h.2.2 (Cm _ h.2.1)) ∅⟩
def zhk{P:Nat}(hl:row.length=many+1)(h:∀q∈row,0<q.2/\q.2.natAbs<=2^88/\q.1.natAbs<=2^236*q.2.natAbs)(hp:zM row<=(P:Int))(hP:P<=2^528):zb2 many row/\∃V P:Nat,(∀q∈row,q.1.natAbs<=V*q.2.natAbs)/\zM row<=(P:Int)/\V*P<=2^764:=
 ⟨⟨hl,λq hq=>zdQ (h q hq)⟩,2^236,P,λq hq=>(h q hq).2.2,hp,AA (Cm _ hP) (*...*)⟩
def RBs.orig(h:RBs many rws):Sb many rws:=λrow hr=>zhk (h.rb row hr).len (h.rb row hr).q (h.rb row hr).pro (*...*)
def zgd(h:∀q∈row,0<q.2)(k:Nat):zM (row.take k)<=zM row:=by
 have e:zM row=zM (row.take k)*zM (row.drop k):=by rw[<-xJ,Gb]
 have h1:=xj (row.take k) λq hq=>h q (CW hq);have h2:=xj (row.drop k) λq hq=>h q (Gj hq);have:=B1 (show 1<=zM (row.drop k) by omega) (BP h1);omega
def zoS{q:Q2}(h:q.2=1/\q.1.natAbs<=1):0<q.2/\q.2.natAbs<=2^88/\q.1.natAbs<=2^236*q.2.natAbs:=by
 obtain⟨a,b⟩:=h;rw[a];exact⟨∅,∅,AA b ∅⟩
def RBs.level(h:RBs many rws):Sb many (yT many free rws):=λrow hi=>by
 unfold yT at hi;rcases AU.1 hi with hi|hi;obtain⟨n8,hr,rfl⟩:=Be.1 hi;have r:=h.rb n8 hr;refine zhk (P:=2^144) (by simp[r.len]) (λq hq=> ?_) ?_ (*...*);rcases AU.1 hq with hq|hq;exact r.q q (CW hq);rw[AI.1 hq];exact zoS ⟨rfl,∅⟩;rw[xJ,show zM [(0,1)]=1 from rfl,CF];exact Bv (zgd r.pos many) r.pro
 rw[AI.1 hi];have rq:∀q∈((BD many).map λc=>if c=free then ((1,1):Q2) else (0,1))++[(1,1)],q.2=1/\q.1.natAbs<=1:=λq hq=>by
  rcases AU.1 hq with hq|hq
  .obtain⟨c,_,rfl⟩:=Be.1 hq;split<;>simp
  rw[AI.1 hq];simp
 refine zhk (P:=1) (by simp) (λq hq=>zoS (rq q hq)) ?_ (*...*);have:=Ve (m:=1) _ λq hq=>by
  rw[(rq q hq).1];exact⟨∅,∅⟩
 rwa [Int.one_pow] at this
def RBs.turn(h:RBs many rws):Sb rws.length (xM many rws):=λrow hi=>by
 obtain⟨c,z,hc,hz,rfl⟩:∃c z,c<=many/\(z=((0,1):Q2)\/z=(1,1))/\row=Zn rws c++[z]:=by
  unfold xM at hi;rcases AU.1 hi with hi|hi;obtain⟨c,hc,rfl⟩:=Be.1 hi;exact⟨c,_,AX (Ca.1 hc),.inl rfl,rfl⟩;exact⟨many,_,AF _,.inr rfl,AI.1 hi⟩
 have z1:z.2=1/\z.1.natAbs<=1:=by rcases hz with rfl|rfl<;>simp
 have col:∀q∈Zn rws c,0<q.2/\q.2.natAbs<=2^88/\q.1.natAbs<=2^236*q.2.natAbs:=λq hq=>by
  unfold Zn at hq;obtain⟨row,hr,rfl⟩:=Be.1 hq;have r:=h.rb row hr;have hl:=r.len;exact r.q _ (by rw[Av,As ⋯];exact C8 _)
 refine zhk (P:=2^528) (by simp[Zn]) (λq hq=> ?_) ?_ (AF _);rcases AU.1 hq with hq|hq;exact col q hq;rw[AI.1 hq];exact zoS z1;rw[xJ,show zM [z]=1 by simp[zM,z1.1],CF];have:=Ve (m:=((2^88:Nat):Int)) (Zn rws c) λq hq=>⟨(col q hq).1,by have:=col q hq;omega⟩;apply Bv this;rw[<-Dr,<-Ef];exact Dh.2 (C3 ∅ (by have:=h.n;simp[Zn];omega))
section
variable{S':Sto}{x y:Xv}
structure Fd(many:Nat)(rws:mZ (mZ Q2))(S:Sto)(n:Nat)(ts:mZ Int)(b:Int):Prop where
 cell:S[n]? =dE (.lst ((ts.map (vW · b)).map qv))
 len:ts.length=many
 pos:0<b/\zm 50000 b/\∀t∈ts,zm 2200000 t
 sol:Vs many rws (vec ts) b
def Fd.le(h:Fd many rws S n ts b)(l:Le S S'):Fd many rws S' n ts b:=⟨l.2 _ _ h.cell,h.len,h.pos,h.sol⟩
def VF.fd(wr:Xc many rws rs)(h:VF many rs ss S (.ref n) S'):∃ts b,Fd many rws S' n ts b:=by
 obtain⟨_,ts,b,h1,h2,_,⟨z,_⟩|⟨xn,e,_,h3,h4⟩⟩:=h;cases z;cases e;exact⟨ts,b,h3,h1,h2,wr.sol.2 h4⟩
def VF.hit{q:Nat}{ss:mZ Stp}(wr:Xc many rws rs)(run:Run q many rs ss)(h:VF many rs ss S .non S')(g:Gd q many rws){X:Nat->Int}{D:Int}(hD:D≠0)(hX:Vs many rws X D):False:=by
 obtain⟨_,ts,b,h1,h2,h3,⟨_,z⟩|⟨xn,e,_⟩⟩:=h;have hx:=wr.sol.1 hX;refine z λr hr=> ?_;have:=(g.2 rs ss wr run).1 (λc=>D*vec ts c+ -b*X c) (λr hr=>by rw[XX,h3 r hr,hx r (Zq run.1 hr)];grind) r hr;rw[XX,hx r hr] at this;apply DH hD;grind;cases e
def ByR.fd(h:ByR q many rws S (.ref n) S'):∃ts b,Fd many rws S' n ts b:=by
 obtain⟨_,⟨z,_⟩|⟨rs,ss,wr,_,m⟩⟩:=h;cases z;exact m.fd wr
def ByR.hit{q:Nat}(h:ByR q many rws S .non S')(g:Gd q many rws){X:Nat->Int}{D:Int}(hD:D≠0)(hX:Vs many rws X D):False:=by
 obtain⟨_,⟨_,z⟩|⟨rs,ss,wr,run,m⟩⟩:=h;exact z g.1;exact m.hit wr run g hD hX
def zp9{l:mZ Nat}{n:Nat}(nd:l.Nodup)(h:∀x∈l,x<n):l.length<=n:=by
 have e:∀i (hi:i<l.length),l.getD i 0=l[i]:=λi hi=>by rw[Av,As hi];rfl
 refine php n l.length (λi=>l.getD i 0) (λi hi=>by rw[e i hi];exact h _ (C8 _)) λi j gU hj z=> ?_;rw[e i ⋯,e j hj] at z;have:=(Cv nd).1 z;omega
def zk1(h:Sts m many rows ss)(e:ss.length=many)(hc:c<many):c∈zZ ss:=by
 apply Bg;intro hn;have cl:(zZ ss).length=ss.length:=Aw ..;have:=zp9 (BU.2 ⟨hn,h.nodup.1⟩) (n:=many) λx hx=>by
  rcases AW.1 hx with rfl|hx;exact hc;exact h.nodup.2 x hx
 rw[B7] at this;omega
structure KnM(many:Nat)(rws:mZ (mZ Q2)):Prop where
 x:∃X D,D≠0/\Vs many rws X D
 z:∃Z:Nat->Int,(∃c,Z c≠0)/\(∀c,many<=c->Z c=0)/\Vs many rws Z 0
def zmI(many:Nat)(rws:mZ (mZ Q2))(v:Xv)(S':Sto):Prop:=∃xn zn ts b us e free,v= .tup [.str "many",.ref xn,.ref zn]/\Fd many rws S' xn ts b/\free<many/\Fd many (yT many free rws) S' zn us e
def zmJ(many:Nat)(rws:mZ (mZ Q2))(v:Xv)(S':Sto):Prop:=∃n ts b,v= .tup [.str "none",.ref n]/\Fd rws.length (xM many rws) S' n ts b
def zh8.mny{q:Nat}{v:Xv}(h:zh8 q many rws S v S')(hq:pN<=q)(kn:KnM many rws)(hl:∀row∈rws,row.length=many+1):(v= .non/\¬(Gd q many rws/\∀free,Gd q many (yT many free rws)))\/zmI many rws v S':=by
 obtain⟨X,D,hD,hX⟩:=kn.x;have q2:(2:Int)<=(q:Int):=Dh.2 (AA ∅ hq);obtain⟨le,⟨rfl,hn⟩|⟨rs,ss,w,S1,wr,run,mr,l1,h⟩⟩:=h;exact .inl ⟨rfl,λg=>hn g.1.1⟩
 rcases h with⟨rfl,u,bu,⟨rfl,rfl⟩|⟨n,rfl,rfl⟩⟩|⟨xn,rfl,hs,rfl⟩|⟨xn,free,u,rfl,hs,hf,p8,bu,hv⟩
 .exact .inl ⟨rfl,λg=>mr.hit wr run g.1 hD hX⟩
 .obtain⟨ts,b,fd⟩:=bu.fd;exact(ze4 hD (by have:=fd.pos.1;omega) hX fd.sol).elim
 .obtain⟨Z,⟨c,hc⟩,hz,hZ⟩:=kn.z;refine absurd (run.1.only q2 (x:=Z) (λc hc=>hz c (Hk λz=>hc (zk1 run.1 hs z))) (λs _ ps l er=> ?_) c) hc;have:=wr.sol.1 hZ _ (Ay er);rwa [CU] at this
 rcases hv with⟨rfl,rfl⟩|⟨n,rfl,rfl⟩
 .refine .inl ⟨rfl,λg=> ?_⟩;obtain⟨Z,z2,z1⟩:=(g.1.2 rs ss wr run).2 free p8;refine bu.hit (g.2 free) z2 ((zcL hl hf).2 ⟨λi hi=> ?_,rfl⟩);have:=(wr.sol (X:=Z) (D:=0)).2 (λr hr=>by rw[z1 r hr,CU]) i hi;rwa [show((0:Int):Rat)=0 from rfl,Dz] at this
 obtain⟨ts,b,fd⟩:=mr.fd wr;obtain⟨us,e,fe⟩:=bu.fd;exact .inr ⟨xn,n,ts,b,us,e,free,rfl,fd.le l1,hf,fe⟩
def zh8.none(h:zh8 q many rws S v S'){Y:Nat->Int}{E:Int}(hE:E≠0)(hY:Vs rws.length (xM many rws) Y E):(v= .non/\¬Gd q rws.length (xM many rws))\/zmJ many rws v S':=by
 obtain⟨le,⟨rfl,hn⟩|⟨rs,ss,w,S1,wr,run,mr,l1,h⟩⟩:=h;exact .inl ⟨rfl,λg=>hn g.1⟩
 have bad:∀xn,w≠ .ref xn:=λxn e=>by
  subst e;obtain⟨ts,b,fd⟩:=mr.fd wr;exact ze4 (by have:=fd.pos.1;omega) hE fd.sol hY
 rcases h with⟨rfl,u,bu,hv⟩|⟨xn,e,_⟩|⟨xn,free,u,e,_⟩
 .rcases hv with⟨rfl,rfl⟩|⟨n,rfl,rfl⟩
  .exact .inl ⟨rfl,λg=>bu.hit g hE hY⟩
  obtain⟨ts,b,fd⟩:=bu.fd;exact .inr ⟨n,ts,b,rfl,fd⟩
 .exact absurd e (bad xn)
 exact absurd e (bad xn)
def zk2(mR:∀q:Nat,pN<=q->q<=p->∀S1,Le S S1->W (xq fu [.ref rn,.int many,.int (q:Int)] S1) λv S2=>Le S1 S2/\((v= .non/\q≠p)\/((∃l,v= .tup l)/\P v S2))):∀(j n q:Nat) v S1,q+2*j=p->j<n->pN<=q->Le S S1->((v= .non/\q≠p)\/((∃l,v= .tup l)/\P v S1))->
  WS (Xr (bE (eUn za5 (za 3))) (zq (zB (eOp vw (za 2) (sj 2)) (gN 2)) (zB (zy (xq fu) [za 0,za 1,za 2]) (gN 3))) n [dE (.ref rn),dE (.int many),dE (.int (q:Int)),dE v] S1) (λρ S'=>∃m v,ρ=[dE (.ref rn),dE (.int many),m,dE v]/\Le S S'/\P v S') (λ_ _=>False):=by
 intro j
 induction j with
 |zero=>
  intro n q v S1 e hn h1 l hv;obtain⟨n,rfl⟩:∃k,n=k+1:=⟨n-1,⋯⟩;obtain⟨⟨w,rfl⟩,hv⟩:=hv.resolve_left λz=>z.2 ⋯;apply Xt;ext;apply wP;ext;refine⟨nofun,λ_=> ?_⟩;ext;exact⟨_,_,rfl,l,hv⟩
 |succ j ih=>
  intro n q v S1 e hn h1 l hv;obtain⟨n,rfl⟩:∃k,n=k+1:=⟨n-1,⋯⟩;apply Xt;ext;apply wP;ext;rcases hv with⟨rfl,_⟩|⟨⟨w,rfl⟩,hv⟩
  .refine⟨λ_=> ?_,nofun⟩;ext;rw[show(q:Int)+2=((q+2:Nat):Int) by omega];refine(mR (q+2) ⋯ ⋯ S1 l).imp ?_;rintro v S2 ⟨l2,hv⟩;exact ih n (q+2) v S2 ⋯ ⋯ ⋯ (l.trans l2) hv
  refine⟨nofun,λ_=> ?_⟩;ext;exact⟨_,_,rfl,l,hv⟩
def zk3(aD:Big fu)(mR:∀q:Nat,pN<=q->q<=pB->∀S1,Le S S1->W (xq fu [.ref rn,.int many,.int (q:Int)] S1) λv S2=>Le S1 S2/\((v= .non/\q≠pB)\/((∃l,v= .tup l)/\P v S2))):
  W (wG fu [.ref rn,.int many] S) λv S'=>Le S S'/\P v S':=by
 obtain⟨p1,p2,p3⟩:=zf6;have p0:pN<=pB:=AA (*...*) p1;generalize pB=p at*;walk_at "wr";unfold XN;ext;rw[show(1000000000000000000000000000000000000000000009:Int)=((pN:Nat):Int) by decide];refine(mR pN (AF _) p0 S .refl).imp ?_;rintro v S1 ⟨l1,hv⟩;ext;apply zjB;have pe:pN % 2=1:=by decide
 have rE:(p-pN) / 2<fu:=AJ (B9 (AA (Nat.div_le_self _ _) (Nat.sub_le _ _)) p2) (AA (C3 ∅ ∅) aD);rcases zk2 (S:=S) mR ((p-pN) / 2) fu pN v S1 ⋯ rE (AF _) l1 hv with⟨ρ,S2,e,m,v,rfl,l2,hv⟩|⟨_,_,_,z⟩
 .refine .nx e ?_;ext;exact⟨l2,hv⟩
 exact z.elim
def RBs.by(aD:Big fu)(B:RBs many rws)(hq:pN<=q/\q<=pB)(h:vY S rn rws)(bI:S[1]? =dE (.tab Yc.t)):W (xq fu [.ref rn,.int many,.int (q:Int)] S) (zh8 q many rws S):=by
 have m6:many<=6:=by have:=B.m;omega
 have n6:=B.n;exact zp7 aD ⟨hq.1,B9 hq.2 zf6.2.1⟩ ⋯ ⋯ h (λr hr=>(B.orig r hr).1) (B.orig.small hq.1 m6) (λr hr=>(B.turn r hr).1) (B.turn.small hq.1 n6) (λfree _=>⟨λr hr=>(B.level r hr).1,B.level.small hq.1 m6⟩) bI
def zoT(aD:Big fu)(B:RBs many rws)(kn:KnM many rws)(h:vY S rn rws)(bI:S[1]? =dE (.tab Yc.t)):W (wG fu [.ref rn,.int many] S) λv S'=>Le S S'/\zmI many rws v S':=by
 have m6:many<=6:=by have:=B.m;omega
 refine zk3 aD λq q1 q2 S1 l=>(B.by aD ⟨q1,q2⟩ (h.le l) (l.2 _ _ bI)).imp λv S2 ag=>⟨ag.1,?_⟩;rcases ag.mny q1 kn (λrow hr=>(B.rb row hr).len) with⟨e,z⟩|a;exact .inl ⟨e,λe=>z (e ▸ ⟨B.orig.gd m6,λfree=>B.level.gd m6⟩)⟩;refine .inr ⟨?_,a⟩;obtain⟨_,_,_,_,_,_,_,e,_⟩:=a;exact⟨_,e⟩
def zoU(aD:Big fu)(B:RBs many rws){Y:Nat->Int}(hF:F≠0)(hY:Vs rws.length (xM many rws) Y F)(h:vY S rn rws)(bI:S[1]? =dE (.tab Yc.t)):W (wG fu [.ref rn,.int many] S) λv S'=>Le S S'/\zmJ many rws v S':=by
 refine zk3 aD λq q1 q2 S1 l=>(B.by aD ⟨q1,q2⟩ (h.le l) (l.2 _ _ bI)).imp λv S2 ag=>⟨ag.1,?_⟩;rcases ag.none hF hY with⟨e,z⟩|a;exact .inl ⟨e,λe=>z (e ▸ B.turn.gd B.n)⟩;refine .inr ⟨?_,a⟩;obtain⟨_,_,_,e,_⟩:=a;exact⟨_,e⟩
end
section
variable{S':Sto}{x y:Xv}
def Scr(ns:mZ Int)(S:Sto):Prop:=S[0]? =dE (.frz (ns.map .int))
def Scr.le(h:Scr ns S)(l:Le S S'):Scr ns S':=l.2 _ _ h
def Scr.lst(h:Scr ns S):zF S (.ref 0)=dE (ns.map .int):=by unfold Scr at h;simp[zF,h]
def zk4(hk:0<=k)(hn:0<ns.length):∃c,atI (ns.map Xv.int) (k % (ns.length:Int))=dE (.int c):=by
 have h1:=BG k (show(ns.length:Int)≠0 by omega);have h2:=Br k (show(0:Int)<ns.length by omega);have hi:(k % (ns.length:Int)).toNat<ns.length:=by omega
 exact⟨_,ZW h1 (by rw[Ax,As hi];rfl)⟩
def wx(hs:Scr ns S)(hk:0<=k/\k<=500)(hp:0<p)(hm:0<m):W (zJ fu [.ref 0,.int k,.int p,.int m] S) λv S'=>S=S'/\∃d,v= .int d/\0<=d/\d<m:=by
 have fin:∀c:Int,W (eOp vZ (eOp vZ (eOp vw (eOp zaq (eOp vw (za 4) (eOp yP (za 1) (za 1))) (sj 48271)) (sj 11)) (za 2)) (za 3) [dE (.ref 0),dE (.int k),dE (.int p),dE (.int m),dE (.int c)] S) λv S'=>S=S'/\∃d,v= .int d/\0<=d/\d<m:=λc=>by
  ext;apply yH (n:=10) (m:=10) (zm.small ⋯ ∅) (zm.small ⋯ ∅) ∅;ext;apply xR hp;ext;apply xR hm;exact⟨rfl,_,rfl,BG _ ⋯,Br _ hm⟩
 walk_at "wr";unfold XO;ext;apply yA;ext;apply we hs.lst;rw[Aw];ext;refine yY (λh=> ?_) (λh=> ?_);apply xQ;ext;apply we hs.lst;rw[Aw];ext;apply xR ⋯;obtain⟨c,hc⟩:=zk4 (ns:=ns) hk.1 ⋯;apply wf hs.lst hc;apply vG;exact fin c;refine yh (vG ?_);exact fin 0
def zk5(hs:Scr ns S)(hk:0<=k):W (ZP fu [.ref 0,.int k] S) λv S'=>S=S'/\∃c,v= .int c:=by
 walk_at "wr";unfold XQ;refine zQ (yA ?_);ext;apply we hs.lst;rw[Aw];ext;refine yY (λh=> ?_) (λh=>yh ?_);ext;apply we hs.lst;rw[Aw];ext;apply xR ⋯;obtain⟨c,hc⟩:=zk4 (ns:=ns) hk ⋯;apply wf hs.lst hc;exact⟨rfl,c,rfl⟩;ext;exact⟨rfl,0,rfl⟩
def Fv(V b:Nat)(q:Q2):Prop:=0<q.2/\q.2.natAbs<=b/\q.1.natAbs<=V*q.2.natAbs
def Fv.low{V B:Nat}{t b:Int}(h0:0<b)(hb:b.natAbs<=B)(ht:t.natAbs<=V):Fv V B (vW t b):=by
 have l:=zbE (t:=t) h0;refine⟨l.pos.1,by have:=l.pos;omega,AA l.ab (AA ht (Nat.le_mul_of_pos_right _ (by have:=l.pos;omega)))⟩
def zmK(aD:Big fu)(hs:Scr ns S)(hk:0<=k/\k<=500):W (Zm fu [.ref 0,.int k] S) λv S'=>S=S'/\∃q,v=qv q/\Fv (2^196) 9 q:=by
 walk_at "wr";unfold Zl;ext;refine(wx hs hk ∅ ∅).imp ?_;rintro _ _ ⟨rfl,w,rfl,w0,w4⟩;ext;refine(wx hs hk ∅ ∅).imp ?_;rintro _ _ ⟨rfl,b,rfl,b0,b9⟩;ext;apply yA;ext;refine yY (λ_=> ?_) (λ_=>yh ?_);ext;exact⟨rfl,(0,1),rfl,∅,∅,Cj _⟩;refine zQ (yA ?_);ext;have bb:zm 1000000 (1+b):=zm.small ⋯ ∅;refine yY (λ_=> ?_) (λ_=>yh ?_)
 .ext;refine(zk5 hs hk.1).imp ?_;rintro _ _ ⟨rfl,c,rfl⟩;ext;apply xR ∅;ext;refine(Xb aD ⋯ bb).imp ?_;rintro _ _ ⟨rfl,rfl⟩;refine⟨rfl,_,rfl,.low ⋯ ⋯ ?_⟩;have h1:=BG c (show(2*10^(59:Int).toNat:Int)≠0 by decide);have h2:=Br c (show(0:Int)<2*10^(59:Int).toNat by decide);have h3:(10^(59:Int).toNat:Int)=100000000000000000000000000000000000000000000000000000000000:=by decide
  have h4:(100000000000000000000000000000000000000000000000000000000001:Nat)<=2^196:=by decide
  rw[h3] at h1 h2 ⊢;omega
 ext;refine(wx hs hk ∅ ∅).imp ?_;rintro _ _ ⟨rfl,d,rfl,d0,d9⟩;ext;refine(Xb aD ⋯ bb).imp ?_;rintro _ _ ⟨rfl,rfl⟩;exact⟨rfl,_,rfl,.low ⋯ ⋯ (AA (show _<=6 by omega) ∅)⟩
def zmL(aD:Big fu)(hs:Scr ns S)(hk:0<=k/\k<=500):W (XU fu [.ref 0,.int k] S) λv S'=>S=S'/\∃q,v=qv q/\Fv (2^30) 4 q:=by
 walk_at "wr";unfold XT;ext;refine(wx hs hk ∅ ∅).imp ?_;rintro _ _ ⟨rfl,w,rfl,w0,w4⟩;ext;apply yA;ext;refine yY (λ_=> ?_) (λ_=>yh ?_)
 .ext;refine(zk5 hs hk.1).imp ?_;rintro _ _ ⟨rfl,c,rfl⟩;ext;apply xR ∅;ext;have h1:=BG c (show(2*10^(9:Int).toNat-1:Int)≠0 by decide);have h2:=Br c (show(0:Int)<2*10^(9:Int).toNat-1 by decide);have h3:(10^(9:Int).toNat:Int)=1000000000:=by decide
  rw[h3] at h1 h2 ⊢;have h4:2^30*(1:Int).natAbs=1073741824:=by decide
  refine⟨rfl,(c % (2*1000000000-1)-1000000000+1,1),rfl,EZ,(by decide:(1:Int).natAbs<=4),?_⟩;show(c % (2*1000000000-1)-1000000000+1).natAbs<=2^30*(1:Int).natAbs;omega
 ext;refine(wx hs hk ∅ ∅).imp ?_;rintro _ _ ⟨rfl,d,rfl,d0,d9⟩;ext;refine(wx hs hk ∅ ∅).imp ?_;rintro _ _ ⟨rfl,b,rfl,b0,b9⟩;ext;refine(Xb aD ⋯ (zm.small ⋯ ∅)).imp ?_;rintro _ _ ⟨rfl,rfl⟩;exact⟨rfl,_,rfl,.low ⋯ ⋯ (AA (show _<=2 by omega) ∅)⟩
structure zdR(a b:mZ Q2)(q:Q2):Prop where
 pos:0<q.2/\q.2<=zM (a.take b.length)*zM b
 co:C1 q.1 q.2=1
 val:rq q=yq b.length λc=>rq (a.getD c (0,1))*rq (b.getD c (0,1))
 bd:∀V V':Nat,(∀q∈a,q.1.natAbs<=V*q.2.natAbs)->(∀q∈b,q.1.natAbs<=V'*q.2.natAbs)->q.1.natAbs<=b.length*(V*V')*q.2.natAbs
def Uh(aD:Big fu)(hr:S[rn]? =dE (.lst as))(qY:QxL as a)(hx:S[xn]? =dE (.lst (b.map qv)))(hl:b.length<=a.length/\a.length<=9)(ha:∀q∈a,0<q.2/\zm 50000 q.2/\zm 2200000 q.1)(hb:∀q∈b,0<q.2/\zm 50000 q.2/\zm 2200000 q.1):
  W (yS fu [.ref rn,.ref xn] S) λv S'=>S=S'/\∃q,v=qv q/\zdR a b q:=by
 walk_at "wr";unfold Vc;ext;refine wd (UA ?_);ext;refine⟨⟨_,zb hr⟩,⟨_,zb hx⟩,_,Zo (zb hr) (zb hx),?_⟩;have gx:(Xw as (b.map qv)).length=b.length:=by rw[L2.ZX,qY.1,Aw];omega
 refine xk (xs:=Xw as (b.map qv)) (λi ρ S'=>∃(top bot:Int) (a4 a5:pU Xv),ρ=[dE (.ref rn),dE (.ref xn),dE (.int top),dE (.int bot),a4,a5]/\S=S'/\0<bot/\bot=zM (a.take i)*zM (b.take i)/\zm (100000*i+1) bot/\zm (4500000+150000*i) top/\(top:Rat)=(yq i λc=>rq (a.getD c (0,1))*rq (b.getD c (0,1)))*bot/\∀V V':Nat,(∀q∈a,q.1.natAbs<=V*q.2.natAbs)->(∀q∈b,q.1.natAbs<=V'*q.2.natAbs)->top.natAbs<=i*(V*V')*bot.natAbs) ?_ ?_ ?_ ?_;rintro i ρ S' _ ⟨top,bot,a4,a5,rfl,rfl,_⟩;exact Zo (zb hr) (zb hx)
 .rintro i y ρ S' hy ⟨top,bot,a4,a5,rfl,rfl,b0,be,bb,tb,eq,hv⟩;obtain⟨u,w,e1,e2,rfl⟩:=Xx hy;obtain⟨q,e1,ck⟩:=qY.at e1;rw[Ax,AB] at e2;obtain⟨z,e2,rfl⟩:=e2;have hi:=(Au.1 e2).1;obtain⟨q0,q2,q1⟩:=ha q (Ay e1);obtain⟨z0,z2,z1⟩:=hb z (Ay e2);refine .of rfl ?_;dsimp only[Bt];ext;apply wM (z:= .int q.2) ck rfl;apply yH tb q2 ⋯;ext;apply wM (z:= .int z.2) rfl rfl;apply yH (tb.mul q2) z2 ⋯;ext;apply wM (z:= .int q.1) ck rfl;ext;apply wM (z:= .int z.1) rfl rfl;apply yH q1 z1 ⋯;ext;apply yH (q1.mul z1) bb ⋯;ext;apply wM (z:= .int q.2) ck rfl;apply yH bb q2 ⋯;ext;apply wM (z:= .int z.2) rfl rfl;apply yH (bb.mul q2) z2 ⋯;refine⟨_,_,_,_,rfl,rfl,Dt (Dt b0 q0) z0,?_,((bb.mul q2).mul z2).mono ⋯,zm.add (n:=4500000+150000*i+100000) (((tb.mul q2).mul z2).mono ⋯) (((q1.mul z1).mul bb).mono ⋯) ⋯,?_,λV V' h1 h2=> ?_⟩;rw[Bf,e1,Bf,e2,xJ,xJ,be];simp[zM];grind;rw[yq,Av,e1,Av,e2,FK];simp only[C6,By];have g1:=Wb q0;have g2:=Wb z0;rw[eq,<-g1,<-g2];grind
  have k1:=hv V V' h1 h2;have k2:=h1 q (Ay e1);have k3:=h2 z (Ay e2);apply AA (Int.natAbs_add_le _ _);simp only[Bz];have m1:=Bn (q.2.natAbs*z.2.natAbs) k1;have m2:=Bn bot.natAbs (D2 k2 k3);have e3:(i+1)*(V*V')*(bot.natAbs*q.2.natAbs*z.2.natAbs)=i*(V*V')*bot.natAbs*(q.2.natAbs*z.2.natAbs)+V*q.2.natAbs*(V'*z.2.natAbs)*bot.natAbs:=by grind
  rw[e3,Eh top.natAbs];exact HG m1 m2
 .exact⟨0,1,_,_,rfl,rfl,∅,by simp[zM],by unfold zm;decide,by unfold zm;exact EW ∅,by simp[yq],λV V' _ _=>by simp⟩
 rintro ρ S' ⟨top,bot,a4,a5,rfl,rfl,b0,be,bb,tb,eq,hv⟩;rw[gx] at be bb eq hv;rw[Bq] at be;ext;refine(Xb aD b0 (bb.mono ⋯)).imp ?_;rintro _ _ ⟨rfl,rfl⟩;have l:=zbE (t:=top) b0;have r:=zk0 (t:=top) b0;generalize vW top bot=q at l r;refine⟨rfl,q,rfl,⟨l.pos.1,by rw[<-be];exact l.pos.2⟩,l.co,?_,λV V' h1 h2=> ?_⟩;rw[eq] at r;have:=YI (show bot≠0 by omega);grind;have k:=hv V V' h1 h2;refine Nat.le_of_mul_le_mul_right (c:=bot.natAbs) ?_ ⋯;rw[<-Bz,l.eq,Bz];have:=Bn q.2.natAbs k;refine AA this (Ci ?_);grind
def wV(S:Sto)(n:Nat)(rws:mZ (mZ Q2)):Prop:=∃ms:mZ Nat,S[n]? =dE (.lst (ms.map .ref))/\ms.length=rws.length/\∀(i m:Nat) row,ms[i]? =dE m->rws[i]? =dE row->m≠n/\S[m]? =dE (.lst (row.map qv))
def wV.le(h:wV S n rws)(l:Le S S'):wV S' n rws:=by
 obtain⟨ms,h1,h2,h3⟩:=h;exact⟨ms,l.2 _ _ h1,h2,λi m r e1 e2=>⟨(h3 i m r e1 e2).1,l.2 _ _ (h3 i m r e1 e2).2⟩⟩
def wV.toX(h:wV S n rws):vY S n rws:=by
 obtain⟨ms,h1,h2,h3⟩:=h;exact⟨ms,h1,h2,λi m r e1 e2=>⟨_,(h3 i m r e1 e2).2,.qv r⟩⟩
def wV.push{R:mZ (mZ Q2)}{ms:mZ Nat}(h:wV S n R)(hm:S[n]? =dE (.lst (ms.map .ref)))(hk:k≠n)(hr:S[k]? =dE (.lst (r.map qv))):wV (S.set n (.lst (ms.map .ref++[.ref k]))) n (R++[r]):=by
 obtain⟨ms',h1,h2,h3⟩:=h;have:ms'=ms:=by
  rw[hm] at h1;simp only[Bm,Ce.lst.injEq] at h1;exact((GR (λa b h=>by cases h;rfl)).1 h1).symm
 subst this;refine⟨ms'++[k],by rw[yG hm];simp,by simp[h2],λi m r' e1 e2=> ?_⟩;rcases zeU h2 e1 e2 with⟨e1,e2⟩|⟨rfl,rfl,rfl⟩
 .obtain⟨a,b⟩:=h3 i m r' e1 e2;exact⟨a,yz b (BH a)⟩
 exact⟨hk,yz hr (BH hk)⟩
def zib:∀(i:Nat) (p:Q2),l[i]? =dE p->zM (l.set i q)*p.2=zM l*q.2:=by
 induction l with
 |nil=>intro i p h;simp at h
 |cons z l ih=>
  intro i p h;cases i with
  |zero=>
   cases h;rw[List.set_cons_zero,zM,zM];grind
  |succ i=>
   have:=ih i p (by simpa using h);rw[List.set_cons_succ,zM,zM];grind
def zmM{m n:Nat}(hn:n<=5)(hm:1<=m):((m:Int))^n<=((m^5:Nat):Int):=by
 rw[<-Dr];exact Dh.2 (C3 hm hn)
def zge{V b n:Nat}(hb:1<=b)(hl:l.length=n)(hn:n<=5)(h:∀q∈l,Fv V b q):zM l<=((b^5:Nat):Int):=by
 have:=Ve (m:=(b:Int)) l λq hq=>⟨(h q hq).1,by have:=h q hq;unfold Fv at this;omega⟩;rw[hl] at this;exact Bv this (zmM hn hb)
structure LwR(many:Nat)(zs xs:mZ Q2)(row:mZ Q2):Prop where
 ex:∃a l,row=a++[l]/\a.length=many/\(∀q∈a,Fv (2^34) (2^18) q)/\zM a<=((2^28:Nat):Int)/\yq many (λc=>rq (a.getD c (0,1))*rq (zs.getD c (0,1)))=0/\zdR a xs l
structure LwZ(many:Nat)(zs xs:mZ Q2):Prop where
 zl:zs.length=many
 xl:xs.length=many
 zp:∀q∈zs,Fv 3 3 q
 xp:∀q∈xs,Fv (2^196) 9 q
 one:∃c,c<many/\zs[c]? =dE (1,1)
def Fv.bits{V b n:Nat}(h:Fv V b q)(hb:b<2^50000)(hv:V*b<2^n)(hn:n<=2200000):0<q.2/\zm 50000 q.2/\zm 2200000 q.1:=by
 obtain⟨h0,h1,h2⟩:=h;have h3:zm n q.1:=B9 (AA h2 (Cm _ h1)) hv;exact⟨h0,B9 h1 hb,h3.mono hn⟩
def zk6{l:mZ Q2}(hi:i<l.length):(l.set i q).getD c (0,1)=if c=i then q else l.getD c (0,1):=by
 rw[Av,Av,Bc];by_cases e:c=i;subst e;rw[if_pos rfl,if_pos rfl,if_pos hi];rfl;rw[if_neg (BH e),if_neg e]
def zqr{ps zs:mZ Q2}(pl:ps.length=many)(zl:zs.length=many)(hm:many<=5)(ha:at'<many)(hz:zs[at']? =dE (1,1))(hp:∀q∈ps,Fv (2^30) 4 q)(nR:∀q∈zs,Fv 3 3 q)(s:zdR (ps.set at' (0,1)) zs q):
  (∀q'∈(ps.set at' (0,1)).set at' (-q.1,q.2),Fv (2^34) (2^18) q')/\zM ((ps.set at' (0,1)).set at' (-q.1,q.2))<=((2^28:Nat):Int)/\yq many (λc=>rq (((ps.set at' (0,1)).set at' (-q.1,q.2)).getD c (0,1))*rq (zs.getD c (0,1)))=0:=by
 have rl:(ps.set at' (0,1)).length=many:=by rw[Cq,pl]
 have r0:∀q∈ps.set at' (0,1),Fv (2^30) 4 q:=λq hq=>by
  rcases CM hq with hq|rfl;exact hp q hq;exact⟨∅,∅,by simp⟩
 have er:(ps.set at' (0,1))[at']? =dE (0,1):=by rw[Bc,if_pos rfl,if_pos ⋯]
 generalize ps.set at' (0,1)=r at*;have pr:=zge ∅ rl hm r0;have pz:=zge ∅ zl hm nR;have pp:=xj r λq hq=>(r0 q hq).1;have sH:=xj zs λq hq=>(nR q hq).1;have q2:q.2<=((2^18:Nat):Int):=by
  have h1:=s.pos.2;rw[C9 ⋯] at h1;exact Bv h1 (Bv (D3 pr pz (BP sH) ∅) ∅)
 have q1:q.1.natAbs<=2^34*q.2.natAbs:=by
  refine AA (s.bd (2^30) 3 (λq hq=>(r0 q hq).2.2) λq hq=>(nR q hq).2.2) (Bn _ ?_);rw[zl];exact AA (Bn _ hm) ∅
 refine⟨λq' hq=> ?_,?_,?_⟩;rcases CM hq with hq|rfl;obtain⟨a,b,c⟩:=r0 q' hq;exact⟨a,AA b ∅,AA c (Bn _ ∅)⟩;refine⟨s.pos.1,?_,?_⟩;have:=s.pos.1;show q.2.natAbs<=_;omega;show (-q.1).natAbs<=_;rw[Ga];exact q1;have:=zib (q:=(-q.1,q.2)) at' _ er;dsimp only at this;rw[CF] at this;rw[this];exact Bv (D3 pr q2 (BP s.pos.1) ∅) ∅
 have v:=s.val;rw[zl] at v;have hn:rq (-q.1,q.2)= -rq q:=by
  unfold rq;rw[FO];have:=YI (show q.2≠0 by have:=s.pos;omega);grind
 rw[yf (g:=λc=>rq (r.getD c (0,1))*rq (zs.getD c (0,1))+if c=at' then -rq q else 0) _ λc hc=> ?_,zbH,<-v,UT (i:=at') _ ha λc _ cu=>if_neg cu,if_pos rfl];grind;rw[zk6 ⋯];by_cases e:c=at';subst e;rw[if_pos rfl,if_pos rfl,Av,Av,er,hz,hn];simp only[By];rw[Ug,Wa];grind;rw[if_neg e,if_neg e,Fu]
def zmN(aD:Big fu)(hs:Scr ns S)(hm:1<=many/\many<=5):
  W (XW fu [.ref 0,.int many] S) λv S'=>Le S S'/\∃rn rws zs xs,v= .ref rn/\S.length<=rn/\wV S' rn rws/\rws.length<=5/\LwZ many zs xs/\∀row∈rws,LwR many zs xs row:=by
 walk_at "wr";unfold XV;ext;refine(wx hs ⟨∅,∅⟩ ∅ ⋯).imp ?_;rintro _ _ ⟨rfl,at0,rfl,Ap,at2⟩;obtain⟨at',rfl⟩:∃n:Nat,at0=n:=⟨at0.toNat,⋯⟩;ext;have kQ:(S++[Ce.lst []])[S.length]? =dE (.lst []):=zx;have l0:Le S (S++[Ce.lst []]):=Le.refl.app;obtain⟨zn,qJ⟩:∃zn,zn=S.length:=⟨_,rfl⟩;rw[<-qJ] at kQ ⊢;generalize S++[Ce.lst []]=S0 at kQ l0 ⊢;refine VM (λρ S1=>Le S S1/\∃(zs:mZ Q2) (a4:pU Xv),ρ=[dE (.ref 0),dE (.int many),dE (.int (at':Int)),dE (.ref zn),a4,fC,fC,fC,fC,fC,fC]/\S1[zn]? =dE (.lst (zs.map qv))/\zs.length=many/\∀q∈zs,Fv 3 3 q) (wd (Xu ?_)) ?_;ext;refine⟨⟨⋯,⋯⟩,yK 0 many,by rw[AV],?_⟩;refine xk (xs:=yK 0 many) (λi ρ S1=>Le S S1/\∃(zs:mZ Q2) (a4:pU Xv),ρ=[dE (.ref 0),dE (.int many),dE (.int (at':Int)),dE (.ref zn),a4,fC,fC,fC,fC,fC,fC]/\S1[zn]? =dE (.lst (zs.map qv))/\zs.length=i/\∀q∈zs,Fv 3 3 q) ?_ ?_ ?_ ?_;rintro i ρ S1 _ _;rw[AV];rintro i y ρ S1 hy ⟨le,zs,a4,rfl,hz,zl,zp⟩;obtain⟨hi,rfl⟩:=vt hy;rw[CV];refine .of rfl ?_;dsimp only[Bt];refine Xs (Vw ?_);ext;refine⟨⟨_,zb hz⟩,?_⟩;ext;refine(wx (hs.le le) ⟨⋯,⋯⟩ ∅ ∅).imp ?_;rintro _ _ ⟨rfl,d,rfl,d0,d1⟩;ext;refine(wx (hs.le le) ⟨⋯,⋯⟩ ∅ ∅).imp ?_;rintro _ _ ⟨rfl,b,rfl,b0,b1⟩;ext;refine(Xb aD ⋯ (zm.small ⋯ ∅)).imp ?_;rintro _ _ ⟨rfl,rfl⟩;ext;apply wD (xz hz) (by rw[Aw];exact yE ⋯);refine⟨le.set ⋯,zs++[vW (d-3) (1+b)],_,rfl,by rw[yG hz];simp,by simp[zl],λq hq=> ?_⟩;rcases AU.1 hq with hq|hq;exact zp q hq;rw[AI.1 hq];exact .low ⋯ ⋯ ⋯;exact⟨l0,[],_,rfl,kQ,rfl,(λq hq=>nomatch hq)⟩;rintro ρ S1 ⟨le,zs,a4,rfl,hz,zl,zp⟩;rw[yD] at zl;exact⟨le,zs,a4,rfl,hz,zl,zp⟩
 rintro _ S1 ⟨l1,iG,a4,rfl,k6,sA,sy⟩;refine zQ (Wx ?_);ext;refine⟨zn,_,_,at',xz k6,rfl,UR (by rw[Aw];omega),?_⟩;have l2:Le S (S1.set zn (.lst ((iG.map qv).set at' (.tup [.int 1,.int 1])))):=l1.set ⋯;have gy:(S1.set zn (.lst ((iG.map qv).set at' (.tup [.int 1,.int 1]))))[zn]? =dE (.lst ((iG.set at' (1,1)).map qv)):=by rw[yG k6,EG];rfl
 have zl:(iG.set at' (1,1)).length=many:=by rw[Cq,sA]
 have zp:∀q∈iG.set at' (1,1),Fv 3 3 q:=λq hq=>by
  rcases CM hq with hq|rfl;exact sy q hq;exact⟨∅,∅,∅⟩
 have zo:(iG.set at' (1,1))[at']? =dE (1,1):=by rw[Bc,if_pos rfl,if_pos ⋯]
 generalize iG.set at' (1,1)=zs at gy zl zp zo;generalize S1.set zn (.lst ((iG.map qv).set at' (.tup [.int 1,.int 1])))=S2 at l2 gy ⊢;refine zQ (xQ (yx (Xu ?_)));ext;refine⟨⟨⋯,⋯⟩,yK 0 many,by rw[AV],?_⟩;refine yp (xs:=yK 0 many) (by rw[yD];exact AX (yE ⋯)) (λj es S3=>S2=S3/\∃xs:mZ Q2,es=xs.map qv/\xs.length=j/\∀q∈xs,Fv (2^196) 9 q) ?_ ?_ ?_ ?_;rintro j es S3 _ _;rw[AV];rintro j y es S3 hy c9 ⟨rfl,xs,rfl,xl,xp⟩;obtain⟨hj,rfl⟩:=vt hy;rw[CV];refine .of rfl ?_;ext;refine⟨rfl,?_⟩;ext;refine(zmK aD (hs.le l2) ⟨⋯,⋯⟩).imp ?_;rintro _ _ ⟨rfl,q,rfl,fq⟩;refine⟨rfl,xs++[q],by simp,by simp[xl],λp hp=> ?_⟩;rcases AU.1 hp with hp|hp;exact xp p hp;rw[AI.1 hp];exact fq;exact⟨rfl,[],rfl,rfl,(λq hq=>nomatch hq)⟩
 rintro es S3 c9 ⟨rfl,xs,rfl,xl,xp⟩;rw[yD] at xl;have lz:LwZ many zs xs:=⟨zl,xl,zp,xp,at',⋯,zo⟩;have l3:Le S (S2++[Ce.lst (xs.map qv)]):=l2.app;have kP:(S2++[Ce.lst (xs.map qv)])[zn]? =dE (.lst (zs.map qv)):=zj gy;have mC:(S2++[Ce.lst (xs.map qv)])[S2.length]? =dE (.lst (xs.map qv)):=zx;generalize S2.length=xn at mC ⊢;generalize S2++[Ce.lst (xs.map qv)]=S3 at l3 kP mC ⊢;dsimp only[Bt];refine zQ (xQ ?_);ext;have l4:Le S (S3++[Ce.lst []]):=l3.app;have jr:(S3++[Ce.lst []])[zn]? =dE (.lst (zs.map qv)):=zj kP;have qN:(S3++[Ce.lst []])[xn]? =dE (.lst (xs.map qv)):=zj mC;have om:(S3++[Ce.lst []])[S3.length]? =dE (.lst []):=zx;have nz:zn≠S3.length:=λz=>by have:=Zw kP;omega
 have nx:xn≠S3.length:=λz=>by have:=Zw mC;omega
 have nS:S.length<=S3.length:=l3.1;generalize S3.length=qn at om nz nx nS ⊢;generalize S3++[Ce.lst []]=S4 at l4 jr qN om ⊢;dsimp only[Bt];refine VM (λρ S5=>Le S S5/\∃(rws:mZ (mZ Q2)) (a4 a7 a8 a9 cV:pU Xv),ρ=[dE (.ref 0),dE (.int many),dE (.int (at':Int)),dE (.ref zn),a4,dE (.ref xn),dE (.ref qn),a7,a8,a9,cV]/\wV S5 qn rws/\rws.length<=5/\∀row∈rws,LwR many zs xs row) (wd (Xu ?_)) ?_
 .ext;refine(wx (hs.le l4) ⟨∅,∅⟩ ∅ ∅).imp ?_;rintro _ _ ⟨rfl,cn,rfl,Ao,An⟩;obtain⟨cn,rfl⟩:∃n:Nat,cn=n:=⟨cn.toNat,⋯⟩;refine⟨_,rfl,⟨⋯,⋯⟩,yK 0 cn,by rw[AV],?_⟩;refine xk (xs:=yK 0 cn) (λi ρ S5=>Le S S5/\∃(rws:mZ (mZ Q2)) (a4 a7 a8 a9 cV:pU Xv),ρ=[dE (.ref 0),dE (.int many),dE (.int (at':Int)),dE (.ref zn),a4,dE (.ref xn),dE (.ref qn),a7,a8,a9,cV]/\S5[zn]? =dE (.lst (zs.map qv))/\S5[xn]? =dE (.lst (xs.map qv))/\wV S5 qn rws/\rws.length=i/\∀row∈rws,LwR many zs xs row) ?_ ?_ ?_ ?_;rintro i ρ S5 _ _;rw[AV]
  .rintro i y ρ S5 hy ⟨l5,rws,a4,a7,a8,a9,cV,rfl,qK,qM,hN,Nl,Nr⟩;obtain⟨hi,rfl⟩:=vt hy;rw[CV];refine .of rfl ?_;dsimp only[Bt];refine zQ (xQ (yx (Xu ?_)));ext;refine⟨⟨⋯,⋯⟩,yK 0 many,by rw[AV],?_⟩;refine yp (xs:=yK 0 many) (by rw[yD];exact AX (yE ⋯)) (λj es S6=>S5=S6/\∃ps:mZ Q2,es=ps.map qv/\ps.length=j/\∀q∈ps,Fv (2^30) 4 q) ?_ ?_ ?_ ?_;rintro j es S6 _ _;rw[AV];rintro j y es S6 fZ c9 ⟨rfl,ps,rfl,pl,pp⟩;obtain⟨hj,rfl⟩:=vt fZ;rw[CV];refine .of rfl ?_;ext;refine⟨rfl,?_⟩;ext;refine(zmL aD (hs.le l5) ⟨⋯,⋯⟩).imp ?_;rintro _ _ ⟨rfl,q,rfl,fq⟩;refine⟨rfl,ps++[q],by simp,by simp[pl],λp hp=> ?_⟩;rcases AU.1 hp with hp|hp;exact pp p hp;rw[AI.1 hp];exact fq;exact⟨rfl,[],rfl,rfl,(λq hq=>nomatch hq)⟩
   rintro es S6 ip ⟨rfl,ps,rfl,pl,pp⟩;rw[yD] at pl;have l6:Le S5 (S5++[Ce.lst (ps.map qv)]):=Le.refl.app;have mG:(S5++[Ce.lst (ps.map qv)])[S5.length]? =dE (.lst (ps.map qv)):=zx;obtain⟨pn,iU⟩:∃pn,pn=S5.length:=⟨_,rfl⟩;rw[<-iU] at mG ⊢;generalize S5++[Ce.lst (ps.map qv)]=S6 at l6 mG ⊢;dsimp only[Bt];refine zQ (Wx ?_);ext;refine⟨pn,_,_,at',xz mG,rfl,UR (by rw[Aw];omega),?_⟩;have l7:Le S5 (S6.set pn (.lst ((ps.map qv).set at' (.tup [.int 0,.int 1])))):=l6.set ⋯;have mF:(S6.set pn (.lst ((ps.map qv).set at' (.tup [.int 0,.int 1]))))[pn]? =dE (.lst ((ps.set at' (0,1)).map qv)):=by rw[yG mG,EG];rfl
   generalize S6.set pn (.lst ((ps.map qv).set at' (.tup [.int 0,.int 1])))=S7 at l7 mF ⊢;have r0:∀q∈ps.set at' (0,1),Fv (2^30) 4 q:=λq hq=>by
    rcases CM hq with hq|rfl;exact pp q hq;exact⟨∅,∅,by simp⟩
   refine zQ (zob ?_);ext;refine(Uh aD mF (.qv _) (l7.2 _ _ qK) ⟨by rw[Cq];omega,by rw[Cq];omega⟩ (λq hq=>(r0 q hq).bits (n:=40) (*...*) ∅ ∅) (λq hq=>(zp q hq).bits (n:=40) (*...*) ∅ ∅)).imp ?_;rintro _ _ ⟨rfl,q,rfl,sq⟩;refine .of rfl ?_;dsimp only[Bt];refine zQ (Wx ?_);ext;refine⟨pn,_,_,at',xz mF,rfl,UR (by rw[Aw,Cq];omega),?_⟩;have l8:Le S5 (S7.set pn (.lst (((ps.set at' (0,1)).map qv).set at' (.tup [.int (-q.1),.int q.2])))):=l7.set ⋯;have jD:(S7.set pn (.lst (((ps.set at' (0,1)).map qv).set at' (.tup [.int (-q.1),.int q.2]))))[pn]? =dE (.lst (((ps.set at' (0,1)).set at' (-q.1,q.2)).map qv)):=by rw[yG mF,EG (l:=ps.set at' (0,1))];rfl
   generalize S7.set pn (.lst (((ps.set at' (0,1)).map qv).set at' (.tup [.int (-q.1),.int q.2])))=S8 at l8 jD ⊢;obtain⟨f1,f2,f3⟩:=zqr pl zl hm.2 ⋯ zo pp zp sq;have rl:((ps.set at' (0,1)).set at' (-q.1,q.2)).length=many:=by rw[Cq,Cq,pl]
   generalize (ps.set at' (0,1)).set at' (-q.1,q.2)=a at jD f1 f2 f3 rl;obtain⟨ms,n1,n2,n3⟩:=id (hN.le l8);refine Xs (Vw ?_);ext;refine⟨⟨_,zb n1⟩,?_⟩;refine xy (vp ?_);ext;refine(Uh aD jD (.qv _) (l8.2 _ _ qM) ⟨⋯,⋯⟩ (λq hq=>(f1 q hq).bits (n:=100) (*...*) ∅ ∅) (λq hq=>(xp q hq).bits (n:=300) (*...*) ∅ ∅)).imp ?_;rintro _ _ ⟨rfl,l,rfl,sl⟩;ext;apply XZ (zb (zj jD)) (zb zx) (by simp[rl];omega);ext;have w5:a.map qv++[qv l]=(a++[l]).map qv:=by simp
   rw[w5];apply wD (xz (zj (zj n1))) (by rw[Aw,n2,Nl];exact yE ⋯);have qX:=Zw n1;refine⟨((l5.trans l8).app.app).set nS,rws++[a++[l]],_,_,_,_,_,rfl,yz (zj (zj (l8.2 _ _ qK))) (BH nz),yz (zj (zj (l8.2 _ _ qM))) (BH nx),(hN.le (l8.app.app)).push (zj (zj n1)) (λz=> ?_) zx,by simp[Nl],λrow hr=> ?_⟩;rw[<-z] at qX;simp at qX;omega;rcases AU.1 hr with hr|hr;exact Nr row hr;rw[AI.1 hr];exact⟨a,l,rfl,rl,f1,f2,f3,sl⟩
  .exact⟨l4,[],_,_,_,_,_,rfl,jr,qN,⟨[],om,rfl,λi m r e=>by simp at e⟩,rfl,(λq hq=>nomatch hq)⟩
  rintro ρ S5 ⟨l5,rws,a4,a7,a8,a9,cV,rfl,_,_,hN,Nl,Nr⟩;rw[yD] at Nl;exact⟨l5,rws,_,_,_,_,_,rfl,hN,⋯,Nr⟩
 rintro _ S5 ⟨l5,rws,Aq,a7,a8,a9,cV,rfl,hN,Nl,Nr⟩;ext;exact⟨l5,qn,rws,zs,xs,rfl,qJ ▸ nS,hN,Nl,lz,Nr⟩
def Fv.mono{V V' b b':Nat}(h:Fv V b q)(hv:V<=V')(hb:b<=b'):Fv V' b' q:=⟨h.1,AA h.2.1 hb,AA h.2.2 (Bn _ hv)⟩
def zdS{a:mZ Q2}{l:Q2}(al:a.length=many):(∀c,c<many->(a++[l]).getD c (0,1)=a.getD c (0,1))/\(a++[l]).getD many (0,1)=l:=by
 subst al;refine⟨λc hc=> ?_,?_⟩;rw[Av,Az hc,Av];rw[Av,AG (AF _),BL];rfl
def RB.of(al:a.length=many)(ha:∀q∈a,Fv (2^37) (2^36) q)(hl:Fv (2^236) (2^88) l)(hp:zM a<=((2^56:Nat):Int)):RB many (a++[l]):=by
 refine⟨by simp[al],λq hq=> ?_,λc q hc e1=> ?_,λq e1=> ?_,?_⟩;rcases AU.1 hq with hq|hq;exact (ha q hq).1;rw[AI.1 hq];exact hl.1;rw[Az ⋯] at e1;have:=ha q (Ay e1);exact⟨this.2.2,this.2.1⟩;rw[AG ⋯,al,BL] at e1;cases e1;exact⟨hl.2.2,hl.2.1⟩;rw[xJ,show zM [l]=l.2 by simp[zM]];have h1:=hl.1;have h2:=hl.2.1;exact Bv (D3 hp (show l.2<=((2^88:Nat):Int) by omega) ⋯ ∅) ∅
def LwR.fv(h:LwR many zs xs row)(lz:LwZ many zs xs)(hm:many<=5):∃a l,row=a++[l]/\a.length=many/\(∀q∈a,Fv (2^34) (2^18) q)/\zM a<=((2^28:Nat):Int)/\Fv (2^233) (2^44) l/\C1 l.1 l.2=1/\yq many (λc=>rq (a.getD c (0,1))*rq (zs.getD c (0,1)))=0/\rq l=yq many (λc=>rq (a.getD c (0,1))*rq (xs.getD c (0,1))):=by
 obtain⟨a,l,rfl,al,af,ap,az,s⟩:=h;have px:=zge ∅ lz.xl hm lz.xp;have sI:=xj xs λq hq=>(lz.xp q hq).1;have h1:=s.pos.2;rw[C9 (by have:=lz.xl;omega)] at h1;have h2:l.2<=((2^44:Nat):Int):=Bv h1 (Bv (D3 ap px (BP sI) ∅) ∅);have h3:=s.pos.1;refine⟨a,l,rfl,al,af,ap,⟨h3,⋯,?_⟩,s.co,az,by rw[s.val,lz.xl]⟩;refine AA (s.bd (2^34) (2^196) (λq hq=>(af q hq).2.2) λq hq=>(lz.xp q hq).2.2) (Bn _ ?_);rw[lz.xl];exact AA (Bn _ hm) ∅
def LwR.rb(h:LwR many zs xs row)(lz:LwZ many zs xs)(hm:many<=5):RB many row:=by
 obtain⟨a,l,rfl,al,af,ap,lf,_⟩:=h.fv lz hm;exact .of al (λq hq=>(af q hq).mono ∅ ∅) (lf.mono ∅ ∅) (Bv ap ∅)
noncomputable def Xi(xs:mZ Q2)(c:Nat):Int:=(xs.getD c (0,1)).1*(zM xs / (xs.getD c (0,1)).2)
def zic:q∈l->q.2∣zM l:=by
 induction l with
 |nil=>intro h;cases h
 |cons z l ih=>
  intro h;rw[zM];rcases AW.1 h with rfl|h;exact⟨_,rfl⟩;exact F5 (ih h) ⟨z.2,C4 ..⟩
def zk7(hp:∀q∈xs,0<q.2)(c:Nat):((Xi xs c:Int):Rat)=rq (xs.getD c (0,1))*zM xs:=by
 have h:0<(xs.getD c (0,1)).2/\(xs.getD c (0,1)).2∣zM xs:=by
  rw[Av];cases e:xs[c]? with
  |none=>exact⟨EZ,Int.one_dvd _⟩
  |some q=>exact⟨hp q (Ay e),zic (Ay e)⟩
 unfold Xi;generalize xs.getD c (0,1)=q at h;obtain⟨h0,k,hk⟩:=h;rw[hk,show q.2*k / q.2=k from Int.mul_ediv_cancel_left _ ⋯,C6,C6];have:=Wb h0;grind
def zgf(hi:i<rws.length):∃row∈rws,rws[i]? =dE row/\∀c,el rws i c=rq (row.getD c (0,1)):=by
 have e:rws[i]? =dE rws[i]:=As hi;refine⟨_,Ay e,e,λc=> ?_⟩;unfold el;rw[show rws.getD i []=rws[i] by rw[Av,e];rfl]
def zmO(lz:LwZ many zs xs)(hm:many<=5)(h:∀row∈rws,LwR many zs xs row):KnM many rws:=by
 have xp:=λq hq=>(lz.xp q hq).1;have zp:=λq hq=>(lz.zp q hq).1;refine⟨⟨Xi xs,zM xs,by have:=xj xs xp;omega,λi hi=> ?_⟩,Xi zs,?_,λc hc=> ?_,λi hi=> ?_⟩
 .obtain⟨row,hr,_,e⟩:=zgf hi;obtain⟨a,l,rfl,al,_,_,_,_,_,ex⟩:=(h row hr).fv lz hm;obtain⟨g1,g2⟩:=zdS (l:=l) al;rw[e many,g2,ex,Rat.mul_comm,<-Yf];exact yf _ λc hc=>by rw[e c,g1 c hc,zk7 xp];grind
 .obtain⟨c,hc,e⟩:=lz.one;refine⟨c,λz=> ?_⟩;have h1:=zk7 zp c;rw[z,Av,e,By,Ug,Eg] at h1;exact YI (show zM zs≠0 by have:=xj zs zp;omega) h1.symm
 .unfold Xi;rw[Av,BQ (by have:=lz.zl;omega)];exact DR _
 obtain⟨row,hr,_,e⟩:=zgf hi;obtain⟨a,l,rfl,al,_,_,_,_,ez,_⟩:=(h row hr).fv lz hm;obtain⟨g1,g2⟩:=zdS (l:=l) al;rw[show((0:Int):Rat)=0 from rfl,Dz,yf (g:=λc=>(zM zs:Rat)*(rq (a.getD c (0,1))*rq (zs.getD c (0,1)))) _ λc hc=>by rw[e c,g1 c hc,zk7 zp];grind,Yf,ez,Dz]
def zk8(lz:LwZ many zs xs)(hm:1<=many/\many<=5)(hl:rws.length<=5)(h:∀row∈rws,LwR many zs xs row):RBs many rws:=⟨hm,⋯,λrow hr=>(h row hr).rb lz hm.2⟩
structure Spo(many:Nat)(rws:mZ (mZ Q2))(qs:mZ Q2):Prop where
 len:qs.length=many+1
 par:∀q∈qs.take many,Fv (2^36) (2^36) q
 las:Fv (2^235) (2^88) (qs.getD many (0,1))
 pro:zM (qs.take many)<=((2^56:Nat):Int)
 w:∃w:Nat->Int,∀c,c<=many->rq (qs.getD c (0,1))=yq rws.length λi=>el rws i c*(w i:Rat)
def zmP:Spo many [] (AK (many+1) (0,1)):=by
 have ht:(AK (many+1) ((0,1):Q2)).take many=AK many (0,1):=by simp
 have g:∀c,(AK (many+1) ((0,1):Q2)).getD c (0,1)=(0,1):=λc=>by
  rw[Av,CB];split<;>rfl
 refine⟨by simp,λq hq=> ?_,by rw[g];exact⟨∅,∅,by simp⟩,?_,λ_=>0,λc _=>by rw[g,Wa];rfl⟩;rw[ht] at hq;rw[Dg hq];exact⟨∅,∅,by simp⟩
 rw[ht];have:=Ve (m:=1) (AK many ((0,1):Q2)) λq hq=>by rw[Dg hq];exact⟨∅,∅⟩
 rw[Int.one_pow] at this;exact Bv this ∅
def zdR.two(s:zdR [p,q] [p',q'] r):rq r=rq p*rq p'+rq q*rq q'/\r.2<=p.2*q.2*(p'.2*q'.2):=by
 refine⟨?_,?_⟩;rw[s.val];show 0+rq p*rq p'+rq q*rq q'=_;rw[Rat.zero_add];have:=s.pos.2;simpa [zM,Ei] using this
def zk9:rq (t,1)=t:=by
 have:=Wb (q:=(t,1)) EZ;simpa using this
set_option tactic.hygienic true in
def zmQ{i j:Nat}{zs xs:mZ Q2}{one cM qs:mZ Q2}{t:Int}(lz:LwZ many zs xs)(hm:many<=5)(h:∀row∈rws,LwR many zs xs row)(hi:rws[i]? =dE one)(hj:rws[j]? =dE cM)(ht:t.natAbs<=2)(ql:qs.length=many+1)(hq:∀(k:Nat) p q r,one[k]? =dE p->cM[k]? =dE q->qs[k]? =dE r->zdR [p,q] [(t,1),(1,1)] r):Spo many rws qs:=by
 obtain⟨a,l,ea,al,af,ap,lf,_⟩:=(h one (Ay hi)).fv lz hm;obtain⟨b,m,eb,bl,bf,bp,mf,_⟩:=(h cM (Ay hj)).fv lz hm;have ol:one.length=many+1:=by rw[ea];simp[al]
 have tl:cM.length=many+1:=by rw[eb];simp[bl]
 have g:∀k,k<=many->∃p q r,one[k]? =dE p/\cM[k]? =dE q/\qs[k]? =dE r/\zdR [p,q] [(t,1),(1,1)] r:=λk hk=>by
  have e1:one[k]? =dE (one[k]'⋯):=As _;have e2:cM[k]? =dE (cM[k]'⋯):=As _;have e3:qs[k]? =dE (qs[k]'⋯):=As _;exact⟨_,_,_,e1,e2,e3,hq k _ _ _ e1 e2 e3⟩
 have bd:∀(V b1 b2:Nat) (p q r:Q2),zdR [p,q] [(t,1),(1,1)] r->Fv V b1 p->Fv V b2 q->Fv (4*V) (b1*b2) r/\r.2<=p.2*q.2:=λV b1 b2 p q r s fp fq=>by
  have h2:=s.two.2;rw[CF,CF] at h2;refine⟨⟨s.pos.1,?_,?_⟩,h2⟩;have h3:=D2 fp.2.1 fq.2.1;rw[<-Bz] at h3;have:=s.pos.1;omega;have:=s.bd V 2 (λz hz=>by rcases AW.1 hz with rfl|hz;exact fp.2.2;rw[AI.1 hz];exact fq.2.2) (λz hz=>by rcases AW.1 hz with rfl|hz;simpa using ht;rw[AI.1 hz];decide);rw[<-show 2*(V*2)=4*V by omega];exact this
 have oa:∀k p,k<many->one[k]? =dE p->p∈a:=λk p hk e=>by
  rw[ea,Az ⋯] at e;exact Ay e
 have ob:∀k p,k<many->cM[k]? =dE p->p∈b:=λk p hk e=>by
  rw[eb,Az ⋯] at e;exact Ay e
 refine⟨ql,λq ck=> ?_,?_,?_,λk=>(if k=i then t else 0)+(if k=j then 1 else 0),λc hc=> ?_⟩
 .obtain⟨k,hk⟩:=Bi ck;have dZ:k<many:=by have:=(Au.1 hk).1;rw[B6] at this;omega
  rw[BK dZ] at hk;obtain⟨p,q',r,e1,e2,e3,s⟩:=g k ⋯;rw[hk] at e3;cases e3;exact(bd _ _ _ _ _ _ s (af p (oa k p dZ e1)) (bf q' (ob k q' dZ e2))).1
 .obtain⟨p,q',r,e1,e2,e3,s⟩:=g many (AF _);rw[Av,e3];rw[ea,AG ⋯,al,BL] at e1;rw[eb,AG ⋯,bl,BL] at e2;cases e1;cases e2;exact(bd _ _ _ _ _ _ s lf mf).1
 .have:∀k,k<=many->zM (qs.take k)<=zM (a.take k)*zM (b.take k):=by
   intro k
   induction k with
   |zero=>intro _;exact EL _
   |succ k ih=>
    intro hk;obtain⟨p,q',r,e1,e2,e3,s⟩:=g k ⋯;have pa:=oa k p ⋯ e1;have pb:=ob k q' ⋯ e2;rw[ea,Az ⋯] at e1;rw[eb,Az ⋯] at e2;have h2:=(bd _ _ _ _ _ _ s (af p pa) (bf q' pb)).2;rw[Bf,e3,Bf,e1,Bf,e2,xJ,xJ,xJ];simp only[Option.toList,zM,CF];have p0:=xj (a.take k) λq hq=>(af q (CW hq)).1;have p1:=xj (b.take k) λq hq=>(bf q (CW hq)).1;have:=D3 (ih ⋯) h2 (BP s.pos.1) (BP (Dt p0 p1));refine Bv this (Int.le_of_eq ?_);grind
  have h3:=this many (AF _);rw[C9 (l:=a) ⋯,C9 (l:=b) ⋯] at h3;have p1:=xj b λq hq=>(bf q hq).1;exact Bv h3 (Bv (D3 ap bp (BP p1) ∅) ∅)
 obtain⟨p,q',r,e1,e2,e3,s⟩:=g c hc;have il:=(Au.1 hi).1;have jl:=(Au.1 hj).1;have k1:el rws i c=rq p:=by
  unfold el;rw[Av,Av,hi,By,e1];rfl
 have k2:el rws j c=rq q':=by
  unfold el;rw[Av,Av,hj,By,e2];rfl
 rw[Av,e3,By,s.two.1,yf (g:=λk=>(if k=i then el rws i c*(t:Rat) else 0)+(if k=j then el rws j c else 0)) _ λk _=> ?_,zbH,UT (i:=i) _ il λk _ cu=>if_neg cu,UT (i:=j) _ jl λk _ cu=>if_neg cu,if_pos rfl,if_pos rfl,k1,k2,zk9,Ug,FZ];rw[FK,Rat.mul_add]
 congr 1
 .split;rename_i e;rw[e];rw[show((0:Int):Rat)=0 from rfl,Dz]
 split;rename_i e;rw[e,show((1:Int):Rat)=1 from rfl,FZ];rw[show((0:Int):Rat)=0 from rfl,Dz]
def zla{α:Type}(l:mZ α)(n:Nat):L2.zei l (dE (n:Int)) fC=l.drop n:=by
 unfold L2.zei;rw[HT.zgp,HT.zd3];by_cases h:n<=l.length;rw[EH h,C9 (by rw[Fh];exact AF _)];rw[Nat.min_eq_right ⋯,G0 (AF _),G0 ⋯,List.take_nil]
def wV.at{n i:Nat}{R:mZ (mZ Q2)}{r:mZ Q2}{ms:mZ Nat}(h:wV S n R)(hm:S[n]? =dE (.lst (ms.map .ref)))(e:R[i]? =dE r):∃m,ms[i]? =dE m/\S[m]? =dE (.lst (r.map qv)):=by
 obtain⟨ms',h1,h2,h3⟩:=h;have:ms'=ms:=by
  rw[hm] at h1;simp only[Bm,Ce.lst.injEq] at h1;exact((GR (λa b h=>by cases h;rfl)).1 h1).symm
 subst this;have hi:=(Au.1 e).1;have em:ms'[i]? =dE (ms'[i]'⋯):=As _;exact⟨_,em,(h3 i _ r em e).2⟩
noncomputable def UU{α:Type}(k:Nat)(z:α)(l:mZ α):mZ α:=l.take k++[z]++l.drop k
def UV{α:Type}{z:α}{l:mZ α}:(UU k z l).length=l.length+1:=by
 unfold UU;rw[Ba,Ba,B6,Fh,CJ];omega
def zhl{α:Type}{z:α}{l:mZ α}(hk:k<=l.length):(UU k z l)[i]? =if i<k then l[i]? else if i=k then dE z else l[i-1]? :=by
 unfold UU;by_cases c1:i<k;rw[if_pos c1,Eb,Az (by rw[B6];omega),BK c1];rw[if_neg c1];by_cases c2:i=k;subst c2;rw[if_pos rfl,Eb,AG (by rw[B6];omega),B6,EH hk,BL];rfl;rw[if_neg c2,AG (by simp;omega),List.getElem?_drop];simp only[Ba,B6,CJ];rw[show k+(i-(min k l.length+1))=i-1 by omega]
structure Bad(many:Nat)(rws:mZ (mZ Q2))(row:mZ Q2):Prop where
 ex:∃qs l,∃off:Int,row=qs.take many++[l]/\Spo many rws qs/\Fv (2^236) (2^88) l/\off≠0/\rq l=rq (qs.getD many (0,1))+off
def zid(aD:Big fu)(hs:Scr ns S)(hm:1<=many/\many<=5)(lz:LwZ many zs xs)(h:wV S rn rws)(hl:rws.length<=5)(hr:∀row∈rws,LwR many zs xs row):
  W (ZJ fu [.ref 0,.ref rn,.int many] S) λv S'=>Le S S'/\∃rn' at' row,v= .ref rn'/\at'<=rws.length/\wV S' rn' (UU at' row rws)/\Bad many rws row:=by
 obtain⟨ms,r1,r2,r3⟩:=id h;walk_at "wr";unfold ZI;refine zQ (xQ (yx (Xu ?_)));ext;refine⟨⟨⋯,⋯⟩,yK 0 (many+1),by rw[show((many:Int)+1).toNat=many+1 by omega],?_⟩;refine yp (xs:=yK 0 (many+1)) (by rw[yD];exact AX (yE ⋯)) (λj es S1=>S=S1/\es=(AK j ((0,1):Q2)).map qv) ?_ ?_ ?_ ?_;rintro j es S1 _ _;rw[show((many:Int)+1).toNat=many+1 by omega];rintro j y es S1 fZ c9 ⟨rfl,rfl⟩;refine .of rfl ?_;ext;refine⟨rfl,?_⟩;ext;refine⟨rfl,?_⟩;rw[Gk,C5];rfl;exact⟨rfl,rfl⟩;rintro es S1 c9 ⟨rfl,rfl⟩;rw[yD];have l1:Le S (S++[Ce.lst ((AK (many+1) ((0,1):Q2)).map qv)]):=Le.refl.app;have gQ:(S++[Ce.lst ((AK (many+1) ((0,1):Q2)).map qv)])[S.length]? =dE (.lst ((AK (many+1) ((0,1):Q2)).map qv)):=zx;generalize S++[Ce.lst ((AK (many+1) ((0,1):Q2)).map qv)]=S1 at l1 gQ ⊢;dsimp only[Bt];refine zQ (VM (λρ S2=>Le S S2/\∃(qs:mZ Q2) (pn:Nat) (a4 a5 a6:pU Xv),ρ=[dE (.ref 0),dE (.ref rn),dE (.int many),dE (.ref pn),a4,a5,a6,fC,fC]/\S.length<=pn/\S2[pn]? =dE (.lst (qs.map qv))/\Spo many rws qs) (yA ?_) ?_)
 .have jd:=l1.2 _ _ r1;ext;apply we (zb jd);ext;rw[Aw,r2];refine yY (λhn=> ?_) (λhn=>yh ?_)
  .ext;apply we (zb jd);ext;rw[Aw,r2];refine(wx (hs.le l1) ⟨∅,∅⟩ ∅ ⋯).imp ?_;rintro _ _ ⟨rfl,i,rfl,i0,i1⟩;obtain⟨i,rfl⟩:∃n:Nat,i=n:=⟨i.toNat,⋯⟩;have ei:rws[i]? =dE (rws[i]'⋯):=As _;generalize rws[i]'⋯=one at ei;obtain⟨mi,g1,g2⟩:=(h.le l1).at jd ei;refine wf (zb jd) (ZW (z:= .ref mi) ⋯ (by rw[Ax,AV,g1];rfl)) ?_;ext;apply we (zb jd);ext;rw[Aw,r2];refine(wx (hs.le l1) ⟨∅,∅⟩ ∅ ⋯).imp ?_;rintro _ _ ⟨rfl,j,rfl,j0,j1⟩;obtain⟨j,rfl⟩:∃n:Nat,j=n:=⟨j.toNat,⋯⟩;have ej:rws[j]? =dE (rws[j]'⋯):=As _;generalize rws[j]'⋯=cM at ej;obtain⟨mj,g3,g4⟩:=(h.le l1).at jd ej;refine wf (zb jd) (ZW (z:= .ref mj) ⋯ (by rw[Ax,AV,g3];rfl)) ?_;ext;refine(wx (hs.le l1) ⟨∅,∅⟩ ∅ ∅).imp ?_;rintro _ _ ⟨rfl,t0,rfl,t1,t2⟩;ext;obtain⟨t,ht⟩:∃t,t=t0-2:=⟨_,rfl⟩;rw[<-ht];refine yx (UA ?_);ext;refine⟨⟨_,zb g2⟩,⟨_,zb g4⟩,_,Zo (zb g2) (zb g4),?_⟩;have r1o:=(hr one (Ay ei)).rb lz hm.2;have r1t:=(hr cM (Ay ej)).rb lz hm.2;have gx:(Xw (one.map qv) (cM.map qv)).length=many+1:=by rw[L2.ZX,Aw,Aw,r1o.len,r1t.len];omega
   refine yp (by rw[gx];exact AX (yE ⋯)) (λk es S2=>Le S1 S2/\∃qs:mZ Q2,es=qs.map qv/\qs.length=k/\∀(k:Nat) p q r,one[k]? =dE p->cM[k]? =dE q->qs[k]? =dE r->zdR [p,q] [(t,1),(1,1)] r) ?_ ?_ ?_ ?_;rintro k es S2 _ ⟨le,_⟩;exact Zo (zb (le.2 _ _ g2)) (zb (le.2 _ _ g4))
   .rintro k y es S2 hy ip ⟨le,qs,rfl,ql,hq⟩;obtain⟨u,w,e1,e2,rfl⟩:=Xx hy;rw[Ax,AB] at e1 e2;obtain⟨p,e1,rfl⟩:=e1;obtain⟨q,e2,rfl⟩:=e2;have bt:∀z:Q2,z∈one\/z∈cM->0<z.2/\zm 50000 z.2/\zm 2200000 z.1:=λz hz=>by
     have:0<z.2/\zm 100 z.2/\zm 900 z.1:=by
      rcases hz with hz|hz;exact zdQ (r1o.q z hz);exact zdQ (r1t.q z hz)
     exact⟨this.1,this.2.1.mono ∅,this.2.2.mono ∅⟩
    refine .of rfl ?_;ext;refine⟨rfl,?_⟩;ext;refine(Uh aD (a:=[p,q]) (b:=[(t,1),(1,1)]) (zj zx) (.qv _) zx ⟨AF _,by simp⟩ (λz hz=> ?_) (λz hz=> ?_)).imp ?_;rcases AW.1 hz with rfl|hz;exact bt _ (.inl (Ay e1));rw[AI.1 hz];exact bt _ (.inr (Ay e2));rcases AW.1 hz with rfl|hz;exact⟨EZ,zm.small (by show(1:Int).natAbs<_;decide) ∅,zm.small (by show t.natAbs<_;omega) ∅⟩;rw[AI.1 hz];exact⟨∅,zm.small ∅ ∅,zm.small ∅ ∅⟩
    rintro _ _ ⟨rfl,r,rfl,s⟩;refine⟨le.app.app,qs++[r],by simp,by simp[ql],λk' p' q' r' f1 f2 f3=> ?_⟩;rcases zbx ql f3 with f3|⟨rfl,rfl⟩
    .exact hq k' p' q' r' f1 f2 f3
    rw[f1] at e1;rw[f2] at e2;cases e1;cases e2;exact s
   .exact⟨.refl,[],rfl,rfl,λk p q r _ _ e=>by simp at e⟩
   rintro es S2 ip ⟨le,qs,rfl,ql,hq⟩;rw[gx] at ql;exact⟨(l1.trans le).app,qs,_,_,_,_,rfl,(l1.trans le).1,zx,zmQ lz hm.2 hr ei ej ⋯ ql hq⟩
  have h0:rws=[]:=DZ.1 ⋯;subst h0;exact⟨l1,_,_,_,_,_,rfl,AF _,gQ,zmP⟩
 rintro _ S2 ⟨l2,qs,pn,a4,a5,a6,rfl,iU,lu,sp⟩;have ql:=sp.len;ext;refine(wx ((hs.le l2).le (Le.refl.app)) ⟨∅,∅⟩ ∅ ∅).imp ?_;rintro _ _ ⟨rfl,d,rfl,d0,d3⟩;obtain⟨off,eo,on,ob⟩:∃off:Int,atI [Xv.tup [.int 1,.int 1],.tup [.int (-1),.int 1],.tup [.int (10^(40:Int).toNat),.int 1]] d=dE (.tup [.int off,.int 1])/\off≠0/\off.natAbs<=2^133:=by
  obtain rfl|rfl|rfl:d=0\/d=1\/d=2:=by omega
  .exact⟨1,rfl,∅,∅⟩
  .exact⟨-1,rfl,∅,∅⟩
  exact⟨10^(40:Int).toNat,rfl,∅,∅⟩
 apply wf (zb zx) eo;have l3:Le S (S2++[Ce.lst [Xv.tup [.int 1,.int 1],.tup [.int (-1),.int 1],.tup [.int (10^(40:Int).toNat),.int 1]]]):=l2.app;have oz:(S2++[Ce.lst [Xv.tup [.int 1,.int 1],.tup [.int (-1),.int 1],.tup [.int (10^(40:Int).toNat),.int 1]]])[pn]? =dE (.lst (qs.map qv)):=zj lu;generalize S2++[Ce.lst [Xv.tup [.int 1,.int 1],.tup [.int (-1),.int 1],.tup [.int (10^(40:Int).toNat),.int 1]]]=S3 at l3 oz ⊢;obtain⟨lq,sk,sr⟩:∃lq,qs[many]? =dE lq/\qs.getD many (0,1)=lq:=by
  have e:qs[many]? =dE (qs[many]'⋯):=As _;exact⟨_,e,by rw[Av,e];rfl⟩
 have lf:=sp.las;rw[sr] at lf;refine zQ (Wx ?_);apply zaw;ext;refine wf (zb oz) (ZW (z:=qv lq) ⋯ (by rw[Ax,AV,sk];rfl)) ?_;ext;refine(Uh aD (a:=[lq,(off,1)]) (b:=[(1,1),(1,1)]) (zj zx) (.qv _) zx ⟨AF _,by simp⟩ (λz hz=> ?_) (λz hz=> ?_)).imp ?_;rcases AW.1 hz with rfl|hz;exact lf.bits (n:=400) (*...*) ∅ ∅;rw[AI.1 hz];exact⟨EZ,zm.small (by show(1:Int).natAbs<_;decide) ∅,zm.mono (n:=134) (B9 ob ∅) ∅⟩
 .have:z=(1,1):=by
   rcases AW.1 hz with rfl|hz;rfl;exact AI.1 hz
  rw[this];exact⟨∅,zm.small ∅ ∅,zm.small ∅ ∅⟩
 rintro _ _ ⟨rfl,l,rfl,sl⟩;ext;have l4:Le S (S3++[Ce.lst (([lq,(off,1)]:mZ Q2).map qv)]++[Ce.lst (([(1,1),(1,1)]:mZ Q2).map qv)]):=l3.app.app;have i6:(S3++[Ce.lst (([lq,(off,1)]:mZ Q2).map qv)]++[Ce.lst (([(1,1),(1,1)]:mZ Q2).map qv)])[pn]? =dE (.lst (qs.map qv)):=zj (zj oz);generalize S3++[Ce.lst (([lq,(off,1)]:mZ Q2).map qv)]++[Ce.lst (([(1,1),(1,1)]:mZ Q2).map qv)]=S4 at l4 i6 ⊢;refine⟨pn,_,_,many,xz i6,rfl,UR (by rw[Aw];omega),?_⟩;have l5:Le S (S4.set pn (.lst ((qs.map qv).set many (qv l)))):=l4.set iU;have gD:qs.set many l=qs.take many++[l]:=by
  have h1:qs=qs.take many++[lq]:=by
   conv=>lhs;rw[<-Gb many qs,DF ⋯,List.drop_of_length_le ⋯]
   congr 2
   exact(Au.1 sk).2
  conv=>lhs;rw[h1]
  rw[List.set_append_right _ _ (by rw[B6];omega),B6,show many-min many qs.length=0 by omega];rfl
 have oy:(S4.set pn (.lst ((qs.map qv).set many (qv l))))[pn]? =dE (.lst ((qs.take many++[l]).map qv)):=by rw[yG i6,<-gD,EG]
 generalize S4.set pn (.lst ((qs.map qv).set many (qv l)))=S5 at l5 oy ⊢;have bad:Bad many rws (qs.take many++[l]):=by
  have h2:=sl.two;rw[CF,CF,CF] at h2;refine⟨qs,l,off,rfl,sp,⟨sl.pos.1,?_,?_⟩,on,?_⟩;have:=h2.2;have:=sl.pos.1;have:=lf.2.1;omega
  .exact sl.bd (2^235) 1 (λz hz=>by
    rcases AW.1 hz with rfl|hz;exact lf.2.2
    .rw[AI.1 hz];exact AA ob (show 2^133<=2^235*(1:Int).natAbs by decide)) (λz hz=>by
    have:z=(1,1):=by
     rcases AW.1 hz with rfl|hz;rfl;exact AI.1 hz
    rw[this]
    decide)
  rw[h2.1,sr,Ug,zk9,FZ,FZ]
 generalize qs.take many++[l]=row at oy bad;have r5:=l5.2 _ _ r1;ext;apply we (zb r5);ext;rw[Aw,r2];refine(wx (hs.le l5) ⟨∅,∅⟩ ∅ ⋯).imp ?_;rintro _ _ ⟨rfl,a0,rfl,a1,a2⟩;obtain⟨at',rfl⟩:∃n:Nat,a0=n:=⟨a0.toNat,⋯⟩;ext;apply zfy (zb r5);rw[zkW];ext;apply XZ (zb (zj zx)) (zb zx) (by rw[B6,Aw];simp;omega);ext;apply zfy (zb (zj (zj (zj r5))));rw[zla];apply XZ (zb (zj zx)) (zb zx) (by simp;omega);ext;have em:(ms.map Xv.ref).take at'++[.ref pn]++(ms.map Xv.ref).drop at'=(UU at' pn ms).map .ref:=by simp[UU]
 rw[em];refine⟨l5.app.app.app.app.app,_,at',row,rfl,⋯,⟨_,zx,by rw[UV,UV,r2],λi m r e1 e2=> ?_⟩,bad⟩;have key:S5[m]? =dE (.lst (r.map qv)):=by
  rw[zhl ⋯] at e1 e2;by_cases c1:i<at';rw[if_pos c1] at e1 e2;exact l5.2 _ _ (r3 i m r e1 e2).2;rw[if_neg c1] at e1 e2;by_cases c2:i=at';rw[if_pos c2] at e1 e2;cases e1;cases e2;exact oy;rw[if_neg c2] at e1 e2;exact l5.2 _ _ (r3 (i-1) m r e1 e2).2
 refine⟨λz=> ?_,zj (zj (zj (zj (zj key))))⟩;have:=Zw key;rw[z] at this;simp at this;omega
def zlb{f:Nat->Rat}:∀n,k<=n->yq (n+1) (λi=>if i<k then f i else if i=k then g else f (i-1))=yq n f+g:=by
 intro n
 induction n with
 |zero=>
  intro h;obtain rfl:k=0:=by omega
  show 0+g=0+g;rfl
 |succ n ih=>
  intro h;rw[yq];by_cases e:k=n+1;subst e;rw[if_neg (C0 _),if_pos rfl,yf (g:=f) _ λi hi=>if_pos hi];rw[ih ⋯,if_neg ⋯,if_neg ⋯,yq,CK];grind
def zoV(hk:k<=rws.length):el (UU k row rws) i c=if i<k then el rws i c else if i=k then rq (row.getD c (0,1)) else el rws (i-1) c:=by
 unfold el;rw[Av (l:=UU k row rws),zhl hk,Av (l:=rws),Av (l:=rws)];split;rfl
 split<;>rfl
def zmR(hk:k<=rws.length)(b:Bad many rws row):∃(Y:Nat->Int) (F:Int),F≠0/\Vs (UU k row rws).length (xM many (UU k row rws)) Y F:=by
 obtain⟨qs,l,off,rfl,sp,_,on,hl⟩:=b;obtain⟨w,hw⟩:=sp.w;have tl:(qs.take many).length=many:=by rw[B6,sp.len];omega
 obtain⟨g1,g2⟩:=zdS (l:=l) tl;refine⟨λi=>if i<k then w i else if i=k then -1 else w (i-1), -off,⋯,ze3.2 ?_⟩;rw[UV];have key:∀c,yq (rws.length+1) (λi=>el (UU k (qs.take many++[l]) rws) i c*((if i<k then w i else if i=k then -1 else w (i-1):Int):Rat))=yq rws.length (λi=>el rws i c*(w i:Rat))+ -rq ((qs.take many++[l]).getD c (0,1)):=λc=>by
  rw[<-zlb (k:=k) _ hk];refine yf _ λi _=> ?_;rw[zoV hk];split;rfl;split;rw[FO,show((1:Int):Rat)=1 from rfl];grind;rfl
 refine⟨λc hc=> ?_,?_⟩;rw[key,g1 c hc,<-hw c ⋯];rw[Av (l:=qs.take many),BK hc,<-Av];grind;rw[key,g2,hl,hw many (AF _),FO];grind
def zlc(lz:LwZ many zs xs)(hm:1<=many/\many<=5)(hl:rws.length<=5)(h:∀row∈rws,LwR many zs xs row)(b:Bad many rws row):RBs many (UU k row rws):=by
 refine⟨hm,by rw[UV];omega,λr hr=> ?_⟩;unfold UU at hr;rcases AU.1 hr with hr|hr;rcases AU.1 hr with hr|hr;exact (h r (CW hr)).rb lz hm.2;rw[AI.1 hr];obtain⟨qs,l,off,rfl,sp,lf,_⟩:=b;exact .of (by rw[B6,sp.len];omega) (λq hq=>(sp.par q hq).mono ∅ ∅) lf sp.pro;exact (h r (Gj hr)).rb lz hm.2
noncomputable def qD(q:Q2):D:= .tup [.int q.1,.int q.2]
def zgg(q:Q2):wU S (n+2) (qv q)=dE (qD q):=by
 show(vX (wU S (n+1)) [.int q.1,.int q.2]).map D.tup=_;rfl
def zqa(p q:Q2):eqG (n+2) (qD p) (qD q)=dE (decide (p=q)):=by
 show(Wz (eqG (n+1)) [.int p.1,.int p.2] [.int q.1,.int q.2]).map (· &&(([D.int p.1,.int p.2]:mZ D).length==([D.int q.1,.int q.2]:mZ D).length))=_;have e1:∀a b:Int,eqG (n+1) (.int a) (.int b)=dE (a==b):=λa b=>rfl;by_cases h1:p.1=q.1<;>by_cases h2:p.2=q.2<;>simp[Wz,e1,h1,h2,Prod.ext_iff]
def TU(k:P (.bl (neg !=decide (p=q))) S):WO (zas neg (qv p) (qv q) S) P:=zjP (zgg p) (zgg q) rfl (zqa p q) k
def zmS(aD:Big fu)(h0:0<q.2)(hc:C1 q.1 q.2=1)(hb:zm 50000 q.2):W (YF fu [qv q] S) λv S'=>v= .bl fJ/\S=S':=by
 walk_at "wr";unfold YE;refine zQ (yA (YX ?_));ext;apply Wy (v:=fJ) rfl;ext;refine⟨nofun,λ_=> ?_⟩;ext;refine .of (show vF [qv q] S=dE (.int 2,S) from rfl) ?_;ext;refine⟨nofun,λ_=>yh ?_⟩;refine zQ (wd (zor ?_));ext;refine xk (xs:=[.int q.1,.int q.2]) (λi ρ S'=>S=S'/\∃a,ρ=[dE (qv q),a]) ?_ ?_ ?_ ?_;rintro i ρ S' _ _;rfl
 .rintro i y ρ S' hy ⟨rfl,a,rfl⟩;obtain⟨v,rfl⟩:∃v,y= .int v:=by
   rcases AW.1 (Ay hy) with rfl|h;exact⟨_,rfl⟩;exact⟨_,AI.1 h⟩
  refine .of rfl ?_;dsimp only[Bt];refine yA (YX ?_);ext;apply Wy (v:=fJ) rfl;ext;refine⟨nofun,λ_=> ?_⟩;ext;apply Wy (v:=kb) rfl;ext;exact⟨nofun,λ_=>yh ⟨rfl,_,rfl⟩⟩
 .exact⟨rfl,_,rfl⟩
 rintro _ _ ⟨rfl,a,rfl⟩;refine vG (zdn ?_);ext;refine .of (show Th (qv q) (.int 1) S=dE (.int q.2,S) from rfl) ?_;ext;refine⟨λ_=> ?_,λz=>absurd z (by simpa using h0)⟩;ext;refine .of (show Th (qv q) (.int 0) S=dE (.int q.1,S) from rfl) ?_;ext;refine .of (show Th (qv q) (.int 1) S=dE (.int q.2,S) from rfl) ?_;ext;refine(Xb aD h0 (hb.mono ∅)).imp ?_;rintro _ _ ⟨rfl,rfl⟩;ext;rw[zbF h0 h0 hc (C4 ..)];apply TU;exact⟨by simp,rfl⟩
def zld:∀n,Ux (AK n (.bl fJ))=dE (AK n fJ):=by
 intro n
 induction n with
 |zero=>rfl
 |succ n ih=>rw[BW,Ux,ih];rfl
structure Lst(S:Sto)(n:Nat)(qs:mZ Q2):Prop where
 cell:S[n]? =dE (.lst (qs.map qv))
 low:∀q∈qs,0<q.2/\C1 q.1 q.2=1/\zm 50000 q.2/\zm 2200000 q.1
def zdT(aD:Big fu)(h:Lst S n qs)(hl:qs.length<=10):W (vS fu [.ref n,.int qs.length] S) λv S'=>v= .bl fJ/\Le S S':=by
 walk_at "wr";unfold XR;refine zQ (yA (YX ?_));ext;apply Wy (v:=fJ) (by show(zF S (.ref n)).map _=_;rw[zb h.cell];rfl);ext;refine⟨nofun,λ_=> ?_⟩;ext;apply we (zb h.cell);ext;rw[Aw];refine⟨λz=>absurd z (by simp),λ_=>yh ?_⟩;refine vG (zcs (xy (yx (zoq ?_))));ext;refine⟨n,_,rfl,zb h.cell,_,zb h.cell,?_⟩;refine yp (xs:=qs.map qv) (by rw[Aw];exact AX (yE ⋯)) (λj es S1=>S=S1/\es=AK j (.bl fJ)) ?_ ?_ ?_ ?_;rintro j es S1 _ ⟨rfl,_⟩;exact zb h.cell;rintro j y es S1 hy c9 ⟨rfl,rfl⟩;rw[Ax,AB] at hy;obtain⟨q,hy,rfl⟩:=hy;obtain⟨q0,qc,qb,_⟩:=h.low q (Ay hy);refine .of rfl ?_;ext;refine⟨rfl,?_⟩;ext;refine(zmS aD q0 qc qb).imp ?_;rintro _ _ ⟨rfl,rfl⟩;exact⟨rfl,by rw[Gk]⟩;exact⟨rfl,rfl⟩;rintro es S1 c9 ⟨rfl,rfl⟩;ext
 refine .of (show zlJ [.ref S.length] (S ++ [.lst (AK (qs.map qv).length (.bl fJ))]) = dE (.bl fJ, S ++ [.lst (AK (qs.map qv).length (.bl fJ))]) by
  show((zF _ (.ref S.length)).bind Ux).map _=_;rw[zb zx,AO,zld,Cr]
  simp) ?_
 exact⟨rfl,Le.refl.app⟩
def Fd.lst{many n:Nat}{rws:mZ (mZ Q2)}(h:Fd many rws S n ts b):Lst S n (ts.map (vW · b))/\(ts.map (vW · b)).length=many/\∀c,c<many->rq ((ts.map (vW · b)).getD c (0,1))*b=vec ts c:=by
 obtain⟨h1,h2,⟨h3,h4,h5⟩,_⟩:=h;refine⟨⟨h1,λq hq=> ?_⟩,by rw[Aw,h2],λc hc=> ?_⟩;obtain⟨t,ht,rfl⟩:=Be.1 hq;have l:=zbE (t:=t) h3;exact⟨l.pos.1,l.co,h4.abs (by have:=l.pos;omega),(h5 t ht).abs l.ab⟩;have e:ts[c]? =dE (ts[c]'⋯):=As _;rw[Av,Ax,e];show rq (vW _ b)*b=_;rw[zk0 h3];unfold vec;rw[Av,e];rfl
def Fd.val(h:Fd many rws S n ts b)(hi:i<rws.length):yq many (λc=>el rws i c*rq ((ts.map (vW · b)).getD c (0,1)))=el rws i many:=by
 have e:=h.sol i hi;obtain⟨_,_,hv⟩:=h.lst;have b0:=YI (show b≠0 by have:=h.pos.1;omega);rw[yf (g:=λc=>(b:Rat)*(el rws i c*rq ((ts.map (vW · b)).getD c (0,1)))) _ λc hc=>by rw[<-hv c hc];grind,Yf] at e;grind
def zgh(hp:0<p.2)(hq:0<q.2)(cp:C1 p.1 p.2=1)(cq:C1 q.1 q.2=1)(e:rq p=rq q):p=q:=by
 have h1:=Wb hp;have h2:=Wb hq;have h3:p.1*q.2=p.2*q.1:=by
  apply FN.1;rw[C6,C6,<-h1,<-h2,e];grind
 rw[<-zbF hp hp cp (C4 ..)];exact zbF hp hq cq h3
def zoW(aD:Big fu)(B:RBs many rws)(h:wV S rn rws)(j9:∀(i:Nat) row q,rws[i]? =dE row->row[many]? =dE q->C1 q.1 q.2=1)(hv:zmI many rws v S):W (vh fu [v,.ref rn,.int many] S) λv S'=>v= .bl fJ/\Le S S':=by
 obtain⟨xn,zn,ts,b,us,e,free,rfl,fx,hf,fz⟩:=hv;obtain⟨lx,xl,_⟩:=fx.lst;obtain⟨lz,zl,zv⟩:=fz.lst;have mb:=B.m;have hlen:∀row∈rws,row.length=many+1:=λrow hr=>(B.rb row hr).len;have vx:=λi hi=>fx.val (i:=i) hi;have vz:∀i,i<rws.length->yq many (λc=>el rws i c*rq ((us.map (vW · e)).getD c (0,1)))=0:=λi hi=>by
  obtain⟨h1,_,_⟩:=ze5 (free:=free) hlen;have:=fz.val (i:=i) (by rw[zcK];omega);rw[(h1 i hi).2] at this;rw[<-this];exact yf _ λc hc=>by rw[(h1 i hi).1 c hc]
 have zf:rq ((us.map (vW · e)).getD free (0,1))=1:=by
  have h1:=((zcL hlen hf).1 fz.sol).2;have h2:=zv free hf;rw[h1] at h2;have e0:=YI (show e≠0 by have:=fz.pos.1;omega);grind
 generalize ts.map (vW · b)=X at lx xl vx;generalize us.map (vW · e)=Z at lz zl vz zf;clear fx fz zv;walk_at "wr";unfold vg;refine zQ (yA (YX ?_));ext;refine .of (show vF [Xv.tup [.str "many",.ref xn,.ref zn]] S=dE (.int 3,S) from rfl) ?_;ext;refine⟨nofun,λ_=>YX ?_⟩;ext;rw[<-xl];refine(zdT aD lx ⋯).imp ?_;rintro _ S1 ⟨rfl,l1⟩;ext;refine⟨nofun,λ_=> ?_⟩;ext;apply wM (z:= .ref zn) rfl rfl;ext;rw[xl,<-zl];refine(zdT aD (n:=zn) (qs:=Z) ⟨l1.2 _ _ lz.cell,lz.low⟩ ⋯).imp ?_;rintro _ S2 ⟨rfl,l2⟩;ext;refine⟨nofun,λ_=>yh ?_⟩;rw[zl];have mw:=l1.trans l2;have fh:=mw.2 _ _ lx.cell;have gy:=mw.2 _ _ lz.cell;obtain⟨ms,r1,r2,r3⟩:=id (h.le mw);refine zQ (wd (vq ?_));ext;refine⟨_,zb r1,_,zb r1,?_⟩;refine xk (xs:=ms.map .ref) (λi ρ S3=>S2=S3/\∃a,ρ=[dE (.tup [.str "many",.ref xn,.ref zn]),dE (.ref rn),dE (.int many),a]) ?_ ?_ ?_ ?_;rintro i ρ S3 _ ⟨rfl,_⟩;exact zb r1
 .rintro i y ρ S3 hy ⟨rfl,a,rfl⟩;rw[Ax,AB] at hy;obtain⟨m,hy,rfl⟩:=hy;have hi:i<rws.length:=by rw[<-r2];exact(Au.1 hy).1
  obtain⟨row,hr,er,ee⟩:=zgf hi;have hm:=(r3 i m row hy er).2;have rl:=hlen row hr;have eq:row[many]? =dE (row[many]'⋯):=As _;generalize row[many]'⋯=q at eq;have bt:∀z∈row,0<z.2/\zm 50000 z.2/\zm 2200000 z.1:=λz hz=>by
   have:=(B.orig row hr).1.bit z hz;exact⟨this.1,this.2.1.mono ∅,this.2.2.mono ∅⟩
  refine .of rfl ?_;dsimp only[Bt];refine yA (YX ?_);ext;refine(Uh aD hm (.qv row) fh ⟨⋯,⋯⟩ bt (λz hz=>⟨(lx.low z hz).1,(lx.low z hz).2.2⟩)).imp ?_;rintro _ _ ⟨rfl,p,rfl,sp⟩;ext;refine wf (zb hm) (ZW (z:=qv q) ⋯ (by rw[Ax,AV,eq];rfl)) ?_
  have ep:p=q:=zgh sp.pos.1 (bt q (Ay eq)).1 sp.co (j9 i row q er eq) (by
   have:=vx i hi;rw[sp.val,xl,yf _ λc _=>by rw[<-ee c],this,ee many,Av,eq]
   rfl)
  apply TU;ext;refine⟨λz=>absurd z (by simp[ep]),λ_=> ?_⟩;ext;apply wM (z:= .ref zn) rfl rfl;ext;refine(Uh aD hm (.qv row) gy ⟨⋯,⋯⟩ bt (λz hz=>⟨(lz.low z hz).1,(lz.low z hz).2.2⟩)).imp ?_;rintro _ _ ⟨rfl,p',rfl,sp'⟩;ext
  have ep':p'=(0,1):=zgh sp'.pos.1 ∅ sp'.co ∅ (by
   rw[sp'.val,zl,yf _ λc _=>by rw[<-ee c],vz i hi,Wa])
  apply TU (q:=(0,1));ext;refine⟨λz=>absurd z (by simp[ep']),λ_=>yh ⟨rfl,_,rfl⟩⟩
 .exact⟨rfl,_,rfl⟩
 rintro _ _ ⟨rfl,a,rfl⟩;refine vG (vp (zcs (xy (yx (vq ?_)))));ext;apply wM (z:= .ref zn) rfl rfl;refine⟨_,zb gy,_,zb gy,?_⟩;refine zbk (xs:=Z.map qv) (by rw[Aw];exact AX (yE ⋯)) (λj es S3=>S2=S3/\(free<j->0<es.length)) ?_ ?_ ?_ ?_;rintro j es S3 _ ⟨rfl,_⟩;exact zb gy
 .rintro j y es S3 hy _ ⟨rfl,ig⟩;rw[Ax,AB] at hy;obtain⟨q,hy,rfl⟩:=hy;refine .of rfl ?_;ext;apply TU (q:=(0,1));ext;refine⟨λ_=> ?_,λz=>⟨rfl,λhj=> ?_⟩⟩;ext;exact⟨rfl,λ_=>by simp⟩;by_cases e:free=j
  .subst e;have:q=(0,1):=by simpa using z
   rw[Av,hy,this,By,Wa] at zf;exact absurd zf ∅
  exact ig ⋯
 .exact⟨rfl,λz=>by omega⟩
 rintro es S3 _ ⟨rfl,ig⟩;rw[Aw,zl] at ig;ext;apply we (zb zx);ext;have:=ig hf;exact⟨congrArg Xv.bl (decide_eq_true ⋯),mw.app⟩
def zoX(aD:Big fu)(B:RBs many rws)(h:wV S rn rws)(hv:zmJ many rws v S):W (vj fu [v,.ref rn,.int many] S) λv S'=>v= .bl fJ/\Le S S':=by
 obtain⟨yn,ts,b,rfl,fy⟩:=hv;obtain⟨ly,yl,_⟩:=fy.lst;have mb:=B.m;have nb:=B.n;have hlen:∀row∈rws,row.length=many+1:=λrow hr=>(B.rb row hr).len;have vy:∀c,c<=many->yq rws.length (λi=>rq ((Zn rws c).getD i (0,1))*rq ((ts.map (vW · b)).getD i (0,1)))=if c=many then 1 else 0:=λc hc=>by
  have:=fy.val (i:=c) (by rw[ze2];omega);rw[(Vl hc).2] at this;rw[<-this];refine yf _ λi hi=> ?_;rw[(Vl hc).1 i hi];unfold el Zn;rw[Av,Ax,As hi,show rws.getD i []=rws[i] by rw[Av,As hi];rfl];rfl
 generalize ts.map (vW · b)=Y at ly yl vy;clear fy;have cb:∀c,c<=many->∀z∈Zn rws c,0<z.2/\zm 50000 z.2/\zm 2200000 z.1:=λc hc z hz=>by
  unfold Zn at hz;obtain⟨row,hr,rfl⟩:=Be.1 hz;have rl:=hlen row hr;have:=(B.orig row hr).1.bit (row.getD c (0,1)) (by rw[Av,As ⋯];exact C8 _);exact⟨this.1,this.2.1.mono ∅,this.2.2.mono ∅⟩
 have cl:∀c,(Zn rws c).length=rws.length:=λc=>Aw ..;have ku:∀(c:Nat) (S1:Sto) (xs:mZ Xv),c<=many->S1[yn]? =dE (.lst (Y.map qv))->QxL xs (Zn rws c)->W (yS fu [.ref S1.length,.ref yn] (S1++[.lst xs])) λv S'=>S1++[.lst xs]=S'/\∃q,v=qv q/\(q=(0,1)↔c≠many):=λc S1 xs hc hy hx=>by
  refine(Uh aD zx hx (zj hy) ⟨by rw[yl,cl];exact AF _,by rw[cl];omega⟩ (cb c hc) (λz hz=>⟨(ly.low z hz).1,(ly.low z hz).2.2⟩)).imp ?_;rintro _ _ ⟨rfl,p,rfl,sp⟩;refine⟨rfl,p,rfl,?_⟩;have e:=vy c hc;have gC:=sp.val;rw[yl,e] at gC;constructor;rintro rfl z;rw[if_pos z,Wa] at gC;exact absurd gC ∅;intro z;rw[if_neg z] at gC;exact zgh sp.pos.1 ∅ sp.co ∅ (gC.trans Wa.symm)
 walk_at "wr";unfold vi;refine zQ (yA (YX ?_));ext;refine .of (show vF [Xv.tup [.str "none",.ref yn]] S=dE (.int 2,S) from rfl) ?_;ext;refine⟨nofun,λ_=> ?_⟩;obtain⟨ms,r1,r2,r3⟩:=id h;ext;refine we (zb r1) ?_;ext;rw[Aw,r2,<-yl];refine(zdT aD ly ⋯).imp ?_;rintro _ S1 ⟨rfl,l1⟩;ext;refine⟨nofun,λ_=>yh ?_⟩;refine zQ (wd (Xu ?_));ext;refine⟨⟨⋯,⋯⟩,yK 0 many,by rw[AV],?_⟩;refine xk (xs:=yK 0 many) (λi ρ S2=>Le S S2/\∃a,ρ=[dE (.tup [.str "none",.ref yn]),dE (.ref rn),dE (.int many),a]) ?_ ?_ ?_ ?_;rintro i ρ S2 _ _;rw[AV];rintro c z ρ S2 hz ⟨l2,a,rfl⟩;obtain⟨hc,rfl⟩:=vt hz;rw[CV];refine .of rfl ?_;dsimp only[Bt];refine yA (zju (vp (zaw (xy ?_))));refine zhj (c:=c) rfl rfl (h.le l2).toX ⋯ (λrow hr=>by rw[hlen row hr];omega) λxs hx=> ?_;ext;refine(ku c S2 xs ⋯ (l2.2 _ _ ly.cell) hx).imp ?_;rintro _ _ ⟨rfl,q,rfl,hq⟩;ext;refine TU (q:=(0,1)) ?_;ext;refine⟨λz=>absurd z (by simp[hq.2 ⋯]),λ_=>yh ⟨l2.app,_,rfl⟩⟩;exact⟨l1,_,rfl⟩;rintro _ S2 ⟨l2,a,rfl⟩;refine vG (vp (zaw (xy ?_)));refine zhj (c:=many) rfl rfl (h.le l2).toX ⋯ (λrow hr=>by rw[hlen row hr];omega) λxs hx=> ?_;ext;refine(ku many S2 xs (AF _) (l2.2 _ _ ly.cell) hx).imp ?_;rintro _ _ ⟨rfl,q,rfl,hq⟩;ext;refine TU (q:=(0,1)) ?_;rw[decide_eq_false (show ¬q=(0,1) from λz=>hq.1 z rfl)];exact⟨rfl,l2.app⟩
def zdU(h:decide (a=b)=c)(k:P (.bl (neg !=c)) S):WO (zfw neg (.str a) (.str b) S) P:= .of (by show dE (Xv.bl (neg !=decide (a=b)),S)=_;rw[h]) k
def Knw(many:Nat)(word:Str)(rws:mZ (mZ Q2)):Prop:=(word="many"/\KnM many rws/\∀(i:Nat) row q,rws[i]? =dE row->row[many]? =dE q->C1 q.1 q.2=1)\/(word="none"/\∃(Y:Nat->Int) (F:Int),F≠0/\Vs rws.length (xM many rws) Y F)
def zqb(many:Nat)(word:Str)(rws:mZ (mZ Q2))(v:Xv)(S:Sto):Prop:=(word="many"/\(∀(i:Nat) row q,rws[i]? =dE row->row[many]? =dE q->C1 q.1 q.2=1)/\zmI many rws v S)\/(word="none"/\zmJ many rws v S)
def zqc(aD:Big fu)(B:RBs many rws)(kn:Knw many word rws)(h:vY S rn rws)(bI:S[1]? =dE (.tab Yc.t)):W (wG fu [.ref rn,.int many] S) λv S'=>Le S S'/\zqb many word rws v S':=by
 rcases kn with⟨e,k,co⟩|⟨e,Y,F,hF,hY⟩
 .exact (zoT aD B k h bI).imp λv S1 ⟨l,a⟩=>⟨l,.inl ⟨e,co,a⟩⟩
 exact (zoU aD B hF hY h bI).imp λv S1 ⟨l,a⟩=>⟨l,.inr ⟨e,a⟩⟩
def zmT(aD:Big fu)(B:RBs many rws)(h:wV S rn rws)(hv:zqb many word rws v S):W (YH fu [v,.str word,.ref rn,.int many] S) λv S'=>v= .bl fJ/\Le S S':=by
 have ex:∃l,v= .tup (.str word::l)/\1<=l.length:=by
  rcases hv with⟨rfl,_,_,_,_,_,_,_,_,rfl,_⟩|⟨rfl,_,_,_,rfl,_⟩
  .exact⟨_,rfl,by simp⟩
  exact⟨_,rfl,by simp⟩
 obtain⟨l,rfl,hl⟩:=ex;walk_at "wr";unfold YG;refine zQ (yA (YX ?_));ext;apply Wy (v:=fJ) rfl;ext;refine⟨nofun,λ_=>YX ?_⟩;ext;refine .of (show vF [Xv.tup (.str word::l)] S=dE (.int (l.length+1:Nat),S) from rfl) ?_;ext;refine⟨λz=>absurd z (by simp;omega),λ_=>YX ?_⟩;ext;apply Wy (v:=fJ) rfl;ext;refine⟨nofun,λ_=> ?_⟩;ext;apply zdU (decide_eq_true rfl);ext;refine⟨nofun,λ_=>yh ?_⟩;refine zQ (yA ?_);ext;rcases hv with⟨rfl,co,a⟩|⟨rfl,a⟩
 .apply zdU (decide_eq_true rfl);ext;refine⟨λ_=> ?_,nofun⟩;ext;exact zoW aD B h co a
 apply zdU (c:=kb) ∅;ext;refine⟨nofun,λ_=>yh ?_⟩;ext;exact zoX aD B h a
noncomputable def zle(row:mZ Q2):D:= .lst (row.map qD)
def zlf(h:S[c]? =dE (.lst (T.map qv))):wU S (n+3) (.ref c)=dE (zle T):=by
 have qs:vX (wU S (n+2)) (T.map qv)=dE (T.map qD):=by
  clear h
  induction T with
  |nil=>rfl
  |cons q T ih=>
   rw[AZ,AZ];unfold vX;rw[zgg,ih];rfl
 show(zF S (.ref c)).bind (λl=>(vX (wU S (n+2)) l).map D.lst)=_;rw[zb h,AO,qs];rfl
def zcN(h:wV S c rws):wU S (n+4) (.ref c)=dE (.lst (rws.map zle)):=by
 obtain⟨ms,h1,h2,h3⟩:=h;have:∀(ms:mZ Nat) (rws:mZ (mZ Q2)),ms.length=rws.length->(∀(i m:Nat) row,ms[i]? =dE m->rws[i]? =dE row->S[m]? =dE (.lst (row.map qv)))->vX (wU S (n+3)) (ms.map .ref)=dE (rws.map zle):=by
  intro ms
  induction ms with
  |nil=>
   intro rws h _;rw[DZ.1 h.symm];rfl
  |cons m ms ih=>
   intro rws h g;cases rws with
   |nil=>cases h
   |cons row rws=>
    rw[AZ,AZ];unfold vX;rw[zlf (g 0 m row rfl rfl),ih rws (by simpa using h) λi m' r e1 e2=>g (i+1) m' r (by simpa using e1) (by simpa using e2)];rfl
 show(zF S (.ref c)).bind (λl=>(vX (wU S (n+3)) l).map D.lst)=_;rw[zb h1,AO,this ms rws h2 λi m r e1 e2=>(h3 i m r e1 e2).2];rfl
def ze6(h:∀d∈l,eqG n d d=dE fJ):eqG (n+1) (.lst l) (.lst l)=dE fJ:=by
 have:Wz (eqG n) l l=dE fJ:=by
  induction l with
  |nil=>rfl
  |cons d l ih=>
   unfold Wz;rw[h d (.head _),ih λd hd=>h d (.tail _ hd)];rfl
 unfold eqG;dsimp only;rw[if_pos rfl,this]
def zie:eqG (n+4) (.lst (rws.map zle)) (.lst (rws.map zle))=dE fJ:=by
 refine ze6 λd hd=> ?_;obtain⟨row,_,rfl⟩:=Be.1 hd;refine ze6 λd hd=> ?_;obtain⟨q,_,rfl⟩:=Be.1 hd;rw[zqa,decide_eq_true rfl]
def zqd(aD:Big fu)(ns:mZ Int)(hl:ns.length<=63):W (zf4 fu [.ref 0] (.frz (ns.map Xv.int)::WR.map .tab)) λv _=>v= .bl fJ:=by
 have hs:Scr ns (.frz (ns.map Xv.int)::WR.map .tab):=rfl;have bI:(Ce.frz (ns.map Xv.int)::WR.map Ce.tab)[1]? =dE (.tab Yc.t):=rfl;generalize (Ce.frz (ns.map Xv.int)::WR.map Ce.tab)=S at hs bI;walk_at "wr";unfold zf3;ext;refine(wx hs ⟨∅,∅⟩ ∅ ∅).imp ?_;rintro _ _ ⟨rfl,m0,rfl,m1,m2⟩;ext;obtain⟨many,dJ⟩:∃n:Nat,1+m0=n:=⟨(1+m0).toNat,⋯⟩;rw[dJ];have hm:1<=many/\many<=5:=by omega
 refine(zmN aD hs hm).imp ?_;rintro _ S1 ⟨l1,rn,rws,zs,xs,rfl,_,hN,Nl,lz,hr⟩;ext;refine VM (λρ S2=>Le S S2/\∃rn rws word,ρ=[dE (.ref 0),dE (.int many),dE (.ref rn),dE (.str word),fC,fC]/\wV S2 rn rws/\RBs many rws/\Knw many word rws) (yA ?_) ?_;ext;refine(wx (hs.le l1) ⟨∅,∅⟩ ∅ ∅).imp ?_;rintro _ _ ⟨rfl,d,rfl,d1,d2⟩;ext;refine yY (λ_=> ?_) (λ_=>yh ?_);ext;refine(zid aD (hs.le l1) hm lz hN Nl hr).imp ?_;rintro _ S2 ⟨l2,rn',at',row,rfl,pE,uR,bad⟩;ext;exact⟨l1.trans l2,rn',_,_,rfl,uR,zlc lz hm Nl hr bad,.inr ⟨rfl,zmR pE bad⟩⟩;refine⟨l1,rn,rws,_,rfl,hN,zk8 lz hm Nl hr,.inl ⟨rfl,zmO lz hm.2 hr,λi row q e1 e2=> ?_⟩⟩;obtain⟨a,l,rfl,al,_,_,_,co,_⟩:=(hr row (Ay e1)).fv lz hm.2;rw[AG ⋯,al,BL] at e2;cases e2;exact co;clear hN hr Nl lz;rintro _ S2 ⟨l2,rn,rws,word,rfl,hN,B,kn⟩;have nb:=B.n;obtain⟨ms,r1,r2,r3⟩:=id hN;refine zQ (xQ (yx (vq ?_)));ext;refine⟨_,zb r1,_,zb r1,?_⟩;refine yp (xs:=ms.map .ref) (by rw[Aw];exact AX (yE ⋯)) (λj es S3=>Le S2 S3/\∃gP:mZ Nat,es=gP.map .ref/\gP.length=j/\∀(i m:Nat) row,gP[i]? =dE m->rws[i]? =dE row->S3[m]? =dE (.lst (row.map qv))) ?_ ?_ ?_ ?_;rintro j es S3 _ ⟨le,_⟩;exact zb (le.2 _ _ r1)
 .rintro j y es S3 hy c9 ⟨le,gP,rfl,g7,h'⟩;rw[Ax,AB] at hy;obtain⟨mi,hy,rfl⟩:=hy;have hj:j<rws.length:=by rw[<-r2];exact(Au.1 hy).1
  have er:rws[j]? =dE rws[j]:=As hj;generalize rws[j]=row at er;refine .of rfl ?_;ext;refine⟨rfl,?_⟩;ext;apply zlY (zb (le.2 _ _ (r3 j mi row hy er).2));refine⟨le.app,gP++[S3.length],by simp,by simp[g7],λi m row' e1 e2=> ?_⟩;rcases zbx g7 e1 with e1|⟨rfl,rfl⟩
  .exact zj (h' i m row' e1 e2)
  rw[er] at e2;cases e2;exact zx
 .exact⟨.refl,[],rfl,rfl,λi m row e=>by simp at e⟩
 rintro es S3 c9 ⟨l3,gP,rfl,g7,h'⟩;rw[Aw,r2] at g7;have hH:wV (S3++[Ce.lst (gP.map .ref)]) S3.length rws:=⟨gP,zx,g7,λi m row e1 e2=>⟨λz=>by have:=Zw (h' i m row e1 e2);omega,zj (h' i m row e1 e2)⟩⟩;have l4:Le S2 (S3++[Ce.lst (gP.map .ref)]):=l3.app;generalize S3.length=hn at hH ⊢;generalize S3++[Ce.lst (gP.map .ref)]=S4 at hH l4 ⊢;dsimp only[Bt];ext;refine(zqc aD B kn hH.toX ((l2.trans l4).2 _ _ bI)).imp ?_;rintro v S5 ⟨l5,a⟩;refine vG (zdn ?_);ext;refine(zmT aD B ((hN.le l4).le l5) a).imp ?_;rintro _ S6 ⟨rfl,l6⟩;refine⟨_,rfl,λ_=> ?_,nofun⟩;ext;apply zjP (zcN ((hH.le l5).le l6)) (zcN (((hN.le l4).le l5).le l6)) rfl zie;rfl
def zqe(aD:Big fu)(ns:mZ Int)(hl:ns.length<=63):∃S,zf4 fu [.ref 0] (.frz (ns.map Xv.int)::WR.map .tab)=dE (.ok (.bl fJ) S):=by
 obtain⟨_,S,e,rfl⟩:=zqd aD ns hl;exact⟨S,e⟩
end
end
noncomputable def zdV:Nat:=2^9000
def ze7:Big zdV:=by unfold Big zdV;exact AF _
def zoY{P:Program}{K:Ar}{mg:Str->pU pW}(T:Tx K mg)(hT:zl4 K ts WR c7):YM P w K mg base (CXE P w) 42 T.dD.a T.dD.fd ["_law_script"] (zbq K c7):=zl6 (zmo (fu:=zdV) T) hT λns hl=>zqe ze7 ns hl
noncomputable def zqf{K:Ar}{h:Heap}{mg:Str->pU pW}(X:K.In h)(G:h.Ns mainGlobals mg)
  {bh av:qm}  {aj aw du:qm} {fM:pU qm} {fL:Nat} {fK:Array (pU pW)} {e8 e7:Tok} {gm:qm} {jg:pU qm} {jf:Nat} {je:Array (pU pW)} {gk gj cX:Tok}
  (bq:AY K mainGlobals "Step"=dE (dE (.ref bh)))
  (ay:AY K mainGlobals "WholeRow"=dE (dE (.ref av)))
  (H0:FL K "small_multiple" Za)
  (H1:FL K "inverse_of" XB)
  (H2:FL K "quotient_behind" vI)
  (H3:FL K "nearest_nought" Zb)
  (H4:FL K "quotients_behind" xS)
  (H5:ML K bh "__init__" "Step.__init__" ZC)
  (H6:FL K "column_counts" ZD)
  (H7:FL K "take_off" VO)
  (H8:FL K "remainders_of" ZE)
  (H9:FL K "steps_of" wg)
  (H10:FL K "remainders_meeting" yQ)
  (H11:FL K "is_whole" VP)
  (H12:FL K "common_part" Yx)
  (H13:FL K "lowest" zbt)
  (H14:FL K "fraction" VQ)
  (H15:ML K av "__init__" "WholeRow.__init__" wN)
  (H16:FL K "shared_bottom" ZF)
  (H17:FL K "tops_over" Ym)
  (H18:FL K "whole_row" Yn)
  (H19:FL K "whole_rows" ZN)
  (H20:FL K "sum_at" UM)
  (H21:FL K "all_meet" VR)
  (H22:FL K "lifted" ZY)
  (H23:FL K "answer_of" WI)
  (H24:FL K "answer_by" WJ)
  (H25:FL K "none_by" Tk)
  (H26:FL K "many_by" Tl)
  (H27:FL K "list_by" Tn)
  (H28:FL K "list_meeting" vJ)
  (H29:FL K "free_place" vK)
  (H30:FL K "turned" WK)
  (H31:FL K "level_rows" vL)
  (H32:FL K "_law_draw" WL)
  (H33:FL K "_law_cell" WM)
  (H34:FL K "_law_lowest" Yy)
  (H35:FL K "_law_fraction" ZG)
  (H36:FL K "_law_sum" VS)
  (H37:FL K "_law_share" XC)
  (H38:FL K "_law_list" Yo)
  (H39:FL K "_law_many_shown" xX)
  (H40:FL K "_law_none_shown" xo)
  (H41:FL K "_law_right" XD)
  (H42:FL K "_law_part" WN)
  (H43:FL K "_law_rows" Zu)
  (H44:FL K "_law_spoiled" wj)
  (H45:FL K "law" zg6)
  (fA:(Vo K ⟨fC,"steps_of","steps_of"⟩).isSome=fJ)
  (iz:DA K bh Str.empty=fJ) (iy:Du K bh=fJ) (iw:E8 K bh=fJ) (iu:B2 K (.ref bh) "__setattr__"=dE (dE (.builtin "object.__setattr__"))) (jq:Ey K bh=fJ) (ji:CI K (.ref bh)=fJ)
  (bO:B2 K (.ref bh) "row"=dE fC)
  (aQ:B2 K (.ref bh) "column"=dE fC)
  (aZ:B2 K (.ref bh) "inverse"=dE fC)
  (bg:B2 K (.ref bh) "factors"=dE fC)
  (bG:B2 K (.ref bh) "parts"=dE fC)
  (eS:DA K av Str.empty=fJ) (eR:Du K av=fJ) (eQ:E8 K av=fJ) (eP:B2 K (.ref av) "__setattr__"=dE (dE (.builtin "object.__setattr__"))) (fc:Ey K av=fJ) (eX:CI K (.ref av)=fJ)
  (au:B2 K (.ref av) "parts"=dE fC)
  (aF:B2 K (.ref av) "last"=dE fC)
  (m7:AY K mainGlobals "abs"=dE fC)
  (m5:AY K mainGlobals "all"=dE fC)
  (jZ:AY K mainGlobals "bool"=dE fC)
  (jY:AY K mainGlobals "dict"=dE fC)
  (eU:AY K mainGlobals "enumerate"=dE fC)
  (lZ:AY K mainGlobals "int"=dE fC)
  (dX:AY K mainGlobals "isinstance"=dE fC)
  (lY:AY K mainGlobals "len"=dE fC)
  (jX:AY K mainGlobals "list"=dE fC)
  (lX:AY K mainGlobals "min"=dE fC)
  (iF:AY K mainGlobals "range"=dE fC)
  (fB:AY K mainGlobals "reversed"=dE fC)
  (gL:AY K mainGlobals "sorted"=dE fC)
  (lW:AY K mainGlobals "str"=dE fC)
  (lV:AY K mainGlobals "sum"=dE fC)
  (iE:AY K mainGlobals "tuple"=dE fC)
  (lU:AY K mainGlobals "zip"=dE fC)
  (q8:E9 K (.builtin "object.__class__") "__get__"=dE (dE (.builtin "getset_descriptor.__get__"))) (pV:FE K (.builtin "object.__class__")=dE fJ)
  (aq:AY K mainGlobals "LotsError"=dE (dE (.ref aj))) (cB:Gn K aj [.type "ValueError",.type "Exception",.type "BaseException",.type "object"] "ValueError.__new__"=fJ) (en:B2 K (.ref aj) "__getattribute__"=dE (dE (.builtin "BaseException.__getattribute__"))) (eh:B2 K (.ref aj) "__getattr__"=dE fC) (eT:HD K aj=fJ) (eO:B2 K (.ref aj) "__class__"=dE (dE (.builtin "object.__class__"))) (eD:BR K aj (.type "object")=dE fJ) (cD:DV K (.ref aj)=dE (.type "type")) (bX:BR K aj (.type "BaseException")=dE fJ) (cC:BR K aj (.type "ValueError")=dE fJ)
  (aB:AY K mainGlobals "NoNumber"=dE (dE (.ref aw))) (cI:Gn K aw [.type "ValueError",.type "Exception",.type "BaseException",.type "object"] "ValueError.__new__"=fJ) (eY:B2 K (.ref aw) "__getattribute__"=dE (dE (.builtin "BaseException.__getattribute__"))) (eW:B2 K (.ref aw) "__getattr__"=dE fC) (fw:HD K aw=fJ) (fm:B2 K (.ref aw) "__class__"=dE (dE (.builtin "object.__class__"))) (eZ:BR K aw (.type "object")=dE fJ) (cK:DV K (.ref aw)=dE (.type "type")) (cy:BR K aw (.type "BaseException")=dE fJ) (cJ:BR K aw (.type "ValueError")=dE fJ)
  (bF:AY K mainGlobals "NOUGHT"=dE (dE (.ref du)))
  (gv:K.lookup du=dE ⟨.type "tuple",fM,.seq #[.int 0 e8,.int 1 e7] fL,fK⟩)
  (d8:AY K mainGlobals "ONE"=dE (dE (.ref gm)))
  (kN:K.lookup gm=dE ⟨.type "tuple",jg,.seq #[.int 1 gk,.int 1 gj] jf,je⟩)
  (de:AY K mainGlobals "FIRST_MODULUS"=dE (dE (.int 1000000000000000000000000000000000000000000009 cX))):Tx K mg:={aC:=H0.to X G (λ_ _ _ _ _ _=>at_ λ_=>at_ λ_=>at_ λ_=>at0 rfl),bK:=H1.to X G (λ_ _ _ _ _ _=>at_ λ_=>at_ λ_=>at0 rfl),aH:=H2.to X G (λ_ _ _ _ _ _=>at_ λ_=>at_ λ_=>at_ λ_=>at0 rfl),aN:=H3.to X G (λ_ _ _ _ _ _=>at_ λ_=>at_ λ_=>at0 rfl),aE:=H4.to X G (λ_ _ _ _ _ _=>at_ λ_=>at_ λ_=>at_ λ_=>at0 rfl),aG:=H5.to (λ_ _ _ _ _ _=>at_ λ_=>at_ λ_=>at_ λ_=>at_ λ_=>at_ λ_=>at_ λ_=>at0 rfl),fE:=⟨jq,(H5.to (ps:=["self","row","column","inverse","factors","parts"]) (λ_ _ _ _ _ _=>at_ λ_=>at_ λ_=>at_ λ_=>at_ λ_=>at_ λ_=>at_ λ_=>at0 rfl)).mt.at_,(H5.to (ps:=["self","row","column","inverse","factors","parts"]) (λ_ _ _ _ _ _=>at_ λ_=>at_ λ_=>at_ λ_=>at_ λ_=>at_ λ_=>at_ λ_=>at0 rfl)).mt.fn,ji⟩,aV:=H6.to X G (λ_ _ _ _ _ _=>at_ λ_=>at0 rfl),cw:=H7.to X G (λ_ _ _ _ _ _=>at_ λ_=>at_ λ_=>at_ λ_=>at0 rfl),aU:=H8.to X G (λ_ _ _ _ _ _=>at_ λ_=>at_ λ_=>at0 rfl),bx:=H9.to X G (λ_ _ _ _ _ _=>at_ λ_=>at_ λ_=>at0 rfl),aA:=H10.to X G (λ_ _ _ _ _ _=>at_ λ_=>at_ λ_=>at_ λ_=>at_ λ_=>at0 rfl),bP:=H11.to X G (λ_ _ _ _ _ _=>at_ λ_=>at0 rfl),aR:=H12.to X G (λ_ _ _ _ _ _=>at_ λ_=>at_ λ_=>at0 rfl),cS:=H13.to X G (λ_ _ _ _ _ _=>at_ λ_=>at_ λ_=>at0 rfl),cx:=H14.to X G (λ_ _ _ _ _ _=>at_ λ_=>at_ λ_=>at0 rfl),ak:=H15.to (λ_ _ _ _ _ _=>at_ λ_=>at_ λ_=>at_ λ_=>at0 rfl),d7:=⟨fc,(H15.to (ps:=["self","parts","last"]) (λ_ _ _ _ _ _=>at_ λ_=>at_ λ_=>at_ λ_=>at0 rfl)).mt.at_,(H15.to (ps:=["self","parts","last"]) (λ_ _ _ _ _ _=>at_ λ_=>at_ λ_=>at_ λ_=>at0 rfl)).mt.fn,eX⟩,aS:=H16.to X G (λ_ _ _ _ _ _=>at_ λ_=>at0 rfl),bT:=H17.to X G (λ_ _ _ _ _ _=>at_ λ_=>at_ λ_=>at0 rfl),bS:=H18.to X G (λ_ _ _ _ _ _=>at_ λ_=>at0 rfl),bj:=H19.to X G (λ_ _ _ _ _ _=>at_ λ_=>at0 rfl),cF:=H20.to X G (λ_ _ _ _ _ _=>at_ λ_=>at_ λ_=>at0 rfl),bQ:=H21.to X G (λ_ _ _ _ _ _=>at_ λ_=>at_ λ_=>at_ λ_=>at0 rfl),cT:=H22.to X G (λ_ _ _ _ _ _=>at_ λ_=>at_ λ_=>at_ λ_=>at_ λ_=>at0 rfl),bU:=H23.to X G (λ_ _ _ _ _ _=>at_ λ_=>at_ λ_=>at0 rfl),bA:=H24.to X G (λ_ _ _ _ _ _=>at_ λ_=>at_ λ_=>at_ λ_=>at0 rfl),cG:=H25.to X G (λ_ _ _ _ _ _=>at_ λ_=>at_ λ_=>at_ λ_=>at0 rfl),cH:=H26.to X G (λ_ _ _ _ _ _=>at_ λ_=>at_ λ_=>at_ λ_=>at_ λ_=>at_ λ_=>at0 rfl),cj:=H27.to X G (λ_ _ _ _ _ _=>at_ λ_=>at_ λ_=>at_ λ_=>at0 rfl),aM:=H28.to X G (λ_ _ _ _ _ _=>at_ λ_=>at_ λ_=>at_ λ_=>at_ λ_=>at0 rfl),bL:=H29.to X G (λ_ _ _ _ _ _=>at_ λ_=>at_ λ_=>at0 rfl),cR:=H30.to X G (λ_ _ _ _ _ _=>at_ λ_=>at_ λ_=>at0 rfl),bJ:=H31.to X G (λ_ _ _ _ _ _=>at_ λ_=>at_ λ_=>at_ λ_=>at0 rfl),ah:=H32.to X G (λ_ _ _ _ _ _=>at_ λ_=>at_ λ_=>at_ λ_=>at_ λ_=>at0 rfl),bC:=H33.to X G (λ_ _ _ _ _ _=>at_ λ_=>at_ λ_=>at0 rfl),ai:=H34.to X G (λ_ _ _ _ _ _=>at_ λ_=>at_ λ_=>at0 rfl),aW:=H35.to X G (λ_ _ _ _ _ _=>at_ λ_=>at_ λ_=>at0 rfl),ax:=H36.to X G (λ_ _ _ _ _ _=>at_ λ_=>at_ λ_=>at0 rfl),bM:=H37.to X G (λ_ _ _ _ _ _=>at_ λ_=>at0 rfl),aX:=H38.to X G (λ_ _ _ _ _ _=>at_ λ_=>at_ λ_=>at0 rfl),aJ:=H39.to X G (λ_ _ _ _ _ _=>at_ λ_=>at_ λ_=>at_ λ_=>at0 rfl),aI:=H40.to X G (λ_ _ _ _ _ _=>at_ λ_=>at_ λ_=>at_ λ_=>at0 rfl),bN:=H41.to X G (λ_ _ _ _ _ _=>at_ λ_=>at_ λ_=>at_ λ_=>at_ λ_=>at0 rfl),bW:=H42.to X G (λ_ _ _ _ _ _=>at_ λ_=>at_ λ_=>at0 rfl),bV:=H43.to X G (λ_ _ _ _ _ _=>at_ λ_=>at_ λ_=>at0 rfl),bo:=H44.to X G (λ_ _ _ _ _ _=>at_ λ_=>at_ λ_=>at_ λ_=>at0 rfl),dD:=H45.to X G (λ_ _ _ _ _ _=>at_ λ_=>at0 rfl),dj:=fA,cZ:=H9.choose_spec.1,bq:=bh,gu:=Cz X G bq,dh:=⟨iz,iy,iw,iu⟩,cN:=bq,bO:=bO,aQ:=aQ,aZ:=aZ,bg:=bg,bG:=bG,ay:=av,dA:=Cz X G ay,bD:=⟨eS,eR,eQ,eP⟩,bz:=ay,au:=au,aF:=aF,dz:=Bj X G m7,iM:=Bj X G m5,f7:=Bj X G jZ,gq:=Bj X G jY,cE:=Bj X G eU,gn:=Bj X G lZ,ao:=Bj X G dX,aP:=Bj X G lY,dO:=Bj X G jX,iK:=Bj X G lX,aY:=Bj X G iF,dy:=Bj X G fB,eE:=Bj X G gL,iJ:=Bj X G lW,fD:=Bj X G lV,dM:=Bj X G iE,dw:=Bj X G lU,aq:=aj,eF:=Cz X G aq,cB:=⟨Cz X G aq,cB⟩,eG:=⟨en,eh,bX,eT,eO,q8,pV,eD⟩,cD:=cD,bX:=bX,cC:=cC,aB:=aw,f9:=Cz X G aB,cI:=⟨Cz X G aB,cI⟩,fg:=⟨eY,eW,cy,fw,fm,q8,pV,eZ⟩,cK:=cK,cy:=cy,cJ:=cJ,bF:=du,cO:=Cz X G bF,cU:=λH=> .inr ⟨_,_,_,gv,rfl,rfl,by show 2<=sizeLine;decide,.cons ⟨_,rfl⟩ (.cons ⟨_,rfl⟩ .nil)⟩,d8:=gm,fF:=Cz X G d8,fH:=λH=> .inr ⟨_,_,_,kN,rfl,rfl,by show 2<=sizeLine;decide,.cons ⟨_,rfl⟩ (.cons ⟨_,rfl⟩ .nil)⟩,cz:=⟨_,Cz X G de⟩}
def zoZ{l:FI}{K:Ar}{mg:Str->pU pW}(hB:zcy K ts WR=fJ)(uw:mg "law"=dE (.ref fa))(T:Tx K mg):
  ∃fd:FuncData,(∀(s:pX) (v:pW),BindsTo s fd ⟨[v],[]⟩ [("_law_script",v)])/\∀base:Heap,K.In base->base.Ns mainGlobals mg->YM l.prog w K mg base (CXE l.prog w) 42 fa fd ["_law_script"] (zbq K (WC K WR)):=by
 have e:=zoA T.dD (λ_ _=>trivial) uw;subst e
 exact⟨_,λs v=>by
  obtain⟨_,_,_,_,_,_,_,_,_,e,_⟩:=T.dD.F.ex;rw[e]
  exact .of_eq rfl,λbase _ _=>zoY T (zgZ hB)⟩
def zqs{l:FI}{XP:(Str->pU pW)->Heap->Prop}{YP:World->Heap->Prop}{K:Params->Ar}(hn:l.most=dE 63)(lM:d.params.defaults=[])
  (hY:∀(w:World) (h:Heap),YP w h->(K w.params).In h/\∀P∈ts,h.get? P=dE (Dw #[])) (hB:∀w:World,zcy (K w.params) ts WR=fJ)
  (F:∀(w:World) (mg:Str->pU pW) (fa:qm) (h:Heap),zcy (K w.params) ts WR=fJ->(K w.params).In h->h.Ns mainGlobals mg->mg d.name=dE (.ref fa)->
   ∃fd:FuncData,(∀(s:pX) (u:pW),BindsTo s fd ⟨[u],[]⟩ [("_law_script",u)])/\∀base:Heap,(K w.params).In base->base.Ns mainGlobals mg->YM l.prog w (K w.params) mg base (CXE l.prog w) 42 fa fd ["_law_script"] (zbq (K w.params) (WC (K w.params) WR))) (oT:importsNone q=fJ) (hU:l.prog.given.tree=fC):
  HJ q loose XP YP l.row.toRowW d [] (λf vs=>Hu f vs):=
 L2.zj1 (n:=63) (k:=42) (x:="_law_script") (CX:=λw=>CXE l.prog w) hn ∅ lM ⟨rfl,∅,∅,rfl⟩ hY hB (λw mg fa h=>F w mg fa h (hB w)) (λ_ _ _ _ _ ⟨_,_,_,_,_,z⟩=>z) oT hU
end Prf
open PySem.W
local macro_rules | `(tactic| walk_at "fl") => `(tactic| exact Prf.zpV (by k_is) (by k_is) (by k_is) (by k_is))
local macro_rules | `(tactic| walk_at "ml") => `(tactic| exact Prf.zpW (by k_is) (by k_is) (by k_is) (by k_is) (by k_is))
set_option maxRecDepth 100000 in
set_option maxHeartbeats 0 in
set_option tactic.hygienic true in
theorem PySem.Challenge.cw_lots_k07_many_and_none_known_holds : PySem.Challenge.rw_lots_k07_many_and_none_known.Holds := by
 w_on;o_law;k_head;(case hw=>w_witness2)
 k_fill
 refine Prf.zqs (l:=PySem.Challenge.rw_lots_k07_many_and_none_known) rfl rfl (λw h Y=>⟨PySem.W.km_in_of Y,PySem.W.km_tabs_of Y⟩) ?B ?F ?I rfl
 case I=>kernel_rfl
 case B=>intro w;kernel_rfl
 case F=>
  intro w mg fa h hB KX G jK;refine Prf.zoZ hB jK ?_;apply Prf.zqf KX G
  iterate 2 k_is
  iterate 5 walk_at "fl"
  walk_at "ml"
  iterate 9 walk_at "fl"
  walk_at "ml"
  iterate 30 walk_at "fl"
  kernel_rfl
  iterate 39 k_is
  k_exc
  iterate 9 k_is
  k_exc
  iterate 13 k_is
