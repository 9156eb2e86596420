import PyProof.Rows.All
import Wide.All
import OpenK.AllK
import Wide.FinOn
import Lean
import PyProof.EqAt
import PyProof.EqKinds
import PyProof.TupleCall
import PySem.Challenge.RW_lots_k06_one_answer_known
set_option Elab.async false
set_option linter.all false
set_option maxRecDepth 100000
set_option compiler.extract_closed false
local macro_rules | `(tactic| omega) => `(tactic| first | with_reducible assumption | lia | omega +splitDisjunctions)
open PySem.W renaming Frag->y3,nsIn->A8,findIn->A9,mg_none_of->Au,kitOne->AU,mroIn->AX,emptyDict->B6,mg_of->Bj,keepIn->Bu,instObj->Bv,kla_obj->Bz,fnOf->BL,kitMeta->BP,hasDictIn->C8,tabObj->Ca,plainGet->Cm,codeHdIn->Cq,typeIn->CM,codeIn->CN,plainOver->CT,specialIn->CU,cellsFrom_some->CW,makesIn->Dc,looks_findIn->Dd,InstAt->Dl,subIn->Dv,methodObj->Dx,kitx_list->Dy,isFn->DG,envX->DK,takerIn->DZ,takesIn->E8,findObj->Ec,OpenLaw->Ee,lookIn->Ew,kitCls->Ez,excIn->EL,clsIn->ER,codeHd_of_K->EY,callWith_K->F6,codeRec_of->F7,kitx_tuple->F9,kitx_dict->Fu,handedIn->FE,isClsIn->G5,kla_fn->G6,WalkO->Gb,KitX->Gp
open List renaming getElem?_eq_some_iff->y4,getElem?_eq_getElem->y6,length_map->y7,getElem?_map->y8,getElem?_append_left->y9,mem_of_getElem?->z4,getElem?_append_right->z6,getD_eq_getElem?_getD->z8,replicate->z9,size_toArray->A3,mem_singleton->A4,map_cons->A6,length_append->A7,mem_append->Aa,mem_append_right->Ac,getElem?_set->Af,length_cons->Ah,mem_cons_of_mem->Aj,mem_cons->Ak,length_take->Am,getElem?_eq_none->Aq,take_length->Ar,length_singleton->Ay,mem_map->AA,getElem?_of_mem->AH,take_succ->AJ,set->AK,mem_cons_self->AV,lookup_cons->AY,find?_cons->AZ,replicate_succ->B1,length_drop->B3,getElem?_range->B7,nodup_cons->B9,getElem?_zip_eq_some->Ba,map_append->Bc,range->Bt,mem_append_left->Bw,append_nil->Bx,getElem?_take_of_lt->By,flatten_cons->BD,getElem?_replicate->BF,lookup->BJ,mem_range->BX,getElem_inj->C0,filter_cons->C1,filterMap_cons->C3,map_congr_left->C4,of_mem_zip->C5,map_map->Ci,idxOf_lt_length_of_mem->Ck,any_eq_true->Cr,drop_eq_getElem_cons->Cw,zip_cons_cons->Cz,set_set->CG,eq_of_mem_replicate->CH,map_inj_right->CK,any_cons->CZ,all_eq_true->D0,getElem_map->D1,cons_append->D2,length_filter_le->D3,take_append_drop->D6,mem_filter->D7,getElem?_set_ne->D8,length_nil->De,getElem?_zipIdx->Dg,take_append_of_le_length->Dj,map_singleton->Du,ext_getElem?->Dz,mem_or_eq_of_mem_set->DC,getElem_mem->DN,getElem?_cons_succ->DU,length_eq_zero_iff->DY,length_set->E9,forIn_cons->Eb,length_zip->Ef,getElem?_set_self->Eh,range_succ_eq_map->Ek,take_of_length_le->Er,drop_eq_nil_of_le->Es,dropLast_eq_take->EA,getElem?_reverse->EB,nodup_nil->EC,mem_iff_getElem->EE,contains_eq_mem->EF,filter_sublist->F0,length_reverse->F1,mem_filterMap->F5,map_nil->F8,find?_eq_none->Fc,getElem_idxOf->Fk,filter_append->Fp,getElem_take->Fv,length_range->Fw,nodup_append->Fy,foldl->FT,nil_append->FW,range_succ->G4,take_zero->G7,forIn_nil->G8,drop_zero->G9,toArray->Gq,map_set->Gr
open Option renaming map_eq_some_iff->z0,bind_some->A1,bind_eq_some_iff->An,isSome_iff_exists->Bg,map_some->BO,map->Ct,bind->Dm,isSome_map->Fs,getD_none->FG,getD_some->FH
open Nat renaming le_refl->z5,lt_of_lt_of_le->A0,le_trans->A2,ne_of_lt->Ad,le_of_lt->Ag,ne_of_gt->Av,lt_of_le_of_lt->Az,sub_self->AG,lt_succ_of_lt->B2,le_succ->B5,lt_succ_self->Bf,lt_irrefl->Bh,zero_le->Bi,gcd->BE,le_of_eq->BK,le_add_right->C2,zero_add->Cb,min_eq_left->Cy,add_sub_cancel->CI,pow_le_pow_right->Dh,mul_le_mul_left->Dk,pow_add->Dn,mul_mod->Dp,add_comm->DH,le_of_not_lt->DI,succ_ne_self->DJ,min_self->DL,gcd_pos_of_pos_right->DQ,gcd_comm->DR,div_add_mod->Eg,le_mul_of_pos_left->Ep,mul_le_mul->ED,mod_lt->EH,le_of_dvd->EV,mul_comm->Fb,pow_succ->Fd,pos_of_ne_zero->Fe,mod_mod_of_dvd->Ff,eq_zero_or_pos->Fq,gcd_dvd_right->Fx,Coprime->Fz,not_lt_of_le->FI,mod_eq_of_lt->FJ,gcd_dvd_left->FK,lt_of_not_le->FN,coprime_comm->FR,not_lt->FV,add_assoc->Gd
open Or renaming inl->z7,inr->Cu
open Int renaming mul_le_mul_of_nonneg_left->Ab,toNat_natCast->Ae,emod_lt_of_pos->Ao,mul_le_mul_of_nonneg_right->As,emod_nonneg->AI,mul_comm->B4,eq_of_mul_eq_mul_left->Be,natAbs_mul->Bm,ediv_eq_of_eq_mul_right->Bn,gcd->Bo,le_of_lt->Br,pow_succ->Bs,le_trans->BM,fdiv_eq_ediv_of_nonneg->BQ,natAbs_ediv_le_natAbs->BV,mul_nonneg->BZ,mul_pos->C7,natAbs_dvd_natAbs->Cj,mul_assoc->Cv,zero_add->CF,natAbs_natCast->CJ,mul_le_mul->CO,mul_nonneg_of_nonpos_of_nonpos->CV,mul_neg->CY,mul_ediv_add_emod->D5,pow_zero->Di,neg_mul->Dq,ofNat_dvd_left->Dt,dvd_trans->Dw,mul_zero->DM,add_zero->DP,le_refl->El,mul_ediv_cancel'->EI,sub_add_cancel->Fg,sub_zero->Fh,dvd_refl->Fj,zero_mul->Fo,mul_sub->FA,pow_pos->FC,one_mul->FD,ediv_le_self->FO,lt_of_not_ge->FP,natCast_emod->FQ,neg_mul_neg->G2,le_of_dvd->Gc
open Bool renaming false_ne_true->Ai,and_eq_true->BI,noConfusion->Cp,false_eq_true->CD,eq_iff_iff->D9,or_eq_true->Ed,beq_eq_decide_eq->Et,or_false->EJ
open Option.some renaming injEq->Al,inj->AW
open PySem.F renaming plainAttrs_list->Ap,slot_list_append->Aw,type_list_append->Ax,plain_min_loop->Bq,plainAttrs_dict->BG,plain_extend_loop->BU,slot_dict_pop->C9,slot_zip_next->Cd,slot_dict_items->CQ,slot_dict_get->D4,entry_extend_loop->DA,args_dict_pop_3->DS,args_dict_get_3->DT,plain_list_iadd->DV,args_zip_next_1->DW,type_dict_items->DX,entry_dict_pop->Ei,entry_dict_get->Ej,entry_min_loop->Em,entry_zip_next->Eo,type_dict_pop->Ey
open PyProof.Rows renaming callWith_type1->AB
open False renaming elim->AF
open PySem renaming mem_of_lookup->AO,intBits_le_iff->Df,frameOf->EK,Within->F4,call->FU,Expr->FX
open Ne renaming symm->AQ
open True renaming intro->B8
open Array renaming length_toList->BH,forIn_toList->CB,append_assoc->Dr,getD_eq_getD_getElem?->Ds,getElem?_eq_getElem->DB,size->EG,toList_append->EZ,getD->FY,size_push->G0,toList->Gi
open Classical renaming byContradiction->BR,propDecidable->CP
open Nat.Coprime renaming mul_dvd_of_dvd_of_dvd->BW
open ForInStep renaming yield->C6
open Sum renaming inl->DE,inr->DF
open Function renaming comp->EW
open List.Pairwise renaming nil->Ft
open Array.Perm renaming refl->FZ
open List.cons renaming injEq->G1
open Prod.mk renaming injEq->Ga
open PySem.EqMixed renaming eq_bool_str->Ge,eq_str_bool->Gf,ne_bool_str->Gg,ne_str_bool->Gh,eq_int_str->Gj,eq_str_int->Gk,ne_int_str->Gm,ne_str_int->Gn
open PySem.W.Looks renaming here->Gs
noncomputable section
local macro_rules|`(∅)=>`(by decide)
local macro_rules|`(⋯)=>`(by omega)
local macro_rules|`(nofun)=>`(fun z=>by cases z)
local macro_rules|`(*...*)=>`(by decide+kernel)
structure PySem.W.Fast:Prop where(tw10030951572074533738 tw10071060618101475176 tw10130833947286531776 tw10207956683508978551 tw10215011024738805128 tw10240402408736075054 tw1024277172128507776 tw10266735899089909297 tw10495862192603820341 tw10496816333965080856 tw10649114597559407162 tw10709374637512233581 tw10826930241366345619 tw10934813885972911301 tw10980803369606781650 tw10983410720903489265 tw11076220654055880686 tw11104859882715695776 tw11107874777290711445 tw11283903982051742108 tw11326690220106702348 tw11374528991421268088 tw11612423205761646781 tw11656060693274595033 tw1165620972799916578 tw11664132719767593523 tw11730772323000010704 tw11811276159107962277 tw11855304858950889974 tw12006102017096495135 tw12091906274616909597 tw1213291437246691392 tw12180501729440980958 tw12270326874275813059 tw12329625331534090752 tw12495782375739363718 tw12506193650775251461 tw12648008795718596259 tw12685362648920019226 tw12770567014357859303 tw12930356654532393618 tw1293046229978508338 tw12971284837892950144 tw13156502556989701830 tw13168602982244764893 tw1323756684126367693 tw13278394012233883368 tw133378214901914269 tw13400081570545328145 tw13409572989194285752 tw13440223772273863701 tw13446178706494184428 tw13557728295840806483 tw13574884258110998928 tw13635905209679316503 tw13712593323760475700 tw13716223171354577065 tw13898679022798890638 tw13913079427936913978 tw13986738355415572800 tw14038213154685969146 tw14054460223560794799 tw14070729377279920372 tw1407788959833965415 tw1411473541263591591 tw14121014624327452079 tw14219145944299439039 tw14225231235403933722 tw14331394435998959014 tw1454424015035220095 tw14613906582459170440 tw14621165345715918443 tw14621513195655247813 tw14623242777129880549 tw14657582472312493364 tw14715919869829501238 tw14737239007065293324 tw14743350905714918320 tw14743937077105144350 tw14781892944611662382 tw14788054458956110651 tw14994899951271980691 tw15086351063132263491 tw1527590313370858593 tw15316080921172880195 tw15325642174931038446 tw15342390791149969317 tw15435581136388501201 tw15557693573654688319 tw15679754167105573001 tw15689145760625771845 tw15731639764201627695 tw15792559446243855228 tw15802042919364801439 tw15914092555171260568 tw15932443426524144409 tw15934447798065846095 tw15954810727417077070 tw16037358823107818379 tw16188823825041744580 tw1641281508222601419 tw16559420518974362842 tw16564995013235529966 tw16576197125418690060 tw16616398628079191203 tw16635769371890206022 tw16663099246803873141 tw16676720885259930649 tw16694251990463601083 tw16694642027537511850 tw16698201497908120121 tw16725408031239353956 tw16870852795310178817 tw16873378782399027052 tw16955772953730064123 tw16972026705872127360 tw17065719197156329826 tw1710310637536201195 tw17147241238470578700 tw17244292114382979179 tw17267852446978787735 tw17325329386572869204 tw17496770056000215593 tw17545619323756034119 tw17574175181187744243 tw17584414531369899880 tw17628403497183812989 tw17640470693524612281 tw17648022351439126205 tw1772955950871350165 tw17791701320047209766 tw17861521806858465270 tw17866384199708675120 tw17873655464523360892 tw17936341360657411085 tw1799050754789016393 tw18071778176631946744 tw18125102653406156252 tw1825347278378487826 tw18273485446474993265 tw18334753451806740653 tw18354618894453610695 tw18436595657131755808 tw1869891130167188342 tw1924169844141837290 tw1927771746730157562 tw1972000626094165952 tw19823477734812332 tw205825340767891383 tw2116837114188119591 tw2220375217307332365 tw2253786654435127851 tw2280261031701306095 tw2355862383002089705 tw2400648630134941847 tw2412199276351587129 tw2598915121022641593 tw2635311035413495102 tw2682687144655664911 tw2748328791484956579 tw2819580006801939272 tw2831969156184222228 tw2855786779557792890 tw293338257090604323 tw3029456957802392829 tw3034852266713755386 tw3063054334087731749 tw3132677443522067611 tw3194816371028727860 tw3220953220643346847 tw350549887907965586 tw3545377820603625178 tw3590273099475669440 tw3717555005862221550 tw3775604494499316123 tw3940667021765940619 tw4041895705991415788 tw4179714983875128532 tw4257938255237255310 tw43868858982030574 tw4451376429790061568 tw4466675242334533754 tw4513815295545244159 tw458542840992365486 tw4589029887861809259 tw4719441309995667816 tw4809262424984449134 tw4824834385873083445 tw4857929938657071336 tw4909865576248882655 tw4975401697492150787 tw5045906068615803196 tw5046808915071923718 tw5054929427256476126 tw5059184576411699120 tw5064687670975915447 tw509405756969992972 tw5135454941365637063 tw5237487234917218898 tw5254377339539273911 tw5271064279517175509 tw5337167356388790131 tw5387820664214627373 tw5429807082474462292 tw5519314264327694437 tw5560399846986795376 tw5590822233092780483 tw5602883052055821011 tw5679202450537376008 tw5688636476641013732 tw5713452942342595053 tw5776536791726846447 tw5843757219164957755 tw5856319541714606336 tw6003458189587169136 tw6103677691760439284 tw6138876709935294255 tw6169600359562338070 tw6176752889377575867 tw6275008183493535109 tw6283508524865159418 tw6331553235843067741 tw6334277349572744165 tw6458490405289578100 tw6469361550978638664 tw6493787730649555478 tw6547185850976365743 tw6689067838154212591 tw6696625146032483319 tw6733574377878816385 tw6755181788580956135 tw6777949619842318766 tw6953180335378727812 tw7012091650871266059 tw7042644314974398159 tw7127571256645203690 tw7288380222630427469 tw7294254873396496760 tw7299360054727668434 tw7361595817204634528 tw7385014358777951081 tw7427194356290110972 tw7454035223910316643 tw7473885548967646040 tw7485306332593141319 tw7495190681120317439 tw7500247844980019824 tw7819091537305178476 tw7885136815401038618 tw7999992512571102093 tw8103526517514704580 tw8175305160060255063 tw8208250359724475278 tw8255631429166171223 tw8294312111752466673 tw8294713118933800832 tw8315696835982273855 tw8329988627886543303 tw8341882953080731391 tw8404025459576974512 tw849949347037381001 tw8536786077574947073 tw8887474894181897549 tw8889236408004057564 tw8912303442429924015 tw8928221964404492182 tw9061485632047899377 tw9062983508436787791 tw9100337463956878986 tw911004215391616902 tw9116776612354260750 tw9179720244171611207 tw9208555721829120803 tw923600218575125470 tw9264300319844707827 tw9316002521081369120 tw936411363754664283 tw9464300506159606527 tw9501353252436010684 tw9515789330666943388 tw9547921584713366641 tw9550267757691508694 tw9553593131719130125 tw9641895066492695547 tw9653693475950712264 tw9666139606690078123 tw9829734109915586609 tw9836579585776340878 tw9870700682643061201 tw9896855097287487974:True)
namespace L2
open PySem PySem.Spec PyProof.Rows
abbrev Key:=Sum Int Str
noncomputable def Ul:Key->Value->Bool
 | .inl k,v=>Value.isInt k v
 | .inr x,v=>Value.isStrOf x v
noncomputable def zkv (w:World):Key->Int
 | .inl k=>hashInt k
 | .inr x=>hashStr w x
theorem yy:∀{k:Key} {v:Value},Ul k v=true->(∃i t,k=DE i/\v=Value.int i t)\/(∃x t,k=DF x/\v=Value.str x t)
 | .inl i,v,h=>by
  obtain⟨t,e⟩:=Value.isInt_shape (k:=i) (v:=v) h
  exact .inl ⟨i,t,rfl,e⟩
 | .inr x,v,h=>by
  obtain⟨t,e⟩:=Value.isStrOf_shape (x:=x) (v:=v) h
  exact .inr ⟨x,t,rfl,e⟩
theorem TJ (i:Int) (t:Tok):Ul (.inl i) (.int i t)=true:=by simp[Ul,Value.isInt]
theorem TK (x:Str) (t:Tok):Ul (.inr x) (.str x t)=true:=by simp[Ul,Value.isStrOf]
theorem zkw (a b:Int):decide ((DE a:Key)=DE b)=(a==b):=by
 by_cases e:a=b
 ·subst e;simp
 ·have h:¬(DE a:Key)=DE b:=λq=>e (Sum.inl.inj q)
  rw[decide_eq_false h]
  exact (beq_eq_false_iff_ne.mpr e).symm
theorem zkx (a b:Str):decide ((DF a:Key)=DF b)=decide (a=b):=by
 by_cases e:a=b
 ·subst e;simp
 ·have h:¬(DF a:Key)=DF b:=λq=>e (Sum.inr.inj q)
  rw[decide_eq_false h,decide_eq_false e]
theorem zky (a:Int) (b:Str):decide ((DE a:Key)=DF b)=false:=decide_eq_false (λq=>nomatch q)
theorem zkz (a:Str) (b:Int):decide ((DF a:Key)=DE b)=false:=decide_eq_false (λq=>nomatch q)
noncomputable def zZ (prog:Program) (w:World):PySem.KeyKind prog w Key where
 is:=Ul
 hash:=zkv w
 inj:=λv a b ha hb=>by
  rcases yy ha with⟨i,t,rfl,rfl⟩|⟨x,t,rfl,rfl⟩
  ·rcases yy hb with⟨j,u,rfl,e⟩|⟨y,u,rfl,e⟩
   ·injection e with e1 _;rw[e1]
   ·exact nomatch e
  ·rcases yy hb with⟨j,u,rfl,e⟩|⟨y,u,rfl,e⟩
   ·exact nomatch e
   ·injection e with e1 _;rw[e1]
 byValue:=λk v h=>by
  rcases yy h with⟨i,t,rfl,rfl⟩|⟨x,t,rfl,rfl⟩<;>rfl
 pyHash:=λhv h=>by
  rcases yy hv with⟨i,t,rfl,rfl⟩|⟨x,t,rfl,rfl⟩
  ·exact wpAny_pyHash_int h
  ·exact wpAny_pyHash_str h
 eqBool:=λhu hv h=>by
  rcases yy hu with⟨i,t,rfl,rfl⟩|⟨x,t,rfl,rfl⟩
  ·rcases yy hv with⟨j,u,rfl,rfl⟩|⟨y,u,rfl,rfl⟩
   ·rw[zkw] at h;exact wpAny_eqBool_int h
   ·rw[zky] at h;exact SeqAt.EqAt.int_str i t y u _ _ _ _ h
  ·rcases yy hv with⟨j,u,rfl,rfl⟩|⟨y,u,rfl,rfl⟩
   ·rw[zkz] at h;exact SeqAt.EqAt.str_int x t j u _ _ _ _ h
   ·rw[zkx] at h;exact wpAny_eqBool_str h
 «strs» :=λk x t v h=>by
  rcases yy h with⟨i,u,rfl,e⟩|⟨y,u,rfl,e⟩
  ·exact nomatch e
  ·injection e with e1 _
   subst e1
   cases v<;>rfl
theorem zbD (prog:Program) (w:World) (i:Int) (t:Tok):(zZ prog w).is (.inl i) (.int i t)=true:=TJ i t
theorem zbE (prog:Program) (w:World) (x:Str) (t:Tok):(zZ prog w).is (.inr x) (.str x t)=true:=TK x t
inductive V where
 |non|bl (b:Bool)|int (i:Int)|str (x:Str)|byt (b:Array UInt8)|flt (b:UInt64)|ref (a:Addr)|ty (n:String)
 deriving DecidableEq
def zD:V->Value->Prop
 | .non,u=>u=Value.none
 | .bl b,u=>u=Value.bool b
 | .int i,u=>∃t,u=Value.int i t
 | .str x,u=>∃t,u=Value.str x t
 | .byt b,u=>∃t,u=Value.bytes b t
 | .flt b,u=>∃t,u=Value.float b t
 | .ref a,u=>u=Value.ref a
 | .ty n,u=>u=Value.type n
noncomputable abbrev zI:List V->List Value->Prop:=Paired zD
theorem zI.length {xs:List V} {us:List Value} (r:zI xs us):xs.length=us.length:=Paired.length r
theorem zI.get:∀{xs:List V} {us:List Value} {i:Nat} {x:V},zI xs us->xs[i]? =some x->∃u,us[i]? =some u/\zD x u
 |_,_,_,_,.nil,e=>by simp at e
 |_,_,0,_,.cons r _,e=>by simp at e;subst e;exact⟨_,rfl,r⟩
 |_,_,i+1,x,.cons _ t,e=>by
  obtain⟨u,h1,h2⟩:=zI.get (i:=i) (x:=x) t (by simpa using e)
  exact⟨u,by simpa using h1,h2⟩
theorem zI.set {x:V} {u:Value} (r:zD x u):∀{xs:List V} {us:List Value} (i:Nat),zI xs us->zI (xs.set i x) (us.set i u)
 |_,_,_,.nil=> .nil
 |_,_,0,.cons _ t=> .cons r t
 |_,_,i+1,.cons q t=> .cons q (zI.set r i t)
theorem zI.append {xs ys:List V} {us ws:List Value} (h:zI xs us) (k:zI ys ws):zI (xs++ys) (us++ws):=by
 induction h with
 |nil=>exact k
 |cons r _ ih=>exact .cons r ih
theorem zI.take:∀{xs:List V} {us:List Value} (n:Nat),zI xs us->zI (xs.take n) (us.take n)
 |_,_,0,_=> .nil
 |_,_,_+1,.nil=> .nil
 |_,_,n+1,.cons r t=> .cons r (zI.take n t)
theorem zI.drop:∀{xs:List V} {us:List Value} (n:Nat),zI xs us->zI (xs.drop n) (us.drop n)
 |_,_,0,r=>r
 |_,_,_+1,.nil=> .nil
 |_,_,n+1,.cons _ t=>zI.drop n t
def ZQ:Option V->Option Value->Prop
 |some v,some u=>zD v u
 |none,none=>True
 |_,_=>False
def KV {κ:Type}:List (κ×V)->List (κ×Value)->Prop:=Paired λ(p:κ×V) (q:κ×Value)=>p.1=q.1/\zD p.2 q.2
noncomputable def kV:Key->V
 | .inl i=> .int i
 | .inr x=> .str x
inductive NK where
 |int (i:Int)|str (x:Str)|tup (l:List NK)
noncomputable instance:DecidableEq NK:=λa b=>CP (a=b)
mutual
noncomputable def zfP (w:World):NK->Int
 | .int i=>zkv w (.inl i)
 | .str x=>zkv w (.inr x)
 | .tup l=>reduceHash (Builtin.Tuple.tupleHashOf (zfQ w l))
noncomputable def zfQ (w:World):List NK->List Int
 |[]=>[]
 |k::r=>zfP w k::zfQ w r
end
mutual
noncomputable def zio:NK->Nat
 | .int _=>0
 | .str _=>0
 | .tup l=>zjT l+1
noncomputable def zjT:List NK->Nat
 |[]=>0
 |k::r=>max (zio k) (zjT r)
end
noncomputable def zkA (w:World) (x:NK×Addr×Value):DictEntry:={hash:=zfP w x.1,key:= .ref x.2.1,val:=x.2.2}
inductive HO where
 |lst (xs:List V)
 |tup (xs:List V)
 |dK (kvs:List (Key×V))|dT (kvs:List (List Key×V))
 |dN (ks:List (NK×Addr×V))
 |set (S:Int->Bool) (n:Nat)
 |ins (C dx:Addr) (fs:List (Str×V))
 |own (x:Addr)
 |xd (fs:List (Str×V))
 |met (f x:Addr)
 |rng (lo hi:Int)
 |frz (o:Obj) (u:HO)
 |tbl (ps:Array Value)
 |ext (φ:Heap->Prop)
abbrev Hp:=Addr->Option HO
noncomputable def upd (H:Hp) (a:Addr) (o:HO):Hp:=λb=>if b=a then some o else H b
theorem zm {H:Hp} {a:Addr} {o:HO}:upd H a o a=some o:=by unfold upd;rw[if_pos rfl]
theorem zh {H:Hp} {a b:Addr} {o:HO} (h:b≠a):upd H a o b=H b:=by unfold upd;rw[if_neg h]
theorem zl1 {H:Hp} {a b:Addr} {o u:HO} (h:H a=some o) (h':H b=some u) (d:o≠u):a≠b:=by
 intro e;subst e;rw[h] at h';exact d (AW h')
theorem wk {H:Hp} {a b:Addr} {o:HO} (h:H a=some o) (h':H b=none):a≠b:=by
 intro e;subst e;rw[h] at h';cases h'
def WP (h:Heap) (a:Addr) (items:Array Value):Prop:=∃o,h.get? a=some o/\o.cls= .type "tuple"/\∃n,o.data= .seq items n/\o.dict=none
theorem WP.tup {h:Heap} {a:Addr} {items:Array Value} (x:WP h a items):IsTup h a items:=by
 obtain⟨o,e,c,n,d,_⟩:=x
 exact⟨o,e,c,n,d⟩
theorem WP.new (h:Heap) (items:Array Value):WP (h.push {cls:= .type "tuple",data:= .seq items}) h.objs.size items:=⟨_,Heap.get?_push_size _ rfl,rfl,_,rfl,rfl⟩
section
variable (P:Program) (w:World)
def yj (H:Hp) (h:Heap) (a:Addr):HO->Prop
 | .lst xs=>xs.length<=sizeLine/\∃(ae:List Value) (n:Nat),zI xs ae/\h.get? a=some {cls:= .type "list",data:= .seq ae.toArray n}
 | .tup xs=>xs.length<=sizeLine/\∃ae:List Value,zI xs ae/\WP h a ae.toArray
 | .dK kvs=>kvs.length<=sizeLine/\(a==sysModules)=false/\∃vs,KV kvs vs/\h.DictOf (zZ P w) a vs
 | .dT kvs=>kvs.length<=sizeLine/\(a==sysModules)=false/\∃xs:List (List Key×Addr×Value),
   Paired (λ(p:List Key×V) (q:List Key×Addr×Value)=>p.1=q.1/\H q.2.1=some (.tup (p.1.map kV))/\zD p.2 q.2.2) kvs xs/\
   ∃o es ep,h.get? a=some o/\o.ExactDict/\o.data= .dict es ep/\es.toList=xs.map (entryOfKey (tupleKind (zZ P w)))/\(xs.map (·.1)).Nodup
 | .dN ks=>ks.length<=sizeLine/\(a==sysModules)=false/\∃xs:List (NK×Addr×Value),Paired (λ(p:NK×Addr×V) (q:NK×Addr×Value)=>p.1=q.1/\p.2.1=q.2.1/\zD p.2.2 q.2.2) ks xs/\
   ∃o es ep,h.get? a=some o/\o.ExactDict/\o.data= .dict es ep/\es.toList=xs.map (zkA w)/\(xs.map (·.1)).Nodup
 | .set S n=>h.SetOf (intKind P w) a S n
 | .ins C dx fs=>H dx=some (.own a)/\fs.length<=1000/\dx≠a/\h.get? a=some (Bv C dx)/\
   ∃mA,h.Ns1 dx mA/\(∀f,ZQ (fs.lookup f) (mA f))/\F4 mA (fs.map (·.1))
 | .own _=>∃o,h.get? a=some o
 | .xd fs=>∃mA,h.Ns1 a mA/\∀f,ZQ (fs.lookup f) (mA f)
 | .rng lo hi=>∃t u v,h.get? a=some {cls:= .type "range",data:= .fields #[.int lo t,.int hi u,.int 1 v]}
 | .frz o u=>h.get? a=some o/\yj H h a u
 | .tbl ps=>h.get? a=some {cls:= .none,data:= .fields ps}
 | .met f x=>h.get? a=some (Dx (.ref f) (.ref x))
 | .ext φ=>φ h/\(∃o,h.get? a=some o)/\∀h1 h2:Heap,φ h1->(∀o,h1.get? a=some o->h2.get? a=some o)->φ h2
def HOk (H:Hp) (h:Heap):Prop:=∀a o,H a=some o->yj P w H h a o
end
section
variable {P:Program} {w:World} {H H':Hp} {h h':Heap} {a:Addr} {o:HO}
theorem yj.lt (x:yj P w H h a o):a<h.objs.size:=by
 cases o with
 |lst xs=>obtain⟨_,_,_,_,e⟩:=x;exact Heap.lt_size e
 |tup xs=>obtain⟨_,_,_,p⟩:=x;exact p.tup.lt
 |dK kvs=>obtain⟨_,_,_,_,o,_,_,e,_⟩:=x;exact Heap.lt_size e
 |dT kvs=>obtain⟨_,_,_,_,o,_,_,e,_⟩:=x;exact Heap.lt_size e
 |dN ks=>obtain⟨_,_,_,_,o,_,_,e,_⟩:=x;exact Heap.lt_size e
 |set S n=>obtain⟨o,_,_,_,e,_⟩:=x;exact Heap.lt_size e
 |ins C dx fs=>obtain⟨_,_,_,e,_⟩:=x;exact Heap.lt_size e
 |own y=>obtain⟨_,e⟩:=x;exact Heap.lt_size e
 |xd fs=>obtain⟨_,⟨_,_,_,e,_⟩,_⟩:=x;exact Heap.lt_size e
 |rng lo hi=>obtain⟨_,_,_,e⟩:=x;exact Heap.lt_size e
 |frz ob u=>obtain⟨e,_⟩:=x;exact Heap.lt_size e
 |tbl ps=>exact Heap.lt_size (show h.get? a=some _ from x)
 |met f y=>exact Heap.lt_size (show h.get? a=some _ from x)
 |ext φ=>obtain⟨_,⟨_,e⟩,_⟩:=x;exact Heap.lt_size e
theorem Paired.mapP {α β:Type} {F G:α->β->Prop} {l₁:List α} {l₂:List β} (h:Paired F l₁ l₂) (f:∀a b,F a b->G a b):Paired G l₁ l₂:=by
 induction h with
 |nil=>exact .nil
 |cons r _ ih=>exact .cons (f _ _ r) ih
theorem yj.stay (x:yj P w H h a o) (k:∀b u,(b=a\/H b=some (.own a))->h.get? b=some u->h'.get? b=some u)
  (ho:∀b,H b=some (.own a)->H' b=some (.own a)) (ht:∀b xs,H b=some (.tup xs)->H' b=some (.tup xs)):yj P w H' h' a o:=by
 induction o with
 |lst xs=>obtain⟨z,ae,n,r,e⟩:=x;exact⟨z,ae,n,r,k _ _ (.inl rfl) e⟩
 |tup xs=>obtain⟨z,ae,r,ob,e,c⟩:=x;exact⟨z,ae,r,ob,k _ _ (.inl rfl) e,c⟩
 |dK kvs=>obtain⟨z,y,vs,r,ob,es,ep,e,c⟩:=x;exact⟨z,y,vs,r,ob,es,ep,k _ _ (.inl rfl) e,c⟩
 |dT kvs=>
  obtain⟨z,y,xs,r,ob,es,ep,e,c⟩:=x
  exact⟨z,y,xs,Paired.mapP r λp q z=>⟨z.1,ht _ _ z.2.1,z.2.2⟩,ob,es,ep,k _ _ (.inl rfl) e,c⟩
 |dN ks=>obtain⟨z,y,xs,r,ob,es,ep,e,c⟩:=x;exact⟨z,y,xs,r,ob,es,ep,k _ _ (.inl rfl) e,c⟩
 |set S n=>obtain⟨ob,es,ep,t,e,c⟩:=x;exact⟨ob,es,ep,t,k _ _ (.inl rfl) e,c⟩
 |ins C dx fs=>
  obtain⟨d,z,ne,e,mA,⟨od,es,ep,e2,c⟩,r⟩:=x
  exact⟨ho _ d,z,ne,k _ _ (.inl rfl) e,mA,⟨od,es,ep,k _ _ (.inr d) e2,c⟩,r⟩
 |own y=>obtain⟨ob,e⟩:=x;exact⟨ob,k _ _ (.inl rfl) e⟩
 |xd fs=>obtain⟨mA,⟨od,es,ep,e,c⟩,r⟩:=x;exact⟨mA,⟨od,es,ep,k _ _ (.inl rfl) e,c⟩,r⟩
 |rng lo hi=>obtain⟨t,u,v,e⟩:=x;exact⟨t,u,v,k _ _ (.inl rfl) e⟩
 |frz ob u ih=>obtain⟨e,q⟩:=x;exact⟨k _ _ (.inl rfl) e,ih q⟩
 |tbl ps=>
  have e:h.get? a=some {cls:= .none,data:= .fields ps}:=x
  show h'.get? a=some {cls:= .none,data:= .fields ps}
  exact k a _ (.inl rfl) e
 |met f y=>
  have e:h.get? a=some (Dx (.ref f) (.ref y)):=x
  show h'.get? a=some (Dx (.ref f) (.ref y))
  exact k a _ (.inl rfl) e
 |ext φ=>obtain⟨p,⟨o,e⟩,st⟩:=x;exact⟨st _ _ p λo q=>k _ _ (.inl rfl) q,⟨o,k _ _ (.inl rfl) e⟩,st⟩
theorem HOk.lt (x:HOk P w H h) (e:H a=some o):a<h.objs.size:=(x a o e).lt
theorem HOk.fresh (x:HOk P w H h) (e:h.objs.size<=a):H a=none:=by
 cases q:H a with
 |none=>rfl
 |some u=>exact absurd (A0 (x.lt q) e) (Bh _)
theorem HOk.kept (x:HOk P w H h) (k:∀b u,h.get? b=some u->h'.get? b=some u):HOk P w H h':=λa o e=>
 (x a o e).stay (λb u _ q=>k b u q) (λ_ q=>q) λ_ _ q=>q
theorem HOk.laid (x:HOk P w H h) (k:∀b u,h.get? b=some u->h'.get? b=some u) (hp:h.objs.size<=a) (new:yj P w (upd H a o) h' a o):HOk P w (upd H a o) h':=λb u e=>by
 have hn:=x.fresh hp
 by_cases hb:b=a
 ·subst hb;rw[zm] at e;cases e;exact new
 ·rw[zh hb] at e
  exact (x b u e).stay (λc v _ q=>k c v q) (λc q=>by rw[zh (wk q hn)];exact q) λc xs q=>by rw[zh (wk q hn)];exact q
end
def Rd (H:Hp) (a:Addr) (u:HO):Prop:=H a=some u\/∃o,H a=some (.frz o u)
theorem Rd.ok {P:Program} {w:World} {H:Hp} {h:Heap} {a:Addr} {u:HO} (r:Rd H a u) (x:HOk P w H h):yj P w H h a u:=by
 rcases r with r|⟨o,r⟩
 ·exact x a u r
 ·obtain⟨_,q⟩:=x a _ r
  exact q
def Mut:Option HO->Prop
 |some (.lst _)=>True
 |some (.dK _)=>True
 |some (.dT _)=>True
 |some (.dN _)=>True
 |some (.set _ _)=>True
 |some (.ins _ _ _)=>True
 |some (.ext _)=>True
 |_=>False
section
variable {P:Program} {w:World} {H:Hp} {h h':Heap} {x e:Addr} {o':HO}
theorem HOk.write (ok:HOk P w H h) (mu:Mut (H x)) (he:e=x\/H e=some (.own x)) (k:∀b u,b≠e->h.get? b=some u->h'.get? b=some u) (hG:∃u,h'.get? e=some u)
  (new:yj P w (upd H x o') h' x o'):HOk P w (upd H x o') h':=λb u q=>by
 have jI:∀c y,H c=some (.own y)->c≠x:=λc y r z=>by subst z;rw[r] at mu;exact mu
 have me:∀c xs,H c=some (.tup xs)->c≠x:=λc xs r z=>by subst z;rw[r] at mu;exact mu
 by_cases hb:b=x
 ·subst hb;rw[zm] at q;cases q;exact new
 ·rw[zh hb] at q
  by_cases j8:b=e
  ·have q':H b=some (.own x):=by
    rcases he with z|z
    ·exact absurd (j8.trans z) hb
    ·rw[j8];exact z
   rw[q] at q';cases q'
   obtain⟨v,hv⟩:=hG
   exact⟨v,by rw[j8];exact hv⟩
  ·refine (ok b u q).stay (λc v hc r=>k c v ?_ r) (λc r=>by rw[zh (jI c b r)];exact r) λc xs r=>by rw[zh (me c xs r)];exact r
   rcases hc with rfl|hc
   ·exact j8
   ·rintro rfl
    rcases he with z|z
    ·exact jI c b hc z
    ·rw[hc] at z;cases z;exact hb rfl
end
structure Un (fs ex:List Addr) (H H':Hp) (h h':Heap):Prop where
 keep:∀b o,h.get? b=some o->H b=none->b∉fs->b∉ex->h'.get? b=some o
 slot:∀b o,h.get? b=some o->H b=none->b∈fs->b∉ex->∃sl,h'.get? b=some {o with slots:=sl}
 free:∀b o,h.get? b=some o->H b=none->b∉ex->H' b=none
 there:∀b o,h.get? b=some o->b∉ex->∃o',h'.get? b=some o'
 tups:∀b xs,H b=some (.tup xs)->H' b=some (.tup xs)
 frzs:∀b o u,H b=some (.frz o u)->H' b=some (.frz o u)
 tbls:∀b ps,H b=some (.tbl ps)->∃more,H' b=some (.tbl (ps++more))
section
variable {fs fs' ex ex':List Addr} {H H1 H2:Hp} {h h1 h2 h':Heap} {a x e:Addr} {o:HO}
theorem Un.any (u:Un fs ex H H1 h h1) {b:Addr} {ob:Obj} (q:h.get? b=some ob) (n:H b=none) (hx:b∉ex):∃sl,h1.get? b=some {ob with slots:=sl}:=by
 by_cases hb:b∈fs
 ·exact u.slot b ob q n hb hx
 ·exact⟨ob.slots,u.keep b ob q n hb hx⟩
theorem Un.trans (a:Un fs ex H H1 h h1) (b:Un fs ex H1 H2 h1 h2):Un fs ex H H2 h h2 where
 keep:=λc ob q n hc hx=>b.keep c ob (a.keep c ob q n hc hx) (a.free c ob q n hx) hc hx
 slot:=λc ob q n hc hx=>by
  obtain⟨sl,e1⟩:=a.slot c ob q n hc hx
  obtain⟨sl',e2⟩:=b.slot c _ e1 (a.free c ob q n hx) hc hx
  exact⟨sl',e2⟩
 free:=λc ob q n hx=>by
  obtain⟨o',e1⟩:=a.there c ob q hx
  exact b.free c o' e1 (a.free c ob q n hx) hx
 there:=λc ob q hx=>by
  obtain⟨o',e1⟩:=a.there c ob q hx
  exact b.there c o' e1 hx
 tups:=λc xs q=>b.tups c xs (a.tups c xs q)
 frzs:=λc ob xs q=>b.frzs c ob xs (a.frzs c ob xs q)
 tbls:=λc ps q=>by
  obtain⟨m1,e1⟩:=a.tbls c ps q
  obtain⟨m2,e2⟩:=b.tbls c _ e1
  exact⟨m1++m2,by rw[e2,Dr]⟩
theorem Un.kept (k:∀b u,h.get? b=some u->h'.get? b=some u):Un fs ex H H h h':=
 ⟨λb ob q _ _ _=>k b ob q,λb ob q _ _ _=>⟨ob.slots,k b ob q⟩,λ_ _ _ n _=>n,λb ob q _=>⟨ob,k b ob q⟩,λ_ _ q=>q,λ_ _ _ q=>q,λ_ ps q=>⟨#[],by rw[q];simp⟩⟩
theorem Un.refl:Un fs ex H H h h:=Un.kept λ_ _ q=>q
theorem Un.laid (k:∀b u,h.get? b=some u->h'.get? b=some u) (hp:h.objs.size<=a) (hn:H a=none):Un fs ex H (upd H a o) h h' where
 keep:=λb u q _ _ _=>k b u q
 slot:=λb u q _ _ _=>⟨u.slots,k b u q⟩
 free:=λb u q n _=>by rw[zh (Ad (A0 (Heap.lt_size q) hp))];exact n
 there:=λb u q _=>⟨u,k b u q⟩
 tups:=λb xs q=>by rw[zh (wk q hn)];exact q
 frzs:=λb u xs q=>by rw[zh (wk q hn)];exact q
 tbls:=λb ps q=>⟨#[],by rw[zh (wk q hn),q];simp⟩
theorem Un.write (mu:Mut (H x)) (he:e=x\/H e=some (.own x)) (k:∀b u,b≠e->h.get? b=some u->h'.get? b=some u) (hG:∃u,h'.get? e=some u):Un fs ex H (upd H x o) h h':=by
 have hx:∀b,H b=none->b≠x:=λb n z=>by subst z;rw[n] at mu;exact mu
 have hb:∀b,H b=none->b≠e:=λb n z=>by
  subst z
  rcases he with r|r
  ·exact hx b n r
  ·rw[n] at r;cases r
 have hm:∀b u,H b=some u->¬Mut (some u)->b≠x:=λb u q nm z=>by subst z;rw[q] at mu;exact nm mu
 refine⟨λb u q n _ _=>k b u (hb b n) q,λb u q n _ _=>⟨u.slots,k b u (hb b n) q⟩,λb u q n _=>by rw[zh (hx b n)];exact n,λb u q _=> ?_,
  λb xs q=>by rw[zh (hm b _ q λz=>z)];exact q,λb u xs q=>by rw[zh (hm b _ q λz=>z)];exact q,λb ps q=>⟨#[],by rw[zh (hm b _ q λz=>z),q];simp⟩⟩
 by_cases j8:b=e
 ·subst j8;exact hG
 ·exact⟨u,k b u j8 q⟩
end
noncomputable def trk (h:Heap) (H:Hp):List Addr:=(Bt h.objs.size).filter λa=>(H a).isSome
noncomputable def zaF (h:Heap) (H:Hp):Heap:=PySem.W.hideAll h (trk h H)
theorem zeZ (h:Heap) (H:Hp):(zaF h H).objs.size=h.objs.size:=PySem.W.hideAll_size _ _
theorem zfR {h:Heap} {H:Hp} {b:Addr} {o:Obj} (e:h.get? b=some o) (n:H b=none):(zaF h H).get? b=some o:=
 PySem.W.hideAll_get _ e λhm=>by
  have q:(H b).isSome=true:=(D7.mp hm).2
  rw[n] at q;simp at q
theorem ziq {h:Heap} {H:Hp} {b:Addr} {o:Obj} (e:(zaF h H).get? b=some o):h.get? b=some o/\H b=none:=by
 have e':h.get? b=some o:=PySem.W.of_hideAll (trk h H) e
 refine⟨e',?_⟩
 cases q:H b with
 |none=>rfl
 |some x=>
  have hm:b∈trk h H:=D7.mpr ⟨BX.mpr (Heap.lt_size e'),by simp[q]⟩
  have z:(zaF h H).get? b=none:=PySem.W.hideAll_none (trk h H) hm
  rw[z] at e;cases e
structure Mod (P:Program) (K:y3) (mg:Str->Option Value) (base:Heap):Prop where
 kin:K.In base
 glob:base.Ns mainGlobals mg
 blt:∃mb,base.Ns builtinsNs mb/\∀x:Str,x≠"__name__"->mb x=bootBuiltins x
 nolimit:base.NoLimit
 bmn:∃bm ob,mg "__builtins__"=some (.ref bm)/\bm≠builtinsNs/\base.get? bm=some ob/\ob.cls= .type "module"/\ob.dict=some builtinsNs/\ob.data= .plain
 seer:base.NoSeer
 tree:P.given.tree=none
structure Cx where
 prog:Program
 w:World
 K:y3
 mg:Str->Option Value
 base:Heap
 A:Around
 N:List Str
 s₀:Shared
 H₀:Hp
 env:Env
 outer:List Env
 stack:List Env
 ex:List Addr
 fn:Str->Bool
 zn:Str->Bool
 calm:Bool
 pn:List (Addr×Obj)
 xe:Value->Shared->Prop
noncomputable def frs (l:List Env):List Addr:=l.filterMap (·.frame)
noncomputable abbrev Cx.fs (X:Cx):List Addr:=frs X.outer
def Vis (sc:Scope) (x:Str):Prop:=sc.names.lookup x=some .local\/sc.names.lookup x=some .cell\/sc.names.lookup x=some .free
def Loc (sc:Scope) (x:Str):Prop:=sc.names.lookup x=some .local\/sc.names.lookup x=some .cell
def znd (env:Env) (h:Heap) (m:Str->Option Value) (x:Str) (u:Value):Prop:=
 (env.kindOf x=some .local/\m x=some u)\/((env.kindOf x=some .cell\/env.kindOf x=some .free)/\∃c,env.cells.lookup x=some c/\h.IsCell c (some u))
structure Cx.Ok (X:Cx):Prop where
 mod:Mod X.prog X.K X.mg X.base
 kind:X.env.scope.kind= .function
 glob:X.env.globals=mainGlobals
 blt:X.env.builtins=builtinsNs
 above:X.s₀.heap.objs.size<=X.env.locals
 inj:∀x y c,X.env.cells.lookup x=some c->X.env.cells.lookup y=some c->x=y
 has:∀x,(X.env.kindOf x=some .cell\/X.env.kindOf x=some .free)->∃c,X.env.cells.lookup x=some c
 cab:∀x c,(X.fn x=true\/X.zn x=true)->X.env.cells.lookup x=some c->X.s₀.heap.objs.size<=c
 hd:X.calm=true->X.A.handled=none
 frames:X.A.frames=some X.stack
 stk:X.stack=X.outer\/(X.stack=X.env::X.outer/\X.env.frame=some X.env.locals)
 exf:∀b∈X.ex,b≠X.env.locals/\∀x c,X.env.cells.lookup x=some c->c≠b
 bs:∀b o,X.base.get? b=some o->X.s₀.heap.get? b=some o/\X.H₀ b=none
 bsz:X.base.objs.size<=X.s₀.heap.objs.size
 noex:∀b o,X.base.get? b=some o->b∉X.ex
 exfs:∀b∈X.ex,b∉X.fs
 funs:X.s₀.heap.FunFrames X.base X.outer
 frf:∀b∈X.fs,X.H₀ b=none
structure Inv (X:Cx) (pins:List (Addr×Obj)) (σ:List (Option V)) (H:Hp) (s:Shared):Prop where
 ok:X.Ok
 os:s.os=X.s₀.os
 bare:AllBare s.gens
 base:Un X.fs X.ex X.H₀ H X.s₀.heap s.heap
 loc:∃m,s.heap.Ns X.env.locals m/\∀(i:Nat) (x:Str) (v:V),X.N[i]? =some x->σ[i]? =some (some v)->Vis X.env.scope x->∃u,zD v u/\znd X.env s.heap m x u
 cell:∀x c,X.env.cells.lookup x=some c->∃v,s.heap.IsCell c v
 free:H X.env.locals=none
 freeC:∀x c,X.env.cells.lookup x=some c->H c=none\/(X.fn x=false/\∃o,H c=some (.frz o (.own 0)))
 pin:∀p∈X.pn++pins,s.heap.get? p.1=some p.2/\H p.1=none/\p.1≠X.env.locals/\p.1∉X.fs/\∀v,p.2.data≠ .cell v
 hok:HOk X.prog X.w H s.heap
 len:σ.length=X.N.length
section
variable {X:Cx} {pins:List (Addr×Obj)} {σ:List (Option V)} {H H':Hp} {s:Shared} {h':Heap}
theorem Cx.Ok.nofr (ok:X.Ok) {b:Addr} {o:Obj} (e:X.base.get? b=some o):b∉X.fs:=λhb=>by
 have:=(ok.funs.mem hb).1
 rw[e] at this;cases this
theorem Inv.bs (I:Inv X pins σ H s):∀b o,X.base.get? b=some o->s.heap.get? b=some o/\H b=none:=λb o e=>
 ⟨I.base.keep b o (I.ok.bs b o e).1 (I.ok.bs b o e).2 (I.ok.nofr e) (I.ok.noex b o e),I.base.free b o (I.ok.bs b o e).1 (I.ok.bs b o e).2 (I.ok.noex b o e)⟩
theorem Inv.bk (I:Inv X pins σ H s):∀b o,X.base.get? b=some o->s.heap.get? b=some o:=λb o e=>(I.bs b o e).1
theorem Inv.mod (I:Inv X pins σ H s):Mod X.prog X.K X.mg X.base:=I.ok.mod
theorem Inv.kIn (I:Inv X pins σ H s):X.K.In s.heap:=I.ok.mod.kin.keeps I.bk
theorem Inv.lt (I:Inv X pins σ H s):X.env.locals<s.heap.objs.size:=let ⟨_,hn,_⟩:=I.loc;hn.lt
theorem Inv.sz (I:Inv X pins σ H s):X.s₀.heap.objs.size<=s.heap.objs.size:=A2 I.ok.above (Ag I.lt)
theorem Inv.nofs (I:Inv X pins σ H s) {a:Addr} (h:s.heap.objs.size<=a):a∉X.fs:=λhb=>by
 obtain⟨_,o,ho,_⟩:=I.ok.funs.mem hb
 exact absurd (A0 (Heap.lt_size ho) (A2 I.sz h)) (Bh _)
theorem Inv.cne (I:Inv X pins σ H s):∀x c,X.env.cells.lookup x=some c->c≠X.env.locals:=λx c e z=>by
 obtain⟨v,o,ho,hd⟩:=I.cell x c e
 obtain⟨m,⟨o',es,ep,g6,jw,_⟩,_⟩:=I.loc
 rw[z,g6] at ho;cases ho;rw[jw] at hd;cases hd
theorem Inv.funs (I:Inv X pins σ H s):s.heap.FunFrames X.base X.outer:=by
 have all:∀(l:List Env),(∀b∈frs l,b∈X.fs)->X.s₀.heap.FunFrames X.base l->s.heap.FunFrames X.base l:=by
  intro l
  induction l with
  |nil=>intro _ _;trivial
  |cons env r ih=>
   intro hs hl
   obtain⟨hk,⟨L,o,hf,hn,ho,hd⟩,hr⟩:=hl
   have hL:L∈X.fs:=hs L (by unfold frs;rw[C3,hf];exact AV)
   obtain⟨sl,e⟩:=I.base.slot L o ho (I.ok.frf L hL) hL λz=>I.ok.exfs L z hL
   exact⟨hk,⟨L,_,hf,hn,e,hd⟩,ih (λb hb=>hs b (by unfold frs;rw[C3,hf];exact Aj _ hb)) hr⟩
 exact all X.outer (λ_ hb=>hb) I.ok.funs
theorem Inv.stack (I:Inv X pins σ H s):s.heap.FunFrames X.base X.stack:=by
 rcases I.ok.stk with e|⟨e,hf⟩
 ·rw[e];exact I.funs
 ·rw[e]
  obtain⟨m,hn,_⟩:=I.loc
  refine .cons (by rw[I.ok.kind];decide) hf hn ?_ I.funs
  exact Heap.get?_none_of_le (A2 I.ok.bsz I.ok.above)
theorem Inv.stkSub (I:Inv X pins σ H s):∀b∈frs X.stack,b∈X.env.locals::X.fs:=λb hb=>by
 rcases I.ok.stk with e|⟨e,hf⟩
 ·rw[e] at hb;exact Aj _ hb
 ·rw[e] at hb
  unfold frs at hb
  rw[C3,hf] at hb
  exact hb
theorem Inv.stkFree (I:Inv X pins σ H s):∀b∈frs X.stack,H b=none:=λb hb=>by
 rcases Ak.mp (I.stkSub b hb) with e|hb
 ·rw[e];exact I.free
 ·obtain⟨_,o,ho,_⟩:=I.ok.funs.mem hb
  exact I.base.free b o ho (I.ok.frf b hb) λz=>I.ok.exfs b z hb
theorem Inv.step {g':Array GenState} {t':Nat} {d':Drawn} {ch:List Addr} (I:Inv X pins σ H s)
  (g9:∀b∈ch,(b∈X.ex\/X.s₀.heap.objs.size<=b)/\b≠X.env.locals/\(∀x c,X.env.cells.lookup x=some c->c≠b)/\∀p∈X.pn++pins,p.1≠b)
  (keep:∀b o,b≠X.env.locals->b∉X.fs->b∉ch->s.heap.get? b=some o->H b=none->h'.get? b=some o)
  (slot:∀b o,b≠X.env.locals->b∈X.fs->b∉ch->s.heap.get? b=some o->H b=none->∃sl,h'.get? b=some {o with slots:=sl}) (free:∀b o,b∉ch->s.heap.get? b=some o->H b=none->H' b=none)
  (there:∀b o,b∉ch->s.heap.get? b=some o->∃o',h'.get? b=some o')
  (tups:∀b xs,H b=some (.tup xs)->H' b=some (.tup xs)) (frzs:∀b o u,H b=some (.frz o u)->H' b=some (.frz o u)) (tbls:∀b ps,H b=some (.tbl ps)->∃more,H' b=some (.tbl (ps++more)))
  (ns:∀m,s.heap.Ns X.env.locals m->h'.Ns X.env.locals m) (hok:HOk X.prog X.w H' h') (hg:AllBare g'):
  Inv X pins σ H' {s with heap:=h',gens:=g',drawn:=d',toks:=t'}:=by
 have oZ:∀b o,X.s₀.heap.get? b=some o->b≠X.env.locals:=λb o e=>Ad (A0 (Heap.lt_size e) I.ok.above)
 have kZ:∀b o,X.s₀.heap.get? b=some o->b∉X.ex->b∉ch:=λb o e hx hb=>by
  rcases (g9 b hb).1 with z|z
  ·exact hx z
  ·exact absurd (A0 (Heap.lt_size e) z) (Bh _)
 have cellK:∀x c,X.env.cells.lookup x=some c->∀v,s.heap.IsCell c v->h'.IsCell c v:=λx c e v ⟨o,ho,hd⟩=>by
  have jK:c∉ch:=λz=>(g9 c z).2.2.1 x c e rfl
  rcases I.freeC x c e with hf|⟨_,o',hf⟩
  ·by_cases hc:c∈X.fs
   ·obtain⟨sl,q⟩:=slot c o (I.cne x c e) hc jK ho hf
    exact⟨_,q,hd⟩
   ·exact⟨o,keep c o (I.cne x c e) hc jK ho hf,hd⟩
  ·have h1:=(I.hok c _ hf).1
   rw[ho] at h1
   cases h1
   exact⟨o,(hok c _ (frzs c _ _ hf)).1,hd⟩
 refine⟨I.ok,I.os,hg,⟨λb o e n hb hx=> ?_,λb o e n hb hx=> ?_,λb o e n hx=> ?_,λb o e hx=> ?_,λb xs e=>tups b xs (I.base.tups b xs e),λb o xs e=>frzs b o xs (I.base.frzs b o xs e),λb ps e=> ?_⟩,?_,λx c e=> ?_,?_,λx c e=> ?_,λp hp=> ?_,hok,I.len⟩
 ·exact keep b o (oZ b o e) hb (kZ b o e hx) (I.base.keep b o e n hb hx) (I.base.free b o e n hx)
 ·obtain⟨sl,e1⟩:=I.base.slot b o e n hb hx
  obtain⟨sl',e2⟩:=slot b _ (oZ b o e) hb (kZ b o e hx) e1 (I.base.free b o e n hx)
  exact⟨sl',e2⟩
 ·obtain⟨o',e1⟩:=I.base.there b o e hx
  exact free b o' (kZ b o e hx) e1 (I.base.free b o e n hx)
 ·obtain⟨o',e1⟩:=I.base.there b o e hx
  exact there b o' (kZ b o e hx) e1
 ·obtain⟨m1,e1⟩:=I.base.tbls b ps e
  obtain⟨m2,e2⟩:=tbls b _ e1
  exact⟨m1++m2,by rw[e2,Dr]⟩
 ·obtain⟨m,hn,hl⟩:=I.loc
  refine⟨m,ns m hn,λi x v e1 e2 e3=> ?_⟩
  obtain⟨u,r,l⟩:=hl i x v e1 e2 e3
  refine⟨u,r,?_⟩
  rcases l with l|⟨k,c,e,z⟩
  ·exact .inl l
  ·exact .inr ⟨k,c,e,cellK x c e _ z⟩
 ·obtain⟨v,z⟩:=I.cell x c e
  exact⟨v,cellK x c e v z⟩
 ·obtain⟨m,⟨o,_,_,ho,_⟩,_⟩:=I.loc
  exact free _ o (λz=>(g9 _ z).2.1 rfl) ho I.free
 ·obtain⟨v,o,ho,hd⟩:=I.cell x c e
  rcases I.freeC x c e with hf|⟨z,o',hf⟩
  ·exact .inl (free c o (λz=>(g9 c z).2.2.1 x c e rfl) ho hf)
  ·exact .inr ⟨z,o',frzs c _ _ hf⟩
 ·obtain⟨e,n,ne,nf,d⟩:=I.pin p hp
  have jK:p.1∉ch:=λz=>(g9 p.1 z).2.2.2 p hp rfl
  exact⟨keep p.1 p.2 ne nf jK e n,free p.1 p.2 jK e n,ne,nf,d⟩
theorem Inv.un {t':Nat} (I:Inv X pins σ H s) (u:Un X.fs [] H H' s.heap h') (hok:HOk X.prog X.w H' h'):Inv X pins σ H' {s with heap:=h',toks:=t'}:=by
 obtain⟨m,⟨o,es,ep,ho,r⟩,_⟩:=id I.loc
 obtain⟨sl,hL⟩:=u.any ho I.free (by simp)
 exact I.step (g':=s.gens) (d':=s.drawn) (ch:=[]) (λ_ z=>nomatch z) (λb o _ hb _ e n=>u.keep b o e n hb (by simp)) (λb o _ hb _ e n=>u.slot b o e n hb (by simp)) (λb o _ e n=>u.free b o e n (by simp)) (λb o _ e=>u.there b o e (by simp)) u.tups u.frzs u.tbls (λm' hm=>by
  obtain⟨o',es',ep',g6,r'⟩:=hm
  rw[ho] at g6;cases g6
  exact⟨_,es',ep',hL,r'⟩) hok I.bare
theorem Inv.call {g':Array GenState} {t':Nat} {d':Drawn} {ch:List Addr} (I:Inv X pins σ H s) (u:Un (frs X.stack) ch H H' s.heap h') (hok:HOk X.prog X.w H' h') (hg:AllBare g')
  (g9:∀b∈ch,(b∈X.ex\/X.s₀.heap.objs.size<=b)/\b≠X.env.locals/\(∀x c,X.env.cells.lookup x=some c->c≠b)/\∀p∈X.pn++pins,p.1≠b):
  Inv X pins σ H' {s with heap:=h',gens:=g',drawn:=d',toks:=t'}:=by
 obtain⟨m,⟨o,es,ep,ho,r⟩,_⟩:=id I.loc
 obtain⟨sl,hL⟩:=u.any ho I.free λz=>(g9 _ z).2.1 rfl
 exact I.step (ch:=ch) g9 (λb o hL hb hc e n=>u.keep b o e n (λz=>(Ak.mp (I.stkSub b z)).elim hL hb) hc) (λb o _ _ hc e n=>u.any e n hc) (λb o hc e n=>u.free b o e n hc) (λb o hc e=>u.there b o e hc) u.tups u.frzs u.tbls (λm' hm=>by
  obtain⟨o',es',ep',g6,r'⟩:=hm
  rw[ho] at g6;cases g6
  exact⟨_,es',ep',hL,r'⟩) hok hg
theorem Inv.turned {t':Nat} {it:Addr} (I:Inv X pins σ H s) (k:∀b o,b≠it->s.heap.get? b=some o->h'.get? b=some o) (hn:H it=none) (hL:it≠X.env.locals)
  (h1:it∈X.ex\/X.s₀.heap.objs.size<=it) (h2:∀x c,X.env.cells.lookup x=some c->c≠it) (h3:∀p∈X.pn++pins,p.1≠it):Inv X pins σ H {s with heap:=h',toks:=t'}:=by
 have fi:∀b u,H b=some u->b≠it:=λb u e z=>by rw[z,hn] at e;cases e
 refine I.step (g':=s.gens) (d':=s.drawn) (ch:=[it]) (λb hb=> ?_) (λb o _ _ hc e _=>k b o (λz=>hc (by simp[z])) e) (λb o _ _ hc e _=>⟨o.slots,k b o (λz=>hc (by simp[z])) e⟩) (λ_ _ _ _ n=>n)
  (λb o hc e=>⟨o,k b o (λz=>hc (by simp[z])) e⟩) (λ_ _ e=>e) (λ_ _ _ e=>e) (λb ps e=>⟨#[],by rw[e];simp⟩) (λm hm=> ?_) (λb u e=> ?_) I.bare
 ·have e:b=it:=by simpa using hb
  subst e
  exact⟨h1,hL,h2,h3⟩
 ·obtain⟨o,es,ep,ho,r⟩:=hm
  exact⟨o,es,ep,k _ o (AQ hL) ho,r⟩
 ·refine (I.hok b u e).stay (λc v hc q=>k c v ?_ q) (λ_ q=>q) λ_ _ q=>q
  rcases hc with z|z
  ·rw[z];exact fi b u e
  ·exact fi c _ z
theorem Inv.tok (I:Inv X pins σ H s) (t:Nat):Inv X pins σ H {s with toks:=t}:=I.un (h':=s.heap) (t':=t) Un.refl I.hok
theorem Inv.kept {t':Nat} (I:Inv X pins σ H s) (k:∀b u,s.heap.get? b=some u->h'.get? b=some u):Inv X pins σ H {s with heap:=h',toks:=t'}:=I.un (Un.kept k) (I.hok.kept k)
theorem Inv.laid {a:Addr} {o:HO} {t':Nat} (I:Inv X pins σ H s) (k:∀b u,s.heap.get? b=some u->h'.get? b=some u) (hp:s.heap.objs.size<=a) (new:yj X.prog X.w (upd H a o) h' a o):
  Inv X pins σ (upd H a o) {s with heap:=h',toks:=t'}:=I.un (Un.laid k hp (I.hok.fresh hp)) (I.hok.laid k hp new)
theorem Inv.write {x e:Addr} {o:HO} {t':Nat} (I:Inv X pins σ H s) (mu:Mut (H x)) (he:e=x\/H e=some (.own x)) (k:∀b u,b≠e->s.heap.get? b=some u->h'.get? b=some u) (hG:∃u,h'.get? e=some u)
  (new:yj X.prog X.w (upd H x o) h' x o):Inv X pins σ (upd H x o) {s with heap:=h',toks:=t'}:=I.un (Un.write mu he k hG) (I.hok.write mu he k hG new)
theorem Inv.weak {σ':List (Option V)} (I:Inv X pins σ H s) (hl:σ'.length=σ.length) (w:∀(i:Nat) v,σ'[i]? =some (some v)->σ[i]? =some (some v)):Inv X pins σ' H s:=
 ⟨I.ok,I.os,I.bare,I.base,let ⟨m,hn,fk⟩:=I.loc;⟨m,hn,λi x v e1 e2 e3=>fk i x v e1 (w i v e2) e3⟩,I.cell,I.free,I.freeC,I.pin,I.hok,hl.trans I.len⟩
theorem Inv.pins_of {pins':List (Addr×Obj)} (I:Inv X pins σ H s) (h:∀p∈pins',s.heap.get? p.1=some p.2/\H p.1=none/\p.1≠X.env.locals/\p.1∉X.fs/\∀v,p.2.data≠ .cell v):Inv X pins' σ H s:=
 ⟨I.ok,I.os,I.bare,I.base,I.loc,I.cell,I.free,I.freeC,λp hp=>(Aa.mp hp).elim (λz=>I.pin p (Bw _ z)) (h p),I.hok,I.len⟩
theorem zbF {N:List Str} (hN:N.Nodup) {i j:Nat} {x:Str} (a:N[i]? =some x) (b:N[j]? =some x):i=j:=by
 obtain⟨h1,e1⟩:=y4.mp a
 obtain⟨h2,e2⟩:=y4.mp b
 exact (C0 hN).mp (e1.trans e2.symm)
theorem TL {M:Model} {A:Around} {E:Value->Shared->Prop} {i:Nat} {x:Str} {v:V} {u:Value} {Q:Unit->Shared->Prop} (I:Inv X pins σ H s) (hN:X.N.Nodup) (hi:X.N[i]? =some x) (hx:Loc X.env.scope x) (r:zD v u)
  (h:∀s',Inv X pins (σ.set i (some v)) H s'->(∃a,Heap.SameBut a s.heap s'.heap/\(a=X.env.locals\/X.env.cells.lookup x=some a))->Q () s') (hf:X.fn x=true\/X.env.scope.names.lookup x=some .local:=by first|exact .inl rfl|exact .inr rfl|assumption):wpAny M A (storeName X.env x u) Q E s:=by
 obtain⟨m,hn,hl⟩:=id I.loc
 have oa:(X.env.scope.kind== .class||(X.env.scope.kind== .module&&X.env.locals !=X.env.globals))=false:=by rw[I.ok.kind];rfl
 have hiσ:i<σ.length:=by rw[I.len];exact (y4.mp hi).1
 have cne:=I.cne
 have tracked:∀{a:Addr} {h':Heap},(∃o,s.heap.get? a=some o/\H a=none)->Heap.SameBut a s.heap h'->HOk X.prog X.w H h':=λ{a h'} ha hs b ob e=>by
  obtain⟨_,_,h9⟩:=ha
  refine (I.hok b ob e).stay (λc w' hc q=>(hs.2 c ?_).trans q) (λ_ q=>q) λ_ _ q=>q
  rintro rfl
  rcases hc with rfl|hc
  ·rw[h9] at e;cases e
  ·rw[h9] at hc;cases hc
 rcases hx with hk|hk
 ·refine wpAny_storeName_local hk hn (λh' sA hs=> ?_) oa
  obtain⟨oL,_,_,gn,_⟩:=id hn
  refine h _ ⟨I.ok,I.os,I.bare,⟨λb o e n hb hx=> ?_,λb o e n hb hx=> ?_,I.base.free,λb o e hx=> ?_,I.base.tups,I.base.frzs,I.base.tbls⟩,⟨_,sA,λj y v' e1 e2 e3=> ?_⟩,λy c e=> ?_,I.free,I.freeC,λp hp=> ?_,tracked ⟨oL,gn,I.free⟩ hs,by simpa using I.len⟩ ⟨_,hs,.inl rfl⟩
  ·exact (hs.2 b (Ad (A0 (Heap.lt_size e) I.ok.above))).trans (I.base.keep b o e n hb hx)
  ·obtain⟨sl,e1⟩:=I.base.slot b o e n hb hx
   exact⟨sl,(hs.2 b (Ad (A0 (Heap.lt_size e) I.ok.above))).trans e1⟩
  ·obtain⟨o',e1⟩:=I.base.there b o e hx
   exact⟨o',(hs.2 b (Ad (A0 (Heap.lt_size e) I.ok.above))).trans e1⟩
  ·by_cases hj:j=i
   ·subst hj
    rw[hi] at e1;cases e1
    rw[Eh hiσ] at e2
    cases e2
    exact⟨u,r,.inl ⟨hk,by simp⟩⟩
   ·rw[D8 (AQ hj)] at e2
    obtain⟨u',r',q⟩:=hl j y v' e1 e2 e3
    refine⟨u',r',?_⟩
    rcases q with⟨k,e⟩|⟨k,c,e,z⟩
    ·refine .inl ⟨k,?_⟩
     have:y≠x:=λe=>hj (zbF hN e1 (e ▸ hi))
     simp[this,e]
    ·exact .inr ⟨k,c,e,z.sameBut hs (cne y c e)⟩
  ·obtain⟨w',z⟩:=I.cell y c e
   exact⟨w',z.sameBut hs (cne y c e)⟩
  ·obtain⟨e,n,ne,nf,d⟩:=I.pin p hp
   exact⟨(hs.2 p.1 ne).trans e,n,ne,nf,d⟩
 ·have fT:X.fn x=true:=by
   rcases hf with z|z
   ·exact z
   ·rw[z] at hk;cases hk
  obtain⟨c,hc⟩:=I.ok.has x (.inl hk)
  have kD:H c=none:=(I.freeC x c hc).elim (λz=>z) λz=>by rw[fT] at z;cases z.1
  obtain⟨w',z⟩:=I.cell x c hc
  refine wpAny_storeName_cell I.ok.kind hk hc z (λh' dA hs=> ?_)
  obtain⟨oc,lD,nu⟩:=id z
  refine h {s with heap:=h'} ⟨I.ok,I.os,I.bare,⟨λb o e n hb hx=> ?_,λb o e n hb hx=> ?_,I.base.free,λb o e hx=> ?_,I.base.tups,I.base.frzs,I.base.tbls⟩,⟨m,hn.sameBut hs (AQ (cne x c hc)),λj y v' e1 e2 e3=> ?_⟩,λy c' e=> ?_,I.free,I.freeC,λp hp=> ?_,tracked ⟨oc,lD,kD⟩ hs,by simpa using I.len⟩ ⟨c,hs,.inr hc⟩
  ·exact (hs.2 b (Ad (A0 (Heap.lt_size e) (I.ok.cab x c (.inl fT) hc)))).trans (I.base.keep b o e n hb hx)
  ·obtain⟨sl,e1⟩:=I.base.slot b o e n hb hx
   exact⟨sl,(hs.2 b (Ad (A0 (Heap.lt_size e) (I.ok.cab x c (.inl fT) hc)))).trans e1⟩
  ·obtain⟨o',e1⟩:=I.base.there b o e hx
   exact⟨o',(hs.2 b (Ad (A0 (Heap.lt_size e) (I.ok.cab x c (.inl fT) hc)))).trans e1⟩
  ·by_cases hj:j=i
   ·subst hj
    rw[hi] at e1;cases e1
    rw[Eh hiσ] at e2
    cases e2
    exact⟨u,r,.inr ⟨.inl hk,c,hc,dA⟩⟩
   ·rw[D8 (AQ hj)] at e2
    obtain⟨u',r',q⟩:=hl j y v' e1 e2 e3
    refine⟨u',r',?_⟩
    rcases q with q|⟨k,c',e,z'⟩
    ·exact .inl q
    ·refine .inr ⟨k,c',e,z'.sameBut hs ?_⟩
     rintro rfl
     exact hj (zbF hN e1 (I.ok.inj _ _ _ e hc ▸ hi))
  ·by_cases qx:c'=c
   ·subst qx;exact⟨_,dA⟩
   ·obtain⟨w2,z2⟩:=I.cell y c' e
    exact⟨w2,z2.sameBut hs qx⟩
  ·obtain⟨e,n,ne,nf,d⟩:=I.pin p hp
   refine⟨(hs.2 p.1 ?_).trans e,n,ne,nf,d⟩
   intro q
   rw[q,lD] at e
   have q':oc=p.2:=AW e
   exact d w' (by rw[<-q'];exact nu)
theorem Wf {M:Model} {A:Around} {E:Value->Shared->Prop} {i:Nat} {x:Str} {v:V} {u:Value} {Q:Unit->Shared->Prop} (I:Inv X pins σ H s) (hN:X.N.Nodup) (hi:X.N[i]? =some x) (hx:Loc X.env.scope x) (r:zD v u)
  (h:∀s',Inv X pins (σ.set i (some v)) H s'->Q () s') (hf:X.fn x=true\/X.env.scope.names.lookup x=some .local:=by first|exact .inl rfl|exact .inr rfl|assumption):wpAny M A (storeName X.env x u) Q E s:=
 TL I hN hi hx r (λs' I' _=>h s' I') hf
theorem Inv.call' {s':Shared} {ch:List Addr} (I:Inv X pins σ H s) (ho:s'.os=s.os) (u:Un (frs X.stack) ch H H' s.heap s'.heap) (hok:HOk X.prog X.w H' s'.heap) (hg:AllBare s'.gens)
  (g9:∀b∈ch,(b∈X.ex\/X.s₀.heap.objs.size<=b)/\b≠X.env.locals/\(∀x c,X.env.cells.lookup x=some c->c≠b)/\∀p∈X.pn++pins,p.1≠b):Inv X pins σ H' s':=by
 obtain⟨h',g',d',t',o'⟩:=s'
 have e:o'=s.os:=ho
 subst e
 exact I.call (g':=g') (t':=t') (d':=d') u hok hg g9
end
abbrev XK:=Value->Option Addr->Hp->Prop
abbrev St:=List (Option V)
abbrev VK:=V->Hp->Prop
abbrev TE:=St->Hp->VK->Prop
abbrev TT:=St->Hp->(Bool->Hp->Prop)->Prop
abbrev TA:=St->Hp->(List V->Hp->Prop)->Prop
structure Wg where
 nx:St->Hp->Prop
 rt:VK
 bk:St->Hp->Prop:=λ_ _=>False
 ct:St->Hp->Prop:=λ_ _=>False
abbrev TS:=Wg->St->Hp->Prop
def EP (X:Cx) (pins:List (Addr×Obj)) (σ:St) (Q:VK) (u:Value) (s':Shared):Prop:=∃v H',Inv X pins σ H' s'/\zD v u/\Q v H'
def TP (X:Cx) (pins:List (Addr×Obj)) (σ:St) (Q:Bool->Hp->Prop) (b:Bool) (s':Shared):Prop:=∃H',Inv X pins σ H' s'/\Q b H'
def AP (X:Cx) (pins:List (Addr×Obj)) (σ:St) (Q:List V->Hp->Prop) (us:List Value) (s':Shared):Prop:=∃vs H',Inv X pins σ H' s'/\zI vs us/\Q vs H'
def SP (X:Cx) (pins:List (Addr×Obj)) (D:Wg) (f:Flow) (s':Shared):Prop:=
 match f with
 | .next=>∃σ' H',Inv X pins σ' H' s'/\D.nx σ' H'
 | .brk=>∃σ' H',Inv X pins σ' H' s'/\D.bk σ' H'
 | .cont=>∃σ' H',Inv X pins σ' H' s'/\D.ct σ' H'
 | .ret u=>∃v σ' H',Inv X pins σ' H' s'/\zD v u/\D.rt v H'
def PE (X:Cx) (e:Expr) (t:TE):Prop:=
 ∀(pins:List (Addr×Obj)) (s:Shared) (σ:St) (H:Hp) (Q:VK),Inv X pins σ H s->t σ H Q->wpAny (model X.prog X.w) X.A (eval e X.env) (EP X pins σ Q) X.xe s
def PT (X:Cx) (e:Expr) (t:TT):Prop:=
 ∀(pins:List (Addr×Obj)) (s:Shared) (σ:St) (H:Hp) (Q:Bool->Hp->Prop),Inv X pins σ H s->t σ H Q->wpAny (model X.prog X.w) X.A (isTrue e X.env (eval e X.env)) (TP X pins σ Q) X.xe s
def PW (X:Cx) (e:Expr) (t:TT):Prop:=
 ∀(whole:Sem Value) (pins:List (Addr×Obj)) (s:Shared) (σ:St) (H:Hp) (Q:Bool->Hp->Prop),Inv X pins σ H s->t σ H Q->wpAny (model X.prog X.w) X.A (isTrue e X.env whole) (TP X pins σ Q) X.xe s
theorem PW.pt {X:Cx} {e:Expr} {t:TT} (h:PW X e t):PT X e t:=h _
def PA (X:Cx) (es:List Expr) (t:TA):Prop:=
 ∀(pos:Pos) (pins:List (Addr×Obj)) (s:Shared) (σ:St) (H:Hp) (Q:List V->Hp->Prop),Inv X pins σ H s->t σ H Q->wpAny (model X.prog X.w) X.A (spliced (backTo pos (starEach es X.env))) (AP X pins σ Q) X.xe s
def PS (X:Cx) (st:Stmt) (t:TS):Prop:=
 ∀(pins:List (Addr×Obj)) (s:Shared) (σ:St) (H:Hp) (D:Wg),Inv X pins σ H s->t D σ H->wpAny (model X.prog X.w) X.A (exec st X.env) (SP X pins D) X.xe s
def PSs (X:Cx) (st:List Stmt) (t:TS):Prop:=
 ∀(pins:List (Addr×Obj)) (s:Shared) (σ:St) (H:Hp) (D:Wg),Inv X pins σ H s->t D σ H->wpAny (model X.prog X.w) X.A (execs st X.env) (SP X pins D) X.xe s
theorem thn {α:Type} {t:Sem α} {Q Q':α->Shared->Prop} {M:Model} {A:Around} {E:Value->Shared->Prop} {s:Shared} (h:wpAny M A t Q E s) (hQ:∀a s,Q a s->Q' a s):wpAny M A t Q' E s:=wpAny_mono h hQ λ_ _ x=>x
section
variable {X:Cx}
theorem bin {a b:Expr} {ta tb:TE} (ha:PE X a ta) (hb:PE X b tb) {pins:List (Addr×Obj)} {s:Shared} {σ:St} {H:Hp} {R:V->V->Hp->Prop} (I:Inv X pins σ H s) (h:ta σ H λx H1=>tb σ H1 λy H2=>R x y H2)
  {α:Type} {Q:α->Shared->Prop} {f:Value->Value->Sem α}
  (hf:∀v u s2 x y H2,Inv X pins σ H2 s2->zD x v->zD y u->R x y H2->wpAny (model X.prog X.w) X.A (f v u) Q X.xe s2):
  wpAny (model X.prog X.w) X.A (eval a X.env) (λv s₁=>wpAny (model X.prog X.w) X.A (eval b X.env) (λu s₂=>wpAny (model X.prog X.w) X.A (f v u) Q X.xe s₂) X.xe s₁) X.xe s:=by
 refine thn (ha pins s σ H _ I h) ?_
 rintro v s1 ⟨x,H1,I1,r1,q1⟩
 refine thn (hb pins s1 σ H1 _ I1 q1) ?_
 rintro u s2 ⟨y,H2,I2,r2,q2⟩
 exact hf v u s2 x y H2 I2 r1 r2 q2
def zkB (i:Nat):TE:=λσ H Q=>∃v,σ[i]? =some (some v)/\Q v H
def tC (v:V):TE:=λ_ H Q=>Q v H
theorem zkC {i:Nat} {x:Str} {pos:Pos} (hN:X.N[i]? =some x) (hv:Vis X.env.scope x) (hd:(x==("__debug__":Str))=false:=by decide) (cF:(x==("__classdict__":Str))=false:=by decide):PE X (.Name x pos) (zkB i):=by
 intro pins s σ H Q I h
 obtain⟨v,e,h⟩:=h
 obtain⟨m,hn,hl⟩:=I.loc
 obtain⟨u,r,l⟩:=hl i x v hN e hv
 have fin:EP X pins σ Q u s:=⟨v,H,I,r,h⟩
 rcases l with⟨hk,hm⟩|⟨hk,c,hc,hV⟩
 ·exact wpAny_Name (wpAny_loadName_local I.ok.kind hk hn hm fin) hd
 ·rcases hk with hk|hk
  ·exact wpAny_Name (wpAny_loadName_cell I.ok.kind hk hc hV fin) hd
  ·exact wpAny_Name (wpAny_loadName_free I.ok.kind hk hc hV fin cF) hd
theorem zf {i j pos}:PE X (.Constant (.int i) j pos) (tC (.int i)):=λ_ _ _ H _ I h=>wpAny_Constant_int ⟨.int i,H,I.tok _,⟨_,rfl⟩,h⟩
theorem zdU {b j pos}:PE X (.Constant (.bool b) j pos) (tC (.bl b)):=λ_ _ _ H _ I h=>Constant_bool ⟨.bl b,H,I,rfl,h⟩
theorem WQ {j pos}:PE X (.Constant .none j pos) (tC .non):=λ_ _ _ H _ I h=>Constant_none ⟨.non,H,I,rfl,h⟩
theorem zcR {x j pos}:PE X (.Constant (.str x) j pos) (tC (.str x)):=λ_ _ _ H _ I h=>Calls.Constant_str ⟨.str x,H,I.tok _,⟨_,rfl⟩,h⟩
def Gl (X:Cx) (x:Str):Prop:=X.env.kindOf x=some .globalImplicit
theorem zaG {E:Value->Shared->Prop} {pins:List (Addr×Obj)} {s:Shared} {σ:St} {H:Hp} {x:Str} {u:Value} {pos:Pos} {Q:Value->Shared->Prop} (I:Inv X pins σ H s) (hg:Gl X x) (hm:X.mg x=some u) (h:Q u s)
  (hd:(x==("__debug__":Str))=false:=by decide):wpAny (model X.prog X.w) X.A (eval (.Name x pos) X.env) Q E s:=
 Calls.Name_function_global I.ok.kind hg (Calls.loadGlobal_global (by rw[I.ok.glob];exact I.mod.glob.keeps I.bk) hm h) hd
theorem va {E:Value->Shared->Prop} {pins:List (Addr×Obj)} {s:Shared} {σ:St} {H:Hp} {x:Str} {u:Value} {pos:Pos} {Q:Value->Shared->Prop} (I:Inv X pins σ H s) (hg:Gl X x) (hm:X.mg x=none) (hv:bootBuiltins x=some u) (h:Q u s)
  (hn:x≠"__name__":=by decide) (hd:(x==("__debug__":Str))=false:=by decide):wpAny (model X.prog X.w) X.A (eval (.Name x pos) X.env) Q E s:=by
 obtain⟨mb,h1,h2⟩:=I.mod.blt
 exact Calls.Name_function_global I.ok.kind hg (Calls.loadGlobal_builtin (by rw[I.ok.glob];exact I.mod.glob.keeps I.bk) hm (by rw[I.ok.blt];exact h1.keeps I.bk) ((h2 x hn).trans hv) h) hd
theorem zir {x:Str} {v:V} {u:Value} {pos:Pos} (hg:Gl X x) (hm:X.mg x=some u) (r:zD v u) (hd:(x==("__debug__":Str))=false:=by decide):PE X (.Name x pos) (tC v):=
 λ_ _ _ H _ I h=>zaG I hg hm ⟨v,H,I,r,h⟩ hd
theorem zdV {x:Str} {v:V} {u:Value} {pos:Pos} (hg:Gl X x) (hm:X.mg x=none) (hv:bootBuiltins x=some u) (r:zD v u) (hn:x≠"__name__":=by decide) (hd:(x==("__debug__":Str))=false:=by decide):PE X (.Name x pos) (tC v):=
 λ_ _ _ H _ I h=>va I hg hm hv ⟨v,H,I,r,h⟩ hn hd
def t2I (ta tb:TE) (k:Int->Int->Hp->Prop):St->Hp->Prop:=λσ H=>ta σ H λx H1=>tb σ H1 λy H2=>∃i j,x= .int i/\y= .int j/\k i j H2
variable {a b:Expr} {ta tb:TE} {pos:Pos}
def PC (X:Cx) (op:CmpOp) (a b:Expr) (t:TE):Prop:=
 ∀(pins:List (Addr×Obj)) (s:Shared) (σ:St) (H:Hp) (Q:VK),Inv X pins σ H s->t σ H Q->
  wpAny (model X.prog X.w) X.A (eval a X.env) (λv s₁=>wpAny (model X.prog X.w) X.A (eval b X.env) (λu s₂=>wpAny (model X.prog X.w) X.A (compareOp op v u) (EP X pins σ Q) X.xe s₂) X.xe s₁) X.xe s
theorem zfS (b:Expr) {op:CmpOp} (h:op≠ .In) (h2:op≠ .NotIn):behindInMarks op b=false:=by
 have e1:(op==CmpOp.In)=false:=by cases op<;>first|rfl|exact absurd rfl h
 have e2:(op==CmpOp.NotIn)=false:=by cases op<;>first|rfl|exact absurd rfl h2
 cases b<;>simp[behindInMarks,e1,e2]
def zbG (p:Int->Int->Bool) (ta tb:TE):TE:=λσ H Q=>t2I ta tb (λi j H2=>Q (.bl (p i j)) H2) σ H
noncomputable abbrev tLt:TE->TE->TE:=zbG λi j=>decide (i<j)
noncomputable abbrev tLe:TE->TE->TE:=zbG λi j=>decide (i<=j)
noncomputable abbrev tGt:TE->TE->TE:=zbG λi j=>decide (j<i)
noncomputable abbrev tGe:TE->TE->TE:=zbG λi j=>decide (j<=i)
noncomputable abbrev zl2:TE->TE->TE:=zbG λi j=>decide (i=j)
noncomputable abbrev zl3:TE->TE->TE:=zbG λi j=> !decide (i=j)
theorem zaH {op:CmpOp} {p:Int->Int->Bool} (ha:PE X a ta) (hb:PE X b tb)
  (rule:∀(i j:Int) (t u:Tok) (Q:Value->Shared->Prop) (s:Shared),Q (.bool (p i j)) s->wpAny (model X.prog X.w) X.A (compareOp op (.int i t) (.int j u)) Q X.xe s):PC X op a b (zbG p ta tb):=by
 intro pins s σ H Q I h
 refine bin ha hb I h λv u s2 x y H2 I2 rx ry q=> ?_
 obtain⟨i,j,rfl,rfl,q⟩:=q
 obtain⟨t,rfl⟩:=rx
 obtain⟨t',rfl⟩:=ry
 exact rule i j t t' _ s2 ⟨.bl _,H2,I2,rfl,q⟩
theorem zjU (ha:PE X a ta) (hb:PE X b tb):PC X .Lt a b (tLt ta tb):=zaH ha hb λ_ _ _ _ _ _ h=>lt_int h
theorem Yt (ha:PE X a ta) (hb:PE X b tb):PC X .Gt a b (tGt ta tb):=zaH ha hb λ_ _ _ _ _ _ h=>gt_int h
theorem XM (ha:PE X a ta) (hb:PE X b tb):PC X .Eq a b (zl2 ta tb):=zaH ha hb λ_ _ _ _ _ _ h=>eq_int (by rw[Et];exact h)
theorem XN (ha:PE X a ta) (hb:PE X b tb):PC X .NotEq a b (zl3 ta tb):=zaH ha hb λ_ _ _ _ _ _ h=>ne_int (by rw[bne,Et];exact h)
def zl4 (ta:TE):TE:=λσ H Q=>ta σ H λx H1=>Q (.bl (decide (x= .non))) H1
def zjV (ta:TE):TE:=λσ H Q=>ta σ H λx H1=>Q (.bl (!decide (x= .non))) H1
theorem zD.none_iff {x:V} {v:Value} (r:zD x v):(v==Value.none)=decide (x= .non):=by
 cases x with
 |non=>cases r;rfl
 |bl _=>cases r;rfl
 |int _=>obtain⟨t,rfl⟩:=r;rfl
 |str _=>obtain⟨t,rfl⟩:=r;rfl
 |byt _=>obtain⟨t,rfl⟩:=r;rfl
 |flt _=>obtain⟨t,rfl⟩:=r;rfl
 |ref _=>cases r;rfl
 |ty _=>cases r;rfl
theorem Um {j pos'} (ha:PE X a ta):PC X .Is a (.Constant .none j pos') (zl4 ta):=by
 intro pins s σ H Q I h
 refine thn (ha pins s σ H _ I h) ?_
 rintro v s1 ⟨x,H1,I1,r1,q1⟩
 exact Constant_none (is_none_gen ⟨.bl _,H1,I1,by rw[r1.none_iff];rfl,q1⟩)
theorem zis {j pos'} (ha:PE X a ta):PC X .IsNot a (.Constant .none j pos') (zjV ta):=by
 intro pins s σ H Q I h
 refine thn (ha pins s σ H _ I h) ?_
 rintro v s1 ⟨x,H1,I1,r1,q1⟩
 exact Constant_none (isnot_none_gen ⟨.bl _,H1,I1,by rw[r1.none_iff];rfl,q1⟩)
def tB (t:TE):TT:=λσ H Q=>t σ H λx H1=>∃c,x= .bl c/\Q c H1
theorem zV {op:CmpOp} {t:TE} (h:PC X op a b t) (h1:behindInMarks op b=false:=by first|exact zfS _ ∅ ∅|rfl):PT X (.Compare a [op] [b] pos) (tB t):=by
 intro pins s σ H Q I hw
 refine wpAny_isTrue_Compare1 (thn (h pins s σ H _ I hw) λv s1 h1=>thn h1 λu s2 h2=>thn h2 ?_) h1
 rintro c s3 ⟨x,H1,I1,r1,q1⟩
 obtain⟨d,rfl,q⟩:=q1
 cases r1
 exact wpAny_truthy_bool ⟨H1,I1,q⟩
theorem Uo {e:Expr} {t:TE} (h:PE X e t) (he:∀whole,isTrue e X.env whole=(do let v <-whole;standAt e.pos;holding [v] (truthy v)):=by intro _;rfl):PT X e (tB t):=by
 intro pins s σ H Q I hw
 refine isTrue_plain (thn (h pins s σ H _ I hw) ?_) (he _)
 rintro v s1 ⟨x,H1,I1,r1,q1⟩
 obtain⟨d,rfl,q⟩:=q1
 cases r1
 exact wpAny_truthy_bool ⟨H1,I1,q⟩
variable {tA tB':TT} {rest:List Expr}
def zl5 (t u:TT):TT:=λσ H Q=>t σ H λc H1=>if c=true then u σ H1 Q else Q false H1
def tOr (t u:TT):TT:=λσ H Q=>t σ H λc H1=>if c=true then Q true H1 else u σ H1 Q
def zl6 (t:TT):TT:=λσ H Q=>t σ H λc H1=>Q (!c) H1
theorem zit (ha:PT X a tA):PW X (.BoolOp .And [a] pos) tA:=by
 intro wh pins s σ H Q I h
 refine isTrue_and (thn (ha pins s σ H Q I h) λc s1 e=> ?_)
 cases c with
 |true=>exact isTrue_and_nil e
 |false=>exact e
theorem zcS (ha:PT X a tA):PW X (.BoolOp .Or [a] pos) tA:=by
 intro wh pins s σ H Q I h
 refine isTrue_or (thn (ha pins s σ H Q I h) λc s1 e=> ?_)
 cases c with
 |false=>exact isTrue_or_nil e
 |true=>exact e
theorem zkD (ha:PT X a tA) (hb:PW X (.BoolOp .And (b::rest) pos) tB'):PW X (.BoolOp .And (a::b::rest) pos) (zl5 tA tB'):=by
 intro wh pins s σ H Q I h
 refine isTrue_and (thn (ha pins s σ H _ I h) ?_)
 rintro c s1 ⟨H1,I1,q1⟩
 cases c with
 |true=>exact hb wh pins s1 σ H1 Q I1 q1
 |false=>exact⟨H1,I1,q1⟩
theorem zfT (ha:PT X a tA) (hb:PW X (.BoolOp .Or (b::rest) pos) tB'):PW X (.BoolOp .Or (a::b::rest) pos) (tOr tA tB'):=by
 intro wh pins s σ H Q I h
 refine isTrue_or (thn (ha pins s σ H _ I h) ?_)
 rintro c s1 ⟨H1,I1,q1⟩
 cases c with
 |true=>exact⟨H1,I1,q1⟩
 |false=>exact hb wh pins s1 σ H1 Q I1 q1
theorem zcT (ha:PT X a tA):PT X (.UnaryOp .Not a pos) (zl6 tA):=by
 intro pins s σ H Q I h
 exact isTrue_not (ha pins s σ H (λc H1=>Q (!c) H1) I h)
def zjW (ta tb:TE):TE:=λσ H Q=>ta σ H λx H1=>∃c,x= .bl c/\if c=true then tb σ H1 Q else Q (.bl false) H1
def zjX (ta:TE):TE:=λσ H Q=>ta σ H λx H1=>∃c,x= .bl c/\Q (.bl (!c)) H1
theorem zkE {op} {t:TE} (h:PE X a t):PE X (.BoolOp op [a] pos) t:=λpins s σ H Q I hw=>BoolOp_one (h pins s σ H Q I hw)
theorem zkF (ha:PE X a ta) (hb:PE X (.BoolOp .And (b::rest) pos) tb):PE X (.BoolOp .And (a::b::rest) pos) (zjW ta tb):=by
 intro pins s σ H Q I h
 refine BoolOp_and (thn (ha pins s σ H _ I h) ?_)
 rintro v s1 ⟨x,H1,I1,r1,q1⟩
 obtain⟨c,rfl,q1⟩:=q1
 cases r1
 refine wpAny_truthy_bool ?_
 cases c with
 |true=>exact hb pins s1 σ H1 Q I1 q1
 |false=>exact⟨.bl false,H1,I1,rfl,q1⟩
theorem zkG (ha:PE X a ta):PE X (.UnaryOp .Not a pos) (zjX ta):=by
 intro pins s σ H Q I h
 refine UnaryOp_ (thn (ha pins s σ H _ I h) ?_)
 rintro v s1 ⟨x,H1,I1,r1,q1⟩
 obtain⟨c,rfl,q1⟩:=q1
 cases r1
 exact not_of (wpAny_truthy_bool ⟨.bl (!c),H1,I1,rfl,q1⟩)
def tIf (t:TT) (ta tb:TE):TE:=λσ H Q=>t σ H λc H1=>if c=true then ta σ H1 Q else tb σ H1 Q
theorem Up {c:Expr} (hc:PT X c tA) (ha:PE X a ta) (hb:PE X b tb):PE X (.IfExp c a b pos) (tIf tA ta tb):=by
 intro pins s σ H Q I h
 refine wpAny_IfExp (thn (hc pins s σ H _ I h) ?_)
 rintro d s1 ⟨H1,I1,q1⟩
 cases d with
 |true=>exact ha pins s1 σ H1 Q I1 q1
 |false=>exact hb pins s1 σ H1 Q I1 q1
end
def SqL (K:y3) (H:Hp) (a:Addr) (xs:List V):Prop:=
 Rd H a (.lst xs)\/
  ∃(o:Obj) (ae:Array Value) (n:Nat),K.lookup a=some o/\o.cls= .type "list"/\o.dict=none/\o.data= .seq ae n/\ae.size<=sizeLine/\zI xs ae.toList
def SqT (K:y3) (H:Hp) (a:Addr) (xs:List V):Prop:=
 Rd H a (.tup xs)\/
  ∃(o:Obj) (ae:Array Value) (n:Nat),K.lookup a=some o/\o.cls= .type "tuple"/\o.data= .seq ae n/\ae.size<=sizeLine/\zI xs ae.toList
def SqX (K:y3) (H:Hp) (a:Addr) (xs:List V):Prop:=
 Rd H a (.lst xs)\/∃(ae:Array Value) (n:Nat),K.lookup a=some {cls:= .type "list",data:= .seq ae n}/\ae.size<=sizeLine/\zI xs ae.toList
theorem SqX.sql {K:y3} {H:Hp} {a:Addr} {xs:List V} (h:SqX K H a xs):SqL K H a xs:=by
 rcases h with h|⟨ae,n,hk,hz,r⟩
 ·exact .inl h
 ·exact .inr ⟨_,ae,n,hk,rfl,rfl,rfl,hz,r⟩
theorem SqX.of {K:y3} {H:Hp} {a:Addr} {xs:List V} (h:H a=some (.lst xs)):SqX K H a xs:= .inl (.inl h)
noncomputable def zne:Value->Option V
 | .none=>some .non
 | .bool b=>some (.bl b)
 | .int i _=>some (.int i)
 | .str x _=>some (.str x)
 | .bytes b _=>some (.byt b)
 | .float b _=>some (.flt b)
 | .ref a=>some (.ref a)
 | .type n=>some (.ty n)
 |_=>none
theorem zD.abs {x:V} {u:Value} (r:zD x u):zne u=some x:=by
 cases x with
 |non=>cases r;rfl
 |bl _=>cases r;rfl
 |int _=>obtain⟨t,rfl⟩:=r;rfl
 |str _=>obtain⟨t,rfl⟩:=r;rfl
 |byt _=>obtain⟨t,rfl⟩:=r;rfl
 |flt _=>obtain⟨t,rfl⟩:=r;rfl
 |ref _=>cases r;rfl
 |ty _=>cases r;rfl
theorem zD.inj {x y:V} {u:Value} (r:zD x u) (q:zD y u):x=y:=AW (r.abs.symm.trans q.abs)
theorem zI.inj {xs ys:List V} {us:List Value} (h:zI xs us) (k:zI ys us):xs=ys:=by
 induction h generalizing ys with
 |nil=>cases k;rfl
 |cons r _ ih=>
  cases k with
  |cons r' t'=>rw[r.inj r',ih t']
section
variable {X:Cx} {pins:List (Addr×Obj)} {σ:St} {H:Hp} {s:Shared} {a:Addr} {xs ys:List V}
theorem SqT.of {K:y3} (h:H a=some (.tup xs)):SqT K H a xs:= .inl (.inl h)
theorem Inv.list (I:Inv X pins σ H s) (h:SqL X.K H a xs):∃ae:List Value,zI xs ae/\PlainL s.heap a ae.toArray/\xs.length<=sizeLine:=by
 rcases h with h|⟨o,ae,n,hk,hc,hd,hs,hz,r⟩
 ·obtain⟨z,ae,n,r,e⟩:=h.ok I.hok
  exact⟨ae,r,⟨_,n,e,rfl,rfl,rfl⟩,z⟩
 ·refine⟨ae.toList,r,⟨o,n,I.kIn a o hk,hc,hd,by simpa using hs⟩,?_⟩
  have e:=r.length
  simp only[BH] at e
  omega
theorem Inv.tuple (I:Inv X pins σ H s) (h:SqT X.K H a xs):∃ae:List Value,zI xs ae/\IsTup s.heap a ae.toArray/\xs.length<=sizeLine:=by
 rcases h with h|⟨o,ae,n,hk,hc,hs,hz,r⟩
 ·obtain⟨z,ae,r,p⟩:=h.ok I.hok
  exact⟨ae,r,p.tup,z⟩
 ·refine⟨ae.toList,r,⟨o,I.kIn a o hk,hc,n,by simpa using hs⟩,?_⟩
  have e:=r.length
  simp only[BH] at e
  omega
theorem Inv.list_inj (I:Inv X pins σ H s) (h:SqL X.K H a xs) (h':SqL X.K H a ys):xs=ys:=by
 obtain⟨ae,r,⟨o,n,e,_,_,d⟩,_⟩:=I.list h
 obtain⟨its',r',⟨o',n',e',_,_,d'⟩,_⟩:=I.list h'
 rw[e] at e';cases e'
 rw[d] at d'
 injection d' with d1 _
 have:ae=its':=by simpa using congrArg Gi d1
 subst this
 exact r.inj r'
theorem Inv.tuple_inj (I:Inv X pins σ H s) (h:SqT X.K H a xs) (h':SqT X.K H a ys):xs=ys:=by
 obtain⟨ae,r,⟨o,e,_,n,d⟩,_⟩:=I.tuple h
 obtain⟨its',r',⟨o',e',_,n',d'⟩,_⟩:=I.tuple h'
 rw[e] at e';cases e'
 rw[d] at d'
 injection d' with d1 _
 have:ae=its':=by simpa using congrArg Gi d1
 subst this
 exact r.inj r'
end
noncomputable abbrev Cx.wish (X:Cx) (E:Value->Shared->Prop):Cx:={X with xe:=E}
noncomputable abbrev Cx.nox (X:Cx):Cx:=X.wish λ_ _=>False
section
variable {X:Cx} {pins:List (Addr×Obj)} {σ:St} {H:Hp} {s:Shared} {E:Value->Shared->Prop}
end
section
variable {X:Cx} {st:Stmt} {rest:List Stmt} {t u:TS} {e:Expr} {te:TE} {pos:Pos}
def zjY:TS:=λD σ H=>D.nx σ H
def zkH (t u:TS):TS:=λD σ H=>t {D with nx:=u D} σ H
theorem zU:PSs X [] zjY:=λ_ _ σ H _ I h=>wpAny_execs_nil ⟨σ,H,I,h⟩
theorem zfU (h1:PS X st t) (h2:PSs X rest u):PSs X (st::rest) (zkH t u):=by
 intro pins s σ H D I h
 refine wpAny_execs_cons (thn (h1 pins s σ H {D with nx:=u D} I h) λf s1 q=> ?_)
 cases f with
 |next=>
  obtain⟨σ',H',I',q⟩:=q
  exact h2 pins s1 σ' H' D I' q
 |ret v=>exact q
 |brk=>exact q
 |cont=>exact q
theorem ziu (h1:PS X st t):PSs X [st] t:=by
 intro pins s σ H D I h
 refine wpAny_execs_cons (thn (h1 pins s σ H D I h) λf s1 q=> ?_)
 cases f with
 |next=>exact wpAny_execs_nil q
 |ret v=>exact q
 |brk=>exact q
 |cont=>exact q
theorem Inv.quiet {pins:List (Addr×Obj)} {σ:St} {H:Hp} {s:Shared} (I:Inv X pins σ H s):interactive X.env=false:=by simp[interactive,I.ok.kind]
def zjZ (te:TE):TS:=λD σ H=>te σ H λ_ H1=>D.nx σ H1
theorem wE (he:PE X e te) (hs:swapsWith e none pos.line X.env=pure false:=by rfl):PS X (.Expr e pos) (zjZ te):=by
 intro pins s σ H D I h
 refine wpAny_Expr_any (thn (he pins s σ H _ I h) ?_) I.quiet hs
 rintro v s1 ⟨x,H1,I1,r1,q1⟩
 exact⟨σ,H1,I1,q1⟩
def zl7 (te:TE):TS:=λD σ H=>te σ H D.rt
theorem zkI (he:PE X e te):PS X (.Return (some e) pos) (zl7 te):=by
 intro pins s σ H D I h
 refine wpAny_Return_some (thn (he pins s σ H _ I h) ?_)
 rintro v s1 ⟨x,H1,I1,r1,q1⟩
 exact⟨x,σ,H1,I1,r1,q1⟩
def zl8 (c:TT) (t u:TS):TS:=λD σ H=>c σ H λb H1=>if b=true then t D σ H1 else u D σ H1
theorem yU {c:Expr} {a b:List Stmt} {tc:TT} (hc:PT X c tc) (ha:PSs X a t) (hb:PSs X b u):PS X (.If c a b pos) (zl8 tc t u):=by
 intro pins s σ H D I h
 refine wpAny_If (thn (hc pins s σ H _ I h) ?_)
 rintro d s1 ⟨H1,I1,q1⟩
 cases d with
 |true=>exact ha pins s1 σ H1 D I1 q1
 |false=>exact hb pins s1 σ H1 D I1 q1
end
abbrev TG:=V->St->Hp->(St->Hp->Prop)->Prop
abbrev TGs:=List V->St->Hp->(St->Hp->Prop)->Prop
def PG (X:Cx) (target:Expr) (t:TG):Prop:=
 ∀(pins:List (Addr×Obj)) (s:Shared) (σ:St) (H:Hp) (v:V) (u:Value) (Q:St->Hp->Prop),Inv X pins σ H s->zD v u->t v σ H Q->
  wpAny (model X.prog X.w) X.A (assign target X.env u) (λ_ s'=>∃σ' H',Inv X pins σ' H' s'/\Q σ' H') X.xe s
def PGs (X:Cx) (ts:List Expr) (t:TGs):Prop:=
 ∀(pins:List (Addr×Obj)) (s:Shared) (σ:St) (H:Hp) (vs:List V) (us:List Value) (Q:St->Hp->Prop),Inv X pins σ H s->zI vs us->t vs σ H Q->
  wpAny (model X.prog X.w) X.A (assignInOrder ((assignEach ts X.env).map (·.2)) us) (λ_ s'=>∃σ' H',Inv X pins σ' H' s'/\Q σ' H') X.xe s
abbrev zkJ:=V->V->V->Hp->(Hp->Prop)->Prop
def zl9 (X:Cx) (t:zkJ):Prop:=
 ∀(pins:List (Addr×Obj)) (s:Shared) (σ:St) (H:Hp) (o i v:V) (ov iv u:Value) (Q:Hp->Prop),Inv X pins σ H s->zD o ov->zD i iv->zD v u->t o i v H Q->
  wpAny (model X.prog X.w) X.A (setItem ov iv u) (λ_ s'=>∃H',Inv X pins σ H' s'/\Q H') X.xe s
abbrev TIp:=V->V->Hp->VK->Prop
section
variable {X:Cx} {pos:Pos}
def TM (i:Nat):TG:=λv σ H Q=>Q (σ.set i (some v)) H
theorem zq {i:Nat} {x:Str} (hN:X.N.Nodup) (hi:X.N[i]? =some x) (hx:Loc X.env.scope x) (hf:X.fn x=true\/X.env.scope.names.lookup x=some .local:=by first|exact .inl rfl|exact .inr rfl|assumption):PG X (.Name x pos) (TM i):=by
 intro pins s σ H v u Q I r h
 exact wpAny_assign_Name (Wf I hN hi hx r (λs' I'=>⟨_,H,I',h⟩) hf)
def zkK:TGs:=λvs σ H Q=>vs=[]/\Q σ H
def zfV (t:TG) (u:TGs):TGs:=λvs σ H Q=>∃v r,vs=v::r/\t v σ H λσ' H'=>u r σ' H' Q
theorem yL:PGs X [] zkK:=by
 intro pins s σ H vs us Q I r h
 obtain⟨e,h⟩:=h
 subst e
 cases r
 exact assignInOrder_nil ⟨σ,H,I,h⟩
theorem zu {e:Expr} {es:List Expr} {t:TG} {u:TGs} (h1:PG X e t) (h2:PGs X es u)
  (hs:(assignEach (e::es) X.env).map (·.2)=assign e X.env::(assignEach es X.env).map (·.2):=by rfl):PGs X (e::es) (zfV t u):=by
 intro pins s σ H vs us Q I r h
 obtain⟨v,vr,e1,h⟩:=h
 subst e1
 cases r with
 |cons r rr=>
  rw[hs]
  refine assignInOrder_cons (thn (h1 pins s σ H _ _ _ I r h) ?_)
  rintro _ s1 ⟨σ1,H1,I1,q1⟩
  exact h2 pins s1 σ1 H1 _ _ Q I1 rr q1
def ziv (K:y3) (n:Nat) (t:TGs):TG:=λv σ H Q=>∃a xs,v= .ref a/\SqT K H a xs/\xs.length=n/\t xs σ H Q
theorem zkL {es:List Expr} {k:Nat} {t:TGs} {n:Nat} (hc:X.calm=true) (h:PGs X es t)
  (hn:(assignEach es X.env).length=n:=by rfl) (eQ:(assignEach es X.env).findIdx? (·.1)=none:=by rfl):PG X (.Tuple es k pos) (ziv X.K n t):=by
 intro pins s σ H v u Q I r hw
 obtain⟨a,xs,e1,hq,hl,hw⟩:=hw
 subst e1
 cases r
 obtain⟨ae,rv,ht,hz⟩:=I.tuple hq
 refine assign_Tuple_tuple (I.ok.hd hc) ht (by simp[hn,<-hl,rv.length]) eQ λh' hx=> ?_
 have I1:Inv X pins σ H {s with heap:=h'}:=I.kept (t':=s.toks) λb o e=>hx b o (Ad (Heap.lt_size e)) e
 exact h pins _ σ H xs _ Q I1 (by simpa using rv) hw
def zma (to ti:TE) (t:zkJ):TG:=λv σ H Q=>to σ H λo H1=>ti σ H1 λi H2=>t o i v H2 λH3=>Q σ H3
theorem zfW {o i:Expr} {to ti:TE} {t:zkJ} (ho:PE X o to) (hi:PE X i ti) (hs:zl9 X t)
  (ha:∀v,assign (.Subscript o i pos) X.env v=(do
   let ov <-holding [v] (eval o X.env)
   let iv <-holding [v,ov] (eval i X.env)
   standAt pos
   holding [v,ov,iv] (setItem ov iv v)
   release [v,ov,iv] []):=by intro _;rfl):PG X (.Subscript o i pos) (zma to ti t):=by
 intro pins s σ H v u Q I r h
 rw[ha]
 refine wpAny_bind (wpAny_holding (thn (ho pins s σ H _ I h) ?_))
 rintro ov s1 ⟨x,H1,I1,r1,q1⟩
 refine wpAny_bind (wpAny_holding (thn (hi pins s1 σ H1 _ I1 q1) ?_))
 rintro iv s2 ⟨y,H2,I2,r2,q2⟩
 refine wpAny_bind (wpAny_standAt (wpAny_bind (wpAny_holding (thn (hs pins s2 σ H2 x y v ov iv u _ I2 r1 r2 r q2) ?_))))
 rintro _ s3 ⟨H3,I3,q3⟩
 exact wpAny_release ⟨σ,H3,I3,q3⟩
def zkM (te:TE) (g:TG):TS:=λD σ H=>te σ H λx H1=>g x σ H1 D.nx
theorem zfX {tg e:Expr} {te:TE} {g:TG} (he:PE X e te) (hg:PG X tg g) (hs:swapsWithSole [tg] e pos.line X.env=pure false:=by rfl) (hw:swappedStores [tg] e X.env=pure none:=by rfl)
  (h1:(assignEach [tg] X.env).map (·.2)=[assign tg X.env]:=by rfl):PS X (.Assign [tg] e pos) (zkM te g):=by
 intro pins s σ H D I h
 refine wpAny_Assign_stores (thn (he pins s σ H _ I h) ?_) hs hw
 rintro v s1 ⟨x,H1,I1,r1,q1⟩
 rw[h1]
 exact thn (hg pins s1 σ H1 x v _ I1 r1 q1) λ_ s2 q=>q
theorem zkN {i:Nat} {x:Str} {e:Expr} {te:TE} {pos':Pos} (hN:X.N.Nodup) (hi:X.N[i]? =some x) (hx:Loc X.env.scope x) (he:PE X e te) (hs:swapsWith e (some (.Name x pos')) pos.line X.env=pure false:=by rfl) (hf:X.fn x=true\/X.env.scope.names.lookup x=some .local:=by first|exact .inl rfl|exact .inr rfl|assumption):
  PS X (.Assign [.Name x pos'] e pos) (zkM te (TM i)):=by
 intro pins s σ H D I h
 refine wpAny_Assign_Name (thn (he pins s σ H _ I h) ?_) hs
 rintro v s1 ⟨y,H1,I1,r1,q1⟩
 exact Wf I1 hN hi hx r1 (λs2 I2=>⟨_,H1,I2,q1⟩) hf
def zmb (i j:Nat) (ta:TA):TS:=λD σ H=>ta σ H λvs H1=>∃v w,vs=[v,w]/\D.nx ((σ.set i (some v)).set j (some w)) H1
theorem zkO {i j:Nat} {x y:Str} {a b:Expr} {ta:TA} {px py pt:Pos} {kt k2 m6} (hc:X.calm=true) (hN:X.N.Nodup) (hi:X.N[i]? =some x) (hj:X.N[j]? =some y) (fQ:i≠j)
  (hx:X.env.scope.names.lookup x=some .local) (hy:X.env.scope.names.lookup y=some .local) (ha:PA X [a,b] ta)
  (hw:swappedStores [.Tuple [.Name x px,.Name y py] kt pt] (.Tuple [a,b] k2 m6) X.env=pure (some [x,y]))
  (hs:swapsWithSole [.Tuple [.Name x px,.Name y py] kt pt] (.Tuple [a,b] k2 m6) pos.line X.env=pure false:=by rfl):
  PS X (.Assign [.Tuple [.Name x px,.Name y py] kt pt] (.Tuple [a,b] k2 m6) pos) (zmb i j ta):=by
 intro pins s σ H D I h
 rw[exec_Assign_arm]
 refine wpAny_bind (wpAny_standAt ?_)
 rw[hs]
 refine wpAny_bind (wpAny_pure ?_)
 rw[if_neg ∅]
 refine wpAny_bind (Tuple_ (thn (ha _ pins s σ H _ I h) ?_))
 rintro us s1 ⟨vs,H1,I1,r1,q1⟩
 obtain⟨v,w,e1,q1⟩:=q1
 subst e1
 obtain⟨u1,u2,rfl,rv,rw'⟩:∃u1 u2,us=[u1,u2]/\zD v u1/\zD w u2:=by
  cases r1 with
  |cons p q=>
   cases q with
   |cons p' q'=>
    cases q'
    exact⟨_,_,rfl,p,p'⟩
 refine wpAny_newObj_type ?_ (by show 2<=sizeLine;decide)
 have I2:Inv X pins σ H1 {s1 with heap:=s1.heap.push {cls:= .type "tuple",data:= .seq [u1,u2].toArray}}:=I1.kept (t':=s1.toks) λb o e=>Heap.get?_push_of_some _ e
 rw[hw]
 refine wpAny_bind (wpAny_pure ?_)
 show wpAny (model X.prog X.w) X.A (do rule "assign.swapped-stores";let items <-unpackItems (.ref s1.heap.objs.size) 2 none;assignInOrder [λv=>bindName X.env y v,λv=>bindName X.env x v] items.reverse;pure Flow.next) _ _ _
 refine wpAny_bind (wpAny_rule (wpAny_bind (unpackItems_tuple (items:= #[u1,u2]) (I.ok.hd hc) (IsTup.new s1.heap _) λh' iw=> ?_)))
 have I3:=I2.kept (h':=h') (t':=s1.toks) λb o e=>iw b o (Ad (Heap.lt_size e)) e
 show wpAny _ _ (assignInOrder [λv=>bindName X.env y v,λv=>bindName X.env x v] [u2,u1]>>=λ_=>pure Flow.next) _ _ _
 refine wpAny_bind (assignInOrder_cons (wpAny_bindName (Wf I3 hN hj (.inl hy) rw' (λs2 I4=> ?_) (.inr hy))))
 refine assignInOrder_cons (wpAny_bindName (Wf I4 hN hi (.inl hx) rv (λs3 I5=>assignInOrder_nil (wpAny_pure ?_)) (.inr hx)))
 rw[List.set_comm _ _ (AQ fQ)] at I5
 exact⟨_,H1,I5,q1⟩
end
section
variable {X:Cx} {pos:Pos}
def zfY (c:TT) (tb:TS):TS:=λD σ H=>∃W:Nat->St->Hp->Prop,(∃m,W m σ H)/\∀m σ H,W m σ H->
 c σ H λb H1=>if b=true then ∃N:St->Hp->Prop,(∀σ' H',N σ' H'->∃m',m'<m/\W m' σ' H')/\tb {D with nx:=N,ct:=N,bk:=D.nx} σ H1 else D.nx σ H1
theorem Yu {c:Expr} {body:List Stmt} {tc:TT} {tb:TS} (hp:PassesOwn (model X.prog X.w) X.A X.env X.xe) (hc:PT X c tc) (hb:PSs X body tb):PS X (.While c body [] pos) (zfY tc tb):=by
 intro pins s σ H D I h
 obtain⟨W,⟨m0,w0⟩,turn⟩:=h
 refine wpAny_While (codeAny_whileLoop (λn s'=>∃σ' H',Inv X pins σ' H' s'/\W n σ' H') ?_ m0 ⟨σ,H,I,w0⟩)
 rintro n s1 ⟨σ1,H1,I1,w1⟩
 refine wpAny_passesOwn hp (thn (hc pins s1 σ1 H1 _ I1 (turn n σ1 H1 w1)) ?_)
 rintro b s2 ⟨H2,I2,q2⟩
 cases b with
 |true=>
  obtain⟨N,hN,q2⟩:=q2
  rw[if_pos rfl]
  refine wpAny_passesOwn hp (thn (hb pins s2 σ1 H2 _ I2 q2) λf s3 q3=> ?_)
  cases f with
  |next=>
   obtain⟨σ3,H3,I3,n3⟩:=q3
   obtain⟨m',hm,w3⟩:=hN σ3 H3 n3
   exact⟨m',hm,σ3,H3,I3,w3⟩
  |cont=>
   obtain⟨σ3,H3,I3,n3⟩:=q3
   obtain⟨m',hm,w3⟩:=hN σ3 H3 n3
   exact⟨m',hm,σ3,H3,I3,w3⟩
  |brk=>exact q3
  |ret v=>exact q3
 |false=>
  rw[if_neg Ai]
  exact wpAny_execs_nil ⟨σ1,H2,I2,q2⟩
end
structure It where
 go:Nat->Hp->Prop
 yld:Nat->Hp->V->Hp->Prop
 stop:Nat->Hp->Prop
def WR (X:Cx) (pins:List (Addr×Obj)) (H:Hp) (b:Addr):Prop:=
 H b=none/\b≠X.env.locals/\b∉X.fs/\(b∈X.ex\/X.s₀.heap.objs.size<=b)/\(∀x c,X.env.cells.lookup x=some c->c≠b)/\∀p∈X.pn++pins,p.1≠b
theorem Inv.fpOk {X:Cx} {pins:List (Addr×Obj)} {σ:St} {H H':Hp} {s:Shared} {b:Addr} (I:Inv X pins σ H s) (hb:s.heap.objs.size<=b) (hn:H' b=none):WR X pins H' b:=by
 refine⟨hn,Av (A0 I.lt hb),I.nofs hb,.inr (A2 I.sz hb),λx c e z=> ?_,λp hp z=> ?_⟩
 ·obtain⟨v,q⟩:=I.cell x c e
  exact absurd (A0 q.lt (by rw[z];exact hb)) (Bh _)
 ·exact absurd (A0 (Heap.lt_size (I.pin p hp).1) (by rw[z];exact hb)) (Bh _)
structure zcU (P:Program) (w:World) (K:y3) (tg:Expr) (J:It) (fp:List Addr) (it:Addr) (tn:Nat->Heap->Prop):Prop where
 mem:it∈fp
 obj:∀i h,tn i h->∀b∈fp,∃o,h.get? b=some o/\∀v,o.data≠ .cell v
 keep:∀i h h',tn i h->(∀b∈fp,∀o,h.get? b=some o->h'.get? b=some o)->tn i h'
 item:∀(X:Cx),X.prog=P->X.w=w->X.K=K->X.calm=true->∀(i:Nat) (pins:List (Addr×Obj)) (s:Shared) (σ:St) (H:Hp) (E:Value->Shared->Prop),Inv X pins σ H s->(∀b∈fp,WR X pins H b)->tn i s.heap->J.go i H->
  wpAny (model P w) X.A (pyNext (.ref it)) (λr s1=>∃u,r=some u/\
   wpAny (model P w) X.A (letOwnedTupleGo tg (.ref it) u) (λ_ s2=>∃x H',Inv X pins σ H' s2/\zD x u/\J.yld i H x H'/\tn (i+1) s2.heap/\∀b∈fp,H' b=none) E s1) E s
 done:∀(X:Cx),X.prog=P->X.w=w->X.K=K->X.calm=true->∀(i:Nat) (pins:List (Addr×Obj)) (s:Shared) (σ:St) (H:Hp) (E:Value->Shared->Prop),Inv X pins σ H s->(∀b∈fp,WR X pins H b)->tn i s.heap->J.stop i H->
  wpAny (model P w) X.A (pyNext (.ref it)) (λr s1=>r=none/\Inv X pins σ H s1) E s
 self:∀(A:Around) (i:Nat) (s:Shared) (Q:Value->Shared->Prop) (E:Value->Shared->Prop),tn i s.heap->Q (.ref it) s->wpAny (model P w) A (pyIter (.ref it)) Q E s
abbrev TI:=St->Hp->(It->Hp->Prop)->Prop
def PIE (X:Cx) (pins:List (Addr×Obj)) (σ:St) (tg:Expr) (R:It->Hp->Prop) (mx:Value) (s2:Shared):Prop:=
 ∃(it:Addr) (fp:List Addr) (tn:Nat->Heap->Prop) (J:It) (H':Hp),mx= .ref it/\Inv X pins σ H' s2/\zcU X.prog X.w X.K tg J fp it tn/\tn 0 s2.heap/\(∀b∈fp,WR X pins H' b)/\R J H'
def PI (X:Cx) (tg iter:Expr) (wi:TI):Prop:=
 ∀(pins:List (Addr×Obj)) (s:Shared) (σ:St) (H:Hp) (R:It->Hp->Prop),Inv X pins σ H s->wi σ H R->
  wpAny (model X.prog X.w) X.A (eval iter X.env) (λv s1=>wpAny (model X.prog X.w) X.A (pyIter v) (PIE X pins σ tg R) X.xe s1) X.xe s
theorem zfZ {M:Model} {A:Around} {E:Value->Shared->Prop} {s:Shared} {tg:Expr} {it:Addr} {u:Value} {o:Obj} {n:String} {vs:Array Value} {Q:Unit->Shared->Prop} (ho:s.heap.get? it=some o) (hc:o.cls= .type n) (hd:o.data= .fields vs)
    (hn:["enumerate","zip","dict_itemiterator","dict_reverseitemiterator","odict_iterator","itertools.zip_longest","itertools.pairwise"].contains n=false) (hQ:Q () s):wpAny M A (letOwnedTupleGo tg (.ref it) u) Q E s:=by
  unfold letOwnedTupleGo
  cases tg<;>first
    |exact wpAny_pure hQ
    | (cases u <;> first
        |exact wpAny_pure hQ
        | (refine wpAny_bind (wpAny_load ho ?_)
           rw[hc,hd]
           show wpAny M A (if (["enumerate","zip","dict_itemiterator","dict_reverseitemiterator","odict_iterator","itertools.zip_longest","itertools.pairwise"].contains n&&vs[0]? ==some (rawInt _))=true then _ else _) Q E s
           rw[if_neg (by intro h;rw[hn,Bool.false_and] at h;cases h)]
           exact wpAny_pure hQ))
noncomputable def Itl (K:y3) (a:Addr):It:=
 ⟨λi H=>∃xs x,SqL K H a xs/\xs[i]? =some x,λi H x H'=>H'=H/\∀xs,SqL K H a xs->xs[i]? =some x,λi H=>∃xs,SqL K H a xs/\xs.length<=i⟩
noncomputable def Itr (lo:Int) (n:Nat):It:=⟨λi _=>i<n,λi H x H'=>H'=H/\x= .int (lo+i),λi _=>n<=i⟩
theorem ze0 {P:Program} {w:World} {K:y3} {tg:Expr} (a it:Addr):zcU P w K tg (Itl K a) [it] it (λi h=>h.IsListIter it a i) where
 mem:=by simp
 obj:=λi h st b hb=>by
  have e:b=it:=by simpa using hb
  subst e
  obtain⟨o,e,c,d⟩:=st
  exact⟨o,e,λv z=>by rw[d] at z;cases z⟩
 keep:=λi h h' st k=>st.at λo e=>k it (by simp) o e
 item:=by
  intro X hP hw hK hc i pins s σ H E I hf st hg
  subst hP hw hK
  obtain⟨xs,x,hq,hx⟩:=hg
  obtain⟨ae,rv,p,hz⟩:=I.list hq
  obtain⟨u,hu,ru⟩:=rv.get hx
  obtain⟨f0,f1,f2,f3,f4,f5⟩:=hf it (by simp)
  refine wpAny_pyNext_list_item st p.isList (x:=u) (by simpa using hu) λh' st' sb=> ?_
  have I1:Inv X pins σ H {s with heap:=h'}:=I.turned (t':=s.toks) (λb o hb e=>(sb.2 b hb).trans e) f0 f1 f3 f4 f5
  obtain⟨o,e,c,d⟩:=id st'
  exact⟨u,rfl,zfZ (s:={s with heap:=h'}) e c d ∅ ⟨x,H,I1,ru,⟨rfl,λys hy=>by rw[I.list_inj hy hq];exact hx⟩,st',λb hb=>(hf b hb).1⟩⟩
 done:=by
  intro X hP hw hK hc i pins s σ H E I hf st hg
  subst hP hw hK
  obtain⟨xs,hq,hx⟩:=hg
  obtain⟨ae,rv,p,hz⟩:=I.list hq
  obtain⟨f0,f1,f2,f3,f4,f5⟩:=hf it (by simp)
  have hl:=rv.length
  exact wpAny_pyNext_list_end (I.ok.hd hc) st p.isList (by simp;omega) λh' eb=>⟨rfl,I.turned (t':=s.toks) (λb o hb e=>eb b o hb e) f0 f1 f3 f4 f5⟩
 self:=λ_ _ _ _ _ st h=>wpAny_pyIter_listiter st h
theorem zcV {P:Program} {w:World} {K:y3} {tg:Expr} (it:Addr) (lo:Int) (n:Nat):zcU P w K tg (Itr lo n) [it] it (λi h=>IsRangeIter h it (lo+(i:Nat)*1) ((n:Int)-(i:Nat)) 1) where
 mem:=by simp
 obj:=λi h st b hb=>by
  have e:b=it:=by simpa using hb
  subst e
  exact⟨_,st,λv z=>by
   have z':Data.fields _=Data.cell v:=z
   cases z'⟩
 keep:=λi h h' st k=>k it (by simp) _ st
 item:=by
  intro X hP hw hK hc i pins s σ H E I hf st hg
  subst hP hw hK
  obtain⟨f0,f1,f2,f3,f4,f5⟩:=hf it (by simp)
  have W:=Walks.range (prog:=X.prog) (w:=X.w) (I.ok.hd hc) it lo 1 n
  refine W.item i s _ _ hg st λv h' tk hv st' kk=> ?_
  obtain⟨t,rfl⟩:=hv
  have I1:Inv X pins σ H {s with heap:=h',toks:=tk}:=I.turned (λb o hb e=>kk b o (by simpa using hb) e) f0 f1 f3 f4 f5
  refine⟨_,rfl,zfZ (s:={s with heap:=h',toks:=tk}) (n:="range_iterator") st' rfl rfl ∅ ⟨.int (lo+i),H,I1,⟨t,?_⟩,⟨rfl,rfl⟩,st',λb hb=>(hf b hb).1⟩⟩
  rw[Int.mul_one]
 done:=by
  intro X hP hw hK hc i pins s σ H E I hf st hg
  subst hP hw hK
  obtain⟨f0,f1,f2,f3,f4,f5⟩:=hf it (by simp)
  exact wpAny_pyNext_range_end (I.ok.hd hc) st (by have:n<=i:=hg;omega) λh' eb=>⟨rfl,I.turned (t':=s.toks) (λb o hb e=>eb b o hb e) f0 f1 f3 f4 f5⟩
 self:=λ_ _ _ _ _ st h=>wpAny_pyIter_rangeiter st h
section
variable {X:Cx} {tg:Expr}
def zf0 (K:y3) (tl:TE):TI:=λσ H R=>tl σ H λx H1=>∃a,x= .ref a/\(∃xs,SqL K H1 a xs)/\R (Itl K a) H1
theorem ziw {l:Expr} {tl:TE} (hl:PE X l tl):PI X tg l (zf0 X.K tl):=by
 intro pins s σ H R I h
 refine thn (hl pins s σ H _ I h) ?_
 rintro v s1 ⟨x,H1,I1,r1,q1⟩
 obtain⟨a,e,⟨xs,hq⟩,q⟩:=q1
 subst e
 cases r1
 obtain⟨ae,rv,p,hz⟩:=I1.list hq
 refine wpAny_pyIter_list p.isList ?_
 refine⟨s1.heap.objs.size,[s1.heap.objs.size],_,_,H1,rfl,I1.kept (t':=s1.toks) λb o e=>Heap.get?_push_of_some _ e,ze0 a _,⟨_,Heap.get?_push_size _ rfl,rfl,rfl⟩,λb hb=> ?_,q⟩
 have e:b=s1.heap.objs.size:=by simpa using hb
 subst e
 exact I1.fpOk (z5 _) (I1.hok.fresh (z5 _))
theorem zbH {pins:List (Addr×Obj)} {σ:St} {H:Hp} {s:Shared} {R:It->Hp->Prop} {E:Value->Shared->Prop} {lo hi:Int} {t u v:Tok} {tk:Nat} (I:Inv X pins σ H s) (h1: -(2^62)<=lo) (h2:lo<2^62) (h3: -(2^62)<=hi) (h4:hi<2^62)
  (q:R (Itr lo (hi-lo).toNat) H):wpAny (model X.prog X.w) X.A (pyIter (.ref s.heap.objs.size)) (PIE X pins σ tg R) E {s with heap:=s.heap.push {cls:= .type "range",data:= .fields #[.int lo t,.int hi u,.int 1 v]},toks:=tk}:=by
 refine wpAny_pyIter_range (IsRange.new ..) (small_one h1 h2 h3 h4) ?_
 have I1:Inv X pins σ H {s with heap:=s.heap.push {cls:= .type "range",data:= .fields #[.int lo t,.int hi u,.int 1 v]},toks:=tk}:=I.kept λb o e=>Heap.get?_push_of_some _ e
 refine⟨(s.heap.push {cls:= .type "range",data:= .fields #[.int lo t,.int hi u,.int 1 v]}).objs.size,[(s.heap.push {cls:= .type "range",data:= .fields #[.int lo t,.int hi u,.int 1 v]}).objs.size],_,_,H,rfl,
  I1.kept (t':=tk) λb o e=>Heap.get?_push_of_some _ e,zcV _ lo (hi-lo).toNat,?_,λb hb=> ?_,q⟩
 ·have e1:lo+((0:Nat):Int)*1=lo:=by simp
  have e2:(((hi-lo).toNat:Nat):Int)-((0:Nat):Int)=Builtin.Range.rangeSize lo hi 1:=by rw[rangeSize_one];split<;>omega
  show IsRangeIter _ _ (lo+((0:Nat):Int)*1) ((((hi-lo).toNat:Nat):Int)-((0:Nat):Int)) 1
  rw[e1,e2]
  exact Heap.get?_push_size _ rfl
 ·have e:b=(s.heap.push {cls:= .type "range",data:= .fields #[.int lo t,.int hi u,.int 1 v]}).objs.size:=by simpa using hb
  subst e
  exact I1.fpOk (z5 _) (I1.hok.fresh (z5 _))
def zj0 (ta:TA):TI:=λσ H R=>ta σ H λvs H1=>∃j:Int,vs=[.int j]/\ -(2^62)<=j/\j<2^62/\R (Itr 0 j.toNat) H1
def zj1 (ta:TA):TI:=λσ H R=>ta σ H λvs H1=>∃i j:Int,vs=[.int i,.int j]/\(-(2^62)<=i/\i<2^62/\ -(2^62)<=j/\j<2^62)/\R (Itr i (j-i).toNat) H1
theorem ZC {a:Expr} {ta:TA} {p pos:Pos} (hg:Gl X "range") (hm:X.mg "range"=none) (ha:PA X [a] ta) (hs:starEach [a] X.env=[(false,eval a X.env)]:=by rfl):PI X tg (.Call (.Name "range" p) [a] [] pos) (zj0 ta):=by
 intro pins s σ H R I h
 refine Call_ (va I hg hm boot_range (AB (thn (ha pos pins s σ H _ I h) ?_) hs rfl))
 rintro us s1 ⟨vs,H1,I1,r1,q1⟩
 obtain⟨j,e,q1,q2,q⟩:=q1
 subst e
 cases r1 with
 |cons r rr=>
  cases rr
  obtain⟨t,rfl⟩:=r
  exact call_range_1 (zbH I1 ⋯ ⋯ q1 q2 (by simpa using q))
theorem ze1 {a b:Expr} {ta:TA} {p pos:Pos} (hg:Gl X "range") (hm:X.mg "range"=none) (ha:PA X [a,b] ta) (hs:starEach [a,b] X.env=[(false,eval a X.env),(false,eval b X.env)]:=by rfl) (cx:starEach [b] X.env=[(false,eval b X.env)]:=by rfl):
  PI X tg (.Call (.Name "range" p) [a,b] [] pos) (zj1 ta):=by
 intro pins s σ H R I h
 refine Call_ (va I hg hm boot_range (AB (thn (ha pos pins s σ H _ I h) λus s1 ⟨vs,H1,I1,r1,q1⟩=> ?_) (by rw[hs,cx]) (by rw[cx];rfl)))
 obtain⟨i,j,e,⟨q1,q2,q3,q4⟩,q⟩:=q1
 subst e
 cases r1 with
 |cons r rr=>
  cases rr with
  |cons r' rr=>
   cases rr
   obtain⟨t,rfl⟩:=r
   obtain⟨t',rfl⟩:=r'
   exact call_range_2 (zbH I1 q1 q2 q3 q4 q)
def zmc (wi:TI) (g:TG) (tb:TS):TS:=λD σ H=>wi σ H λJ H1=>∃W:Nat->Nat->St->Hp->Prop,(∃m,W 0 m σ H1)/\∀i m σ H,W i m σ H->
 (J.stop i H/\D.nx σ H)\/(J.go i H/\∃N:St->Hp->Prop,(∀σ' H',N σ' H'->∃m',m'<m/\W (i+1) m' σ' H')/\∀x H',J.yld i H x H'->g x σ H' λσ2 H2=>tb {D with nx:=N,ct:=N,bk:=D.nx} σ2 H2)
noncomputable def Uq (fp:List Addr) (h:Heap):List (Addr×Obj):=fp.filterMap λb=>(h.get? b).map λo=>(b,o)
theorem ZR {fp:List Addr} {h:Heap} {b:Addr} {o:Obj} (hb:b∈fp) (e:h.get? b=some o):(b,o)∈Uq fp h:=F5.mpr ⟨b,hb,by rw[e];rfl⟩
theorem ze2 {fp:List Addr} {h:Heap} {p:Addr×Obj} (hp:p∈Uq fp h):p.1∈fp/\h.get? p.1=some p.2:=by
 obtain⟨b,hb,e⟩:=F5.mp hp
 cases q:h.get? b with
 |none=>rw[q] at e;cases e
 |some o=>
  rw[q] at e
  have e':(b,o)=p:=AW e
  subst e'
  exact⟨hb,q⟩
theorem Inv.pinned {pins:List (Addr×Obj)} {σ:St} {H:Hp} {s:Shared} {fp:List Addr} (I:Inv X pins σ H s) (hf:∀b∈fp,WR X pins H b) (ho:∀b∈fp,∃o,s.heap.get? b=some o/\∀v,o.data≠ .cell v):Inv X (pins++Uq fp s.heap) σ H s:=
 I.pins_of λp hp=>(Aa.mp hp).elim (λz=>I.pin p (Ac _ z)) λz=>by
  obtain⟨hb,e⟩:=ze2 z
  obtain⟨f0,f1,f2,_⟩:=hf p.1 hb
  obtain⟨o,e',d⟩:=ho p.1 hb
  rw[e] at e';cases e'
  exact⟨e,f0,f1,f2,d⟩
theorem Inv.unpinned {pins pl:List (Addr×Obj)} {σ:St} {H:Hp} {s:Shared} (I:Inv X (pins++pl) σ H s):Inv X pins σ H s:=I.pins_of λp hp=>I.pin p (Ac _ (Bw _ hp))
theorem xD {iter:Expr} {body:List Stmt} {wi:TI} {g:TG} {tb:TS} {pos:Pos} (hp:PassesOwn (model X.prog X.w) X.A X.env X.xe) (hc:X.calm=true) (hi:PI X tg iter wi) (hg:PG X tg g) (hb:PSs X body tb)
  (hs:∀x,foldedSetIterable iter X.env x=pure x:=by intro _;rfl):PS X (.For tg iter body [] pos) (zmc wi g tb):=by
 intro pins s σ H D I h
 refine wpAny_For (thn (hi pins s σ H _ I h) λv s1 h1=>thn h1 λmx s2 h2=> ?_) hs
 obtain⟨it,fp,tn,J,H2,e,I2,T,jD,f2,W,⟨m0,w0⟩,turn⟩:=h2
 subst e
 have stat:∀{H':Hp},(∀b∈fp,H' b=none)->∀b∈fp,WR X pins H' b:=λhn b hb=>⟨hn b hb,(f2 b hb).2⟩
 refine codeAny_forLoop_any (λn s'=>∃i σ' H',Inv X pins σ' H' s'/\tn i s'.heap/\(∀b∈fp,H' b=none)/\W i n σ' H') ?_ m0 ⟨0,σ,H2,I2,jD,λb hb=>(f2 b hb).1,w0⟩
 rintro n s3 ⟨i,σ3,H3,I3,jC,kK,w3⟩
 rcases turn i n σ3 H3 w3 with⟨stop,qn⟩|⟨go,N,hN,step⟩
 ·refine wpAny_passesOwn hp (thn (T.done X rfl rfl rfl hc i pins s3 σ3 H3 X.xe I3 (stat kK) jC stop) λr s4 ⟨hr,I4⟩=> ?_)
  subst hr
  exact wpAny_execs_nil ⟨σ3,H3,I4,qn⟩
 ·refine wpAny_passesOwn hp (thn (T.item X rfl rfl rfl hc i pins s3 σ3 H3 X.xe I3 (stat kK) jC go) λr s4 ⟨u,hr,h4⟩=> ?_)
  subst hr
  refine wpAny_passesOwn hp (thn h4 ?_)
  rintro _ s5 ⟨x,H5,I5,r5,y5,hZ,oB⟩
  have I5':=I5.pinned (stat oB) (T.obj _ _ hZ)
  refine wpAny_passesOwn hp (thn (hg _ s5 σ3 H5 x u _ I5' r5 (step x H5 y5)) ?_)
  rintro _ s6 ⟨σ6,H6,I6,q6⟩
  refine wpAny_passesOwn hp (thn (hb _ s6 σ6 H6 _ I6 q6) λf s7 q7=> ?_)
  have again:∀{σ7:St} {H7:Hp},Inv X (pins++Uq fp s5.heap) σ7 H7 s7->N σ7 H7->∃m,m<n/\∃i σ' H',Inv X pins σ' H' s7/\tn i s7.heap/\(∀b∈fp,H' b=none)/\W i m σ' H':=λ{σ7 H7} I7 n7=>by
   obtain⟨m',hm,w7⟩:=hN σ7 H7 n7
   refine⟨m',hm,i+1,σ7,H7,I7.unpinned,T.keep _ _ _ hZ λb hb o e=>(I7.pin (b,o) (Ac _ (Ac _ (ZR hb e)))).1,λb hb=> ?_,w7⟩
   obtain⟨o,e,d⟩:=T.obj _ _ hZ b hb
   exact (I7.pin (b,o) (Ac _ (Ac _ (ZR hb e)))).2.1
  cases f with
  |next=>obtain⟨σ7,H7,I7,n7⟩:=q7;exact again I7 n7
  |cont=>obtain⟨σ7,H7,I7,n7⟩:=q7;exact again I7 n7
  |brk=>obtain⟨σ7,H7,I7,q7⟩:=q7;exact⟨σ7,H7,I7.unpinned,q7⟩
  |ret v=>obtain⟨x7,σ7,H7,I7,r7,q7⟩:=q7;exact⟨x7,σ7,H7,I7.unpinned,r7,q7⟩
end
abbrev R2:=V->V->Hp->VK->Prop
def OpR (X:Cx) (f:Value->Value->Sem Value) (r:R2):Prop:=
 ∀(pins:List (Addr×Obj)) (s:Shared) (σ:St) (H:Hp) (x y:V) (v u:Value) (Q:VK),Inv X pins σ H s->zD x v->zD y u->r x y H Q->
  wpAny (model X.prog X.w) X.A (f v u) (EP X pins σ Q) X.xe s
def UnR (X:Cx) (f:Value->Sem Value) (r:V->Hp->VK->Prop):Prop:=
 ∀(pins:List (Addr×Obj)) (s:Shared) (σ:St) (H:Hp) (x:V) (v:Value) (Q:VK),Inv X pins σ H s->zD x v->r x H Q->
  wpAny (model X.prog X.w) X.A (f v) (EP X pins σ Q) X.xe s
def ZD (X:Cx) (f:Value) (r:List V->Hp->VK->Prop):Prop:=
 ∀(pins:List (Addr×Obj)) (s:Shared) (σ:St) (H:Hp) (xs:List V) (us:List Value) (Q:VK),Inv X pins σ H s->zI xs us->r xs H Q->
  wpAny (model X.prog X.w) X.A (call f us) (EP X pins σ Q) X.xe s
def tOp (r:R2) (ta tb:TE):TE:=λσ H Q=>ta σ H λx H1=>tb σ H1 λy H2=>r x y H2 Q
def tUn (r:V->Hp->VK->Prop) (ta:TE):TE:=λσ H Q=>ta σ H λx H1=>r x H1 Q
def rI (C:Int->Int->Prop) (g:Int->Int->V):R2:=λx y H Q=>∃i j,x= .int i/\y= .int j/\C i j/\Q (g i j) H
def rI0 (g:Int->Int->V):R2:=λx y H Q=>∃i j,x= .int i/\y= .int j/\Q (g i j) H
def rU (g:Int->V):V->Hp->VK->Prop:=λx H Q=>∃i,x= .int i/\Q (g i) H
section
variable {X:Cx} {a b c:Expr} {ta tb tc:TE} {pos:Pos}
theorem zkP (ha:PE X a ta) (hb:PE X b tb) {pins:List (Addr×Obj)} {s:Shared} {σ:St} {H:Hp} {R:V->V->Hp->Prop} (I:Inv X pins σ H s)
  (h:ta σ H λx H1=>tb σ H1 λy H2=>R x y H2) {Q:Value->Shared->Prop} {f:Value->Value->Sem Value}
  (hf:∀v u s2 x y H2,Inv X pins σ H2 s2->zD x v->zD y u->R x y H2->wpAny (model X.prog X.w) X.A (f v u) Q X.xe s2):
  wpAny (model X.prog X.w) X.A (eval a X.env) (λv s₁=>wpAny (model X.prog X.w) X.A (eval b X.env) (λu s₂=>wpAny (model X.prog X.w) X.A (f v u) Q X.xe s₂) X.xe s₁) X.xe s:=by
 refine thn (ha pins s σ H _ I h) ?_
 rintro v s1 ⟨x,H1,I1,r1,q1⟩
 refine thn (hb pins s1 σ H1 _ I1 q1) ?_
 rintro u s2 ⟨y,H2,I2,r2,q2⟩
 exact hf v u s2 x y H2 I2 r1 r2 q2
theorem zk {op:Operator} {r:R2} (ho:OpR X (binaryOp op) r) (ha:PE X a ta) (hb:PE X b tb):PE X (.BinOp a op b pos) (tOp r ta tb):=by
 intro pins s σ H Q I h
 exact wpAny_BinOp (zkP ha hb I h λv u s2 x y H2 I2 rx ry q=>ho pins s2 σ H2 x y v u Q I2 rx ry q)
theorem Ur {op:UnaryOp} {r:V->Hp->VK->Prop} (ho:UnR X (unaryOp op) r) (ha:PE X a ta):PE X (.UnaryOp op a pos) (tUn r ta):=by
 intro pins s σ H Q I h
 refine UnaryOp_ (thn (ha pins s σ H _ I h) ?_)
 rintro v s1 ⟨x,H1,I1,r1,q1⟩
 exact ho pins s1 σ H1 x v Q I1 r1 q1
theorem opI {f:Value->Value->Sem Value} {C:Int->Int->Prop} {g:Int->Int->Int}
  (rule:∀(i j:Int) (t u:Tok) (s:Shared) (Q:Value->Shared->Prop) (E:Value->Shared->Prop),C i j->Q (.int (g i j) s.toks) {s with toks:=s.toks+1}->wpAny (model X.prog X.w) X.A (f (.int i t) (.int j u)) Q E s):
  OpR X f (rI C λi j=> .int (g i j)):=by
 intro pins s σ H x y v u Q I rx ry h
 obtain⟨i,j,rfl,rfl,hc,q⟩:=h
 obtain⟨t,rfl⟩:=rx
 obtain⟨t',rfl⟩:=ry
 exact rule i j t t' s _ _ hc ⟨.int (g i j),H,I.tok _,⟨_,rfl⟩,q⟩
theorem zmd {f:Value->Value->Sem Value} {g:Int->Int->Int}
  (rule:∀(i j:Int) (t u:Tok) (s:Shared) (Q:Value->Shared->Prop) (E:Value->Shared->Prop),Q (.int (g i j) s.toks) {s with toks:=s.toks+1}->wpAny (model X.prog X.w) X.A (f (.int i t) (.int j u)) Q E s):
  OpR X f (rI0 λi j=> .int (g i j)):=by
 intro pins s σ H x y v u Q I rx ry h
 obtain⟨i,j,rfl,rfl,q⟩:=h
 obtain⟨t,rfl⟩:=rx
 obtain⟨t',rfl⟩:=ry
 exact rule i j t t' s _ _ ⟨.int (g i j),H,I.tok _,⟨_,rfl⟩,q⟩
def zkQ (i j:Int):Prop:=0<j/\j<1073741824
def zkR (i j:Int):Prop:=0<=j/\j<=1000000/\i.natAbs<2^64
def zf1 (i j:Int):Prop:=(-(2^64)<i/\i<2^64)\/(-(2^64)<j/\j<2^64)
theorem zf1.ok {i j:Int} (h:zf1 i j):IntMulOk i j:=by
 rcases h with⟨h1,h2⟩|⟨h1,h2⟩
 ·exact .of_left (intBits_le_64 h1 h2)
 ·exact .of_right (intBits_le_64 h1 h2)
theorem yi:OpR X (binaryOp .Add) (rI0 λi j=> .int (i+j)):=zmd λ_ _ _ _ _ _ _ q=>add_int q
theorem vG:OpR X (binaryOp .Sub) (rI0 λi j=> .int (i-j)):=zmd λ_ _ _ _ _ _ _ q=>sub_int q
theorem Us:OpR X (binaryOp .Mult) (rI zf1 λi j=> .int (i*j)):=opI λ_ _ _ _ _ _ _ hc q=>mul_int q hc.ok
theorem zdW:OpR X (binaryOp .FloorDiv) (rI zkQ λi j=> .int (i / j)):=opI λi j _ _ _ _ _ hc q=>by
 have h1:(0:Int)<j:=hc.1
 have h2:j<1073741824:=hc.2
 exact floordiv_int ⋯ (by rw[BQ i ⋯];exact q) (.inl (PyProof.noPylong_small ⋯))
theorem yV:OpR X (binaryOp .Mod) (rI (λ_ j=>0<j) λi j=> .int (i % j)):=opI λi j _ _ _ _ _ hc q=>by
 have h1:(0:Int)<j:=hc
 exact mod_int' ⋯ (by rw[Int.fmod_eq_emod_of_nonneg i ⋯];exact q)
theorem zcW:OpR X (binaryOp .Pow) (rI zkR λi j=> .int (i^j.toNat)):=opI λ_ _ _ _ _ _ _ hc q=>pow_int_small hc.1 hc.2.1 hc.2.2 q
theorem unI {f:Value->Sem Value} {g:Int->Int}
  (rule:∀(i:Int) (t:Tok) (s:Shared) (Q:Value->Shared->Prop) (E:Value->Shared->Prop),Q (.int (g i) s.toks) {s with toks:=s.toks+1}->wpAny (model X.prog X.w) X.A (f (.int i t)) Q E s):
  UnR X f (rU λi=> .int (g i)):=by
 intro pins s σ H x v Q I rx h
 obtain⟨i,rfl,q⟩:=h
 obtain⟨t,rfl⟩:=rx
 exact rule i t s _ _ ⟨.int (g i),H,I.tok _,⟨_,rfl⟩,q⟩
theorem XO:UnR X (unaryOp .USub) (rU λi=> .int (-i)):=unI λ_ _ _ _ _ q=>neg_int q
end
noncomputable def zme:V->V->Bool
 | .non,.non=>true| .non,.int _=>true| .int _,.non=>true| .non,.bl _=>true| .bl _,.non=>true| .non,.str _=>true| .str _,.non=>true
 | .int _,.int _=>true| .bl _,.bl _=>true| .str _,.str _=>true| .byt _,.byt _=>true
 | .int _,.str _=>true| .str _,.int _=>true| .bl _,.str _=>true| .str _,.bl _=>true
 |_,_=>false
def rEq:R2:=λx y H Q=>zme x y=true/\Q (.bl (decide (x=y))) H
def rNe:R2:=λx y H Q=>zme x y=true/\Q (.bl (!decide (x=y))) H
theorem zdX {i j:Int}:decide (V.int i=V.int j)=(i==j):=by
 rw[D9]
 simp
theorem zf2 {i j:Bool}:decide (V.bl i=V.bl j)=(i==j):=by
 rw[D9]
 simp
theorem zdY {i j:Str}:decide (V.str i=V.str j)=(i==j):=by
 rw[D9]
 simp
theorem zdZ {i j:Array UInt8}:decide (V.byt i=V.byt j)=(i.toList==j.toList):=by
 rw[D9]
 cases i
 cases j
 simp
section
variable {X:Cx} {a b c:Expr} {ta tb tc:TE} {pos:Pos}
theorem ya {pins:List (Addr×Obj)} {σ:St} {H:Hp} {s:Shared} {Q:VK} {k k':Bool} (I:Inv X pins σ H s) (q:Q (.bl k) H) (e:k=k'):EP X pins σ Q (.bool k') s:=by
 subst e
 exact⟨.bl k,H,I,rfl,q⟩
theorem zmf:OpR X (compareOp .Eq) rEq:=by
 intro pins s σ H x y v u Q I rx ry h
 obtain⟨hs,q⟩:=h
 cases x with
 |non=>
  cases rx
  cases y with
  |non=>cases ry;exact PySem.EqNone.eq_none_none (ya I q (by simp))
  |bl j=>cases ry;exact PySem.EqNone.eq_none_bool (ya I q (by simp))
  |int j=>obtain⟨t',rfl⟩:=ry;exact PySem.EqNone.eq_none_int (ya I q (by simp))
  |str j=>obtain⟨t',rfl⟩:=ry;exact PySem.EqNone.eq_none_str (ya I q (by simp))
  |_=>exact absurd (show false=true from hs) Ai
 |bl i=>
  cases rx
  cases y with
  |non=>cases ry;exact PySem.EqNone.eq_bool_none (ya I q (by simp))
  |bl j=>cases ry;exact eq_bool (ya I q zf2)
  |str j=>obtain⟨t',rfl⟩:=ry;exact Ge (ya I q (by simp))
  |_=>exact absurd (show false=true from hs) Ai
 |int i=>
  obtain⟨t,rfl⟩:=rx
  cases y with
  |non=>cases ry;exact PySem.EqNone.eq_int_none (ya I q (by simp))
  |int j=>obtain⟨t',rfl⟩:=ry;exact eq_int (ya I q zdX)
  |str j=>obtain⟨t',rfl⟩:=ry;exact Gj (ya I q (by simp))
  |_=>exact absurd (show false=true from hs) Ai
 |str i=>
  obtain⟨t,rfl⟩:=rx
  cases y with
  |non=>cases ry;exact PySem.EqNone.eq_str_none (ya I q (by simp))
  |bl j=>cases ry;exact Gf (ya I q (by simp))
  |int j=>obtain⟨t',rfl⟩:=ry;exact Gk (ya I q (by simp))
  |str j=>obtain⟨t',rfl⟩:=ry;exact eq_str (ya I q zdY)
  |_=>exact absurd (show false=true from hs) Ai
 |byt i=>
  obtain⟨t,rfl⟩:=rx
  cases y with
  |byt j=>obtain⟨t',rfl⟩:=ry;exact PySem.W.eq_bytes (ya I q zdZ)
  |_=>exact absurd (show false=true from hs) Ai
 |_=>cases y<;>exact absurd (show false=true from hs) Ai
theorem zmg:OpR X (compareOp .NotEq) rNe:=by
 intro pins s σ H x y v u Q I rx ry h
 obtain⟨hs,q⟩:=h
 cases x with
 |non=>
  cases rx
  cases y with
  |non=>cases ry;exact PySem.EqNone.ne_none_none (ya I q (by simp))
  |bl j=>cases ry;exact PySem.EqNone.ne_none_bool (ya I q (by simp))
  |int j=>obtain⟨t',rfl⟩:=ry;exact PySem.EqNone.ne_none_int (ya I q (by simp))
  |str j=>obtain⟨t',rfl⟩:=ry;exact PySem.EqNone.ne_none_str (ya I q (by simp))
  |_=>exact absurd (show false=true from hs) Ai
 |bl i=>
  cases rx
  cases y with
  |non=>cases ry;exact PySem.EqNone.ne_bool_none (ya I q (by simp))
  |bl j=>cases ry;exact ne_bool (ya I q (congrArg not zf2))
  |str j=>obtain⟨t',rfl⟩:=ry;exact Gg (ya I q (by simp))
  |_=>exact absurd (show false=true from hs) Ai
 |int i=>
  obtain⟨t,rfl⟩:=rx
  cases y with
  |non=>cases ry;exact PySem.EqNone.ne_int_none (ya I q (by simp))
  |int j=>obtain⟨t',rfl⟩:=ry;exact ne_int (ya I q (congrArg not zdX))
  |str j=>obtain⟨t',rfl⟩:=ry;exact Gm (ya I q (by simp))
  |_=>exact absurd (show false=true from hs) Ai
 |str i=>
  obtain⟨t,rfl⟩:=rx
  cases y with
  |non=>cases ry;exact PySem.EqNone.ne_str_none (ya I q (by simp))
  |bl j=>cases ry;exact Gh (ya I q (by simp))
  |int j=>obtain⟨t',rfl⟩:=ry;exact Gn (ya I q (by simp))
  |str j=>obtain⟨t',rfl⟩:=ry;exact ne_str (ya I q (congrArg not zdY))
  |_=>exact absurd (show false=true from hs) Ai
 |byt i=>
  obtain⟨t,rfl⟩:=rx
  cases y with
  |byt j=>obtain⟨t',rfl⟩:=ry;exact PySem.W.ne_bytes (ya I q (congrArg not zdZ))
  |_=>exact absurd (show false=true from hs) Ai
 |_=>cases y<;>exact absurd (show false=true from hs) Ai
theorem zix {op:CmpOp} {r:R2} (ho:OpR X (compareOp op) r) (ha:PE X a ta) (hb:PE X b tb) (hm:behindInMarks op b=false):PE X (.Compare a [op] [b] pos) (tOp r ta tb):=by
 intro pins s σ H Q I h
 exact wpAny_Compare1 (zkP ha hb I h λv u s2 x y H2 I2 rx ry q=>ho pins s2 σ H2 x y v u Q I2 rx ry q) hm
def zj2 (t:TE):TT:=λσ H Q=>t σ H λx H'=>∃k,x= .bl k/\Q k H'
theorem zd0 {op:CmpOp} {r:R2} (ho:OpR X (compareOp op) r) (ha:PE X a ta) (hb:PE X b tb) (hm:behindInMarks op b=false):PT X (.Compare a [op] [b] pos) (zj2 (tOp r ta tb)):=by
 intro pins s σ H Q I h
 refine wpAny_isTrue_Compare1 (thn (ha pins s σ H _ I h) λv s1 ⟨x,H1,I1,r1,q1⟩=>thn (hb pins s1 σ H1 _ I1 q1) λu s2 ⟨y,H2,I2,r2,q2⟩=>
  thn (ho pins s2 σ H2 x y v u _ I2 r1 r2 q2) λc s3 ⟨z,H3,I3,r3,k,e,q3⟩=> ?_) hm
 subst e
 cases r3
 exact wpAny_truthy_bool ⟨H3,I3,q3⟩
theorem Ut:(sizeLine:Nat)<2^63:=by rw[sizeLine_eq];decide
theorem Yv {x:V} {us:List Value} (r:zI [x] us):∃u,us=[u]/\zD x u:=by
 cases r with
 |cons r1 r2=>cases r2;exact⟨_,rfl,r1⟩
theorem zd1 {x y:V} {us:List Value} (r:zI [x,y] us):∃u w',us=[u,w']/\zD x u/\zD y w':=by
 cases r with
 |cons r1 r2=>
  cases r2 with
  |cons r3 r4=>cases r4;exact⟨_,_,rfl,r1,r3⟩
theorem ZE:ZD X (.builtin "abs") (λxs H Q=>∃i,xs=[.int i]/\Q (.int (if i<0 then -i else i)) H):=by
 intro pins s σ H xs us Q I r h
 obtain⟨i,rfl,q⟩:=h
 obtain⟨u,rfl,t,rfl⟩:=Yv r
 exact call_abs_int λu tk=>⟨.int (if i<0 then -i else i),H,I.tok _,⟨_,rfl⟩,q⟩
end
structure ze3 (h:Heap) (x dx C:Addr) (mA:Str->Option Value):Prop where
 obj:h.get? x=some (Bv C dx)
 ns:h.Ns1 dx mA
 ne:dx≠x
theorem ze4 {h:Heap} {dx:Addr} {mA:Str->Option Value} (n:h.Ns1 dx mA):∃od,h.get? dx=some od/\∀name,Ew name od=some (mA name):=by
 obtain⟨o,es,ep,ho,hd,hk,_,hm⟩:=n
 refine⟨o,ho,λname=> ?_⟩
 have e:=hm name
 unfold nsFind findBy at e
 rw[<-Array.find?_toList] at e
 unfold Ew
 rw[hd]
 dsimp only
 split
 ·rename_i y q
  rw[q] at e
  exact congrArg some e
 ·rename_i q
  rw[q] at e
  have a:es.toList.any (·.refKey)=false:=by
   rw[List.any_eq_false]
   intro y hy
   obtain⟨z,t,nN⟩:=hk y (Array.mem_toList_iff.mp hy)
   simp[DictEntry.refKey,nN]
  have a':¬es.toList.any (·.refKey)=true:=by rw[a];exact Ai
  rw[if_neg a']
  exact congrArg some e
theorem ze3.look {h:Heap} {x dx C:Addr} {mA:Str->Option Value} (I:ze3 h x dx C mA):∃od,Dl h x (Bv C dx) C (some od)/\∀name,Ew name od=some (mA name):=
 let ⟨od,ho,hl⟩:=ze4 I.ns
 ⟨od,⟨I.obj,rfl,rfl,ho⟩,hl⟩
section
variable {prog:Program} {w:World} {A:Around} {E:Value->Shared->Prop} {s:Shared} {K:y3} {x dx C f:Addr} {mA:Str->Option Value} {name:Str} {v:Value}
theorem ziy {expr:Bool} {Q:Value->Shared->Prop} (X:K.In s.heap) (I:ze3 s.heap x dx C mA) (hg:Cm K C name=true) (hh:C8 K C=true)
  (ha:A9 K (.ref C) name=some none) (hv:mA name=some v) (iy:FE v=true) (h:Q v {s with toks:=s.toks+1}):
  wpAny (model prog w) A (getAttr (.ref x) name expr) Q E s:=by
 obtain⟨od,J,hl⟩:=I.look
 exact PySem.W.get_value X J (PySem.W.plainGet_of hg).1 (PySem.W.findObj_own hh ha rfl (by rw[hl,hv])) iy h
theorem ziz {ns:List Str} {Q:Unit->Shared->Prop} (X:K.In s.heap) (I:ze3 s.heap x dx C mA)
  (hs:A9 K (.ref C) "__setattr__"=some (some (.builtin "object.__setattr__"))) (hp:CT K C=true) (ht:DZ K C name=some none) (hh:C8 K C=true)
  (hw:F4 mA ns) (hsz:ns.length<=sizeLine)
  (h:∀h',ze3 h' x dx C (λy=>if y=name then some v else mA y)->Heap.SameBut dx s.heap h'->Q () {s with heap:=h',toks:=s.toks+2}):
  wpAny (model prog w) A (setAttr (.ref x) name v) Q E s:=by
 obtain⟨od,J,hl⟩:=I.look
 refine PySem.W.set_plain X J hs (PySem.W.osa_open (s:={s with toks:=s.toks+1}) (r:=none) X J hp ht λb=> ?_)
 obtain⟨cd,hc,jw⟩:=PySem.W.any_some hh
 have hx:s.heap.get? x=some ⟨.ref C,some dx,.plain,#[]⟩:=I.obj
 refine wpAny_bind (wpAny_pure (wpAny_bind (wpAny_bind (wpAny_loadPart hx (wpAny_bind (Gs (s:={s with toks:=s.toks+1}) (PySem.W.looks_clsIn X hc) ?_))))))
 rw[jw]
 refine wpAny_pure (a:=some dx) (wpAny_bind (wpAny_pure (wpAny_bind ?_)))
 refine wpAny_nsSet1 (s:={s with toks:=s.toks+1}) I.ns λh' cX cx=> ?_
 obtain⟨oD,w9,x4,sv,tD,tG⟩:=cX.count (PySem.Within.cons name v hw)
 refine wpAny_bind (wpAny_lookBehind sv (by rw[tD];exact pastItsLine_dict (A2 tG (by rw[Ah];omega))) ?_)
 exact wpAny_pure (h _ ⟨(cx.2 _ (AQ I.ne)).trans I.obj,cX,I.ne⟩ cx)
theorem zf3 {R:Result->Shared->Prop} {vs:List Value} {kw:List (Str×Value)} (X:K.In s.heap) (hm:Dc K C=true)
  (hi:A9 K (.ref C) "__init__"=some (some (.ref f))) (hf:CM K (.ref f)=some (.type "function"))
  (h:codeAny (model prog w) (A.under (.builtin "type.__call__" ⟨.ref C::vs,kw⟩)) (.call (.ref f) ⟨.ref (s.heap.objs.size+1)::vs,kw⟩) (PySem.W.InitBack (s.heap.objs.size+1) R)
   {s with heap:=(s.heap.push B6).push (Bv C s.heap.objs.size)}):
  codeAny (model prog w) A (.call (.ref C) ⟨vs,kw⟩) R s:=by
 obtain⟨hh,g,d,t,os⟩:=s
 exact PySem.W.make_core (PySem.W.makes_of X hm) (Dd X hi) (λself=>PySem.W.bind_fn X self hf) (.inl rfl) h
end
noncomputable def ZS (f:Str) (v:V):List (Str×V)->List (Str×V)
 |[]=>[(f,v)]
 |(g,x)::r=>if g=f then (g,v)::r else (g,x)::ZS f v r
theorem Vv (f g:Str) (v:V):∀fs:List (Str×V),(ZS f v fs).lookup g=if g=f then some v else fs.lookup g
 |[]=>by
  show BJ g [(f,v)]=_
  by_cases h:g=f
  ·have hb:(g==f)=true:=beq_iff_eq.mpr h
   simp only[BJ,hb,if_pos h]
  ·have hb:(g==f)=false:=beq_eq_false_iff_ne.mpr h
   simp only[BJ,hb,if_neg h]
 |(k,x)::r=>by
  have ih:=Vv f g v r
  rw[show ZS f v ((k,x)::r)=(if k=f then (k,v)::r else (k,x)::ZS f v r) from rfl]
  by_cases hk:k=f
  ·rw[if_pos hk]
   by_cases h:g=k
   ·have hb:(g==k)=true:=beq_iff_eq.mpr h
    simp only[BJ,hb,if_pos (h.trans hk)]
   ·have hb:(g==k)=false:=beq_eq_false_iff_ne.mpr h
    simp only[BJ,hb,if_neg (λe:g=f=>h (e.trans hk.symm))]
  ·rw[if_neg hk]
   by_cases h:g=k
   ·have hb:(g==k)=true:=beq_iff_eq.mpr h
    simp only[BJ,hb,if_neg (λe:g=f=>hk (h.symm.trans e))]
   ·have hb:(g==k)=false:=beq_eq_false_iff_ne.mpr h
    simp only[BJ,hb]
    exact ih
theorem WT (f:Str) (v:V):∀fs:List (Str×V),f∈(ZS f v fs).map (·.1)/\∀g,g∈fs.map (·.1)->g∈(ZS f v fs).map (·.1)
 |[]=>⟨by simp[ZS],λg h=>by simp at h⟩
 |(k,x)::r=>by
  obtain⟨i1,i2⟩:=WT f v r
  rw[show ZS f v ((k,x)::r)=(if k=f then (k,v)::r else (k,x)::ZS f v r) from rfl]
  by_cases hk:k=f
  ·rw[if_pos hk]
   subst hk
   exact⟨by simp,λg h=>by simpa using h⟩
  ·rw[if_neg hk]
   refine⟨?_,λg h=> ?_⟩
   ·rw[A6]
    exact Aj _ i1
   ·rw[A6] at h ⊢
    rcases Ak.mp h with e|e
    ·exact Ak.mpr (.inl e)
    ·exact Aj _ (i2 g e)
theorem Vw (f:Str) (v:V):∀fs:List (Str×V),(ZS f v fs).length<=fs.length+1
 |[]=>by simp[ZS]
 |(k,x)::r=>by
  have ih:=Vw f v r
  rw[show ZS f v ((k,x)::r)=(if k=f then (k,v)::r else (k,x)::ZS f v r) from rfl]
  by_cases hk:k=f
  ·rw[if_pos hk,Ah,Ah];omega
  ·rw[if_neg hk,Ah,Ah];omega
theorem ZQ.some_of {v:V} {o:Option Value} (r:ZQ (some v) o):∃u,o=some u/\zD v u:=by
 cases o with
 |none=>exact (show False from r).elim
 |some u=>exact⟨u,rfl,r⟩
theorem ZQ.none_of {o:Option Value} (r:ZQ none o):o=none:=by
 cases o with
 |none=>rfl
 |some u=>exact (show False from r).elim
theorem ze5 {v:V} {u:Value} (r:zD v u):FE u=true:=by
 cases v with
 |non=>cases (show u=Value.none from r);rfl
 |bl b=>cases (show u=Value.bool b from r);rfl
 |int i=>obtain⟨t,e⟩:=(show ∃t,u=Value.int i t from r);cases e;rfl
 |str x=>obtain⟨t,e⟩:=(show ∃t,u=Value.str x t from r);cases e;rfl
 |byt b=>obtain⟨t,e⟩:=(show ∃t,u=Value.bytes b t from r);cases e;rfl
 |flt b=>obtain⟨t,e⟩:=(show ∃t,u=Value.float b t from r);cases e;rfl
 |ref a=>cases (show u=Value.ref a from r);rfl
 |ty n=>cases (show u=Value.type n from r);rfl
section
variable {P:Program} {w:World} {H H':Hp} {h h':Heap} {a C dx:Addr} {fs fs':List (Str×V)}
theorem zaI (hok:HOk P w H h) (e:H a=some (.ins C dx fs)):∃mA,ze3 h a dx C mA/\(∀f,ZQ (fs.lookup f) (mA f))/\F4 mA (fs.map (·.1))/\fs.length<=1000/\H dx=some (.own a):=by
 obtain⟨d,z,ne,ob,mA,n,r,q⟩:=(show yj P w H h a (.ins C dx fs) from hok a _ e)
 exact⟨mA,⟨ob,n,ne⟩,r,q,z,d⟩
end
structure Cls (K:y3) (C:Addr):Prop where
 pg:Cm K C Str.empty=true
 hd:C8 K C=true
 po:CT K C=true
 sa:A9 K (.ref C) "__setattr__"=some (some (.builtin "object.__setattr__"))
theorem Cls.get {K:y3} {C:Addr} (c:Cls K C) (f:Str):Cm K C f=true:=c.pg
def wm (K:y3) (C:Addr) (f:Str):Prop:=A9 K (.ref C) f=some none
theorem wm.taker {K:y3} {C:Addr} {f:Str} (n:wm K C f):DZ K C f=some none:=by
 unfold DZ
 rw[show A9 K (.ref C) f=some none from n]
 rfl
structure Con (K:y3) (C:Addr) (f:Str) (v:V) (u:Value):Prop where
 at_:A9 K (.ref C) f=some (some u)
 rel:zD v u
 get:CU K u "__get__"=some none
 cp:PySem.W.copiedNames.contains f=false
structure znf (K:y3) (C:Addr) (m:Str) (f:Addr):Prop where
 at_:A9 K (.ref C) m=some (some (.ref f))
 fn:DG K (.ref f)=true
 kp:Bu K (.ref f)=true
section
variable {X:Cx} {pins:List (Addr×Obj)} {σ:St} {H:Hp} {s:Shared} {a C dx:Addr} {fs:List (Str×V)} {f:Str} {v:V} {A:Around} {E:Value->Shared->Prop}
theorem zcX {b:Bool} {Q:Value->Shared->Prop} (I:Inv X pins σ H s) (e:H a=some (.ins C dx fs)) (c:Cls X.K C) (n:wm X.K C f) (l:fs.lookup f=some v)
  (h:∀u s',Inv X pins σ H s'->zD v u->Q u s'):wpAny (model X.prog X.w) A (getAttr (.ref a) f b) Q E s:=by
 obtain⟨mA,O,r,_,_,_⟩:=zaI I.hok e
 obtain⟨u,hu,ru⟩:=ZQ.some_of (v:=v) (o:=mA f) (by rw[<-l];exact r f)
 exact ziy I.kIn O (c.get f) c.hd n hu (ze5 ru) (h u _ (I.tok _) ru)
theorem zcY {y:V} {u:Value} {Q:Unit->Shared->Prop} (I:Inv X pins σ H s) (e:H a=some (.ins C dx fs)) (c:Cls X.K C) (n:wm X.K C f) (hl:fs.length<1000) (ry:zD y u)
  (h:∀s',Inv X pins σ (upd H a (.ins C dx (ZS f y fs))) s'->Q () s'):wpAny (model X.prog X.w) A (setAttr (.ref a) f u) Q E s:=by
 obtain⟨mA,O,r,wi,_,ho⟩:=zaI I.hok e
 have hz:(fs.map (·.1)).length<=sizeLine:=by rw[y7,sizeLine_eq];omega
 refine ziz I.kIn O c.sa c.po n.taker c.hd wi hz λh' O' sb=>h _ ?_
 have hd:∃o,h'.get? dx=some o:=let ⟨o,_,_,e',_⟩:=O'.ns;⟨o,e'⟩
 refine I.write (x:=a) (e:=dx) (by rw[e];exact B8) (.inr ho) (λb q hb z=>(sb.2 b hb).trans z) hd ?_
 refine⟨by rw[zh O.ne];exact ho,?_,O.ne,O'.obj,_,O'.ns,λg=> ?_,λg hg=> ?_⟩
 ·have:=Vw f y fs;omega
 ·show ZQ ((ZS f y fs).lookup g) (if g=f then some u else mA g)
  rw[Vv]
  by_cases q:g=f
  ·rw[if_pos q,if_pos q];exact ry
  ·rw[if_neg q,if_neg q];exact r g
 ·by_cases q:g=f
  ·rw[q];exact (WT f y fs).1
  ·refine (WT f y fs).2 g (wi g λz=>hg ?_)
   show (if g=f then some u else mA g)=none
   rw[if_neg q];exact z
theorem Inv.made (I:Inv X pins σ H s):Inv X pins σ (upd (upd H s.heap.objs.size (.own (s.heap.objs.size+1))) (s.heap.objs.size+1) (.ins C s.heap.objs.size []))
  {s with heap:=(s.heap.push B6).push (Bv C s.heap.objs.size)}:=by
 have e1:(s.heap.push B6).get? s.heap.objs.size=some B6:=Heap.get?_push_size s.heap rfl
 have e2:((s.heap.push B6).push (Bv C s.heap.objs.size)).get? (s.heap.objs.size+1)=some (Bv C s.heap.objs.size):=by
  have:=Heap.get?_push_size (s.heap.push B6) (o:=Bv C s.heap.objs.size) rfl
  rwa [Heap.size_push] at this
 have e3:(s.heap.push B6).Ns s.heap.objs.size (λ_=>none):=⟨B6,#[],_,e1,rfl,(λe he=>absurd he (by simp)),λ_=>rfl⟩
 have I1:=I.laid (a:=s.heap.objs.size) (o:= .own (s.heap.objs.size+1)) (h':=s.heap.push B6) (t':=s.toks) (λb u q=>Heap.get?_push_of_some _ q) (z5 _) ⟨_,e1⟩
 refine I1.laid (a:=s.heap.objs.size+1) (o:= .ins C s.heap.objs.size []) (t':=s.toks) (λb u q=>Heap.get?_push_of_some _ q) (BK (Heap.size_push _ _)) ?_
 have ne:s.heap.objs.size≠s.heap.objs.size+1:=Ad (Bf _)
 refine⟨by rw[zh ne,zm],Bi _,ne,e2,λ_=>none,(Heap.Ns1.of_empty e3).at λo q=>Heap.get?_push_of_some _ q,λ_=>B8,λy hy=>absurd rfl hy⟩
theorem ziA {prog:Program} {w:World} {env:Env} {e:Expr} {f:Str} {pos:Pos} {s:Shared} {Q:Value->Shared->Prop} (hb:attributeBase e f env (eval e env)=eval e env)
  (h:wpAny (model prog w) A (eval e env) (λo s₁=>wpAny (model prog w) A (getAttr o f true) Q E s₁) E s):wpAny (model prog w) A (eval (.Attribute e f pos) env) Q E s:=
 Attribute_any_ h (by rw[arm_eval_Attribute,hb])
end
def zmh (K:y3) (ta:TE) (f:Str):TE:=λσ H Q=>ta σ H λx H1=>∃a C dx fs v,x= .ref a/\H1 a=some (.ins C dx fs)/\Cls K C/\wm K C f/\fs.lookup f=some v/\Q v H1
def zmi (K:y3) (ta tv:TE) (f:Str):TS:=λD σ H=>tv σ H λy H1=>ta σ H1 λx H2=>∃a C dx fs,x= .ref a/\H2 a=some (.ins C dx fs)/\Cls K C/\wm K C f/\fs.length<1000/\
 D.nx σ (upd H2 a (.ins C dx (ZS f y fs)))
section
variable {X:Cx} {o e value:Expr} {f:Str} {pos pos' jA:Pos} {ta tv:TE}
theorem vc (he:PE X e ta) (hb:attributeBase e f X.env (eval e X.env)=eval e X.env):PE X (.Attribute e f pos) (zmh X.K ta f):=by
 intro pins s σ H Q I h
 refine ziA hb (thn (he pins s σ H _ I h) ?_)
 rintro u s1 ⟨x,H1,I1,rx,a,C,dx,fs,v,ex,ea,c,n,l,q⟩
 subst ex
 obtain rfl:u=Value.ref a:=rx
 exact zcX I1 ea c n l λu' s2 I2 ru=>⟨v,H1,I2,ru,q⟩
theorem XQ (ha:PE X o ta) (hv:PE X value tv) (hs:swapsWith value (some (.Attribute o f pos')) pos.line X.env=pure false):PS X (.Assign [.Attribute o f pos'] value pos) (zmi X.K ta tv f):=by
 intro pins s σ H D I h
 refine plainObj_wpAny_Assign_Attribute (thn (hv pins s σ H _ I h) ?_) hs
 rintro u s1 ⟨y,H1,I1,ry,q⟩
 refine thn (ha pins s1 σ H1 _ I1 q) ?_
 rintro ov s2 ⟨x,H2,I2,rx,a,C,dx,fs,ex,ea,c,n,l,q2⟩
 subst ex
 obtain rfl:ov=Value.ref a:=rx
 exact zcY I2 ea c n l ry λs3 I3=>⟨σ,_,I3,q2⟩
end
section
variable {X:Cx} {pins:List (Addr×Obj)} {σ:St} {H:Hp} {s:Shared} {A:Around} {E:Value->Shared->Prop} {Q:Value->Shared->Prop} {c:Value} {b:Bool}
inductive VJ (K:y3) (H:Hp):V->Value->Prop where
 |non:VJ K H .non (.type "NoneType")
 |bl (x:Bool):VJ K H (.bl x) (.type "bool")
 |int (i:Int):VJ K H (.int i) (.type "int")
 |str (x:Str):VJ K H (.str x) (.type "str")
 |flt (x:UInt64):VJ K H (.flt x) (.type "float")
 |lst {a:Addr} {xs:List V} (e:H a=some (.lst xs)):VJ K H (.ref a) (.type "list")
 |frz {a:Addr} {o:Obj} {xs:List V} (e:H a=some (.frz o (.lst xs))):VJ K H (.ref a) (.type "list")
 |tup {a:Addr} {xs:List V} (e:H a=some (.tup xs)):VJ K H (.ref a) (.type "tuple")
 |dK {a:Addr} {kvs:List (Key×V)} (e:H a=some (.dK kvs)):VJ K H (.ref a) (.type "dict")
 |dT {a:Addr} {kvs:List (List Key×V)} (e:H a=some (.dT kvs)):VJ K H (.ref a) (.type "dict")
 |ins {a C dx:Addr} {fs:List (Str×V)} (e:H a=some (.ins C dx fs)) (cl:Cls K C) (ha:A9 K (.ref C) "__class__"=some (some (.builtin "object.__class__")))
   (hn:CU K (.builtin "object.__class__") "__get__"=some (some (.builtin "getset_descriptor.__get__"))) (htk:E8 K (.builtin "object.__class__")=some true)
   (hm:AX K C (.type "object")=some true):VJ K H (.ref a) (.ref C)
end
structure xo (k:Nat) (A:Around):Prop where
 hd:A.handled=none
 dp:A.depth+3*k+5<recursionLimit
 un:A.units+16*k+200<cLine
 gd:A.guards=some []
theorem xo.mono {j k:Nat} {A:Around} (r:xo k A) (h:j<=k):xo j A:=⟨r.hd,by have:=r.dp;omega,by have:=r.un;omega,r.gd⟩
theorem xo.deeper {k:Nat} {A:Around} (r:xo (k+1) A) (env:Env):xo k (A.deeper env):=
 ⟨r.hd,by have:=r.dp;show A.depth+1+3*k+5<_;omega,by have:=r.un;show A.units+3+16*k+200<_;omega,r.gd⟩
theorem zcZ {A:Around} {C:Addr} {us:List Value} {kw:List (Str×Value)}:(A.under (.builtin "type.__call__" ⟨.ref C::us,kw⟩)).depth=A.depth+1:=by
 first|rfl|simp[Around.under,Code.weight,Code.isCreation,Code.isGuard,Code.isCaller,Code.frames,Code.isFrame,guardIds]
theorem zc0 {A:Around} {C:Addr} {us:List Value} {kw:List (Str×Value)}:(A.under (.builtin "type.__call__" ⟨.ref C::us,kw⟩)).units=A.units+1:=by
 first|rfl|simp[Around.under,Code.cUnits,Code.frames,Code.isFrame]
theorem xo.make {k:Nat} {A:Around} (r:xo (k+1) A) (C:Addr) (us:List Value) (kw:List (Str×Value)):xo k (A.under (.builtin "type.__call__" ⟨.ref C::us,kw⟩)):=
 ⟨r.hd,by have:=r.dp;rw[zcZ];omega,by have:=r.un;rw[zc0];omega,r.gd⟩
theorem xo.depth {k:Nat} {A:Around} (r:xo k A):A.depth<recursionLimit:=by have:=r.dp;omega
theorem xo.units {k:Nat} {A:Around} (r:xo k A):A.units+64<cLine:=by have:=r.un;omega
def zbI:TA:=λ_ H Q=>Q [] H
def Yw (ta:TE) (tr:TA):TA:=λσ H Q=>ta σ H λx H1=>tr σ H1 λxs H2=>Q (x::xs) H2
section
variable {X:Cx} {e:Expr} {es:List Expr} {te:TE} {t:TA} {pos:Pos}
theorem ze:PA X [] zbI:=λ_ _ _ _ H Q I h=>Calls.spliced_nil ⟨[],H,I,.nil,h⟩
theorem wg (ha:PE X e te) (hr:PA X es t) (hs:starEach (e::es) X.env=(false,eval e X.env)::starEach es X.env:=by rfl):PA X (e::es) (Yw te t):=by
 intro pos pins s σ H Q I h
 rw[hs]
 show wpAny _ _ (spliced ((false,eval e X.env)::backTo pos (starEach es X.env))) _ _ s
 refine Calls.spliced_cons (thn (ha pins s σ H _ I h) ?_)
 rintro u s1 ⟨x,H1,I1,r1,q1⟩
 refine thn (hr pos pins s1 σ H1 _ I1 q1) ?_
 rintro us s2 ⟨xs,H2,I2,r2,q2⟩
 exact⟨x::xs,H2,I2,.cons r1 r2,q2⟩
def zmj (t:TA):TE:=λσ H Q=>t σ H λxs H1=>xs.length<=sizeLine/\∀p,H1 p=none->Q (.ref p) (upd H1 p (.tup xs))
def zmk (t:TA):TE:=λσ H Q=>t σ H λxs H1=>xs.length<=sizeLine/\∀p,H1 p=none->Q (.ref p) (upd H1 p (.lst xs))
theorem zkS {x1} (h:PA X es t):PE X (.Tuple es x1 pos) (zmj t):=by
 intro pins s σ H Q I hq
 refine wpAny_Tuple_spliced (thn (h pos pins s σ H _ I hq) λus s1 ⟨xs,H1,I1,r,z,q⟩=>⟨by rw[<-r.length];exact z,?_⟩)
 have hf:H1 s1.heap.objs.size=none:=I1.hok.fresh (z5 _)
 refine⟨.ref s1.heap.objs.size,upd H1 s1.heap.objs.size (.tup xs),I1.laid (t':=s1.toks) (λb u e=>Heap.get?_push_of_some _ e) (z5 _) ?_,rfl,q _ hf⟩
 exact⟨z,us,r,⟨_,Heap.get?_push_size _ rfl,rfl,_,rfl,rfl⟩⟩
theorem Zr (h:PA X es t):PE X (.List es pos) (zmk t):=by
 intro pins s σ H Q I hq
 refine wpAny_List_spliced (thn (h pos pins s σ H _ I hq) λus s1 ⟨xs,H1,I1,r,z,q⟩=>⟨by rw[<-r.length];exact z,?_⟩)
 have hf:H1 s1.heap.objs.size=none:=I1.hok.fresh (z5 _)
 refine⟨.ref s1.heap.objs.size,upd H1 s1.heap.objs.size (.lst xs),I1.laid (t':=s1.toks) (λb u e=>Heap.get?_push_of_some _ e) (z5 _) ?_,rfl,q _ hf⟩
 exact⟨z,us,0,r,Heap.get?_push_size _ rfl⟩
end
abbrev Sp:=List V->Hp->VK->XK->Prop
abbrev CXT:=List Env->Hp->Shared->XK->Value->Shared->Prop
structure WU (P:Program) (w:World) (K:y3) (mg:Str->Option Value) (base:Heap) (A:Around) (outer:List Env) (s:Shared) (H:Hp):Prop where
 frames:A.frames=some outer
 mod:Mod P K mg base
 bs:∀b o,base.get? b=some o->s.heap.get? b=some o/\H b=none
 bsz:base.objs.size<=s.heap.objs.size
 funs:s.heap.FunFrames base outer
 frf:∀b∈frs outer,H b=none
 hok:HOk P w H s.heap
 bare:AllBare s.gens
def CE (outer:List Env) (P:Program) (w:World) (H:Hp) (s:Shared) (Q:VK) (u:Value) (s':Shared):Prop:=
 ∃v H',s'.os=s.os/\AllBare s'.gens/\Un (frs outer) [] H H' s.heap s'.heap/\HOk P w H' s'.heap/\zD v u/\Q v H'
def CR (CX:CXT) (outer:List Env) (P:Program) (w:World) (H:Hp) (s:Shared) (Q:VK) (E:XK) (r:Result) (s':Shared):Prop:=
 match r with
 | .ok (.ret u)=>CE outer P w H s Q u s'
 | .ok _=>False
 | .error e=>CX outer H s E e s'
structure ZF (P:Program) (w:World) (K:y3) (mg:Str->Option Value) (base:Heap) (CX:CXT) (k:Nat) (f:Addr) (fd:FuncData) (ps:List Str) (sp:Sp):Prop where
 len:∀vs H Q E,sp vs H Q E->vs.length=ps.length
 run:∀(A:Around) (outer:List Env) (s:Shared) (H:Hp) (args:Args) (us:List Value) (vs:List V) (Q:VK) (E:XK),xo k A->WU P w K mg base A outer s H->BindsTo s fd args (ps.zip us)->zI vs us->sp vs H Q E->
  codeAny (model P w) A (.call (.ref f) args) (CR CX outer P w H s Q E) s
theorem ZF.imp {P:Program} {w:World} {K:y3} {mg:Str->Option Value} {base:Heap} {CX:CXT} {k:Nat} {f:Addr} {fd:FuncData} {ps:List Str} {sp sp':Sp} (F:ZF P w K mg base CX k f fd ps sp)
  (h:∀vs H Q E,sp' vs H Q E->sp vs H Q E):ZF P w K mg base CX k f fd ps sp':=
 ⟨λvs H Q E q=>F.len vs H Q E (h _ _ _ _ q),λA outer s H args us vs Q E hr he hb hv hs=>F.run A outer s H args us vs Q E hr he hb hv (h _ _ _ _ hs)⟩
theorem WU.make {P:Program} {w:World} {K:y3} {mg:Str->Option Value} {base:Heap} {A:Around} {outer:List Env} {s:Shared} {H:Hp} (e:WU P w K mg base A outer s H) (C:Addr) (us:List Value) (kw:List (Str×Value)):
  WU P w K mg base (A.under (.builtin "type.__call__" ⟨.ref C::us,kw⟩)) outer s H:=⟨by first|exact e.frames|(simpa [Around.under,Code.envs,Code.isFrame,pushEnvs] using e.frames),e.mod,e.bs,e.bsz,e.funs,e.frf,e.hok,e.bare⟩
theorem WU.in1 {P:Program} {w:World} {K:y3} {mg:Str->Option Value} {base:Heap} {A:Around} {outer:List Env} {s:Shared} {H:Hp} (e:WU P w K mg base A outer s H):
  WU P w K mg base A.in1 outer s H:=⟨e.frames,e.mod,e.bs,e.bsz,e.funs,e.frf,e.hok,e.bare⟩
section
variable {X:Cx} {pins:List (Addr×Obj)} {σ:St} {H:Hp} {s s':Shared}
theorem Inv.env0 (I:Inv X pins σ H s):WU X.prog X.w X.K X.mg X.base X.A X.stack s H:=
 ⟨I.ok.frames,I.ok.mod,I.bs,A2 I.ok.bsz I.sz,I.stack,I.stkFree,I.hok,I.bare⟩
theorem Inv.after {Q:VK} {u:Value} (I:Inv X pins σ H s) (h:CE X.stack X.prog X.w H s Q u s'):EP X pins σ Q u s':=by
 obtain⟨v,H',os,bare,un,hok,r,q⟩:=h
 obtain⟨hh,g,d,t,os'⟩:=s'
 obtain rfl:os'=s.os:=os
 exact⟨v,H',I.call (h':=hh) (g':=g) (d':=d) (t':=t) (ch:=[]) un hok bare (λb z=>absurd z (by simp)),r,q⟩
end
def zf4 (sp:Sp) (eI:List V) (E:XK) (t:TA):TE:=λσ H Q=>t σ H λvs H1=>sp (vs++eI) H1 Q E
def zf5 (C:Addr) (sp:Sp) (eI:List V) (E:XK) (t:TA):TE:=λσ H Q=>t σ H λvs H1=>∀x dx,H1 x=none->H1 dx=none->dx≠x->
 sp (.ref x::(vs++eI)) (upd (upd H1 dx (.own x)) x (.ins C dx [])) (λv H2=>v= .non/\Q (.ref x) H2) E
def Wh (K:y3) (fd:FuncData) (ps:List Str) (ds:List Value):Prop:=
 ∀(s:Shared) (us:List Value),K.In s.heap->(us++ds).length=ps.length->BindsTo s fd ⟨us,[]⟩ (ps.zip (us++ds))
theorem Wh.all {K:y3} {fd:FuncData} {ps:List Str} (h:∀us:List Value,us.length=ps.length->bindArgs fd ⟨us,[]⟩=pure (ps.zip us)):Wh K fd ps []:=λs us _ hl=>by
 rw[Bx] at hl ⊢
 exact .of_eq (h us hl)
def WV (CX:CXT) (X:Cx) (E:XK):Prop:=∀(pins:List (Addr×Obj)) (σ:St) (H:Hp) (s:Shared) (e:Value) (s':Shared),Inv X pins σ H s->CX X.stack H s E e s'->X.xe e s'
section
variable {X:Cx} {CX:CXT} {k:Nat} {f C:Addr} {fd:FuncData} {ps:List Str} {sp:Sp} {eI:List V} {ds:List Value} {E:XK} {x m:Str} {p pos apos:Pos} {e o:Expr} {es:List Expr} {ta:TE} {t:TA}
theorem zkT {pins:List (Addr×Obj)} {σ:St} {H:Hp} {s:Shared} {Q:VK} {us:List Value} {vs:List V} (F:ZF X.prog X.w X.K X.mg X.base CX k f fd ps sp) (hr:xo k X.A) (hb:Wh X.K fd ps ds) (hd:zI eI ds) (hx:WV CX X E)
  (I:Inv X pins σ H s) (r:zI vs us) (h:sp (vs++eI) H Q E):wpAny (model X.prog X.w) X.A (call (.ref f) us) (EP X pins σ Q) X.xe s:=by
 have r2:zI (vs++eI) (us++ds):=r.append hd
 have hl:(us++ds).length=ps.length:=by rw[<-r2.length];exact F.len _ _ _ _ h
 refine wpAny_call (codeAny_mono (F.run X.A X.stack s H ⟨us,[]⟩ (us++ds) (vs++eI) Q E hr I.env0 (hb s us I.kIn hl) r2 h) λr s' hq=> ?_)
 cases r with
 |error e=>exact hx pins σ H s e s' I hq
 |ok fl=>
  cases fl with
  |ret u=>exact I.after hq
  |next=>exact AF hq
  |brk=>exact AF hq
  |cont=>exact AF hq
theorem ziB (F:ZF X.prog X.w X.K X.mg X.base CX k f fd ps sp) (hr:xo k X.A) (hg:Gl X x) (hm:X.mg x=some (.ref f)) (hk:Bu X.K (.ref f)=true) (hb:Wh X.K fd ps ds) (hd:zI eI ds) (hx:WV CX X E)
  (ha:PA X (e::es) t) (g8:(x==("__debug__":Str))=false:=by decide) (he:starEach (e::es) X.env=(false,eval e X.env)::starEach es X.env:=by rfl) (fc:(backTo pos (starEach es X.env)).any (·.1)=false:=by rfl):
  PE X (.Call (.Name x p) (e::es) [] pos) (zf4 sp eI E t):=by
 intro pins s σ H Q I h
 refine wpAny_Call_Name_kw (zaG I hg hm ?_ g8)
 refine F6 (h₀:=X.base) I.ok.mod.kin hk (thn (ha pos pins s σ H _ I h) ?_) he fc
 rintro us s1 ⟨vs,H1,I1,r,q⟩
 refine⟨I1.kIn,?_⟩
 exact zkT F hr hb hd hx I1 r q
structure Mk (K:y3) (C f:Addr):Prop where
 makes:Dc K C=true
 init:A9 K (.ref C) "__init__"=some (some (.ref f))
 fn:DG K (.ref f)=true
 kp:Bu K (.ref C)=true
theorem zf6 {pins:List (Addr×Obj)} {σ:St} {H:Hp} {s:Shared} {Q:VK} {us:List Value} {vs:List V} (M:Mk X.K C f) (F:ZF X.prog X.w X.K X.mg X.base CX k f fd ps sp) (hr:xo (k+1) X.A) (hb:Wh X.K fd ps ds) (hd:zI eI ds)
  (hx:WV CX X E) (I:Inv X pins σ H s) (r:zI vs us)
  (h:∀x dx,H x=none->H dx=none->dx≠x->sp (.ref x::(vs++eI)) (upd (upd H dx (.own x)) x (.ins C dx [])) (λv H2=>v= .non/\Q (.ref x) H2) E):
  wpAny (model X.prog X.w) X.A (call (.ref C) us) (EP X pins σ Q) X.xe s:=by
 have hq:=h (s.heap.objs.size+1) s.heap.objs.size (I.hok.fresh (B5 _)) (I.hok.fresh (z5 _)) (Ad (Bf _))
 have I2:=Inv.made (C:=C) I
 have r2:zI (V.ref (s.heap.objs.size+1)::(vs++eI)) (Value.ref (s.heap.objs.size+1)::(us++ds)):= .cons rfl (r.append hd)
 have hl:(Value.ref (s.heap.objs.size+1)::us++ds).length=ps.length:=by
  have e:=r2.length
  rw[F.len _ _ _ _ hq] at e
  exact e.symm
 refine wpAny_call (zf3 (f:=f) I.kIn M.makes M.init (beq_iff_eq.mp M.fn) (codeAny_mono (F.run _ X.stack _ _ ⟨Value.ref (s.heap.objs.size+1)::us,[]⟩ (Value.ref (s.heap.objs.size+1)::(us++ds)) _ _ E (hr.make C us [])
  (I2.env0.make C us []) (hb _ (Value.ref (s.heap.objs.size+1)::us) I2.kIn hl) r2 hq) λr s' cj=> ?_))
 cases r with
 |error e=>exact hx pins σ _ _ e s' I2 cj
 |ok fl=>
  cases fl with
  |ret u=>
   obtain⟨v,H',I3,rv,ev,q3⟩:=I2.after cj
   subst ev
   exact⟨rv,⟨V.ref (s.heap.objs.size+1),H',I3,rfl,q3⟩⟩
  |next=>exact AF cj
  |brk=>exact AF cj
  |cont=>exact AF cj
theorem zd2 (M:Mk X.K C f) (F:ZF X.prog X.w X.K X.mg X.base CX k f fd ps sp) (hr:xo (k+1) X.A) (hg:Gl X x) (hm:X.mg x=some (.ref C)) (hb:Wh X.K fd ps ds) (hd:zI eI ds) (hx:WV CX X E)
  (ha:PA X (e::es) t) (g8:(x==("__debug__":Str))=false:=by decide) (he:starEach (e::es) X.env=(false,eval e X.env)::starEach es X.env:=by rfl) (fc:(backTo pos (starEach es X.env)).any (·.1)=false:=by rfl):
  PE X (.Call (.Name x p) (e::es) [] pos) (zf5 C sp eI E t):=by
 intro pins s σ H Q I h
 refine wpAny_Call_Name_kw (zaG I hg hm ?_ g8)
 refine F6 (h₀:=X.base) I.ok.mod.kin M.kp (thn (ha pos pins s σ H _ I h) ?_) he fc
 rintro us s1 ⟨vs,H1,I1,r,q⟩
 refine⟨I1.kIn,?_⟩
 exact zf6 M F hr hb hd hx I1 r q
end
section
variable {X:Cx} {CX:CXT} {k:Nat} {f C:Addr} {fd:FuncData} {ps ks:List Str} {sp:Sp} {E:XK} {x m:Str} {p pos apos rm:Pos} {e o:Expr} {es:List Expr} {uL:List Keyword} {te ta:TE} {t tk:TA} {nm:Option Str}
structure zng (K:y3) (fd:FuncData) (ps ks:List Str) (g:List Value->List Value->List Value) (gV:List V->List V->List V):Prop where
 to:∀(s:Shared) (us ws:List Value),K.In s.heap->(g us ws).length=ps.length->BindsTo s fd ⟨us,ks.zip ws⟩ (ps.zip (g us ws))
 rel:∀{vs:List V} {us:List Value} {zs:List V} {ws:List Value},zI vs us->zI zs ws->zI (gV vs zs) (g us ws)
variable {g:List Value->List Value->List Value} {gV:List V->List V->List V}
end
structure zy (N P:List Str) (sc:Scope):Prop where
 kind:sc.kind= .function
 co:sc.isCoroutine=false
 gen:sc.isGenerator=false
 nd:N.Nodup
 pre:N.take P.length=P
 par:∀x∈P,sc.names.lookup x=some .local\/sc.names.lookup x=some .cell
 nofree:∀y∈sc.names,y.2≠ .free
theorem TN {kindOf:Str->Option NameKind} {x:Str}:∀{binds:List (Str×Value)} {m:Str->Option Value},(∀v,(x,v)∉binds)->bindL kindOf binds m x=m x
 |[],_,_=>rfl
 |(n,v)::r,m,h=>by
  unfold bindL
  rw[TN λw hw=>h w (Aj _ hw)]
  split
  ·have:x≠n:=by rintro rfl;exact h v AV
   simp[this]
  ·rfl
theorem TQ {kindOf:Str->Option NameKind} {x:Str}:∀{binds:List (Str×Value)} {m:Str->Option Value},(∀v,(x,v)∉binds)->bindC kindOf binds m x=m x
 |[],_,_=>rfl
 |(n,v)::r,m,h=>by
  unfold bindC
  rw[TQ λw hw=>h w (Aj _ hw)]
  split
  ·rfl
  ·have:x≠n:=by rintro rfl;exact h v AV
   simp[this]
theorem TR {kindOf:Str->Option NameKind} {x:Str} {v:Value}:∀{P:List Str} {vs:List Value} {i:Nat} {m:Str->Option Value},P.Nodup->P[i]? =some x->vs[i]? =some v->kindOf x=some .local->
  bindL kindOf (P.zip vs) m x=some v
 |[],_,_,_,_,h,_,_=>by simp at h
 |_::_,[],_,_,_,_,h,_=>by simp at h
 |p::P,w::vs,0,m,nd,h1,h2,hk=>by
  simp at h1 h2;subst h1;subst h2
  show bindL kindOf ((p,w)::P.zip vs) m p=_
  unfold bindL
  rw[TN λv hv=>(B9.mp nd).1 (C5 hv).1,if_pos hk]
  simp
 |p::P,w::vs,i+1,m,nd,h1,h2,hk=>by
  show bindL kindOf ((p,w)::P.zip vs) m x=_
  unfold bindL
  exact TR (i:=i) (B9.mp nd).2 (by simpa using h1) (by simpa using h2) hk
theorem TU {kindOf:Str->Option NameKind} {x:Str} {v:Value}:∀{P:List Str} {vs:List Value} {i:Nat} {m:Str->Option Value},P.Nodup->P[i]? =some x->vs[i]? =some v->kindOf x≠some .local->
  bindC kindOf (P.zip vs) m x=some v
 |[],_,_,_,_,h,_,_=>by simp at h
 |_::_,[],_,_,_,_,h,_=>by simp at h
 |p::P,w::vs,0,m,nd,h1,h2,hk=>by
  simp at h1 h2;subst h1;subst h2
  show bindC kindOf ((p,w)::P.zip vs) m p=_
  unfold bindC
  rw[TQ λv hv=>(B9.mp nd).1 (C5 hv).1,if_neg hk]
  simp
 |p::P,w::vs,i+1,m,nd,h1,h2,hk=>by
  show bindC kindOf ((p,w)::P.zip vs) m x=_
  unfold bindC
  exact TU (i:=i) (B9.mp nd).2 (by simpa using h1) (by simpa using h2) hk
noncomputable def ZG (N:List Str) (vs:List V):St:=vs.map some++z9 (N.length-vs.length) none
noncomputable def XA (CX:CXT) (P:Program) (w:World) (K:y3) (mg:Str->Option Value) (base:Heap) (N:List Str) (qual:Str) (scope:Scope) (f:Addr) (cd:Value) (A:Around) (outer:List Env) (s:Shared) (H:Hp) (E:XK):Cx where
 prog:=P
 w:=w
 K:=K
 mg:=mg
 base:=base
 A:=A.deeper (envOfC qual scope s.heap.objs.size f cd)
 N:=N
 s₀:=s
 H₀:=H
 env:=envOfC qual scope s.heap.objs.size f cd
 outer:=outer
 stack:=envOfC qual scope s.heap.objs.size f cd::outer
 ex:=[]
 calm:=true
 fn:=λ_=>true
 zn:=λ_=>false
 pn:=[]
 xe:=λe s'=>wpAny (model P w) (A.deeper (envOfC qual scope s.heap.objs.size f cd)) (leaving (envOfC qual scope s.heap.objs.size f cd) e) (λ_ s''=>CX outer H s E e s'') (λe' s''=>CX outer H s E e' s'') s'
theorem zbJ {sc:Scope} {n:Nat} {x:Str} (h:sc.names.lookup x=some .cell):∃c,(cellsFrom n sc.names []).lookup x=some c:=by
 have q:=CW sc.names n [] (.inl h)
 exact Bg.mp q
theorem TV {CX:CXT} {P:Program} {w:World} {K:y3} {mg:Str->Option Value} {base:Heap} {N ps:List Str} {qual:Str} {scope:Scope} {f:Addr} {cd:Value} {A:Around} {outer:List Env} {s s1:Shared} {H:Hp} {E:XK} {us:List Value} {vs:List V}
  (S:zy N ps scope) (hd:A.handled=none) (e0:WU P w K mg base A outer s H) (hl:vs.length=ps.length) (r:zI vs us)
  (x:InCallC s s.heap.objs.size (bindL (envOfC qual scope s.heap.objs.size f cd).kindOf (ps.zip us) λ_=>none) (cellsFrom (s.heap.objs.size+1) scope.names []) (bindC (envOfC qual scope s.heap.objs.size f cd).kindOf (ps.zip us) λ_=>none) s1):
  Inv (XA CX P w K mg base N qual scope f cd A outer s H E) [] (ZG N vs) H s1:=by
 have fc:ps.length<=N.length:=by have:=congrArg List.length S.pre;rw[Am] at this;omega
 obtain⟨h1,tk,rfl,hk⟩:=x.done
 have gf:∀b:Addr,b∉(XA CX P w K mg base N qual scope f cd A outer s H E).ex:=λb z=>absurd (show b∈([]:List Addr) from z) (by simp)
 refine⟨⟨e0.mod,S.kind,rfl,rfl,z5 _,λy z c h1 h2=> ?_,λy hy=> ?_,λy c _ h=> ?_,λ_=>hd,Around.frames_deeper e0.frames,.inr ⟨rfl,rfl⟩,λb z=>absurd z (gf b),e0.bs,e0.bsz,λb _ _=>gf b,λb z=>absurd z (gf b),e0.funs,e0.frf⟩,
  rfl,e0.bare,Un.kept hk,⟨_,x.toInCall.ns,λi y v h1 h2 h3=> ?_⟩,λy c h=>⟨_,x.cell y c h⟩,e0.hok.fresh (z5 _),λy c h=> ?_,λp hp=>absurd (show p∈([]:List (Addr×Obj)) from hp) (by simp),e0.hok.kept hk,?_⟩
 ·exact name_of_addr x.apart (AO h1) (AO h2)
 ·have hy:scope.names.lookup y=some .cell\/scope.names.lookup y=some .free:=hy
  rcases hy with hy|hy
  ·exact zbJ hy
  ·exact absurd rfl (S.nofree _ (AO hy))
 ·exact Ag (x.above y c (AO h))
 ·have hi:i<vs.length:=by
   unfold ZG at h2
   by_cases hi:i<vs.length
   ·exact hi
   ·rw[z6 (by simpa using hi)] at h2
    rw[BF] at h2
    split at h2<;>cases h2
  have ha:vs[i]? =some v:=by
   unfold ZG at h2
   rw[y9 (by simpa using hi),y8] at h2
   cases e:vs[i]? with
   |none=>rw[e] at h2;cases h2
   |some a=>rw[e] at h2;cases h2;rfl
  obtain⟨u,hu,rv⟩:=r.get ha
  have hp:ps[i]? =some y:=by
   rw[<-S.pre,By ⋯];exact h1
  have p8:ps.Nodup:=by rw[<-S.pre];exact S.nd.sublist (List.take_sublist _ _)
  refine⟨u,rv,?_⟩
  rcases S.par y (z4 hp) with k|k
  ·exact .inl ⟨k,TR p8 hp hu k⟩
  ·obtain⟨c,e⟩:=zbJ (n:=s.heap.objs.size+1) k
   refine .inr ⟨.inl k,c,e,?_⟩
   have q:=x.cell y c e
   rw[TU p8 hp hu (by show scope.names.lookup y≠_;rw[k];decide)] at q
   exact q
 ·exact .inl (e0.hok.fresh (Ag (x.above y c (AO h))))
 ·unfold ZG
  show _=N.length
  rw[A7,y7,List.length_replicate]
  omega
theorem zml {CX:CXT} {P:Program} {w:World} {K:y3} {mg:Str->Option Value} {base:Heap} {k:Nat} {f:Addr} {name qual:Str} {params:Arguments} {body:List Stmt} {scope:Scope} {dV kV doc pm bt ct oc:Value} {an od:Option Addr}
  {eY:Array (Option Value)} {N ps:List Str} {sp:Sp} (lk:K.lookup f=some ⟨oc,od,.func (BL name qual params body scope dV kV doc pm an bt ct),eY⟩) (cF:CN K bt qual=true) (S:zy N ps scope)
  (len:∀vs H Q E,sp vs H Q E->vs.length=ps.length)
  (cQ:∀(A:Around) (outer:List Env) (s:Shared) (H:Hp) (vs:List V) (Q:VK) (E:XK),xo k (A.deeper (envOfC qual scope s.heap.objs.size f bt))->sp vs H Q E->
   ∃t,PSs (XA CX P w K mg base N qual scope f bt A outer s H E) body t/\t {nx:=λ_ H'=>Q .non H',rt:=Q} (ZG N vs) H):
  ZF P w K mg base CX (k+1) f (BL name qual params body scope dV kV doc pm an bt ct) ps sp:=by
 refine⟨len,λA outer s H args us vs Q E hr e0 hb r f7=> ?_⟩
 have hl:=len _ _ _ _ f7
 have KX:K.In s.heap:=e0.mod.kin.keeps λb o e=>(e0.bs b o e).1
 have lim:s.heap.NoLimit:=e0.mod.nolimit.keeps λb o e=>(e0.bs b o e).1
 have fO:∀y∈ps.zip us,scope.names.lookup y.1=some .local\/(scope.names.lookup y.1=some .cell/\((cellsFrom (s.heap.objs.size+1) scope.names []).lookup y.1).isSome=true):=λ⟨n,v⟩ hy=>by
  rcases S.par n (C5 hy).1 with q|q
  ·exact .inl q
  ·exact .inr ⟨q,CW _ _ _ (.inl q)⟩
 refine codeAny_call_function hr.depth (KX _ _ lk) rfl S.co S.gen rfl (F7 KX cF) (hb _ _ _ _ ?_)
 refine wpAny_newFunctionEnv_cells S.kind fO λenv he s1 x=> ?_
 subst he
 refine⟨lim.keeps x.toInCall.keep,codeAny_func ?_⟩
 obtain⟨t,ht,hq⟩:=cQ A outer s H vs Q E (hr.deeper _) f7
 have I:Inv (XA CX P w K mg base N qual scope f bt A outer s H E) [] (ZG N vs) H s1:=TV S hr.hd e0 hl r x
 refine wpAny_mono (ht [] s1 (ZG N vs) H _ I hq) (λfl s' hs=> ?_) λe s' hs=>hs
 have fin:∀{σ':St} {H':Hp} {v:V} {u:Value},Inv (XA CX P w K mg base N qual scope f bt A outer s H E) [] σ' H' s'->zD v u->Q v H'->CE outer P w H s Q u s':=
  λ{σ' H' v u} J rv q=>⟨v,H',J.os,J.bare,J.base,J.hok,rv,q⟩
 cases fl with
 |ret u=>
  obtain⟨v,σ',H',J,rv,q⟩:=hs
  exact fin J rv q
 |next=>
  obtain⟨σ',H',J,q⟩:=hs
  exact fin (v:=V.non) (u:=Value.none) J rfl q
 |brk=>
  obtain⟨_,_,_,q⟩:=hs
  exact AF q
 |cont=>
  obtain⟨_,_,_,q⟩:=hs
  exact AF q
section
variable {X:Cx} {x:Str} {p pos:Pos} {e:Expr} {es:List Expr} {t:TA} {id T:String} {r:List V->Hp->VK->Prop}
def tCB (r:List V->Hp->VK->Prop) (t:TA):TE:=λσ H Q=>t σ H λvs H1=>r vs H1 Q
theorem zM (hc:ZD X (.builtin id) r) (hg:Gl X x) (hm:X.mg x=none) (hv:bootBuiltins x=some (.builtin id)) (ha:PA X (e::es) t) (hn:x≠"__name__":=by decide) (g8:(x==("__debug__":Str))=false:=by decide)
  (he:starEach (e::es) X.env=(false,eval e X.env)::starEach es X.env:=by rfl) (fc:(backTo pos (starEach es X.env)).any (·.1)=false:=by rfl):PE X (.Call (.Name x p) (e::es) [] pos) (tCB r t):=by
 intro pins s σ H Q I h
 refine wpAny_Call_Name_kw (va I hg hm hv ?_ hn g8)
 refine PyProof.Rows.callWith_builtin1 (thn (ha pos pins s σ H _ I h) ?_) he fc
 rintro us s1 ⟨vs,H1,I1,r1,q1⟩
 exact hc pins s1 σ H1 vs us Q I1 r1 q1
theorem TW (hc:ZD X (.type T) r) (hg:Gl X x) (hm:X.mg x=none) (hv:bootBuiltins x=some (.type T)) (ha:PA X (e::es) t) (hn:x≠"__name__":=by decide) (g8:(x==("__debug__":Str))=false:=by decide)
  (he:starEach (e::es) X.env=(false,eval e X.env)::starEach es X.env:=by rfl) (fc:(backTo pos (starEach es X.env)).any (·.1)=false:=by rfl):PE X (.Call (.Name x p) (e::es) [] pos) (tCB r t):=by
 intro pins s σ H Q I h
 refine wpAny_Call_Name_kw (va I hg hm hv ?_ hn g8)
 refine AB (thn (ha pos pins s σ H _ I h) ?_) he fc
 rintro us s1 ⟨vs,H1,I1,r1,q1⟩
 exact hc pins s1 σ H1 vs us Q I1 r1 q1
end
end L2
namespace HT
open PySem PyProof.Rows
noncomputable def ZH:List Int->List Int->Bool
 |[],[]=>false
 |[],_::_=>true
 |_::_,[]=>false
 |x::xs,y::ys=>if x=y then ZH xs ys else decide (x<y)
theorem Uu (x y:Int) (xs ys:List Int):ZH (x::xs) (y::ys)=if x=y then ZH xs ys else decide (x<y):=rfl
theorem Tn:ZH [] []=false:=rfl
theorem Uv (y:Int) (ys:List Int):ZH [] (y::ys)=true:=rfl
theorem Uw (x:Int) (xs:List Int):ZH (x::xs) []=false:=rfl
theorem zf7 (A:Around) (s:Shared) (a:Int) (t:Tok) (c:Int) (u:Tok):∃e,SeqAt.EqAt A s (.int a t) (.int c u) e/\(e=true↔a=c):=
 ⟨(a==c),SeqAt.EqAt.int_int a t c u,by simp⟩
theorem zf8 (A:Around) (s:Shared) (a:Int) (t:Tok) (c:Int) (u:Tok) (prog:Program) (w:World) (E:Value->Shared->Prop) (Q:Value->Shared->Prop) (h:Q (.bool (decide (a<c))) s):
  wpAny (model prog w) A (richCompare .Lt (.int a t) (.int c u)) Q E s:=
 (PyProof.Rows.lt_int h:wpAny (model prog w) A (compareOp .Lt (.int a t) (.int c u)) Q E s)
section
open PySem.SeqAt
open PySem.AutoSeq1 (wpAny_loadPart')
open PySem.MeetsSeq PySem.MeetsSeq2 PySem.MeetsSeq3
theorem To (l b:Addr) (items bD:Array Value) (n n2:Nat) (dd oF:Option Addr) (sl jF:Array (Option Value)) (ns ms:List Int) (hi:IntsAre items.toList ns) (hj:IntsAre bD.toList ms):
  Meets (Builtin.«tuple.__lt__» ⟨[.ref l,.ref b],[]⟩)
   (λ_ R s=>s.heap.get? l=some {cls:= .type "tuple",dict:=dd,data:= .seq items n,slots:=sl}/\s.heap.get? b=some {cls:= .type "tuple",dict:=oF,data:= .seq bD n2,slots:=jF}/\
    R (.ok (.ret (.bool (ZH ns ms)))) s):=
 .of_wp λprog w A R s h=>by
  obtain⟨hp,g,d,tk,os⟩:=s;obtain⟨hl,hb,h⟩:=h
  have f2:=AutoSeq1.sub_tuple_tuple
  have z1:items.size=ns.length:=by rw[<-hi.length];simp
  have z2:bD.size=ms.length:=by rw[<-hj.length];simp
  wp_walk using wpAny_loadPart' hl,wpAny_loadPart' hb,wpAny_forIn_list _ (λrest b s'=>b.1=none/\s'=⟨hp,g,d,tk,os⟩/\∃(vs ws:List Value) (ns' ms':List Int),rest=vs.zip ws/\
   IntsAre vs ns'/\IntsAre ws ms'/\ns'.length+bD.size=ms'.length+items.size/\R (.ok (.ret (.bool (ZH ns' ms')))) ⟨hp,g,d,tk,os⟩) _
  case turn=>
   rintro⟨y,x⟩ rest b s' ⟨dB,rfl,vs,ws,ns',ms',hz,mR,lz,hlen,hR⟩
   cases mR with
   |nil=>rw[List.zip_nil_left] at hz;cases hz
   |cons a t mQ=>
    cases lz with
    |nil=>rw[List.zip_nil_right] at hz;cases hz
    |cons c u mN=>
     rw[Cz] at hz
     injection hz with rH k4
     injection rH with hy hx
     subst hy hx
     rw[Uu] at hR
     simp only[Ah] at hlen
     obtain⟨e,he,kz⟩:=zf7 A.in1 ⟨hp,g,d,tk,os⟩ a t c u
     refine wpAny_bind (he prog w _ _ ?_)
     cases e with
     |true=>
      rw[if_pos (kz.mp rfl)] at hR
      wp_walk
      exact⟨rfl,rfl,_,_,_,_,k4,mQ,mN,⋯,hR⟩
     |false=>
      rw[if_neg (λq=>absurd (kz.mpr q) Ai)] at hR
      have sj:=zf8 A.in1 ⟨hp,g,d,tk,os⟩ a t c u prog w
      wp_walk using sj
      exact⟨_,rfl,by simpa using hR⟩
  case fin=>
   rintro⟨b1,b2⟩ s' ⟨dB,rfl,vs,ws,ns',ms',hz,mR,lz,hlen,hR⟩
   simp only at dB
   subst dB
   have hv:ZH ns' ms'=decide (items.size<bD.size):=by
    cases mR with
    |nil=>
     cases lz with
     |nil=>
      simp only[De] at hlen
      rw[Tn]
      exact (decide_eq_false ⋯).symm
     |cons c u hw=>
      simp only[De,Ah] at hlen
      rw[Uv]
      exact (decide_eq_true ⋯).symm
    |cons a t hv=>
     cases lz with
     |nil=>
      simp only[De,Ah] at hlen
      rw[Uw]
      exact (decide_eq_false ⋯).symm
     |cons c u hw=>
      rw[Cz] at hz
      cases hz
   rw[hv] at hR
   wp_walk
   exact⟨_,rfl,by simpa [Builtin.Tuple.tupleCompareSizes] using hR⟩
  case h=>
   exact⟨rfl,rfl,items.toList,bD.toList,ns,ms,rfl,hi,hj,⋯,h⟩
end
section
variable {prog:Program} {w:World} {A:Around} {E:Value->Shared->Prop} {s:Shared}
theorem zc1 {l b:Addr} {items bD:Array Value} {ns ms:List Int} {Q:Value->Shared->Prop} (hl:IsTup s.heap l items) (hb:IsTup s.heap b bD) (hi:IntsAre items.toList ns) (hj:IntsAre bD.toList ms)
  (hu:A.units<cLine) (h:Q (.bool (ZH ns ms)) s):wpAny (model prog w) A (compareOp .Lt (.ref l) (.ref b)) Q E s:=by
 obtain⟨⟨cls,dd,data,sl⟩,ho,hc,n,hd⟩:=id hl
 obtain⟨⟨uo,oF,data2,jF⟩,lE,dz,n2,hd2⟩:=id hb
 simp only at hc hd dz hd2
 subst hc hd dz hd2
 exact richCompare_meets_room (op:= .Lt) ⟨_,ho,rfl⟩ ⟨_,lE,rfl⟩ PySem.F.slot_tuple_lt PySem.F.entry_tuple_lt (PySem.F.args_tuple_lt_2 _ _) (To l b items bD n n2 dd oF sl jF ns ms hi hj)
  ⟨ho,lE,show Value.bool (ZH ns ms)≠Value.notImplemented/\Q (.bool (ZH ns ms)) s from ⟨(λx=>nomatch x),h⟩⟩ hu
noncomputable def sIx (n d:Nat):Option Int->Nat
 |none=>d
 |some v=>if v<0 then (v+(n:Int)).toNat else min v.toNat n
theorem zbK (n d:Nat):sIx n d none=d:=rfl
theorem zd3 (n d k:Nat):sIx n d (some (k:Int))=min k n:=by
 show (if (k:Int)<0 then ((k:Int)+(n:Int)).toNat else min (k:Int).toNat n)=min k n
 rw[if_neg ⋯,Ae]
end
end HT
namespace L2
open PySem PySem.Spec PyProof.Rows
abbrev TO:=St->Hp->(Option Int->Hp->Prop)->Prop
def PO (X:Cx) (e:Option Expr) (t:TO):Prop:=
 ∀(pins:List (Addr×Obj)) (s:Shared) (σ:St) (H:Hp) (Q:Option Int->Hp->Prop),Inv X pins σ H s->t σ H Q->
  wpAny (model X.prog X.w) X.A (evalPart e X.env) (λu s'=>∃o H',Inv X pins σ H' s'/\IsPart u o/\Q o H') X.xe s
def zd4:TO:=λ_ H Q=>Q none H
def zj3 (t:TE):TO:=λσ H Q=>t σ H λx H1=>∃i,x= .int i/\Q (some i) H1
theorem Ux {ns:List Int}:∀{us:List Value},zI (ns.map V.int) us->IntsAre us ns:=by
 induction ns with
 |nil=>intro us r;rw[F8] at r;cases r;exact .nil
 |cons n ns ih=>
  intro us r
  rw[A6] at r
  cases r with
  |cons r1 r2=>
   obtain⟨t,e⟩:=r1
   subst e
   exact .cons n t (ih r2)
section
variable {X:Cx} {e:Expr} {te:TE} {lo hi:Option Expr} {tl th:TO} {pos p2:Pos}
theorem VR:PO X none zd4:=by
 intro pins s σ H Q I h
 rw[evalPart_none]
 exact wpAny_pure ⟨none,H,I,.none,h⟩
theorem VS (h:PE X e te):PO X (some e) (zj3 te):=by
 intro pins s σ H Q I hw
 rw[evalPart_some]
 refine thn (h pins s σ H _ I hw) ?_
 rintro u s1 ⟨x,H1,I1,r1,q1⟩
 obtain⟨i,rfl,q⟩:=q1
 obtain⟨t,rfl⟩:=r1
 exact⟨some i,H1,I1,.int i t,q⟩
def SlR (X:Cx) (r:V->Option Int->Option Int->Hp->VK->Prop):Prop:=
 ∀(pins:List (Addr×Obj)) (s:Shared) (σ:St) (H:Hp) (x:V) (v vl vu:Value) (lo hi:Option Int) (sl:Addr) (Q:VK),Inv X pins σ H s->zD x v->s.heap.IsSliceOf sl vl vu .none->IsPart vl lo->IsPart vu hi->r x lo hi H Q->
  ∃T id,typeLookup (.type T) "__getitem__"=pure (some (.builtin id))/\s.TypeIs v T/\wpAny (model X.prog X.w) X.A (getItem v (.ref sl)) (EP X pins σ Q) X.xe s
def tSl (r:V->Option Int->Option Int->Hp->VK->Prop) (te:TE) (tl th:TO):TE:=λσ H Q=>te σ H λx H1=>tl σ H1 λl H2=>th σ H2 λu H3=>r x l u H3 Q
theorem Wi {r:V->Option Int->Option Int->Hp->VK->Prop} (hr:SlR X r) (he:PE X e te) (hl:PO X lo tl) (hu:PO X hi th):PE X (.Subscript e (.Slice lo hi none p2) pos) (tSl r te tl th):=by
 intro pins s σ H Q I h
 refine Subscript_ (thn (he pins s σ H _ I h) ?_)
 rintro v s1 ⟨x,H1,I1,r1,q1⟩
 refine wpAny_Slice (thn (hl pins s1 σ H1 _ I1 q1) ?_)
 rintro vl s2 ⟨l,H2,I2,pl,q2⟩
 refine thn (hu pins s2 σ H2 _ I2 q2) ?_
 rintro vu s3 ⟨u,H3,I3,pu,q3⟩
 rw[evalPart_none]
 refine wpAny_pure ?_
 have I4:Inv X pins σ H3 {s3 with heap:=s3.heap.push {cls:= .type "slice",data:= .fields #[vl,vu,.none]}}:=I3.kept (t':=s3.toks) λb ob q=>Heap.get?_push_of_some _ q
 obtain⟨T,id,hT,ht,hg⟩:=hr pins {s3 with heap:=s3.heap.push {cls:= .type "slice",data:= .fields #[vl,vu,.none]}} σ H3 x v vl vu l u s3.heap.objs.size Q I4 r1 (Heap.IsSliceOf.new ..) pl pu q3
 show wpAny (model X.prog X.w) X.A (subscriptTail e (.Slice lo hi none p2) v (.ref s3.heap.objs.size)) (EP X pins σ Q) X.xe {s3 with heap:=s3.heap.push {cls:= .type "slice",data:= .fields #[vl,vu,.none]}}
 exact tail_any (ops:=[.ref s3.heap.objs.size,v]) ht hT hg (by with_unfolding_all rfl)
noncomputable def ze6 (xs:List V) (lo hi:Option Int):List V:=(xs.drop (HT.sIx xs.length 0 lo)).take (HT.sIx xs.length xs.length hi-HT.sIx xs.length 0 lo)
theorem zbL (xs:List V) (lo hi:Option Int):(ze6 xs lo hi).length<=xs.length:=by
 unfold ze6
 rw[Am,B3]
 omega
end
noncomputable def ixN (n:Nat) (i:Int):Option Nat:=if 0<=i then (if i<n then some i.toNat else none) else if -(n:Int)<=i then some (i+n).toNat else none
noncomputable def atI {α:Type} (xs:List α) (i:Int):Option α:=(ixN xs.length i).bind λj=>xs[j]?
theorem zd5 {n:Nat} {i:Int} {j:Nat} (h:ixN n i=some j):seqIndex? i n=some j/\j<n/\ -(n:Int)<=i/\i<n:=by
 unfold ixN at h
 by_cases h0:0<=i
 ·rw[if_pos h0] at h
  by_cases h1:i<n
  ·rw[if_pos h1] at h
   have e:i.toNat=j:=AW h
   exact⟨by rw[seqIndex_of h0 h1,e],⋯,⋯,h1⟩
  ·rw[if_neg h1] at h;cases h
 ·rw[if_neg h0] at h
  by_cases h1: -(n:Int)<=i
  ·rw[if_pos h1] at h
   have e:(i+n).toNat=j:=AW h
   exact⟨by rw[seqIndex_neg ⋯ h1,e],⋯,h1,⋯⟩
  ·rw[if_neg h1] at h;cases h
theorem zaJ {α:Type} {xs:List α} {i:Int} {v:α} (h:atI xs i=some v):∃j,seqIndex? i xs.length=some j/\xs[j]? =some v/\j<xs.length/\ -(xs.length:Int)<=i/\i<xs.length:=by
 unfold atI at h
 cases e:ixN xs.length i with
 |none=>rw[e] at h;cases h
 |some j=>
  rw[e] at h
  obtain⟨h1,h2,h3,h4⟩:=zd5 e
  exact⟨j,h1,h,h2,h3,h4⟩
def ziC (b:Expr):Prop:=∀o i,subscripted b false o i=operate [o,i] (getItem o i)
def IxR (X:Cx) (r:R2):Prop:=
 ∀(value slice:Expr) (pins:List (Addr×Obj)) (s:Shared) (σ:St) (H:Hp) (x y:V) (v u:Value) (Q:VK),Inv X pins σ H s->zD x v->zD y u->r x y H Q->
  subscripted slice false v u=operate [v,u] (getItem v u)->wpAny (model X.prog X.w) X.A (subscriptTail value slice v u) (EP X pins σ Q) X.xe s
def MtR (X:Cx) (id:String) (r:V->List V->Hp->VK->Prop):Prop:=
 ∀(pins:List (Addr×Obj)) (s:Shared) (σ:St) (H:Hp) (x:V) (xs:List V) (v:Value) (us:List Value) (Q:VK),Inv X pins σ H s->zD x v->zI xs us->r x xs H Q->
  wpAny (model X.prog X.w) X.A (call (.builtin id) (v::us)) (EP X pins σ Q) X.xe s
section
variable {X:Cx} {a b:Expr} {ta tb:TE} {pos:Pos}
theorem IxR.or {r r':R2} (h:IxR X r) (h':IxR X r'):IxR X (λx y H Q=>r x y H Q\/r' x y H Q):=by
 intro value slice pins s σ H x y v u Q I rx ry q hs
 rcases q with q|q
 ·exact h value slice pins s σ H x y v u Q I rx ry q hs
 ·exact h' value slice pins s σ H x y v u Q I rx ry q hs
theorem zmm {r:R2} (hr:IxR X r) (ha:PE X a ta) (hb:PE X b tb) (hs:ziC b):PE X (.Subscript a b pos) (tOp r ta tb):=by
 intro pins s σ H Q I h
 exact Subscript_ (zkP ha hb I h λv u s2 x y H2 I2 rx ry q=>hr a b pins s2 σ H2 x y v u Q I2 rx ry q (hs _ _))
def ziD (K:y3):R2:=λx y H Q=>∃p xs i v,x= .ref p/\y= .int i/\SqL K H p xs/\atI xs i=some v/\Q v H
def ziE (K:y3):R2:=λx y H Q=>∃p xs i v,x= .ref p/\y= .int i/\SqT K H p xs/\atI xs i=some v/\Q v H
def zmn:R2:=λx y H Q=>∃z i c,x= .str z/\y= .int i/\z.length<=sizeLine/\atI z.cps.toList i=some c/\Q (.str ⟨#[c]⟩) H
theorem zd6:IxR X (ziD X.K):=by
 intro value slice pins s σ H x y v u Q I rx ry h hs
 obtain⟨p,xs,i,z,rfl,rfl,hq,he,q⟩:=h
 cases rx
 obtain⟨t,rfl⟩:=ry
 obtain⟨ae,r,pl,hz⟩:=I.list hq
 obtain⟨j,h1,h2,h3,h4,h5⟩:=zaJ he
 obtain⟨w,ew,rw'⟩:=r.get h2
 have hl:=r.length
 have hn:=Ut
 have fin:EP X pins σ Q w s:=⟨z,H,I,rw',q⟩
 by_cases h0:0<=i
 ·have hj:i.toNat=j:=by
   rw[seqIndex_of h0 h5] at h1
   exact AW h1
  exact item_listR pl.isList h0 ⋯ (by rw[hj];simpa using ew) fin hs
 ·have hj:(i+(ae.toArray.size:Int)).toNat=j:=by
   rw[seqIndex_neg ⋯ h4] at h1
   rw[A3,<-hl]
   exact AW h1
  exact subscriptTail_builtinR (x:=w) pl.isList.typeIs slot_list_getitem.lookup
   (wpAny_getItem_list_neg (Q:=λr s'=>r=w/\EP X pins σ Q r s') pl.isList ⋯ (by rw[A3]<;>omega) ⋯ (by rw[hj];simpa using ew) ⟨rfl,fin⟩) hs
theorem zf9:IxR X (ziE X.K):=by
 intro value slice pins s σ H x y v u Q I rx ry h hs
 obtain⟨p,xs,i,z,rfl,rfl,hq,he,q⟩:=h
 cases rx
 obtain⟨t,rfl⟩:=ry
 obtain⟨ae,r,pl,hz⟩:=I.tuple hq
 obtain⟨j,h1,h2,h3,h4,h5⟩:=zaJ he
 obtain⟨w,ew,rw'⟩:=r.get h2
 have hl:=r.length
 have hn:=Ut
 have fin:EP X pins σ Q w s:=⟨z,H,I,rw',q⟩
 exact subscriptTail_builtinR (x:=w) pl.typeIs slot_tuple_getitem.lookup
  (getItem_tuple (j:=j) (Q:=λr s'=>r=w/\EP X pins σ Q r s') pl ⋯ ⋯ (by rw[A3,<-hl];exact h1) (by simpa using ew) ⟨rfl,fin⟩) hs
theorem zkU:IxR X zmn:=by
 intro value slice pins s σ H x y v u Q I rx ry h hs
 obtain⟨z,i,c,rfl,rfl,hz,he,q⟩:=h
 obtain⟨t,rfl⟩:=rx
 obtain⟨t',rfl⟩:=ry
 obtain⟨j,h1,h2,h3,h4,h5⟩:=zaJ he
 have hl:z.cps.toList.length=z.length:=by simp[Str.length]
 rw[hl] at h1 h4 h5
 have hn:=Ut
 exact tail_any (typeIs_str s z t) slot_str_getitem.lookup (getItem_str (c:=c) (by
  have e1:decide (i< -(2^63:Int))=false:=decide_eq_false ⋯
  have e2:decide (i≥2^63)=false:=decide_eq_false ⋯
  rw[e1,e2,EJ]) (by rw[h1];simpa using h2) ⟨.str ⟨#[c]⟩,H,I.tok _,⟨_,rfl⟩,q⟩) hs
def rIx (K:y3):R2:=λx y H Q=>ziD K x y H Q\/ziE K x y H Q\/zmn x y H Q
theorem zkV:IxR X (rIx X.K):=zd6.or (zf9.or zkU)
theorem zc2 (ae:List Value) (n j:Nat) (u:Value):Obj.mapSeq (·.setIfInBounds j u) {cls:= .type "list",data:= .seq ae.toArray n}={cls:= .type "list",data:= .seq (ae.set j u).toArray n}:=by
 simp[Obj.mapSeq]
theorem Inv.lst {pins:List (Addr×Obj)} {σ:St} {H:Hp} {s:Shared} {p:Addr} {xs:List V} (I:Inv X pins σ H s) (h:H p=some (.lst xs)):
  ∃(ae:List Value) (n:Nat),zI xs ae/\s.heap.get? p=some {cls:= .type "list",data:= .seq ae.toArray n}/\xs.length<=sizeLine:=by
 obtain⟨z,ae,n,r,e⟩:=I.hok p _ h
 exact⟨ae,n,r,e,z⟩
theorem Inv.lstUpd {pins:List (Addr×Obj)} {σ:St} {H:Hp} {s:Shared} {p:Addr} {xs ys:List V} {ae its':List Value} {n n':Nat} {f:Obj->Obj} (I:Inv X pins σ H s) (h:H p=some (.lst xs))
  (ho:s.heap.get? p=some {cls:= .type "list",data:= .seq ae.toArray n}) (hf:f {cls:= .type "list",data:= .seq ae.toArray n}={cls:= .type "list",data:= .seq its'.toArray n'}) (r:zI ys its') (hz:ys.length<=sizeLine) (t:Nat):
  Inv X pins σ (upd H p (.lst ys)) {s with heap:=s.heap.update p f,toks:=t}:=by
 have e:(s.heap.update p f).get? p=some {cls:= .type "list",data:= .seq its'.toArray n'}:=by
  rw[Heap.get?_update_self f ho (by rw[hf]<;>rfl),hf]
 refine I.write (x:=p) (e:=p) (by rw[h];trivial) (.inl rfl) (λb u hb q=>(Heap.get?_update_other _ _ (AQ hb)).trans q) ⟨_,e⟩ ?_
 exact⟨hz,its',n',r,e⟩
def zj4:V->V->V->Hp->(Hp->Prop)->Prop:=λo i v H Q=>∃p xs k j,o= .ref p/\i= .int k/\H p=some (.lst xs)/\ixN xs.length k=some j/\Q (upd H p (.lst (xs.set j v)))
theorem zbM:zl9 X zj4:=by
 intro pins s σ H o i v ov iv u Q I ro ri rv h
 obtain⟨p,xs,k,j,rfl,rfl,hp,hj,q⟩:=h
 cases ro
 obtain⟨t,rfl⟩:=ri
 obtain⟨ae,n,r,ho,hz⟩:=I.lst hp
 obtain⟨h1,h2,h3,h4⟩:=zd5 hj
 have hl:=r.length
 have hn:=Ut
 have I':Inv X pins σ (upd H p (.lst (xs.set j v))) {s with heap:=s.heap.update p (Obj.mapSeq (·.setIfInBounds j u))}:=
  I.lstUpd hp ho (zc2 ae n j u) (r.set rv j) (by rw[E9];exact hz) s.toks
 by_cases h0:0<=k
 ·have hk:k.toNat=j:=by
   rw[seqIndex_of h0 h4] at h1
   exact AW h1
  exact PySem.W.ki_setAt ho h0 ⋯ (by rw[A3,<-hl];exact h4) (by rw[hk];exact⟨_,I',q⟩)
 ·have hk:(k+(ae.toArray.size:Int)).toNat=j:=by
   rw[seqIndex_neg ⋯ h3] at h1
   rw[A3,<-hl]
   exact AW h1
  exact PySem.W.ki_setBack ho ⋯ (by rw[A3,<-hl];exact h3) ⋯ (by rw[hk];exact⟨_,I',q⟩)
theorem zaK (lo hi:Option Int) (n:Nat):(sliceBounds lo hi none n).1=((HT.sIx n 0 lo:Nat):Int)/\(sliceBounds lo hi none n).2.1=((HT.sIx n n hi:Nat):Int)/\(sliceBounds lo hi none n).2.2=1:=by
 refine⟨?_,?_,rfl⟩
 ·cases lo with
  |none=>simp[sliceBounds,HT.sIx]
  |some i=>
   simp only[sliceBounds,HT.sIx,FG,show (1:Int)>0 by decide,if_true]
   by_cases h:i<0
   ·simp only[h,if_true]<;>omega
   ·simp only[h,if_false]<;>omega
 ·cases hi with
  |none=>simp[sliceBounds,HT.sIx]
  |some i=>
   simp only[sliceBounds,HT.sIx,FG,show (1:Int)>0 by decide,if_true]
   by_cases h:i<0
   ·simp only[h,if_true]<;>omega
   ·simp only[h,if_false]<;>omega
theorem Tp (ae:List Value) (lo hi:Option Int):slicePick ae.toArray lo hi none=((ae.drop (HT.sIx ae.length 0 lo)).take (HT.sIx ae.length ae.length hi-HT.sIx ae.length 0 lo)).toArray:=by
 obtain⟨h1,h2,h3⟩:=zaK lo hi ae.toArray.size
 unfold slicePick
 rw[h1,h2,h3]
 simp only[sliceRange_one,pick_run,A3]<;>rfl
def zga (K:y3):V->Option Int->Option Int->Hp->VK->Prop:=λx lo hi H Q=>∃a xs,x= .ref a/\SqL K H a xs/\∀p,H p=none->Q (.ref p) (upd H p (.lst (ze6 xs lo hi)))
theorem ziF:SlR X (zga X.K):=by
 intro pins s σ H x v vl vu lo hi sl Q I rx hs pl pu h
 obtain⟨a,xs,rfl,hx,q⟩:=h
 cases rx
 obtain⟨ae,r,ht,hz⟩:=I.list hx
 have hlen:=r.length
 refine⟨"list",_,slot_list_getitem.lookup,ht.isList.typeIs,?_⟩
 refine wpAny_getItem_list_slice ht.isList hs pl pu .none (by simp) ?_ (by rw[A3]<;>omega)
 rw[Tp,<-hlen]
 refine⟨.ref s.heap.objs.size,_,I.laid (t':=s.toks) (o:= .lst (ze6 xs lo hi)) (λb ob q=>Heap.get?_push_of_some _ q) (z5 _) ?_,rfl,q _ (I.hok.fresh (z5 _))⟩
 exact⟨A2 (zbL xs lo hi) hz,_,0,(r.drop (HT.sIx xs.length 0 lo)).take (HT.sIx xs.length xs.length hi-HT.sIx xs.length 0 lo),Heap.get?_push_size _ rfl⟩
theorem zaL:ZD X (.builtin "len") (λxs H Q=>∃p ys,xs=[.ref p]/\(SqL X.K H p ys\/SqT X.K H p ys)/\Q (.int ys.length) H):=by
 intro pins s σ H xs us Q I r h
 obtain⟨p,ys,rfl,hq,q⟩:=h
 obtain⟨u,rfl,rx⟩:=Yv r
 cases rx
 have hn:=Ut
 rcases hq with hq|hq
 ·obtain⟨ae,r',pl,hz⟩:=I.list hq
  have hlen:=r'.length
  exact Calls.call_len_list pl.isList (by simp only[A3]<;>omega) ⟨.int ys.length,H,I.tok _,⟨s.toks+1,by rw[A3,hlen]⟩,q⟩
 ·obtain⟨ae,r',pl,hz⟩:=I.tuple hq
  have hlen:=r'.length
  exact len_tuple pl (by simp only[A3]<;>omega) ⟨.int ys.length,H,I.tok _,⟨s.toks+1,by rw[A3,hlen]⟩,q⟩
theorem zaM:ZD X (.type "list") (λxs H Q=>∃p ys,xs=[.ref p]/\(SqL X.K H p ys\/SqT X.K H p ys)/\∀l,H l=none->Q (.ref l) (upd H l (.lst ys))):=by
 intro pins s σ H xs us Q I r h
 obtain⟨p,ys,rfl,hq,q⟩:=h
 obtain⟨u,rfl,rx⟩:=Yv r
 cases rx
 have fin:∀(ae:List Value),zI ys ae->ys.length<=sizeLine->∀(h':Heap) (c':Nat),(∀b o',s.heap.get? b=some o'->h'.get? b=some o')->
   h'.get? s.heap.objs.size=some {cls:= .type "list",dict:=none,data:= .seq ae.toArray c',slots:= #[]}->EP X pins σ Q (.ref s.heap.objs.size) {s with heap:=h'}:=λae r' hz h' c' kp e=>
  ⟨.ref s.heap.objs.size,_,I.laid (t':=s.toks) kp (z5 _) (show yj X.prog X.w _ h' _ (.lst ys) from ⟨hz,ae,c',r',e⟩),rfl,q _ (I.hok.fresh (z5 _))⟩
 rcases hq with hq|hq
 ·obtain⟨ae,r',pl,hz⟩:=I.list hq
  have hlen:=r'.length
  obtain⟨o,ho,hc,n,hd⟩:=pl.isList
  exact call_list_seq p (.inl rfl) ho hc hd (λh' c' kp e=>fin ae r' hz h' c' kp e) (by simp only[A3]<;>omega)
 ·obtain⟨ae,r',pl,hz⟩:=I.tuple hq
  have hlen:=r'.length
  obtain⟨o,ho,hc,n,hd⟩:=pl
  exact call_list_seq p (.inr rfl) ho hc hd (λh' c' kp e=>fin ae r' hz h' c' kp e) (by simp only[A3]<;>omega)
def tyV (K:y3) (T:String) (x:V) (H:Hp):Prop:=match x with
 | .str _=>T="str"
 | .int _=>T="int"
 | .ref p=>(T="list"/\∃xs,SqL K H p xs)\/(T="tuple"/\∃o,K.lookup p=some o/\o.cls= .type "tuple"/\o.dict=none)\/
   (T="dict"/\((∃kvs,Rd H p (.dK kvs))\/∃kvs,H p=some (.dT kvs)))\/(T="set"/\∃S n,H p=some (.set S n))
 |_=>False
theorem zgb {pins:List (Addr×Obj)} {σ:St} {H:Hp} {s:Shared} {T:String} {x:V} {v:Value} (I:Inv X pins σ H s) (r:zD x v) (ty:tyV X.K T x H):
  s.TypeIs v T/\∀a,v= .ref a->∃ob,s.heap.get? a=some ob/\ob.dict=none:=by
 cases x with
 |str z=>
  obtain⟨t,rfl⟩:=r
  cases (show T="str" from ty)
  exact⟨typeIs_str s z t,λ_ e=>nomatch e⟩
 |int i=>
  obtain⟨t,rfl⟩:=r
  cases (show T="int" from ty)
  exact⟨typeIs_int s i t,λ_ e=>nomatch e⟩
 |ref p=>
  cases r
  rcases ty with⟨rfl,xs,hq⟩|⟨rfl,o,hk,hc,hd⟩|⟨rfl,hk⟩|⟨rfl,S,n,hk⟩
  ·obtain⟨ae,_,pl,_⟩:=I.list hq
   refine⟨pl.isList.typeIs,λa e=> ?_⟩
   cases e
   obtain⟨o,n,e,c,hd,_⟩:=pl
   exact⟨o,e,hd⟩
  ·refine⟨⟨o,I.kIn p o hk,hc⟩,λa e=> ?_⟩
   cases e
   exact⟨o,I.kIn _ o hk,hd⟩
  ·have z:∃o,s.heap.get? p=some o/\o.ExactDict:=by
    rcases hk with⟨kvs,hk⟩|⟨kvs,hk⟩
    ·obtain⟨_,_,_,_,o,_,_,e,ex,_⟩:=hk.ok I.hok
     exact⟨o,e,ex⟩
    ·obtain⟨_,_,_,_,o,_,_,e,ex,_⟩:=I.hok p _ hk
     exact⟨o,e,ex⟩
   obtain⟨o,e,ex⟩:=z
   refine⟨⟨o,e,ex.1⟩,λa e2=> ?_⟩
   cases e2
   exact⟨o,e,ex.2.1⟩
  ·obtain⟨o,_,_,_,e,ex,_⟩:=I.hok p _ hk
   refine⟨⟨o,e,ex.1⟩,λa e2=> ?_⟩
   cases e2
   exact⟨o,e,ex.2.1⟩
 |_=>exact AF ty
def zkW (K:y3) (T:String) (r:V->List V->Hp->VK->Prop) (to:TE):TE:=λσ H Q=>to σ H λx H1=>tyV K T x H1/\r x [] H1 Q
def tBM (K:y3) (T:String) (r:V->List V->Hp->VK->Prop) (to:TE) (t:TA):TE:=λσ H Q=>to σ H λx H1=>tyV K T x H1/\t σ H1 λxs H2=>r x xs H2 Q
variable {o e:Expr} {es:List Expr} {to:TE} {t:TA} {name:Str} {apos aR:Pos} {T id:String} {r:V->List V->Hp->VK->Prop}
theorem zc3 (pa:PlainAttrs T) (slot:Slot T name id) (mS:typeOf (.builtin id)=pure (.type "method_descriptor")) (hm:MtR X id r) (ho:PE X o to)
  (fU:attributeBase o name X.env (eval o X.env)=eval o X.env:=by rfl) (hline:(apos.endLine==aR.line)=true:=by rfl):PE X (.Call (.Attribute o name apos) [] [] aR) (zkW X.K T r to):=by
 intro pins s σ H Q I h
 refine wpAny_Call_method0_late fU hline (thn (ho pins s σ H _ I h) ?_)
 rintro v s1 ⟨x,H1,I1,r1,ty,q1⟩
 obtain⟨h1,h2⟩:=zgb I1 r1 ty
 exact⟨T,id,pa,slot,mS,h1,h2,Calls.callWith_builtin rfl (PySem.evalArgs_none (hm pins s1 σ H1 x [] v [] Q I1 r1 .nil q1))⟩
theorem Yx (pa:PlainAttrs T) (slot:Slot T name id) (mS:typeOf (.builtin id)=pure (.type "method_descriptor")) (hm:MtR X id r) (ho:PE X o to) (ha:PA X (e::es) t)
  (fU:attributeBase o name X.env (eval o X.env)=eval o X.env:=by rfl)
  (o3:((backTo aR (starEach (e::es) X.env)).all (λx=> !x.1)&&(backToKw aR (keywordEach [] X.env)).all (λx=>x.1.isSome)
   &&decide ((e::es).length+([]:List Keyword).length+(if ([]:List Keyword).isEmpty then 0 else 1)<30))=true:=by rfl)
  (hline:(apos.endLine==aR.line)=true:=by rfl) (hs:starEach (e::es) X.env=(false,eval e X.env)::starEach es X.env:=by rfl) (iE:(backTo aR (starEach es X.env)).any (·.1)=false:=by rfl):
  PE X (.Call (.Attribute o name apos) (e::es) [] aR) (tBM X.K T r to t):=by
 intro pins s σ H Q I h
 refine wpAny_Call_method_late fU o3 hline rfl (thn (ho pins s σ H _ I h) ?_)
 rintro v s1 ⟨x,H1,I1,r1,ty,q1⟩
 obtain⟨h1,h2⟩:=zgb I1 r1 ty
 refine⟨T,id,pa,slot,mS,h1,h2,?_⟩
 have hA:=ha aR pins s1 σ H1 _ I1 q1
 rw[hs] at hA ⊢
 refine Calls.callWith_builtin (by show (false||(backTo aR (starEach es X.env)).any (·.1))=false;rw[iE]<;>rfl) (Calls.evalArgs_plain ?_)
 refine thn hA ?_
 rintro us s2 ⟨vs,H2,I2,r2,q2⟩
 exact hm pins s2 σ H2 x vs v us Q I2 r1 r2 q2
/- xs.append(e), list.index on a module's tuple .. are MtR facts of 06m -/
end
def MtM (X:Cx) (id:String) (r:V->List V->Hp->VK->Prop):Prop:=
 ∀(pins:List (Addr×Obj)) (s:Shared) (σ:St) (H:Hp) (x:V) (xs:List V) (v:Value) (us:List Value) (Q:VK),Inv X pins σ H s->zD x v->zI xs us->r x xs H Q->
  wpAny (model X.prog X.w) X.A (call (.builtin id) (v::us)) (EP X pins σ Q) X.xe s
theorem zI.one {x:V} {us:List Value} (h:zI [x] us):∃u,us=[u]/\zD x u:=by
 cases h with
 |cons r t=>cases t;exact⟨_,rfl,r⟩
theorem zI.zero:∀{us:List Value},zI [] us->us=[]
 |_,.nil=>rfl
theorem zI.dropLast {xs:List V} {us:List Value} (h:zI xs us):zI xs.dropLast us.dropLast:=by
 induction h with
 |nil=>exact .nil
 |cons r t ih=>
  cases t with
  |nil=>exact .nil
  |cons q t'=>exact .cons r ih
theorem zI.rep {xs:List V} {us:List Value} (h:zI xs us):∀k:Nat,zI (z9 k xs).flatten (z9 k us).flatten
 |0=> .nil
 |k+1=>by
  rw[B1,B1,BD,BD]
  exact zI.append h (zI.rep h k)
theorem zc4 {α:Type} (l:List α):l.eraseIdx (l.length-1)=l.dropLast:=by
 induction l with
 |nil=>rfl
 |cons a r ih=>
  cases r with
  |nil=>rfl
  |cons b r=>
   have e:(a::b::r).length-1=((b::r).length-1)+1:=by
    have h1:(a::b::r).length=r.length+2:=rfl
    have h2:(b::r).length=r.length+1:=rfl
    omega
   rw[e,List.eraseIdx_cons_succ,ih]
   all_goals rfl
theorem TX (ae:List Value):∀(k:Nat) (acc:List Value),
  FT (λx1 x2=>x1++x2) acc.toArray (z9 k ae.toArray)=(acc++(z9 k ae).flatten).toArray
 |0,acc=>by simp
 |k+1,acc=>by
  have e:acc.toArray++ae.toArray=(acc++ae).toArray:=by simp
  have e2:(acc++ae)++(z9 k ae).flatten=acc++(z9 (k+1) ae).flatten:=by
   rw[B1,BD,List.append_assoc]
  rw[<-e2,<-TX ae k (acc++ae),<-e,B1,List.foldl_cons]
section
variable {X:Cx} {pins:List (Addr×Obj)} {σ:St} {H:Hp} {s:Shared} {l b:Addr} {xs ys zs:List V}
theorem Inv.lset {ae its':List Value} {n:Nat} {f:Array Value->Array Value} {t':Nat} (I:Inv X pins σ H s) (hH:H l=some (.lst xs))
  (e:s.heap.get? l=some {cls:= .type "list",data:= .seq ae.toArray n}) (hf:f ae.toArray=its'.toArray) (hv:zI ys its') (hz:ys.length<=sizeLine):
  Inv X pins σ (upd H l (.lst ys)) {s with heap:=s.heap.update l (Obj.mapSeq f),toks:=t'}:=by
 have q:=PySem.IsL.update e f
 rw[hf] at q
 refine I.write (x:=l) (e:=l) (by rw[hH];exact trivial) (.inl rfl) (λb' u hb hu=>(Heap.get?_update_other s.heap (Obj.mapSeq f) (AQ hb)).trans hu) ⟨_,q⟩ ?_
 exact⟨hz,its',_,hv,q⟩
theorem Inv.lnew {ae:List Value} {t':Nat} (I:Inv X pins σ H s) (hv:zI ys ae) (hz:ys.length<=sizeLine):
  Inv X pins σ (upd H s.heap.objs.size (.lst ys)) {s with heap:=s.heap.push {cls:= .type "list",data:= .seq ae.toArray},toks:=t'}:=
 I.laid (λ_ _ q=>Heap.get?_push_of_some _ q) (z5 _) ⟨hz,ae,0,hv,Heap.get?_push_size _ rfl⟩
theorem Inv.fresh (I:Inv X pins σ H s):H s.heap.objs.size=none:=I.hok.fresh (z5 _)
theorem Inv.lstM (I:Inv X pins σ H s) (hH:H l=some (.lst xs)):xs.length<=sizeLine/\∃(ae:List Value) (n:Nat),zI xs ae/\xs.length=ae.length/\s.heap.get? l=some {cls:= .type "list",data:= .seq ae.toArray n}:=by
 obtain⟨z,ae,n,r,e⟩:=I.hok l _ hH
 exact⟨z,ae,n,r,r.length,e⟩
theorem zgc {n:Nat} (h:n<=sizeLine):Builtin.List.listTooLong n=false:=by
 unfold Builtin.List.listTooLong
 exact decide_eq_false ⋯
end
section
variable {X:Cx}
def zd7:V->List V->Hp->VK->Prop:=λx vs H Q=>∃l xs y,x= .ref l/\vs=[y]/\H l=some (.lst xs)/\xs.length<sizeLine/\Q .non (upd H l (.lst (xs++[y])))
theorem yJ:MtM X "list.append" zd7:=by
 intro pins s σ H x vs v us Q I rx rv h
 obtain⟨l,xs,y,rfl,rfl,hH,hz,q⟩:=h
 cases rx
 obtain⟨u,rfl,ru⟩:=rv.one
 obtain⟨z,ae,n,r,hl,e⟩:=I.lstM hH
 refine call_meets F.slot_list_append ⟨_,e,rfl⟩ F.entry_list_append (F.args_list_append_2 _ _) (PySem.list_append l ae.toArray n u (by rw[A3];omega)) ⟨e,?_⟩
 refine⟨.non,_,I.lset (its':=ae++[u]) hH e (by simp) (r.append (.cons ru .nil)) ?_,rfl,q⟩
 rw[A7,Ay]
 omega
def zmo:V->List V->Hp->VK->Prop:=λx vs H Q=>∃l xs y,x= .ref l/\vs=[]/\H l=some (.lst xs)/\xs[xs.length-1]? =some y/\Q y (upd H l (.lst xs.dropLast))
theorem zkX:MtM X "list.pop" zmo:=by
 intro pins s σ H x vs v us Q I rx rv h
 obtain⟨l,xs,y,rfl,rfl,hH,hy,q⟩:=h
 cases rx
 have rR:=rv.zero
 subst rR
 obtain⟨z,ae,n,r,hl,e⟩:=I.lstM hH
 obtain⟨u,hu,ru⟩:=r.get hy
 have ly:ae.toArray[ae.toArray.size-1]? =some u:=by
  show ae.toArray[ae.length-1]? =some u
  rw[<-Array.getElem?_toList,<-hl]
  exact hu
 refine call_meets F.slot_list_pop ⟨_,e,rfl⟩ F.entry_list_pop (F.args_list_pop_1 _) (MeetsSeq.list_pop_last l ae.toArray n u ly (by rw[A3];omega)) ⟨e,?_⟩
 refine⟨y,_,I.lset (its':=ae.dropLast) hH e ?_ r.dropLast ?_,ru,q⟩
 ·show ae.toArray.eraseIdxIfInBounds (ae.toArray.size-1)=ae.dropLast.toArray
  rw[A3,List.eraseIdxIfInBounds_toArray,zc4]
 ·rw[List.length_dropLast]
  omega
theorem ziG {α:Type} (xs:List α) (k:Nat):(z9 k xs).flatten.length=k*xs.length:=by
 induction k with
 |zero=>simp
 |succ k ih=>rw[B1,BD,A7,ih,Nat.succ_mul,DH]
end
section
variable {prog:Program} {w:World} {A:Around} {E:Value->Shared->Prop} {s:Shared}
end
section
variable {X:Cx}
end
section
variable {κ:Type} [DecidableEq κ]
noncomputable def vV (kvs:List (κ×V)) (k:κ):Option V:=(kvs.find? λkv=>decide (kv.1=k)).map (·.2)
noncomputable def WW (kvs:List (κ×V)) (k:κ) (v:V):List (κ×V):=
 if (kvs.any λkv=>decide (kv.1=k))=true then kvs.map (λkv=>if kv.1=k then (kv.1,v) else kv) else kvs++[(k,v)]
noncomputable def Vx (kvs:List (κ×V)) (k:κ):List (κ×V):=kvs.filter λkv=>decide (kv.1≠k)
theorem Uy {p:κ×V} {r:List (κ×V)} {k:κ} (e:p.1=k):vV (p::r) k=some p.2:=by simp[vV,AZ,e]
theorem Uz {p:κ×V} {r:List (κ×V)} {k:κ} (e:¬p.1=k):vV (p::r) k=vV r k:=by simp[vV,AZ,e]
theorem zbN (k:κ):∀kvs:List (κ×V),(kvs.any λkv=>decide (kv.1=k))=(vV kvs k).isSome
 |[]=>rfl
 |p::r=>by
  rw[CZ]
  by_cases e:p.1=k
  ·simp only[Uy e,decide_eq_true e,Bool.true_or,Option.isSome_some]
  ·rw[Uz e,decide_eq_false e,Bool.false_or];exact zbN k r
theorem Vy (kvs:List (κ×V)) (k:κ) (v:V):(WW kvs k v).length<=kvs.length+1:=by
 unfold WW
 split
 ·rw[y7];omega
 ·rw[A7,Ah,De];omega
theorem ZQ.isSome_eq {o:Option V} {u:Option Value} (r:ZQ o u):o.isSome=u.isSome:=by
 cases o with
 |none=>cases u with
  |none=>rfl
  |some _=>exact (show False from r).elim
 |some _=>cases u with
  |none=>exact (show False from r).elim
  |some _=>rfl
theorem ZQ.getD {o:Option V} {u:Option Value} {d:V} {d':Value} (r:ZQ o u) (rd:zD d d'):zD (o.getD d) (u.getD d'):=by
 cases o with
 |none=>cases u with
  |none=>exact rd
  |some _=>exact (show False from r).elim
 |some _=>cases u with
  |none=>exact (show False from r).elim
  |some _=>exact r
theorem KV.val {kvs:List (κ×V)} {vs:List (κ×Value)} (r:KV kvs vs) (k:κ):ZQ (vV kvs k) (valueAt vs k):=by
 unfold KV at r
 induction r with
 |nil=>exact B8
 | @cons p q ps qs h t ih=>
  obtain⟨h1,h2⟩:=h
  by_cases e:p.1=k
  ·have e':q.1=k:=h1.symm.trans e
   have b:valueAt (q::qs) k=some q.2:=by simp[valueAt,AZ,e']
   rw[Uy e,b];exact h2
  ·have e':¬q.1=k:=λz=>e (h1.trans z)
   have b:valueAt (q::qs) k=valueAt qs k:=by simp[valueAt,AZ,e']
   rw[Uz e,b];exact ih
theorem KV.any {kvs:List (κ×V)} {vs:List (κ×Value)} (r:KV kvs vs) (k:κ):(kvs.any λkv=>decide (kv.1=k))=vs.any λkv=>decide (kv.1=k):=by
 unfold KV at r
 induction r with
 |nil=>rfl
 |cons h t ih=>rw[CZ,CZ,ih,h.1]
theorem KV.repl {kvs:List (κ×V)} {vs:List (κ×Value)} (r:KV kvs vs) (k:κ) {y:V} {u:Value} (ry:zD y u):
  KV (kvs.map λkv=>if kv.1=k then (kv.1,y) else kv) (vs.map λkv=>if kv.1=k then (kv.1,u) else kv):=by
 unfold KV at r ⊢
 induction r with
 |nil=>exact .nil
 | @cons p q ps qs h t ih=>
  rw[A6,A6]
  refine .cons ?_ ih
  obtain⟨h1,h2⟩:=h
  by_cases e:p.1=k
  ·rw[if_pos e,if_pos (h1.symm.trans e)];exact⟨h1,ry⟩
  ·rw[if_neg e,if_neg (λz=>e (h1.trans z))];exact⟨h1,h2⟩
theorem KV.put {kvs:List (κ×V)} {vs:List (κ×Value)} (r:KV kvs vs) (k:κ) {y:V} {u:Value} (ry:zD y u):KV (WW kvs k y) (stored vs k u):=by
 unfold WW stored
 rw[r.any k]
 by_cases e:(vs.any λkv=>decide (kv.1=k))=true
 ·rw[if_pos e,if_pos e];exact r.repl k ry
 ·rw[if_neg e,if_neg e];exact Paired.snoc r ⟨rfl,ry⟩
theorem KV.drop {kvs:List (κ×V)} {vs:List (κ×Value)} (r:KV kvs vs) (k:κ):KV (Vx kvs k) (without vs k):=by
 unfold KV at r ⊢
 unfold Vx without
 induction r with
 |nil=>exact .nil
 | @cons p q ps qs h t ih=>
  obtain⟨h1,h2⟩:=h
  rw[C1,C1]
  by_cases e:p.1=k
  ·have a:¬decide (p.1≠k)=true:=by simp[e]
   have b:¬decide (q.1≠k)=true:=by simp[h1.symm.trans e]
   rw[if_neg a,if_neg b];exact ih
  ·have e':¬q.1=k:=λz=>e (h1.trans z)
   have a:decide (p.1≠k)=true:=by simp[e]
   have b:decide (q.1≠k)=true:=by simp[e']
   rw[if_pos a,if_pos b];exact .cons ⟨h1,h2⟩ ih
theorem KV.keys {kvs:List (κ×V)} {vs:List (κ×Value)} (r:KV kvs vs):kvs.map (·.1)=vs.map (·.1):=by
 unfold KV at r
 induction r with
 |nil=>rfl
 |cons h t ih=>rw[A6,A6,ih,h.1]
theorem KV.length {kvs:List (κ×V)} {vs:List (κ×Value)} (r:KV kvs vs):kvs.length=vs.length:=Paired.length r
theorem zgd (kvs:List (κ×V)) (k:κ):(Vx kvs k).length<=kvs.length:=D3 _ _
end
theorem TY {P:Program} {w:World} {k:Key} {u:Value} (r:zD (kV k) u):(zZ P w).is k u=true:=by
 cases k with
 |inl i=>obtain⟨t,e⟩:=(show ∃t,u=Value.int i t from r);subst e;exact zbD P w i t
 |inr x=>obtain⟨t,e⟩:=(show ∃t,u=Value.str x t from r);subst e;exact zbE P w x t
theorem TZ {P:Program} {w:World}:∀{ks:List Key} {us:List Value},zI (ks.map kV) us->ItemsAre (zZ P w) ks us
 |[],_,r=>by rw[F8] at r;cases r;exact .nil
 |k::ks,_,r=>by
  rw[A6] at r
  cases r with
  |cons h t=>exact .cons (TY h) (TZ t)
noncomputable abbrev KT (H:Hp):List (List Key×V)->List (List Key×Addr×Value)->Prop:=Paired λp q=>p.1=q.1/\H q.2.1=some (.tup (p.1.map kV))/\zD p.2 q.2.2
theorem KT.val {H:Hp} {kvs:List (List Key×V)} {xs:List (List Key×Addr×Value)} (r:KT H kvs xs) (k:List Key):ZQ (vV kvs k) ((atKey xs k).map (·.2)):=by
 induction r with
 |nil=>exact B8
 | @cons p q ps qs h t ih=>
  obtain⟨h1,_,h2⟩:=h
  by_cases e:p.1=k
  ·have e':q.1=k:=h1.symm.trans e
   have b:atKey (q::qs) k=some q.2:=by simp[atKey,AZ,e']
   rw[Uy e,b];exact h2
  ·have e':¬q.1=k:=λz=>e (h1.trans z)
   have b:atKey (q::qs) k=atKey qs k:=by simp[atKey,AZ,e']
   rw[Uz e,b];exact ih
theorem KT.repl {H:Hp} {kvs:List (List Key×V)} {xs:List (List Key×Addr×Value)} (r:KT H kvs xs) (k:List Key) {y:V} {u:Value} (ry:zD y u):
  KT H (kvs.map λkv=>if kv.1=k then (kv.1,y) else kv) (xs.map (putAt k u)):=by
 induction r with
 |nil=>exact .nil
 | @cons p q ps qs h t ih=>
  rw[A6,A6]
  refine .cons ?_ ih
  obtain⟨h1,h2,h3⟩:=h
  unfold putAt
  by_cases e:p.1=k
  ·rw[if_pos e,if_pos (h1.symm.trans e)];exact⟨h1,h2,ry⟩
  ·rw[if_neg e,if_neg (λz=>e (h1.trans z))];exact⟨h1,h2,h3⟩
theorem KT.put {H:Hp} {kvs:List (List Key×V)} {xs:List (List Key×Addr×Value)} (r:KT H kvs xs) (k:List Key) {b:Addr} {y:V} {u:Value} (hb:H b=some (.tup (k.map kV))) (ry:zD y u):
  KT H (WW kvs k y) (storedH xs k b u):=by
 have e:(kvs.any λkv=>decide (kv.1=k))=(atKey xs k).isSome:=by
  rw[zbN,(r.val k).isSome_eq,Fs]
 unfold WW storedH
 rw[e]
 by_cases q:(atKey xs k).isSome=true
 ·rw[if_pos q,if_pos q];exact r.repl k ry
 ·rw[if_neg q,if_neg q];exact Paired.snoc r ⟨rfl,hb,ry⟩
theorem KT.keeps {H H':Hp} {kvs:List (List Key×V)} {xs:List (List Key×Addr×Value)} (r:KT H kvs xs) (ht:∀b ys,H b=some (.tup ys)->H' b=some (.tup ys)):KT H' kvs xs:=
 Paired.mapP r λ_ _ z=>⟨z.1,ht _ _ z.2.1,z.2.2⟩
section
variable {P:Program} {w:World} {H:Hp} {h:Heap} {a:Addr}
theorem zj5 {u:HO} (ok:HOk P w H h) (e:Rd H a u):yj P w H h a u:=e.ok ok
theorem zaa {kvs:List (Key×V)} (ok:HOk P w H h) (e:Rd H a (.dK kvs)):kvs.length<=sizeLine/\(a==sysModules)=false/\∃vs,KV kvs vs/\h.DictOf (zZ P w) a vs:=
 show yj P w H h a (.dK kvs) from zj5 ok e
theorem zab {kvs:List (Key×V)} (ok:HOk P w H h) (e:H a=some (.dK kvs)):kvs.length<=sizeLine/\(a==sysModules)=false/\∃vs,KV kvs vs/\h.DictOf (zZ P w) a vs:=zaa ok (.inl e)
theorem zaN {ks:List Key} (ok:HOk P w H h) (e:H a=some (.tup (ks.map kV))):(tupleKind (zZ P w)).is h ks a:=by
 obtain⟨_,ae,r,o,h1,h2,n,h3⟩:=(show yj P w H h a (.tup (ks.map kV)) from ok a _ e)
 exact⟨o,ae.toArray,n,h1,h2,h3.1,by simpa using TZ r⟩
theorem zbO {kvs:List (List Key×V)} (ok:HOk P w H h) (e:Rd H a (.dT kvs)):kvs.length<=sizeLine/\(a==sysModules)=false/\
  ∃xs,KT H kvs xs/\h.DictOfH (tupleKind (zZ P w)) a xs:=by
 obtain⟨z,y,xs,r,o,es,ep,h1,h2,h3,h4,h5⟩:=(show yj P w H h a (.dT kvs) from zj5 ok e)
 refine⟨z,y,xs,r,o,es,ep,h1,h2,h3,h4,λx hx=> ?_,h5⟩
 have all:∀{l:List (List Key×V)} {m:List (List Key×Addr×Value)},KT H l m->∀x∈m,(tupleKind (zZ P w)).is h x.1 x.2.1:=by
  intro l m q
  induction q with
  |nil=>intro x hx;exact nomatch hx
  | @cons p q ps qs hq t ih=>
   intro x hx
   rcases Ak.mp hx with e|hx
   ·subst e
    exact zaN ok (by rw[<-hq.1];exact hq.2.1)
   ·exact ih x hx
 exact all r x hx
theorem zmp {kvs:List (List Key×V)} (ok:HOk P w H h) (e:H a=some (.dT kvs)):kvs.length<=sizeLine/\(a==sysModules)=false/\
  ∃xs,KT H kvs xs/\h.DictOfH (tupleKind (zZ P w)) a xs:=zbO ok (.inl e)
end
def VL (H:Hp) (a:Addr) (y:V) (r:Option V):Prop:=
 (∃kvs k,Rd H a (.dK kvs)/\y=kV k/\r=vV kvs k)\/∃kvs k b,Rd H a (.dT kvs)/\y= .ref b/\H b=some (.tup (k.map kV))/\r=vV kvs k
def zge (H:Hp) (a:Addr) (y v:V) (H':Hp):Prop:=
 (∃kvs k,H a=some (.dK kvs)/\y=kV k/\kvs.length<sizeLine/\H'=upd H a (.dK (WW kvs k v)))\/
 ∃kvs k b,H a=some (.dT kvs)/\y= .ref b/\H b=some (.tup (k.map kV))/\kvs.length<sizeLine/\H'=upd H a (.dT (WW kvs k v))
theorem VL.k {H:Hp} {a:Addr} {kvs:List (Key×V)} {k:Key} (e:H a=some (.dK kvs)):VL H a (kV k) (vV kvs k):= .inl ⟨kvs,k,.inl e,rfl,rfl⟩
theorem zge.k {H:Hp} {a:Addr} {kvs:List (Key×V)} {k:Key} {v:V} (e:H a=some (.dK kvs)) (hl:kvs.length<sizeLine):zge H a (kV k) v (upd H a (.dK (WW kvs k v))):= .inl ⟨kvs,k,e,rfl,hl,rfl⟩
section
variable {X:Cx} {pins:List (Addr×Obj)} {σ:St} {H:Hp} {s:Shared} {a:Addr} {y v:V} {u r:Value} {o:Option V} {A:Around} {E:Value->Shared->Prop}
theorem Inv.big (I:Inv X pins σ H s):sysModules<s.heap.objs.size:=by
 have h:mainGlobals<s.heap.objs.size:=(I.mod.glob.keeps I.bk).lt
 exact Nat.lt_trans ∅ h
theorem ze7 {Q:Value->Shared->Prop} (hu:A.units+1<cLine) (I:Inv X pins σ H s) (g:VL H a y (some v)) (ry:zD y u) (h:∀w' s',Inv X pins σ H s'->zD v w'->Q w' s'):
  wpAny (model X.prog X.w) A (getItem (.ref a) u) Q E s:=by
 rcases g with⟨kvs,k,e,ey,l⟩|⟨kvs,k,b,e,ey,eb,l⟩
 ·subst ey
  obtain⟨z,hd,vs,rel,dd⟩:=zaa I.hok e
  obtain⟨w',hw,rw'⟩:=ZQ.some_of (v:=v) (o:=valueAt vs k) (by rw[l];exact rel.val k)
  exact wpAny_getItem_of (TY ry) dd.mapOf hw (h w' _ (I.tok _) rw')
 ·subst ey
  cases (show u=Value.ref b from ry)
  obtain⟨z,hd,xs,rel,dd⟩:=zbO I.hok e
  obtain⟨w',hw,rw'⟩:=ZQ.some_of (v:=v) (o:=(atKey xs k).map (·.2)) (by rw[l];exact rel.val k)
  obtain⟨p,hp,nr⟩:=z0.mp hw
  refine wpAny_getItem_heap (tupleKind_room_in1 hu) (zaN I.hok eb) dd hp ?_
  rw[nr]
  exact h w' _ (I.tok _) rw'
theorem Wj {h':Heap} {t':Nat} {ob:HO} (I:Inv X pins σ H s) (mu:Mut (H a)) (hs:Heap.SameBut a s.heap h') (he:∃q,h'.get? a=some q) (new:yj X.prog X.w (upd H a ob) h' a ob):
  Inv X pins σ (upd H a ob) {s with heap:=h',toks:=t'}:=
 I.write (x:=a) (e:=a) mu (.inl rfl) (λb q hb z=>(hs.2 b hb).trans z) he new
theorem zgf {P:Program} {w:World} {H':Hp} {h':Heap} {kvs:List (Key×V)} {vs:List (Key×Value)} (z:kvs.length<=sizeLine) (hd:(a==sysModules)=false) (rel:KV kvs vs) (dd:h'.DictOf (zZ P w) a vs):
  yj P w H' h' a (.dK kvs):=⟨z,hd,vs,rel,dd⟩
theorem ze8 {H':Hp} {Q:Unit->Shared->Prop} (hu:A.units+1<cLine) (I:Inv X pins σ H s) (g:zge H a y v H') (ry:zD y u) (rv:zD v r) (h:∀s',Inv X pins σ H' s'->Q () s'):
  wpAny (model X.prog X.w) A (setItem (.ref a) u r) Q E s:=by
 rcases g with⟨kvs,k,e,ey,l,eH⟩|⟨kvs,k,b,e,ey,eb,l,eH⟩
 ·subst ey eH
  obtain⟨z,hd,vs,rel,dd⟩:=zab I.hok e
  have hz:vs.length<=sizeLine:=by rw[<-rel.length];exact z
  have hl:(WW kvs k v).length<=sizeLine:=by have:=Vy kvs k v;omega
  refine wpAny_setItem_pairs (hsz:=hz) (TY ry) dd λh' dd' hs=>h _ ?_
  have he:∃q,h'.get? a=some q:=let ⟨q,_,_,hq,_⟩:=dd';⟨q,hq⟩
  exact Wj I (by rw[e];exact B8) hs he (zgf hl hd (rel.put k rv) dd')
 ·subst ey eH
  cases (show u=Value.ref b from ry)
  obtain⟨z,hd,xs,rel,dd⟩:=zmp I.hok e
  have hz:xs.length<=sizeLine:=by rw[<-Paired.length rel];exact z
  have hl:(WW kvs k v).length<=sizeLine:=by have:=Vy kvs k v;omega
  refine wpAny_setItem_heap (hsz:=hz) (tupleKind_room_in1 hu) (zaN I.hok eb) dd λh' dd' hs=>h _ ?_
  obtain⟨q,es,ep,hq,h2,h3,h4,_,h5⟩:=dd'
  refine Wj I (by rw[e];exact B8) hs ⟨q,hq⟩ ⟨hl,hd,_,(rel.put k eb rv).keeps λc ys ec=> ?_,q,es,ep,hq,h2,h3,h4,h5⟩
  rw[zh (zl1 ec e (λz=>nomatch z))]
  exact ec
end
section
variable {X:Cx} {pins:List (Addr×Obj)} {σ:St} {H:Hp} {s:Shared} {a:Addr} {kvs:List (Key×V)} {k:Key} {u:Value} {A:Around} {E:Value->Shared->Prop}
theorem zj6 {v:V} {more:List Value} {Q:Value->Shared->Prop} (I:Inv X pins σ H s) (e:H a=some (.dK kvs)) (ry:zD (kV k) u) (l:vV kvs k=some v) (hm:more=[]\/∃x,more=[x])
  (h:∀w' s',Inv X pins σ (upd H a (.dK (Vx kvs k))) s'->zD v w'->Q w' s'):wpAny (model X.prog X.w) A (call (.builtin "dict.pop") (.ref a::u::more)) Q E s:=by
 obtain⟨z,hd,vs,rel,dd⟩:=zab I.hok e
 obtain⟨w',hw,rw'⟩:=ZQ.some_of (v:=v) (o:=valueAt vs k) (by rw[<-l];exact rel.val k)
 have hp:(keyPart u).isSome=true:=by
  cases k with
  |inl i=>obtain⟨t,q⟩:=(show ∃t,u=Value.int i t from ry);subst q;rfl
  |inr x=>obtain⟨t,q⟩:=(show ∃t,u=Value.str x t from ry);subst q;rfl
 have ha:argsOk "dict.pop" ⟨.ref a::u::more,[]⟩:=by
  rcases hm with q|⟨x,q⟩
  ·subst q;exact PySem.F.args_dict_pop_2 _ _
  ·subst q;exact DS _ _ _
 refine call_meetsIn C9 dd.typeIs Ei ha (meets_dict_pop_there (zZ X.prog X.w) a (TY ry) more hm hp)
  ⟨vs,w',dd,by rw[<-rel.length];exact z,hw,λh' dd' hs=>h w' _ ?_ rw'⟩
 have he:∃q,h'.get? a=some q:=let ⟨q,_,_,hq,_⟩:=dd';⟨q,hq⟩
 exact Wj I (by rw[e];exact B8) hs he (zgf (A2 (zgd kvs k) z) hd (rel.drop k) dd')
theorem zkY {r:Value} {Q:Value->Shared->Prop} (I:Inv X pins σ H s) (e:H a=some (.dK kvs)) (ry:zD (kV k) u) (l:vV kvs k=none) (h:∀s',Inv X pins σ H s'->Q r s'):
  wpAny (model X.prog X.w) A (call (.builtin "dict.pop") [.ref a,u,r]) Q E s:=by
 obtain⟨z,hd,vs,rel,dd⟩:=zab I.hok e
 have hn:valueAt vs k=none:=ZQ.none_of (by rw[<-l];exact rel.val k)
 have hp:(keyPart u).isSome=true:=by
  cases k with
  |inl i=>obtain⟨t,q⟩:=(show ∃t,u=Value.int i t from ry);subst q;rfl
  |inr x=>obtain⟨t,q⟩:=(show ∃t,u=Value.str x t from ry);subst q;rfl
 exact call_meetsIn C9 dd.typeIs Ei (DS _ _ _) (meets_dict_pop_default (zZ X.prog X.w) a (TY ry) hd hp r) ⟨vs,dd,hn,h _ (I.tok _)⟩
theorem zmq {Q:Value->Shared->Prop} (I:Inv X pins σ H s) (e:Rd H a (.dK kvs)) (h:∀t s',Inv X pins σ H s'->Q (.int kvs.length t) s'):wpAny (model X.prog X.w) A (call (.builtin "len") [.ref a]) Q E s:=by
 obtain⟨z,hd,vs,rel,dd⟩:=zaa I.hok e
 refine call_len_dict hd dd (by rw[<-rel.length];rw[sizeLine_eq] at z;omega) ?_
 rw[<-rel.length]
 exact h _ _ (I.tok _)
end
def zmr (i:Expr):Prop:=∀ov iv,subscripted i false ov iv=operate [ov,iv] (getItem ov iv)
theorem ziH {prog:Program} {w:World} {A:Around} {E:Value->Shared->Prop} {s:Shared} {env:Env} {value slice:Expr} {pos:Pos} {T id:String} {Q:Value->Shared->Prop}
  (hl:typeLookup (.type T) "__getitem__"=pure (some (.builtin id))) (hs:zmr slice)
  (h:wpAny (model prog w) A (eval value env) (λo s₁=>wpAny (model prog w) A (eval slice env) (λi s₂=>s₂.TypeIs o T/\wpAny (model prog w) A (getItem o i) Q E s₂) E s₁) E s):
  wpAny (model prog w) A (eval (.Subscript value slice pos) env) Q E s:=by
 refine Subscript_ (wpAny_mono h (λo s₁ h₁=>wpAny_mono h₁ (λi s₂ h₂=> ?_) λ_ _ x=>x) λ_ _ x=>x)
 obtain⟨hT,h₂⟩:=h₂
 unfold subscriptTail
 refine wpAny_bind ?_
 rw[getitemInPython_of_ne hT.not_modules]
 refine wpAny_bind (wpAny_specialOf hT hl ?_)
 have fin:wpAny (model prog w) A (subscripted slice false o i) (λr s₃=>wpAny (model prog w) A (letTemporaryGo value o r>>=λ_=>pure r) Q E s₃) E s₂:=by
  rw[hs o i]
  exact wpAny_operating (wpAny_mono h₂ (λr s₃ h₃=>wpAny_bind (wpAny_letTemporaryGo (wpAny_pure h₃))) λ_ _ x=>x)
 first
  |exact wpAny_pure (wpAny_bind fin)
  |exact wpAny_bind (wpAny_pure (wpAny_bind fin))
  |exact wpAny_bind fin
theorem zbP {X:Cx} {pins:List (Addr×Obj)} {σ:St} {H:Hp} {s:Shared} {a:Addr} {y:V} {o:Option V} (I:Inv X pins σ H s) (g:VL H a y o):s.TypeIs (.ref a) "dict":=by
 rcases g with⟨kvs,k,e,_,_⟩|⟨kvs,k,b,e,_,_,_⟩
 ·obtain⟨_,_,vs,_,dd⟩:=zaa I.hok e
  exact dd.typeIs
 ·obtain⟨_,_,xs,_,dd⟩:=zbO I.hok e
  exact dd.typeIs
def zj7 (td ty:TE):TE:=λσ H Q=>td σ H λx H1=>ty σ H1 λy H2=>∃a v,x= .ref a/\VL H2 a y (some v)/\Q v H2
def zj8 (td ty tv:TE):TS:=λD σ H=>tv σ H λv H1=>td σ H1 λx H2=>ty σ H2 λy H3=>∃a H4,x= .ref a/\zge H3 a y v H4/\D.nx σ H4
section
variable {X:Cx} {o i e value:Expr} {pos pos' jA:Pos} {td ty tv:TE}
theorem ziI (hu:X.A.units+1<cLine) (ho:PE X o td) (hi:PE X i ty) (hs:zmr i):PE X (.Subscript o i pos) (zj7 td ty):=by
 intro pins s σ H Q I h
 refine ziH PySem.F.slot_dict_getitem.lookup hs (thn (ho pins s σ H _ I h) ?_)
 rintro u s1 ⟨x,H1,I1,rx,q1⟩
 refine thn (hi pins s1 σ H1 _ I1 q1) ?_
 rintro iv s2 ⟨y,H2,I2,ry,a,v,ex,g,q2⟩
 subst ex
 obtain rfl:u=Value.ref a:=rx
 exact⟨zbP I2 g,ze7 hu I2 g ry λw' s3 I3 rw'=>⟨v,H2,I3,rw',q2⟩⟩
theorem zaO (hu:X.A.units+1<cLine) (ho:PE X o td) (hi:PE X i ty) (hv:PE X value tv) (hs:swapsWith value (some (.Subscript o i pos')) pos.line X.env=pure false):
  PS X (.Assign [.Subscript o i pos'] value pos) (zj8 td ty tv):=by
 intro pins s σ H D I h
 refine wpAny_Assign_Subscript (thn (hv pins s σ H _ I h) ?_) hs
 rintro r s1 ⟨v,H1,I1,rv,q1⟩
 refine thn (ho pins s1 σ H1 _ I1 q1) ?_
 rintro u s2 ⟨x,H2,I2,rx,q2⟩
 refine thn (hi pins s2 σ H2 _ I2 q2) ?_
 rintro iv s3 ⟨y,H3,I3,ry,a,H4,ex,g,q3⟩
 subst ex
 obtain rfl:u=Value.ref a:=rx
 exact ze8 hu I3 g ry rv λs4 I4=>⟨σ,H4,I4,q3⟩
end
theorem zgg {P:Program} {w:World} {H:Hp} (h:Heap) (hb:sysModules<h.objs.size):yj P w H (h.push {cls:= .type "dict",data:= .dict #[]}) h.objs.size (.dK []):=
 ⟨Bi _,beq_eq_false_iff_ne.mpr (AQ (Ad hb)),[],.nil,Heap.DictOf.new h⟩
def zgh:TE:=λ_ H Q=>∀p,H p=none->Q (.ref p) (upd H p (.dK []))
section
variable {X:Cx} {pos:Pos}
theorem zbQ:PE X (.Dict [] [] pos) zgh:=λpins s σ H Q I h=>
 wpAny_Dict_empty ⟨.ref s.heap.objs.size,_,I.laid (a:=s.heap.objs.size) (o:= .dK []) (t':=s.toks) (λ_ _ q=>Heap.get?_push_of_some _ q) (z5 _) (zgg s.heap I.big),rfl,h _ (I.hok.fresh (z5 _))⟩
end
noncomputable abbrev VV:List (V×V)->List (Value×Value)->Prop:=Paired λp q=>zD p.1 q.1/\zD p.2 q.2
structure M1 (X:Cx) (o:Expr) (m:Str) (apos:Pos) (e:Expr) (aR:Pos):Prop where
 base:attributeBase o m X.env (eval o X.env)=eval o X.env
 few:((backTo aR (starEach [e] X.env)).all (λx=> !x.1)&&(backToKw aR (keywordEach [] X.env)).all (λx=>x.1.isSome)
  &&decide (([e]:List Expr).length+([]:List Keyword).length+(if ([]:List Keyword).isEmpty then 0 else 1)<30))=true
 line:(apos.endLine==aR.line)=true
 trees:backTo aR (starEach [e] X.env)=[(false,eval e X.env)]
structure M2 (X:Cx) (o:Expr) (m:Str) (apos:Pos) (e f:Expr) (aR:Pos):Prop where
 base:attributeBase o m X.env (eval o X.env)=eval o X.env
 few:((backTo aR (starEach [e,f] X.env)).all (λx=> !x.1)&&(backToKw aR (keywordEach [] X.env)).all (λx=>x.1.isSome)
  &&decide (([e,f]:List Expr).length+([]:List Keyword).length+(if ([]:List Keyword).isEmpty then 0 else 1)<30))=true
 line:(apos.endLine==aR.line)=true
 trees:backTo aR (starEach [e,f] X.env)=[(false,eval e X.env),(false,eval f X.env)]
def IsD (H:Hp) (a:Addr):Prop:=(∃kvs,Rd H a (.dK kvs))\/∃kvs,Rd H a (.dT kvs)
theorem zc5 {X:Cx} {pins:List (Addr×Obj)} {σ:St} {H:Hp} {s:Shared} {a:Addr} (I:Inv X pins σ H s) (d:IsD H a):
  s.TypeIs (.ref a) "dict"/\(∀b,Value.ref a= .ref b->∃ob,s.heap.get? b=some ob/\ob.dict=none)/\(a==sysModules)=false:=by
 rcases d with⟨kvs,e⟩|⟨kvs,e⟩
 ·obtain⟨_,hd,vs,_,dd⟩:=zaa I.hok e
  refine⟨dd.typeIs,λb q=> ?_,hd⟩
  cases q
  obtain⟨ob,_,_,h1,h2,_⟩:=dd
  exact⟨ob,h1,h2.2.1⟩
 ·obtain⟨_,hd,xs,_,dd⟩:=zbO I.hok e
  refine⟨dd.typeIs,λb q=> ?_,hd⟩
  cases q
  obtain⟨ob,_,_,h1,h2,_⟩:=dd
  exact⟨ob,h1,h2.2.1⟩
section
variable {X:Cx} {pins:List (Addr×Obj)} {σ:St} {H:Hp} {s:Shared} {a:Addr} {y d:V} {u r:Value} {o:Option V} {A:Around} {E:Value->Shared->Prop}
theorem zkZ {Q:Value->Shared->Prop} (hu:A.units+1<cLine) (I:Inv X pins σ H s) (g:VL H a y o) (ry:zD y u) (rd:zD d r) (h:∀w' s',Inv X pins σ H s'->zD (o.getD d) w'->Q w' s'):
  wpAny (model X.prog X.w) A (call (.builtin "dict.get") [.ref a,u,r]) Q E s:=by
 rcases g with⟨kvs,k,e,ey,l⟩|⟨kvs,k,b,e,ey,eb,l⟩
 ·subst ey
  obtain⟨z,hd,vs,rel,dd⟩:=zaa I.hok e
  refine call_meetsIn D4 dd.typeIs Ej (DT _ _ _) (meets_dict_get_default (zZ X.prog X.w) a (TY ry) hd r) ⟨_,dd.mapOf,h _ _ (I.tok _) ?_⟩
  rw[l]
  exact (rel.val k).getD rd
 ·subst ey
  cases (show u=Value.ref b from ry)
  obtain⟨z,hd,xs,rel,dd⟩:=zbO I.hok e
  refine call_meetsIn D4 dd.typeIs Ej (DT _ _ _) (meetsH_dict_get_default (tupleKind (zZ X.prog X.w)) a b hd r) ⟨tupleKind_room_in1 hu,k,xs,zaN I.hok eb,dd,h _ _ (I.tok _) ?_⟩
  rw[l]
  exact (rel.val k).getD rd
end
def zgi (td ty tx:TE):TE:=λσ H Q=>td σ H λx H1=>∃a,x= .ref a/\IsD H1 a/\ty σ H1 λy H2=>tx σ H2 λz H3=>∃o,VL H3 a y o/\Q (o.getD z) H3
def zgj (td ty:TE):TE:=λσ H Q=>td σ H λx H1=>∃a,x= .ref a/\IsD H1 a/\ty σ H1 λy H2=>∃kvs k v,H2 a=some (.dK kvs)/\y=kV k/\vV kvs k=some v/\Q v (upd H2 a (.dK (Vx kvs k)))
def zgk (td ty tx:TE):TE:=λσ H Q=>td σ H λx H1=>∃a,x= .ref a/\IsD H1 a/\ty σ H1 λy H2=>tx σ H2 λz H3=>∃kvs k,H3 a=some (.dK kvs)/\y=kV k/\
 (∀v,vV kvs k=some v->Q v (upd H3 a (.dK (Vx kvs k))))/\(vV kvs k=none->Q z H3)
section
variable {X:Cx} {o e f:Expr} {apos aR:Pos} {td ty tx:TE}
theorem zbR (hu:X.A.units+1<cLine) (ho:PE X o td) (he:PE X e ty) (hf:PE X f tx) (m:M2 X o "get" apos e f aR):PE X (.Call (.Attribute o "get" apos) [e,f] [] aR) (zgi td ty tx):=by
 intro pins s σ H Q I h
 refine wpAny_Call_method m.base m.few m.line BG D4 PySem.F.type_dict_get (thn (ho pins s σ H _ I h) ?_)
 rintro u s1 ⟨x,H1,I1,rx,a,ex,d,q1⟩
 subst ex
 obtain rfl:u=Value.ref a:=rx
 obtain⟨t1,t2,_⟩:=zc5 I1 d
 refine⟨t1,t2,?_⟩
 rw[m.trees]
 refine Calls.callWith_builtin rfl (Calls.evalArgs_plain (Calls.spliced_cons (thn (he pins s1 σ H1 _ I1 q1) λiv s2 ⟨y,H2,I2,ry,q2⟩=>
  Calls.spliced_cons (thn (hf pins s2 σ H2 _ I2 q2) λfv s3 ⟨z,H3,I3,rz,ov,g,q3⟩=>Calls.spliced_nil ?_))))
 exact zkZ hu I3 g ry rz λw' s4 I4 rw'=>⟨_,H3,I4,rw',q3⟩
theorem zgl (ho:PE X o td) (he:PE X e ty) (m:M1 X o "pop" apos e aR):PE X (.Call (.Attribute o "pop" apos) [e] [] aR) (zgj td ty):=by
 intro pins s σ H Q I h
 refine wpAny_Call_method m.base m.few m.line BG C9 Ey (thn (ho pins s σ H _ I h) ?_)
 rintro u s1 ⟨x,H1,I1,rx,a,ex,d,q1⟩
 subst ex
 obtain rfl:u=Value.ref a:=rx
 obtain⟨t1,t2,_⟩:=zc5 I1 d
 refine⟨t1,t2,?_⟩
 rw[m.trees]
 refine Calls.callWith_builtin rfl (Calls.evalArgs_plain (Calls.spliced_cons (thn (he pins s1 σ H1 _ I1 q1) ?_)))
 rintro iv s2 ⟨y,H2,I2,ry,kvs,k,v,ea,ey,l,q2⟩
 refine Calls.spliced_nil ?_
 subst ey
 exact zj6 I2 ea ry l (.inl rfl) λw' s3 I3 rw'=>⟨v,_,I3,rw',q2⟩
theorem zgm (ho:PE X o td) (he:PE X e ty) (hf:PE X f tx) (m:M2 X o "pop" apos e f aR):PE X (.Call (.Attribute o "pop" apos) [e,f] [] aR) (zgk td ty tx):=by
 intro pins s σ H Q I h
 refine wpAny_Call_method m.base m.few m.line BG C9 Ey (thn (ho pins s σ H _ I h) ?_)
 rintro u s1 ⟨x,H1,I1,rx,a,ex,d,q1⟩
 subst ex
 obtain rfl:u=Value.ref a:=rx
 obtain⟨t1,t2,_⟩:=zc5 I1 d
 refine⟨t1,t2,?_⟩
 rw[m.trees]
 refine Calls.callWith_builtin rfl (Calls.evalArgs_plain (Calls.spliced_cons (thn (he pins s1 σ H1 _ I1 q1) λiv s2 ⟨y,H2,I2,ry,q2⟩=>
  Calls.spliced_cons (thn (hf pins s2 σ H2 _ I2 q2) λfv s3 ⟨z,H3,I3,rz,kvs,k,ea,ey,q3,q4⟩=>Calls.spliced_nil ?_))))
 subst ey
 cases l:vV kvs k with
 |some v=>exact zj6 I3 ea ry l (.inr ⟨fv,rfl⟩) λw' s4 I4 rw'=>⟨v,_,I4,rw',q3 v l⟩
 |none=>exact zkY I3 ea ry l λs4 I4=>⟨z,H3,I4,rz,q4 l⟩
end
section
variable {X:Cx} {pins:List (Addr×Obj)} {σ:St} {H:Hp} {s:Shared} {a:Addr} {kvs:List (Key×V)} {A:Around} {E:Value->Shared->Prop}
end
section
variable {X:Cx} {pins:List (Addr×Obj)} {σ:St} {H:Hp} {s:Shared} {a:Addr} {y:V} {u:Value} {A:Around} {E:Value->Shared->Prop}
end
end L2
namespace Att
open PySem PySem.W PySem.Calls PyProof.Rows
theorem VM {P:Params} {h:Heap}:∀(ns:List Int) (vs:List Value),WellAll P h vs (ns.map WData.int)->IntsAre vs ns:=by
 intro ns
 induction ns with
 |nil=>
  intro vs w
  rw[F8] at w
  cases w
  exact .nil
 |cons n ns ih=>
  intro vs w
  rw[A6] at w
  cases w with
  |cons a b=>
   cases a
   exact .cons _ _ (ih _ b)
theorem ze9 {l:OpenLaw} {n:Nat} (hn:l.most=some n) {P:Params} {h:Heap} {args:List WData} {vals:List Value}
  (gm:l.row.toRowW.claim.pre args=true) (mM:WellAll P h vals args):
  ∃a vs ns,vals=[Value.ref a]/\args=[WData.list (ns.map WData.int)]/\h.get? a=some {cls:= .type "list",data:= .seq vs.toArray}/\IntsAre vs ns/\ns.length<=n:=by
 have sd:WShape.hasAll [] args [.list .int]=true:=(pre_splitW gm).1
 have hc:l.pre.holds [] {args:=args}=true:=(pre_splitW gm).2
 obtain⟨d,r,rfl,h1,h2⟩:=hasAllW_cons sd
 obtain rfl:=hasAllW_nil h2
 obtain⟨xs,rfl,h3⟩:=hasW_list h1
 obtain⟨ns,rfl⟩:=items_int h3
 have hlen:ns.length<=n:=by
  unfold OpenLaw.pre at hc
  have h4:(WTm.not (.lt (.lit (.int (n:Int))) (.len (.arg 0)))).holds [] {args:=[.list (ns.map .int)]}=true:=by
   have h4:=(holds_andW hc).1
   rw[hn] at h4
   exact h4
  have h5:=condW_of h4 (w_not (w_lt w_lit (w_len_list (w_arg rfl))))
  rw[y7] at h5
  refine DI λq=> ?_
  have q':(n:Int)<((ns.length:Nat):Int):=by omega
  first
   |(rw[decide_eq_true q'] at h5;exact absurd h5 ∅)
   |(simp at h5;omega)
 cases mM with
 |cons w1 w2=>
  cases w2
  cases w1 with
  |list ho ck=>exact⟨_,_,ns,rfl,rfl,ho,VM ns _ ck,hlen⟩
theorem zfa (l:OpenLaw) (args:List WData):l.row.toRowW.claim.post args (.bool true) args=true:=
 postW_of (r:=l.row.toRowW) (X:=(true==true))
  (show WShape.has [] (.bool true) .bool=true by first|rfl|decide|simp[WShape.has,WShape.arms,WShape.armsAll])
  (show (WTm.eq .res (.lit (.bool true))).value [] {args:=args,res:=some (.bool true),after:=args}=some (.bool (true==true)) from w_eq_bool (w_res rfl) w_lit) rfl
theorem zbS {l:OpenLaw} {n:Nat} {q:Program} {loose:List Str} {XP:(Str->Option Value)->Heap->Prop} {YP:World->Heap->Prop} {d:DefRec}
  (hn:l.most=some n) (kC:d.params.defaults=[])
  (call:∀(w:World) (s₀ s₁:Shared) (mg mb:Str->Option Value) (fa:Addr) (o:Obj) (pm cd doc:Value) (a:Addr) (vs:List Value) (ns:List Int),
   Ground q loose [] XP w s₀ mg mb s₁.heap->YP w s₁.heap->
   s₁.heap.get? fa=some o->o.data= .func (docDef d.name d.params d.body d.scope pm cd doc)->s₁.heap.CodeRec cd d.name->mg d.name=some (.ref fa)->
   s₁.heap.get? a=some {cls:= .type "list",data:= .seq vs.toArray}->IntsAre vs ns->ns.length<=n->s₁.gens= #[]->
   codeAny (model l.prog w) callerA (.call (.ref fa) ⟨[.ref a],[]⟩) (λr s'=>r= .ok (.ret (.bool true))/\OldK s₁.heap s'.heap/\s'.os=s₁.os/\AllBare s'.gens) s₁):
  WalkO q loose XP YP l.row.toRowW d [] (λf vs=>FU f vs):=by
 intro w s₀ s₁ mg mb G Y fa o pm cd doc dV kV ho hd cF hD iP hg args vals as gm sL pU mM uV
 obtain rfl:dV= .none:=Dflts.none hD kC
 obtain rfl:kV= .none:=Dflts.noKw hD
 obtain⟨a,vs,ns,rfl,rfl,iJ,hints,hlen⟩:=ze9 hn gm mM
 refine enter_call (codeAny_mono (call w s₀ s₁ mg mb fa o pm cd doc a vs ns G Y ho (fd_plain hd) cF iP iJ hints hlen hg) λr s' hq=> ?_)
 obtain⟨rfl,h2,h3,h4⟩:=hq
 exact⟨.inl ⟨.bool true,.bool true,[],rfl,λ_=>rfl,.bool true,zfa l _,λ_=>⟨Ft,λ_ hm=>(nomatch hm)⟩⟩,h2,h3,h4⟩
section
variable {prog:Program} {w:World} {A:Around} {E:Value->Shared->Prop} {s:Shared} {K:Frag}
end
end Att
namespace L2
open PySem PySem.Spec PyProof.Rows
theorem zac:∀{vs:List Value} {ns:List Int},IntsAre vs ns->zI (ns.map V.int) vs
 |_,_,.nil=> .nil
 |_,_,.cons n t h=> .cons ⟨t,rfl⟩ (zac h)
noncomputable abbrev KOf {K:y3} {h:Heap} (_:K.In h):y3:=K
end L2
/- THE LAST THEOREM (shape; LID, My.* are oI):
   My.Adr: a structure of cS addresses eU qP pd names (classes, functions); My.Txt K t: a structure (Prop) of cS equations over K;
   My.txt_mk : {K} {implicit addresses ..} (e1 : nsIn K mainGlobals "law" = some (some (.ref f))) (e2 : K.lookup f = some ⟨oc, od, .func (fnOf "law" "law" params body scope dV kV doc pm an bt ct), sl⟩) (e3 : codeIn K bt "law" = true) .. : ∃ t, My.Txt K t
set_option maxHeartbeats 0 in
theorem PySem.Challenge.cw_LID_holds : PySem.Challenge.rw_LID.Holds := by
 w_on; o_law; k_head; (case hw => w_witness2)
 k_fill
 refine L2.walk_of (l := PySem.Challenge.rw_LID) (n := 63) (k := 40) (x := "script") (CX := λw => ..) (sp := λ_ => My.sp_law) rfl ∅ rfl ⟨rfl, by decide, by decide⟩ (λw h Y => PySem.W.kIn_of Y) ?F ?S ?C
 case F =>
  intro w mg fa h KX G iP
  have T : ∃ t, My.Txt (L2.KOf KX) t := by
   dsimp only[L2.KOf]                          -- K qY oO as «<heap const> w.params» for k_is
   refine' My.txt_mk ?e1 ?e2 ?e3 ..
   (case e1 => PySem.W.k_is)                    -- in cS order: a name -> ae address -> ae object -> ae parts
   (case e2 => PySem.W.k_is)
   ..
  obtain⟨t, T⟩ := T
  have e0 := iP.symm.trans (Bj KX G T.law)
  cases e0                                       -- fa is cS law's own address
  exact⟨_, λs u => .of_eq rfl, λbase kb nb => My.law_fn T kb nb⟩     -- if «.of_eq rfl» comes uB early: refine' ⟨_, ?b, λbase kb nb => My.law_fn T kb nb⟩; exact λs u => .of_eq rfl
 case S => exact λw H a ns hl hO hS => ..
 case C => exact ..
(cS tactic k_is has no namespace: write k_is) -/
namespace L2
open PySem PySem.Spec PyProof.Rows
noncomputable def zd8 (s:Stmt) (j:Nat):Stmt:=match s with
 | .ClassDef _ _ _ body _ _ _ _ _ _ _=>body.getD j (.Pass ⟨0,0,0,0⟩)
 |_=> .Pass ⟨0,0,0,0⟩
noncomputable def ZT (s:Stmt):Arguments:=match s with
 | .FunctionDef _ a _ _ _ _ _ _ _ _=>a
 |_=>{posonlyargs:=[],args:=[],vararg:=none,kwonlyargs:=[],kw_defaults:=[],kwarg:=none,defaults:=[]}
noncomputable def wF (s:Stmt):List Stmt:=match s with
 | .FunctionDef _ _ b _ _ _ _ _ _ _=>b
 |_=>[]
noncomputable def zg (s:Stmt):Scope:=match s with
 | .FunctionDef _ _ _ _ _ _ sc _ _ _=>sc
 |_=>{kind:= .function,names:=[],isGenerator:=false,isCoroutine:=false}
noncomputable abbrev CX0:CXT:=λ_ _ _ _ _ _=>False
noncomputable abbrev E0:XK:=λ_ _ _=>False
structure Fun (K:y3) (x qual:Str) (st:Stmt) (f:Addr) (fd:FuncData):Prop where
 ex:∃(oc:Value) (od:Option Addr) (kV doc pm:Value) (an:Option Addr) (bt ct:Value) (eY:Array (Option Value)),
  fd=BL x qual (ZT st) (wF st) (zg st) .none kV doc pm an bt ct/\K.lookup f=some ⟨oc,od,.func fd,eY⟩/\CN K bt qual=true
 kp:Bu K (.ref f)=true
section
variable {P:Program} {w:World} {K:y3} {mg:Str->Option Value} {base:Heap}
theorem Fun.binds {x qual:Str} {st:Stmt} {f:Addr} {fd:FuncData} {ps:List Str} (F:Fun K x qual st f fd)
  (h:∀(kV doc pm:Value) (an:Option Addr) (bt ct:Value) (us:List Value),us.length=ps.length->bindArgs (BL x qual (ZT st) (wF st) (zg st) .none kV doc pm an bt ct) ⟨us,[]⟩=pure (ps.zip us)):Wh K fd ps []:=by
 obtain⟨oc,od,kV,doc,pm,an,bt,ct,eY,rfl,lk,cF⟩:=F.ex
 exact .all (h kV doc pm an bt ct)
theorem zgn {x qual:Str} {st:Stmt} {f:Addr} {oc:Value} {od an:Option Addr} {eY:Array (Option Value)} {kV doc pm bt ct:Value} (l:K.lookup f=some ⟨oc,od,.func (BL x qual (ZT st) (wF st) (zg st) .none kV doc pm an bt ct),eY⟩)
  (c:CN K bt qual=true) (k:Bu K (.ref f)=true):Fun K x qual st f (BL x qual (ZT st) (wF st) (zg st) .none kV doc pm an bt ct):=⟨⟨oc,od,kV,doc,pm,an,bt,ct,eY,rfl,l,c⟩,k⟩
end
theorem zad {A:Around} {k:Nat} (hr:xo k A):A.units+1<cLine:=Az (Nat.add_le_add_left (by decide:1<=64) _) hr.units
section
variable {X:Cx}
theorem pv (i:Nat) {x:Str} {pos:Pos} (hN:X.N[i]? =some x:=by rfl) (hv:Vis X.env.scope x:=by first|exact z7 rfl|exact Cu (z7 rfl)|exact Cu (Cu rfl)) (hd:(x==("__debug__":Str))=false:=by decide)
  (cF:(x==("__classdict__":Str))=false:=by decide):PE X (.Name x pos) (zkB i):=zkC hN hv hd cF
theorem zfb:ZD X (.builtin "len") (λxs H Q=>∃a kvs,xs=[V.ref a]/\H a=some (.dK kvs)/\Q (.int kvs.length) H):=by
 intro pins s σ H xs us Q I r h
 obtain⟨a,kvs,rfl,ha,q⟩:=h
 obtain⟨u,rfl,ru⟩:=Yv r
 cases ru
 exact zmq I (.inl ha) λt s' I'=>⟨.int kvs.length,H,I',⟨t,rfl⟩,q⟩
end
def Zc (H H':Hp):Prop:=∀b o,H b=some o->H' b=some o
theorem Zc.refl (H:Hp):Zc H H:=λ_ _ h=>h
section
variable {κ:Type} [DecidableEq κ]
end
theorem Yy {prog:Program} {w:World} {A:Around} {elt iter tg:Expr} {ifs:List Expr} {scope:Scope} {pos:Pos} {it acc:Value} {env:Env} {s:Shared} {R:Result->Shared->Prop} (I:Nat->Shared->Prop)
  (turn:∀n s,I n s->wpAny (model prog w) A (pyNext it) (λr s₁=>match r with
   |none=>R (.ok .next) s₁
   |some v=>wpAny (model prog w) A (letOwnedTupleGo tg it v) (λ_ s₁'=>wpAny (model prog w) A (assign tg env v) (λ_ s₂=>
     wpAny (model prog w) A (forIn ifs true λc r=>if r=true then do let ok <-isTrue c env (eval c env);pure (C6 ok) else pure (C6 r)) (λok s₃=>
      if ok=true then wpAny (model prog w) A (eval elt env) (λx s₄=>
       wpAny (model prog w) A (call (.builtin "list.append") [acc,x]) (λ_ s₅=>∃m,m<n/\I m s₅) (λ_ _=>False) s₄) (λ_ _=>False) s₃
      else ∃m,m<n/\I m s₃) (λ_ _=>False) s₂)
     (λ_ _=>False) s₁') (λ_ _=>False) s₁) (λ_ _=>False) s)
  (n:Nat) (h:I n s):codeAny (model prog w) A (.compLoop (.ListComp elt [⟨tg,iter,ifs,0⟩] scope pos) 0 it acc env) R s:=by
 refine codeAny_loop rfl I (λn s hI=> ?_) n h
 show wpAny _ A ((compTurn (.ListComp elt [⟨tg,iter,ifs,0⟩] scope pos) 0 it acc env).onRaise (λx=>do noteFrame x env;theTreesLotGoes x)) _ _ s
 refine wpAny_noted ?_
 rw[compTurn_list]
 refine wpAny_bind (wpAny_standAt (wpAny_bind (wpAny_mono (turn n s hI) (λr s₁ h₁=> ?_) λ_ _ h'=>h'.elim)))
 cases r with
 |none=>exact wpAny_pure h₁
 |some v=>
  refine wpAny_bind (wpAny_mono h₁ (λ_ s₁' h₁'=> ?_) λ_ _ h'=>h'.elim)
  refine wpAny_bind (wpAny_mono h₁' (λ_ s₂ h₂=>wpAny_bind (wpAny_mono h₂ (λok s₃ h₃=> ?_) λ_ _ h'=>h'.elim)) λ_ _ h'=>h'.elim)
  cases ok with
  |false=>exact wpAny_pure ⟨rfl,h₃⟩
  |true=>
   exact wpAny_bind (wpAny_bind (wpAny_mono h₃ (λx s₄ h₄=>wpAny_bind (wpAny_mono h₄ (λ_ s₅ h₅=>wpAny_pure (wpAny_pure ⟨rfl,h₅⟩)) λ_ _ h'=>h'.elim)) λ_ _ h'=>h'.elim))
noncomputable def VN (env:Env):List (Str×NameKind)->List (Str×Addr)->List (Str×Addr)
 |[],cs=>cs
 |(n,k)::r,cs=>VN env r (if k== .free then (match env.cells.lookup n with|some c=>(n,c)::cs|none=>cs) else cs)
noncomputable def ZU (sc:Scope) (env:Env):List (Str×Addr):=VN env sc.names []
theorem UA {env:Env}:∀{ns:List (Str×NameKind)} {cs:List (Str×Addr)},(∀p∈cs,env.cells.lookup p.1=some p.2)->∀p∈VN env ns cs,env.cells.lookup p.1=some p.2
 |[],_,h=>h
 |(n,k)::r,cs,h=>by
  unfold VN
  refine UA ?_
  by_cases hk:(k== .free)=true
  ·rw[if_pos hk]
   cases e:env.cells.lookup n with
   |none=>exact h
   |some c=>
    intro p hp
    rcases Ak.mp hp with rfl|hp
    ·exact e
    ·exact h p hp
  ·rw[if_neg hk];exact h
theorem zbT {env:Env}:∀{ns:List (Str×NameKind)} {cs:List (Str×Addr)} {p:Str×Addr},p∈cs->p∈VN env ns cs
 |[],_,_,h=>h
 |(n,k)::r,cs,p,h=>by
  unfold VN
  refine zbT ?_
  by_cases hk:(k== .free)=true
  ·rw[if_pos hk]
   cases env.cells.lookup n with
   |none=>exact h
   |some c=>exact Aj _ h
  ·rw[if_neg hk];exact h
theorem zbU {env:Env} {x:Str} {c:Addr} (e:env.cells.lookup x=some c):∀{ns:List (Str×NameKind)} {cs:List (Str×Addr)},(x,NameKind.free)∈ns->(x,c)∈VN env ns cs
 |[],_,h=>by cases h
 |(n,k)::r,cs,h=>by
  unfold VN
  rcases Ak.mp h with h|h
  ·injection h with h1 h2
   subst h1 h2
   refine zbT ?_
   rw[if_pos (by rfl),e]
   exact AV
  ·exact zbU e h
theorem XG:∀{l:List (Str×Addr)} {x:Str} {c:Addr},(x,c)∈l->∃d,l.lookup x=some d
 |[],_,_,h=>by cases h
 |(n,d)::r,x,c,h=>by
  rw[AY]
  cases e:x==n with
  |true=>exact⟨d,rfl⟩
  |false=>
   rcases Ak.mp h with h|h
   ·injection h with h1 h2
    subst h1
    simp at e
   ·exact XG h
theorem xq {sc:Scope} {env:Env} {x:Str} {c:Addr} (e:(ZU sc env).lookup x=some c):env.cells.lookup x=some c:=
 UA (cs:=[]) (λp hp=>by cases hp) (x,c) (AO e)
theorem Wk {sc:Scope} {env:Env} {x:Str} {c:Addr} (h:(x,NameKind.free)∈sc.names) (e:env.cells.lookup x=some c):(ZU sc env).lookup x=some c:=by
 obtain⟨d,hd⟩:=XG (zbU (cs:=[]) e h)
 have:=xq (sc:=sc) hd
 rw[e] at this
 cases this
 exact hd
theorem Tq {sc:Scope} {env:Env} (h:∀y∈sc.names,y.2= .free->∃c,env.cells.lookup y.1=some c):closureFor sc env=pure (ZU sc env):=by
 unfold ZU closureFor
 generalize sc.names=ns at h
 suffices hh:∀cs:List (Str×Addr),(forIn ns cs (λ(x:Str×NameKind) (r:List (Str×Addr))=>
    (match x with
     |(name,kind)=>if (kind==NameKind.free)=true then (cellOf env name>>=λc=>pure (C6 ((name,c)::r))) else pure (C6 r):Sem (ForInStep (List (Str×Addr)))))>>=λr=>pure r:Sem (List (Str×Addr)))=pure (VN env ns cs) from hh []
 induction ns with
 |nil=>intro cs;rfl
 |cons p r ih=>
  intro cs
  obtain⟨n,k⟩:=p
  rw[Eb]
  unfold VN
  have ih':=ih λy hy=>h y (Aj _ hy)
  by_cases hk:(k== .free)=true
  ·obtain⟨c,hc⟩:=h (n,k) AV (by simpa using hk)
   have hc:env.cells.lookup n=some c:=hc
   have h1:cellOf env n=pure c:=by unfold cellOf;rw[hc]
   simp only[hk,if_true,h1,hc,pure_bind]
   exact ih' _
  ·simp only[hk,if_false,pure_bind]
   exact ih' _
noncomputable def xE (X:Cx) (N':List Str) (sc:Scope) (C:Addr) (s₀:Shared) (H₀:Hp) (fp:List Addr):Cx where
 prog:=X.prog
 w:=X.w
 K:=X.K
 mg:=X.mg
 base:=X.base
 A:=X.A
 N:=N'
 s₀:=s₀
 H₀:=H₀
 env:=compEnvC sc (ZU sc X.env) C X.env
 outer:=X.stack
 stack:=X.stack
 ex:=fp
 fn:=λ_=>false
 zn:=λ_=>false
 calm:=X.calm
 pn:=[]
 xe:=λ_ _=>False
theorem vQ {env:Env}:∀{names:List (Str×NameKind)} {x:Str},names.lookup x=some .free->
  (names.map λ(n,k)=>if (k==NameKind.free&&env.scope.kind== .function&&env.kindOf n==some .cell) then (n,NameKind.cell) else (n,k)).lookup x=some .cell\/
  (names.map λ(n,k)=>if (k==NameKind.free&&env.scope.kind== .function&&env.kindOf n==some .cell) then (n,NameKind.cell) else (n,k)).lookup x=some .free
 |[],_,h=>by simp at h
 |(n,k)::r,x,h=>by
  have ih:= @vQ env r x
  show BJ x ((if (k==NameKind.free&&env.scope.kind== .function&&env.kindOf n==some .cell)=true then (n,NameKind.cell) else (n,k))::_)=_\/BJ x ((if (k==NameKind.free&&env.scope.kind== .function&&env.kindOf n==some .cell)=true then (n,NameKind.cell) else (n,k))::_)=_
  cases hx:x==n with
  |true=>
   simp only[AY,hx] at h
   cases h
   by_cases hc:(NameKind.free==NameKind.free&&env.scope.kind== .function&&env.kindOf n==some .cell)=true
   ·rw[if_pos hc];left;simp[AY,hx]
   ·rw[if_neg hc];right;simp[AY,hx]
  |false=>
   simp only[AY,hx] at h
   by_cases hc:(k==NameKind.free&&env.scope.kind== .function&&env.kindOf n==some .cell)=true
   ·rw[if_pos hc];simp only[AY,hx];exact ih h
   ·rw[if_neg hc];simp only[AY,hx];exact ih h
theorem Zk {env:Env} {x:Str} {k:NameKind} (hk:k= .cell\/k= .free):∀{names:List (Str×NameKind)},(∀y∈names,y.2≠ .cell)->
  (names.map λ(n,k)=>if (k==NameKind.free&&env.scope.kind== .function&&env.kindOf n==some .cell) then (n,NameKind.cell) else (n,k)).lookup x=some k->(x,NameKind.free)∈names
 |[],_,h=>by simp at h
 |(n,j)::r,hc,h=>by
  have hr:∀y∈r,y.2≠ .cell:=λy hy=>hc y (Aj _ hy)
  have h:BJ x ((if (j==NameKind.free&&env.scope.kind== .function&&env.kindOf n==some .cell)=true then (n,NameKind.cell) else (n,j))::_)=_:=h
  by_cases hj:(j==NameKind.free&&env.scope.kind== .function&&env.kindOf n==some .cell)=true
  ·rw[if_pos hj,AY] at h
   have fm:j= .free:=by
    simp only[BI,beq_iff_eq] at hj
    exact hj.1.1
   cases hx:x==n with
   |true=>
    rw[eq_of_beq hx,<-fm]
    exact AV
   |false=>
    rw[hx] at h
    exact Aj _ (Zk hk hr h)
  ·rw[if_neg hj,AY] at h
   cases hx:x==n with
   |true=>
    rw[hx] at h
    have h':j=k:=AW h
    have sT:j≠ .cell:=hc (n,j) AV
    rcases hk with e|e
    ·exact absurd (h'.trans e) sT
    ·rw[eq_of_beq hx]
     have:j= .free:=h'.trans e
     rw[this]
     exact AV
   |false=>
    rw[hx] at h
    exact Aj _ (Zk hk hr h)
def wG (X:Cx) (sc:Scope):List (Option Nat)->List Str->Prop
 |[],[]=>True
 |none::r,_::n=>wG X sc r n
 |some i::r,x::n=>(X.N[i]? =some x/\sc.names.lookup x=some .free)/\wG X sc r n
 |_,_=>False
noncomputable def vA (cap:List (Option Nat)) (σ:St):St:=cap.map λo=>o.bind λi=>(σ[i]?).join
theorem wG.at {X:Cx} {sc:Scope}:∀{cap:List (Option Nat)} {N':List Str},wG X sc cap N'->∀(j i:Nat) (x:Str),cap[j]? =some (some i)->N'[j]? =some x->X.N[i]? =some x/\sc.names.lookup x=some .free
 |[],[],_,j,i,x,h,_=>by simp at h
 |none::r,y::n,c,0,i,x,h,_=>by simp at h
 |none::r,y::n,c,j+1,i,x,h,h2=>wG.at (cap:=r) c j i x (by simpa using h) (by simpa using h2)
 |some k::r,y::n,c,0,i,x,h,h2=>by
  simp at h h2
  subst h h2
  exact c.1
 |some k::r,y::n,c,j+1,i,x,h,h2=>wG.at (cap:=r) c.2 j i x (by simpa using h) (by simpa using h2)
theorem wG.len {X:Cx} {sc:Scope}:∀{cap:List (Option Nat)} {N':List Str},wG X sc cap N'->cap.length=N'.length
 |[],[],_=>rfl
 |none::r,y::n,c=>by simpa using wG.len (cap:=r) (N':=n) c
 |some k::r,y::n,c=>by simpa using wG.len (cap:=r) (N':=n) c.2
theorem zae {cap:List (Option Nat)} {σ:St} {j:Nat} {v:V} (h:(vA cap σ)[j]? =some (some v)):∃i,cap[j]? =some (some i)/\σ[i]? =some (some v):=by
 unfold vA at h
 rw[y8] at h
 cases e:cap[j]? with
 |none=>rw[e] at h;cases h
 |some o=>
  rw[e] at h
  cases o with
  |none=>simp at h
  |some i=>
   refine⟨i,rfl,?_⟩
   simp only[BO,A1,Al] at h
   cases q:σ[i]? with
   |none=>rw[q] at h;simp at h
   |some z=>rw[q] at h;simp at h;rw[h]
def PTs (X:Cx) (ifs:List Expr) (t:TT):Prop:=
 ∀(pins:List (Addr×Obj)) (s:Shared) (σ:St) (H:Hp) (Q:Bool->Hp->Prop),Inv X pins σ H s->t σ H Q->
  wpAny (model X.prog X.w) X.A (forIn ifs true λc r=>if r=true then do let ok <-isTrue c X.env (eval c X.env);pure (C6 ok) else pure (C6 r)) (TP X pins σ Q) X.xe s
theorem yE {X:Cx}:PTs X [] (λ_ H Q=>Q true H):=λ_ _ _ H _ I h=>wpAny_tests_nil ⟨H,I,h⟩
theorem ziJ {X:Cx} {c:Expr} {t:TT} (h:PT X c t):PTs X [c] t:=λpins s σ H Q I hw=>wpAny_tests_one (h pins s σ H Q I hw)
def zgo (cap:List (Option Nat)) (g:TG) (tt:TT) (te:TE) (J:It) (σ:St) (acc:Addr) (H0:Hp) (Q:Hp->Prop):Prop:=
 ∃W:Nat->Nat->List V->Hp->Prop,(∃m,W 0 m [] (upd H0 acc (.lst [])))/\∀i m ys H,W i m ys H->
  (J.stop i H/\Q H)\/(J.go i H/\∀x H',J.yld i H x H'->g x (vA cap σ) H' λσ2 H2=>tt σ2 H2 λb H3=>
   if b=true then te σ2 H3 λv H4=>H4 acc=some (.lst ys)/\ys.length<sizeLine/\∃m',m'<m/\W (i+1) m' (ys++[v]) (upd H4 acc (.lst (ys++[v])))
   else ∃m',m'<m/\W (i+1) m' ys H3)
def zgp (cap:List (Option Nat)) (wi:TI) (g:TG) (tt:TT) (te:TE):TE:=λσ H Q=>wi σ H λJ H1=>∀acc,H1 acc=none->zgo cap g tt te J σ acc H1 λH2=>Q (.ref acc) H2
def zbV (i:Nat) (cap:List (Option Nat)) (wi:TI) (g:TG) (tt:TT) (te:TE):TS:=λD σ H=>wi σ H λJ H1=>∀acc,H1 acc=none->zgo cap g tt te J σ acc H1 λH2=>D.nx (σ.set i (some (.ref acc))) H2
structure ZV (X:Cx) (sc:Scope):Prop where
 cell:∀y∈sc.names,y.2≠ .cell
 kind:sc.kind= .function
 names:∀y∈sc.names,y.2= .local->sc.names.lookup y.1=some .local
 free:∀y∈sc.names,y.2= .free->X.env.kindOf y.1=some .cell\/X.env.kindOf y.1=some .free
section
variable {X:Cx} {elt tg iter:Expr} {ifs:List Expr} {sc:Scope} {pos:Pos} {wi:TI} {g:TG} {tt:TT} {te:TE} {N':List Str} {cap:List (Option Nat)}
theorem Inv.closure {pins:List (Addr×Obj)} {σ:St} {H:Hp} {s:Shared} (I:Inv X pins σ H s) (B:ZV X sc):closureFor sc X.env=pure (ZU sc X.env):=
 Tq λy hy e=>I.ok.has y.1 (B.free y hy e)
theorem zfc {pins:List (Addr×Obj)} {σ:St} {H:Hp} {s:Shared} {h₁:Heap} {t':Nat} {fp:List Addr} {acc C:Addr} {s₀:Shared} {m:Str->Option Value}
  (I:Inv X pins σ H s) (B:ZV X sc) (cp:wG X sc cap N') (hf:∀b∈fp,WR X pins H b) (ju:∀b∈fp,b<s.heap.objs.size) (bT:acc=s.heap.objs.size) (ho:s₀.os=s.os) (nV:s₀.gens=s.gens)
  (h0:s₀.heap=s.heap.push {cls:= .type "list",data:= .seq #[]}) (hC:C=s₀.heap.objs.size)
  (cO:h₁.Ns C m) (fL:∀b o,s₀.heap.get? b=some o->h₁.get? b=some o):
  Inv (xE X N' sc C s₀ (upd H acc (.lst [])) fp) [] (vA cap σ) (upd H acc (.lst [])) {s₀ with heap:=h₁,toks:=t'}:=by
 have qj:H acc=none:=I.hok.fresh (BK bT.symm)
 have gK:∀b o,s.heap.get? b=some o->s₀.heap.get? b=some o:=λb o e=>by rw[h0];exact Heap.get?_push_of_some _ e
 have lY:s₀.heap.objs.size=s.heap.objs.size+1:=by rw[h0,Heap.size_push]
 have I0:Inv X pins σ (upd H acc (.lst [])) {s with heap:=s₀.heap,toks:=s.toks}:=I.laid gK (BK bT.symm) ⟨Bi _,[],0,.nil,by rw[h0,bT];exact Heap.get?_push_size _ rfl⟩
 have CX':∀b,b<s.heap.objs.size->b≠C:=λb hb=>Ad (by rw[hC,lY];exact B2 hb)
 have CA:∀b,b<s.heap.objs.size->b≠acc:=λb hb=>Ad (by rw[bT];exact hb)
 have cellLt:∀x c,X.env.cells.lookup x=some c->c<s.heap.objs.size:=λx c e=>by
  obtain⟨v,o,q,_⟩:=I.cell x c e
  exact Heap.lt_size q
 refine⟨⟨I.ok.mod,B.kind,I.ok.glob,I.ok.blt,BK hC.symm,λx y c h1 h2=>I.ok.inj x y c (xq h1) (xq h2),λx hx=> ?_,λx c h=>(h.elim (λz=>Cp z) λz=>Cp z),I.ok.hd,I.ok.frames,.inl rfl,λb hb=>⟨CX' b (ju b hb),λx c e=>(hf b hb).2.2.2.2.1 x c (xq e)⟩,
   λb o e=> ?_,?_,λb o e hb=> ?_,λb hb hz=> ?_,I0.stack,I0.stkFree⟩,
  rfl,?_,Un.kept fL,⟨m,cO,λj x v h1 h2 h3=> ?_⟩,λx c e=> ?_,?_,λx c e=> ?_,λp hp=>absurd (show p∈([]:List (Addr×Obj)) from hp) (by simp),I0.hok.kept fL,?_⟩
 ·have hm:(x,NameKind.free)∈sc.names:=by
   rcases hx with hx|hx
   ·exact Zk (env:=X.env) (.inl rfl) B.cell hx
   ·exact Zk (env:=X.env) (.inr rfl) B.cell hx
  obtain⟨c,hc⟩:=I.ok.has x (B.free _ hm rfl)
  exact⟨c,Wk hm hc⟩
 ·obtain⟨e1,e2⟩:=I.bs b o e
  exact⟨gK b o e1,by show upd H acc (.lst []) b=none;rw[zh (CA b (Heap.lt_size e1))];exact e2⟩
 ·exact A2 I.ok.bsz (A2 I.sz (by show _<=s₀.heap.objs.size;omega))
 ·rcases (hf b hb).2.2.2.1 with z|z
  ·exact I.ok.noex b o e z
  ·exact absurd (A0 (Heap.lt_size e) (A2 I.ok.bsz z)) (Bh _)
 ·rcases Ak.mp (I.stkSub b hz) with e|e
  ·exact (hf b hb).2.1 e
  ·exact (hf b hb).2.2.1 e
 ·show AllBare s₀.gens
  rw[nV];exact I.bare
 ·obtain⟨i,e1,e2⟩:=zae h2
  obtain⟨e3,e4⟩:=cp.at j i x e1 h1
  have hm:(x,NameKind.free)∈sc.names:=AO e4
  have hk:=B.free _ hm rfl
  obtain⟨m0,uU,hl⟩:=I.loc
  obtain⟨u,r,l⟩:=hl i x v e3 e2 (by rcases hk with k|k;exact .inr (.inl k);exact .inr (.inr k))
  refine⟨u,r,.inr ?_⟩
  rcases l with⟨k,_⟩|⟨_,c,hc,o,q,d⟩
  ·rcases hk with k'|k'
   ·rw[k] at k';cases k'
   ·rw[k] at k';cases k'
  ·exact⟨vQ (env:=X.env) e4,c,Wk hm hc,o,fL c o (gK c o q),d⟩
 ·obtain⟨v,o,q,d⟩:=I.cell x c (xq e)
  exact⟨v,o,fL c o (gK c o q),d⟩
 ·show upd H acc (.lst []) C=none
  rw[zh (by rw[hC,bT,lY];exact DJ _)]
  exact I.hok.fresh (by rw[hC,lY];exact B5 _)
 ·show upd H acc (.lst []) c=none\/(false=false/\∃o,upd H acc (.lst []) c=some (.frz o (.own 0)))
  rw[zh (CA c (cellLt x c (xq e)))]
  exact (I.freeC x c (xq e)).imp (λz=>z) λz=>⟨rfl,z.2⟩
 ·show (vA cap σ).length=N'.length
  unfold vA
  rw[y7]
  exact cp.len
def Kp (σ0 σ:St):Prop:=σ.length=σ0.length/\∀(j:Nat) v,σ0[j]? =some (some v)->σ[j]? =some (some v)
def zfd (cap:List (Option Nat)) (g:TG):Prop:=∀σ0 σ x H Q,Kp (vA cap σ0) σ->g x σ H Q->g x σ H λσ2 H2=>Q σ2 H2/\Kp (vA cap σ0) σ2
def zd9 (cap:List (Option Nat)) (g:TGs):Prop:=∀σ0 σ x H Q,Kp (vA cap σ0) σ->g x σ H Q->g x σ H λσ2 H2=>Q σ2 H2/\Kp (vA cap σ0) σ2
theorem zx {i:Nat} (h:cap[i]? =some none):zfd cap (TM i):=λσ0 σ x H Q k q=>by
 refine⟨q,by rw[E9];exact k.1,λj v e=> ?_⟩
 have:j≠i:=by
  rintro rfl
  obtain⟨i',e1,_⟩:=zae e
  rw[h] at e1;cases e1
 rw[D8 (AQ this)]
 exact k.2 j v e
theorem xS:zd9 cap zkK:=λσ0 σ x H Q k ⟨e,q⟩=>⟨e,q,k⟩
theorem zN {t:TG} {u:TGs} (h1:zfd cap t) (h2:zd9 cap u) (mono:∀v σ H (Q Q':St->Hp->Prop),(∀σ H,Q σ H->Q' σ H)->t v σ H Q->t v σ H Q'):zd9 cap (zfV t u):=λσ0 σ x H Q k ⟨v,r,e,q⟩=>
 ⟨v,r,e,mono v σ H _ _ (λσ' H' ⟨q',k'⟩=>h2 σ0 σ' r H' Q k' q') (h1 σ0 σ v H _ k q)⟩
theorem zO {i:Nat}:∀v σ H (Q Q':St->Hp->Prop),(∀σ H,Q σ H->Q' σ H)->TM i v σ H Q->TM i v σ H Q':=λ_ _ _ _ _ f q=>f _ _ q
theorem wH {K:y3} {n:Nat} {t:TGs} (h:zd9 cap t):zfd cap (ziv K n t):=λσ0 σ x H Q k ⟨a,xs,e,hq,hl,q⟩=>⟨a,xs,e,hq,hl,h σ0 σ xs H Q k q⟩
theorem zaf {pins:List (Addr×Obj)} {σ:St} {H:Hp} {s:Shared} {use:Option (Value->Sem Unit)} {Q:Value->Shared->Prop} {R:Addr->Hp->Prop} {p:Pos}
  (hc:X.calm=true) (B:ZV X sc) (cp:wG X sc cap N') (hi:PI X tg iter wi) (ow:zfd cap g)
  (hg:∀C s₀ H₀ fp,PG (xE X N' sc C s₀ H₀ fp) tg g) (ht:∀C s₀ H₀ fp,PTs (xE X N' sc C s₀ H₀ fp) ifs tt) (he:∀C s₀ H₀ fp,PE (xE X N' sc C s₀ H₀ fp) elt te)
  (hs:∀x,foldedSetIterable iter X.env x=pure x)
  (I:Inv X pins σ H s) (h:wi σ H λJ H1=>∀acc,H1 acc=none->zgo cap g tt te J σ acc H1 (R acc))
  (fin:∀(acc C:Addr) (H':Hp) (s':Shared) (m:Str->Option Value),Inv X pins σ H' s'->s'.heap.Ns C m->C≠X.env.locals->
   (∀{σ':St} {s'':Shared},Inv X pins σ' H' s''->∀h',Heap.SameBut C s''.heap h'->Inv X pins σ' H' {s'' with heap:=h'})->
   R acc H'->compPost (model X.prog X.w) X.A X.xe use Q (.ref acc) C (.ok .next) s'):
  wpAny (model X.prog X.w) X.A (comprehension (.ListComp elt [⟨tg,iter,ifs,0⟩] sc pos) sc X.env p (newList []) false (eval iter X.env) use) Q X.xe s:=by
 refine wpAny_comprehension_free rfl hs (I.closure B) B.kind B.names (thn (hi pins s σ H _ I h) λxv s1 h1=>thn h1 λmx s2 h2=> ?_)
 obtain⟨it,fp,tn,J,H2,e,I2,T,jD,f2,r2⟩:=h2
 subst e
 have qI:∀b∈fp,b<s2.heap.objs.size:=λb hb=>by
  obtain⟨o,e,_⟩:=T.obj _ _ jD b hb
  exact Heap.lt_size e
 refine wpAny_newObj_type (wpAny_newFunctionEnv B.cell (by intro y hy;simp at hy) (λh₁ hns₁ hsb₁=> ?_) B.kind)
 dsimp only at hns₁ hsb₁ ⊢
 obtain⟨s₀,es0⟩:∃s₀:Shared,s₀={s2 with heap:=s2.heap.push {cls:= .type "list",dict:=none,data:= .seq ([]:List Value).toArray}}:=⟨_,rfl⟩
 have e0h:s₀.heap=s2.heap.push {cls:= .type "list",data:= .seq #[]}:=by rw[es0]
 obtain⟨C,eC⟩:∃C:Addr,C=s₀.heap.objs.size:=⟨_,rfl⟩
 obtain⟨acc,eA⟩:∃a:Addr,a=s2.heap.objs.size:=⟨_,rfl⟩
 rw[show (s2.heap.push {cls:= .type "list",dict:=none,data:= .seq ([]:List Value).toArray}).objs.size=C by rw[eC,e0h]] at hns₁ hsb₁ ⊢
 have keep₁:∀b o,s₀.heap.get? b=some o->h₁.get? b=some o:=λb o e=>by
  refine hsb₁.extBut b o ?_ ?_
  ·rw[eC];exact Ad (Heap.lt_size e)
  ·rw[e0h] at e;exact Heap.get?_push_of_some _ e
 have kU:C=s2.heap.objs.size+1:=by rw[eC,e0h,Heap.size_push]
 have gK:∀b o,s2.heap.get? b=some o->s₀.heap.get? b=some o:=λb o e=>by rw[e0h];exact Heap.get?_push_of_some _ e
 have qH:H2 acc=none:=I2.hok.fresh (BK eA.symm)
 show codeAny (model X.prog X.w) X.A (.compStart (.ListComp elt [⟨tg,iter,ifs,0⟩] sc pos) 0 (.ref it) (.ref s2.heap.objs.size) (compEnvC sc (ZU sc X.env) C X.env))
  (compPost (model X.prog X.w) X.A X.xe use Q (.ref s2.heap.objs.size) C) {s2 with heap:=h₁,toks:=s2.toks+([]:List (Str×Value)).length}
 rw[<-eA]
 have uf:({s2 with heap:=h₁,toks:=s2.toks+([]:List (Str×Value)).length}:Shared)={s₀ with heap:=h₁,toks:=s2.toks+([]:List (Str×Value)).length}:=by rw[es0]
 rw[uf]
 obtain⟨W,⟨m0,w0⟩,turn⟩:=r2 acc qH
 have Ib:Inv (xE X N' sc C s₀ (upd H2 acc (.lst [])) fp) [] (vA cap σ) (upd H2 acc (.lst [])) {s₀ with heap:=h₁,toks:=s2.toks+([]:List (Str×Value)).length}:=
  zfc I2 B cp f2 qI eA (by rw[es0]) (by rw[es0]) e0h eC hns₁ keep₁
 have stat:∀{H':Hp},(∀b∈fp,H' b=none)->∀b∈fp,WR (xE X N' sc C s₀ (upd H2 acc (.lst [])) fp) [] H' b:=λhn b hb=>
  ⟨hn b hb,(Ib.ok.exf b hb).1,Ib.ok.exfs b hb,.inl hb,λx c e=>(Ib.ok.exf b hb).2 x c e,λp hp=>absurd (show p∈([]:List (Addr×Obj)) from hp) (by simp)⟩
 have ub:∀b∈fp,upd H2 acc (.lst []) b=none:=λb hb=>by
  rw[zh (by rw[eA];exact Ad (qI b hb))]
  exact (f2 b hb).1
 have loop:codeAny (model X.prog X.w) X.A (.compLoop (.ListComp elt [⟨tg,iter,ifs,0⟩] sc pos) 0 (.ref it) (.ref acc) (compEnvC sc (ZU sc X.env) C X.env))
   (compPost (model X.prog X.w) X.A X.xe use Q (.ref acc) C) {s₀ with heap:=h₁,toks:=s2.toks+([]:List (Str×Value)).length}:=by
  refine Yy (λn s'=>∃i ys H',Inv (xE X N' sc C s₀ (upd H2 acc (.lst [])) fp) [] (vA cap σ) H' s'/\tn i s'.heap/\(∀b∈fp,H' b=none)/\W i n ys H') ?_ m0
   ⟨0,[],_,Ib,T.keep _ _ _ jD λb hb o e=>keep₁ b o (gK b o e),ub,w0⟩
  rintro n s3 ⟨i,ys,H3,I3,jC,kK,w3⟩
  rcases turn i n ys H3 w3 with⟨stop,qn⟩|⟨go,step⟩
  ·refine thn (T.done (xE X N' sc C s₀ (upd H2 acc (.lst [])) fp) rfl rfl rfl hc i [] s3 _ H3 (λ_ _=>False) I3 (stat kK) jC stop) λr s4 ⟨hr,I4⟩=> ?_
   subst hr
   have u0:Un (frs X.stack) fp H2 (upd H2 acc (.lst [])) s2.heap s₀.heap:=Un.laid gK (BK eA.symm) qH
   have un:Un (frs X.stack) fp H2 H3 s2.heap s4.heap:=u0.trans I4.base
   have I5:Inv X pins σ H3 s4:=I2.call' (by rw[I4.os];show s₀.os=_;rw[es0]) un I4.hok I4.bare λb hb=>⟨(f2 b hb).2.2.2.1,(f2 b hb).2.1,(f2 b hb).2.2.2.2.1,(f2 b hb).2.2.2.2.2⟩
   obtain⟨m4,iO,_⟩:=I4.loc
   have CL:C≠X.env.locals:=λz=>by
    have:=I2.lt
    rw[<-z,kU] at this
    exact absurd this (FV.mpr (B5 _))
   refine fin acc C H3 s4 m4 I5 iO CL (λ{σ' s''} I6 h' sb=> ?_) qn
   refine I6.turned (t':=s''.toks) (λb o hb e=>(sb.2 b hb).trans e) I4.free CL (.inr ?_) (λx c e z=> ?_) λp hp z=> ?_
   ·have:=I2.sz
    rw[kU]
    omega
   ·obtain⟨v,o,q,_⟩:=I2.cell x c e
    have:=Heap.lt_size q
    rw[z,kU] at this
    exact absurd this (FV.mpr (B5 _))
   ·obtain⟨q,_⟩:=I2.pin p hp
    have:=Heap.lt_size q
    rw[z,kU] at this
    exact absurd this (FV.mpr (B5 _))
  ·refine thn (T.item (xE X N' sc C s₀ (upd H2 acc (.lst [])) fp) rfl rfl rfl hc i [] s3 _ H3 (λ_ _=>False) I3 (stat kK) jC go) λr s4 ⟨u,hr,h4⟩=> ?_
   subst hr
   refine thn h4 ?_
   rintro _ s5 ⟨x,H5,I5,r5,y5,hZ,oB⟩
   have I5':=I5.pinned (stat oB) (T.obj _ _ hZ)
   refine thn (hg C s₀ _ fp _ s5 _ H5 x u _ I5' r5 (ow σ _ x H5 _ ⟨rfl,λ_ _ e=>e⟩ (step x H5 y5))) ?_
   rintro _ s6 ⟨σ6,H6,I6,q6,pe⟩
   have again:∀{H7:Hp} {s7:Shared} {zs:List V},Inv (xE X N' sc C s₀ (upd H2 acc (.lst [])) fp) ([]++Uq fp s5.heap) σ6 H7 s7->(∃m',m'<n/\W (i+1) m' zs H7)->
     ∃m,m<n/\∃i ys H',Inv (xE X N' sc C s₀ (upd H2 acc (.lst [])) fp) [] (vA cap σ) H' s7/\tn i s7.heap/\(∀b∈fp,H' b=none)/\W i m ys H':=λ{H7 s7 zs} I7 w7=>by
    obtain⟨m',hm,w7⟩:=w7
    refine⟨m',hm,i+1,zs,H7,(I7.unpinned).weak pe.1.symm pe.2,T.keep _ _ _ hZ λb hb o e=>(I7.pin (b,o) (Ac _ (Ac _ (ZR hb e)))).1,λb hb=> ?_,w7⟩
    obtain⟨o,e,d⟩:=T.obj _ _ hZ b hb
    exact (I7.pin (b,o) (Ac _ (Ac _ (ZR hb e)))).2.1
   refine thn (ht C s₀ _ fp _ s6 σ6 H6 _ I6 q6) ?_
   rintro ok s7 ⟨H7,I7,q7⟩
   cases ok with
   |false=>
    rw[if_neg Ai] at q7 ⊢
    exact again I7 q7
   |true=>
    rw[if_pos rfl] at q7 ⊢
    refine thn (he C s₀ _ fp _ s7 σ6 H7 _ I7 q7) ?_
    rintro xv s8 ⟨v,H8,I8,r8,kJ,sM,w8⟩
    refine thn (yJ _ s8 σ6 H8 (.ref acc) [v] (.ref acc) [xv] (λ_ H9=>H9=upd H8 acc (.lst (ys++[v]))) I8 rfl (.cons r8 .nil) ⟨acc,ys,v,rfl,rfl,kJ,sM,rfl⟩) ?_
    rintro _ s9 ⟨_,H9,I9,_,e9⟩
    subst e9
    exact again I9 w8
 exact codeAny_compStart_list loop (T.self _ 0 _ _ _ (T.keep _ _ _ jD λb hb o e=>keep₁ b o (gK b o e)) loop)
theorem vW (hc:X.calm=true) (B:ZV X sc) (cp:wG X sc cap N') (hi:PI X tg iter wi) (ow:zfd cap g)
  (hg:∀C s₀ H₀ fp,PG (xE X N' sc C s₀ H₀ fp) tg g) (ht:∀C s₀ H₀ fp,PTs (xE X N' sc C s₀ H₀ fp) ifs tt) (he:∀C s₀ H₀ fp,PE (xE X N' sc C s₀ H₀ fp) elt te)
  (hs:∀x,foldedSetIterable iter X.env x=pure x:=by intro _;rfl):PE X (.ListComp elt [⟨tg,iter,ifs,0⟩] sc pos) (zgp cap wi g tt te):=by
 intro pins s σ H Q I h
 rw[eval_ListComp]
 refine zaf (use:=none) (R:=λacc H2=>Q (.ref acc) H2) hc B cp hi ow hg ht he hs I h λacc C H' s' m I' hn CL mk r=> ?_
 exact⟨m,hn,λh' sb=>⟨.ref acc,H',mk I' h' sb,rfl,r⟩⟩
theorem yS {i:Nat} {y:Str} {py jE:Pos} (hc:X.calm=true) (B:ZV X sc) (cp:wG X sc cap N') (hi:PI X tg iter wi) (ow:zfd cap g)
  (hg:∀C s₀ H₀ fp,PG (xE X N' sc C s₀ H₀ fp) tg g) (ht:∀C s₀ H₀ fp,PTs (xE X N' sc C s₀ H₀ fp) ifs tt) (he:∀C s₀ H₀ fp,PE (xE X N' sc C s₀ H₀ fp) elt te)
  (hN:X.N.Nodup) (hy:X.N[i]? =some y) (hl:X.env.scope.names.lookup y=some .local)
  (rY:swapsWith (.ListComp elt [⟨tg,iter,ifs,0⟩] sc pos) (some (.Name y py)) jE.line X.env=pure true:=by rfl)
  (hs:∀x,foldedSetIterable iter X.env x=pure x:=by intro _;rfl):PS X (.Assign [.Name y py] (.ListComp elt [⟨tg,iter,ifs,0⟩] sc pos) jE) (zbV i cap wi g tt te):=by
 intro pins s σ H D I h
 rw[exec_Assign_Name_used _ _ _ _ rY]
 refine wpAny_bind (wpAny_standAt (wpAny_bind ?_))
 show wpAny _ X.A (do let _ <-comprehension (.ListComp elt [⟨tg,iter,ifs,0⟩] sc pos) sc X.env _ (newList []) false (eval iter X.env) (some (assign (.Name y py) X.env))) _ _ s
 refine wpAny_bind (thn (zaf (use:=some (assign (.Name y py) X.env)) (Q:=λ_ s'=>SP X pins D .next s') (R:=λacc H2=>D.nx (σ.set i (some (.ref acc))) H2) hc B cp hi ow hg ht he hs I h λacc C H' s' m I' hn CL mk r=> ?_) λ_ s' hq=>wpAny_pure (wpAny_pure hq))
 show wpAny _ X.A (assign (.Name y py) X.env (.ref acc)) _ _ _
 refine wpAny_assign_Name (TL I' hN hy (.inl hl) (v:= .ref acc) rfl (λs'' I'' fL=> ?_) (.inr hl))
 obtain⟨a,sb,ha⟩:=fL
 have tW:C≠a:=by
  rcases ha with ha|ha
  ·rw[ha];exact CL
  ·intro z
   rw[<-z] at ha
   obtain⟨v,o,q,d⟩:=I'.cell y C ha
   obtain⟨o',es,ep,q',d',_⟩:=hn
   rw[q] at q';cases q'
   rw[d] at d';cases d'
 exact⟨m,hn.sameBut sb tW,λh' sb'=>⟨_,H',mk I'' h' sb',r⟩⟩
end
def xX {α:Type}:Sem α->Prop
 | .pure _=>True
 | .raise _=>True
 | .unsupported _=>True
 | .finish _=>True
 | .rule _ k=>∀u,xX (k u)
 | .at _ k=>∀u,xX (k u)
 | .load _ _ k=>∀o,xX (k o)
 | .update _ _ f k=>(∀o,(f o).dict=o.dict/\(f o).cls=o.cls)/\∀u,xX (k u)
 | .alloc _ k=>∀a,xX (k a)
 | .loadIfAlive _ k=>∀o,xX (k o)
 | .point _ k=>∀u,xX (k u)
 | .stack k=>∀x,xX (k x)
 | .ask k=>∀x,xX (k x)
 |_=>False
def KD (h h':Heap):Prop:=∀(b:Nat) o,h.objs[b]? =some o->∃o',h'.objs[b]? =some o'/\o'.dict=o.dict/\o'.cls=o.cls
theorem KD.refl (h:Heap):KD h h:=λ_ o e=>⟨o,e,rfl,rfl⟩
theorem KD.trans {h h1 h2:Heap} (x:KD h h1) (y:KD h1 h2):KD h h2:=λb o e=>by
 obtain⟨o1,e1,d1,c1⟩:=x b o e
 obtain⟨o2,e2,d2,c2⟩:=y b o1 e1
 exact⟨o2,e2,d2.trans d1,c2.trans c1⟩
theorem KD.push (h:Heap) (o:Obj):KD h (h.push o):=λb o' e=>by
 refine⟨o',?_,rfl,rfl⟩
 obtain⟨objs,l⟩:=h
 show (objs.push o)[b]? =some o'
 have e:objs[b]? =some o':=e
 rw[Array.getElem?_push]
 have hb:b<objs.size:=(Array.getElem?_eq_some_iff.mp e).1
 rw[if_neg (Ad hb)]
 exact e
theorem KD.update (h:Heap) (a:Addr) {f:Obj->Obj} (hf:∀o,(f o).dict=o.dict/\(f o).cls=o.cls):KD h (h.update a f):=λb o e=>by
 obtain⟨objs,l⟩:=h
 show ∃o',(objs.modify a f)[b]? =some o'/\_
 rw[Array.getElem?_modify]
 have e:objs[b]? =some o:=e
 by_cases fq:a=b
 ·rw[if_pos fq,e]
  exact⟨f o,rfl,hf o⟩
 ·rw[if_neg fq,e]
  exact⟨o,rfl,rfl,rfl⟩
theorem zbW {h:Heap} {a:Addr} {o:Obj} (e:h.get? a=some o):h.objs[a]? =some o:=by
 unfold Heap.get? at e
 split at e
 ·cases e
 ·exact e
theorem KD.at {h h':Heap} {a:Addr} {o o':Obj} (k:KD h h') (e:h.get? a=some o) (e':h'.get? a=some o'):o'.dict=o.dict/\o'.cls=o.cls:=by
 obtain⟨o1,e1,d⟩:=k a o (zbW e)
 rw[zbW e'] at e1
 cases e1
 exact d
theorem ziK {α:Type} {M:Model} {Γ:PySem.Ctx} {t:Sem α}:∀{Q:α->Pos->Shared->Prop} {E:Value->Pos->Shared->Prop} {p:Pos} {s:Shared} {h₀:Heap},xX t->KD h₀ s.heap->Sem.wp M Γ t Q E p s->
  Sem.wp M Γ t (λa p' s'=>Q a p' s'/\KD h₀ s'.heap) (λe p' s'=>E e p' s'/\KD h₀ s'.heap) p s:=by
 induction t with
 |pure a=>exact λ_ k h=>⟨h,k⟩
 |raise e=>exact λ_ k h=>⟨h,k⟩
 |unsupported w=>exact λ_ _ h=>h.elim
 |finish e=>exact λ_ _ h=>h.elim
 |rule _ k ih=>exact λt z h=>ih () (t ()) z h
 | «at» _ k ih=>exact λt z h=>ih () (t ()) z h
 |load a _ k ih=>
  intro Q E p s h₀ t z h
  obtain⟨o,e,h⟩:=h
  exact⟨o,e,ih o (t o) z h⟩
 |update a _ f k ih=>
  intro Q E p s h₀ t z h
  obtain⟨e,h⟩:=h
  exact⟨e,ih () (t.2 ()) (z.trans (KD.update _ _ t.1)) h⟩
 |alloc o k ih=>exact λt z h=>ih _ (t _) (z.trans (KD.push _ _)) h
 |loadIfAlive a k ih=>exact λt z h=>ih _ (t _) z h
 |point _ k ih=>exact λt z h=>ih () (t ()) z h
 |stack k ih=>exact λt z h=>ih _ (t _) z h
 |ask k ih=>exact λt z h=>ih _ (t _) z h
 |register _ _ _=>exact λt=>t.elim
 |fresh _ _=>exact λt=>t.elim
 |choose _ _ _ _=>exact λt=>t.elim
 |os _ _ _ _=>exact λt=>t.elim
 |call _ _ _ _ _ _=>exact λt=>t.elim
 |handled _ _ _=>exact λt=>t.elim
 |newGen _ _ _=>exact λt=>t.elim
 |genState _ _ _=>exact λt=>t.elim
 |resume _ _ _ _ _=>exact λt=>t.elim
 |yield _ _ _ _ _=>exact λt=>t.elim
 |fork _ _ _=>exact λt=>t.elim
 |thread _ _=>exact λt=>t.elim
 |await _ _ _ _ _ _=>exact λt=>t.elim
theorem zgq {α:Type} {M:Model} {A:Around} {t:Sem α} {Q:α->Shared->Prop} {E:Value->Shared->Prop} {s:Shared} (T:xX t) (h:wpAny M A t Q E s):wpAny M A t (λa s'=>Q a s'/\KD s.heap s'.heap) (λe s'=>E e s'/\KD s.heap s'.heap) s:=
 λΓ p hΓ=>ziK T (KD.refl _) (h Γ p hΓ)
theorem zfe {α β:Type} {f:α->Sem β} (hf:∀a,xX (f a)):∀{t:Sem α},xX t->xX (t.bind f):=by
 intro t
 induction t with
 |pure a=>exact λ_=>hf a
 |raise e=>exact λ_=>trivial
 |unsupported w=>exact λ_=>trivial
 |finish e=>exact λ_=>trivial
 |rule _ k ih=>exact λt u=>ih u (t u)
 | «at» _ k ih=>exact λt u=>ih u (t u)
 |load a _ k ih=>exact λt u=>ih u (t u)
 |update a _ f k ih=>exact λt=>⟨t.1,λu=>ih u (t.2 u)⟩
 |alloc o k ih=>exact λt u=>ih u (t u)
 |loadIfAlive a k ih=>exact λt u=>ih u (t u)
 |point _ k ih=>exact λt u=>ih u (t u)
 |stack k ih=>exact λt u=>ih u (t u)
 |ask k ih=>exact λt u=>ih u (t u)
 |register _ _ _=>exact λt=>t.elim
 |fresh _ _=>exact λt=>t.elim
 |choose _ _ _ _=>exact λt=>t.elim
 |os _ _ _ _=>exact λt=>t.elim
 |call _ _ _ _ _ _=>exact λt=>t.elim
 |handled _ _ _=>exact λt=>t.elim
 |newGen _ _ _=>exact λt=>t.elim
 |genState _ _ _=>exact λt=>t.elim
 |resume _ _ _ _ _=>exact λt=>t.elim
 |yield _ _ _ _ _=>exact λt=>t.elim
 |fork _ _ _=>exact λt=>t.elim
 |thread _ _=>exact λt=>t.elim
 |await _ _ _ _ _ _=>exact λt=>t.elim
theorem tb {α β:Type} {t:Sem α} {f:α->Sem β} (h:xX t) (hf:∀a,xX (f a)):xX (t>>=f):=zfe hf h
theorem Tr (v:Value):xX (fieldsOf v):=by
 unfold fieldsOf
 split
 ·refine tb (λo=>trivial) λo=> ?_
  split<;>trivial
 ·trivial
theorem ZW (v:Value) (i:Nat):xX (field v i):=by
 unfold field
 refine tb (Tr v) λa=> ?_
 split<;>trivial
theorem UB (g:Array Value->Array Value) (o:Obj):(Obj.mapFields g o).dict=o.dict/\(Obj.mapFields g o).cls=o.cls:=by
 obtain⟨c,d,dt,sl⟩:=o
 cases dt<;>exact⟨rfl,rfl⟩
theorem Zs (v:Value) (i:Nat) (x:Value):xX (setField v i x):=by
 unfold setField
 split
 ·unfold updateField
  refine tb (λo=>trivial) λo=> ?_
  split
  ·split
   ·exact⟨λo=>UB _ o,λ_=>trivial⟩
   ·trivial
  ·trivial
 ·trivial
theorem UC (e:Value) (f:Option Addr):xX (setFlight e f):=by
 unfold setFlight
 refine tb (ZW _ _) λtb'=> ?_
 split
 ·exact Zs _ _ _
 ·trivial
theorem UD (ty:String) (vs:List Value):xX (newFields ty vs):=by
 have h:xX (newObjAsIs (Value.type ty) (Data.fields vs.toArray)):=by
  unfold newObjAsIs
  exact tb (λa=>trivial) λa=>trivial
 unfold newFields newObj
 show xX (if vs.toArray.size>sizeLine+2 then (unsupported "record:memory">>=λ_=>newObjAsIs (Value.type ty) (Data.fields vs.toArray)) else newObjAsIs (Value.type ty) (Data.fields vs.toArray))
 split
 ·trivial
 ·exact h
theorem zbX (env:Env) (outer:List Env):xX (behindIsImport env outer):=by
 unfold behindIsImport
 split
 ·trivial
 ·split
  ·trivial
  ·exact tb (ZW _ _) λ_=>trivial
theorem zc6:xX underTheClaimsCaller:=tb (λ_=>trivial) λ_=>trivial
theorem Ts (env:Env) (i:Bool) (outer:List Env):xX (keptBack env i outer):=by
 cases outer with
 |nil=>
  unfold keptBack
  by_cases h:(env.scope.isGenerator||env.scope.isCoroutine)=true
  ·rw[if_pos h];trivial
  ·rw[if_neg h]
   refine tb zc6 λx=> ?_
   trivial
 |cons c r=>
  unfold keptBack
  trivial
theorem UE:∀l:List Env,xX (readyFrames l)
 |[]=>trivial
 |env::outer=>by
  unfold readyFrames
  split
  ·refine tb (λo=>trivial) λo=> ?_
   split
   ·trivial
   ·exact tb (zbX _ _) λi=>tb (Ts _ _ _) λb=>tb ⟨λo=>⟨rfl,rfl⟩,λ_=>trivial⟩ λ_=>UE outer
  ·trivial
theorem zaP (env:Env):xX (EK env):=by
 unfold EK
 refine tb (λx=>trivial) λl=>tb ?_ λo=> ?_
 ·generalize List.dropWhile _ l=l'
  unfold frameObject
  cases l' with
  |nil=>trivial
  |cons a r=>exact tb (UE _) λ_=>trivial
 ·split<;>trivial
theorem VO (f:Addr) (b:Bool):xX (entryPlaceOf f b):=by
 unfold entryPlaceOf
 refine tb (λx=>trivial) λl=> ?_
 split<;>trivial
theorem UF (e:Value) (env:Env):xX (noteFrame e env):=by
 unfold noteFrame
 split
 ·rename_i f _
  have last:∀head:Value,xX (do setField e 1 (<-EntryCells.newEntry head (<-EK env) .none (rawInt f) .none (<-entryPlaceOf f (head != .none)))):=λhead=>
   tb (zaP env) λa=>tb (VO _ _) λpl=>tb (UD _ _) λb=>Zs _ _ _
  refine tb (ZW _ _) λhead=> ?_
  split
  ·refine tb (ZW _ _) λx=> ?_
   split
   ·trivial
   ·exact tb (Zs _ _ _) λ_=>last head
  ·exact last head
 ·trivial
theorem zaQ (env:Env) (e:Value):xX (leaving env e):=tb (UF e env) λ_=>UC _ _
theorem yj.there {P:Program} {w:World} {H:Hp} {h:Heap} {a:Addr} {o:HO} (x:yj P w H h a o):∃ob,h.get? a=some ob:=by
 cases o with
 |lst xs=>obtain⟨_,_,_,_,e⟩:=x;exact⟨_,e⟩
 |tup xs=>obtain⟨_,_,_,ob,e,_⟩:=x;exact⟨_,e⟩
 |dK kvs=>obtain⟨_,_,_,_,o,_,_,e,_⟩:=x;exact⟨_,e⟩
 |dT kvs=>obtain⟨_,_,_,_,o,_,_,e,_⟩:=x;exact⟨_,e⟩
 |dN kvs=>obtain⟨_,_,_,_,o,_,_,e,_⟩:=x;exact⟨_,e⟩
 |set S n=>obtain⟨o,_,_,_,e,_⟩:=x;exact⟨_,e⟩
 |ins C dx fs=>obtain⟨_,_,_,e,_⟩:=x;exact⟨_,e⟩
 |own y=>obtain⟨_,e⟩:=x;exact⟨_,e⟩
 |xd fs=>obtain⟨_,⟨_,_,_,e,_⟩,_⟩:=x;exact⟨_,e⟩
 |rng lo hi=>obtain⟨_,_,_,e⟩:=x;exact⟨_,e⟩
 |frz ob u=>obtain⟨e,_⟩:=x;exact⟨_,e⟩
 |tbl ps=>exact⟨_,(show h.get? a=some _ from x)⟩
 |met f y=>exact⟨_,(show h.get? a=some _ from x)⟩
 |ext φ=>obtain⟨_,⟨_,e⟩,_⟩:=x;exact⟨_,e⟩
def Cov (outer:List Env) (H':Hp) (old h' B:Heap):Prop:=
 (∀b o,(∃o0,old.get? b=some o0)->b∉frs outer->h'.get? b=some o->B.get? b=some o)/\∀b u o,H' b=some u->h'.get? b=some o->B.get? b=some o
structure Fly (P:Program) (w:World) (outer:List Env) (H:Hp) (s:Shared) (e:Addr) (cls:Value) (H':Hp) (s':Shared):Prop where
 os:s'.os=s.os
 bare:AllBare s'.gens
 un:Un (frs outer) [] H H' s.heap s'.heap
 hok:HOk P w H' s'.heap
 fly:∃B t,Heap.FlyingW B outer e cls (.ref t) s'.heap/\Cov outer H' s.heap s'.heap B
 new:s.heap.get? e=none
 free:H' e=none
 nd:∀o,s'.heap.get? e=some o->o.dict=none
noncomputable def CXE (P:Program) (w:World):CXT:=λouter H s E ev s'=>∃e cls H',ev= .ref e/\Fly P w outer H s e cls H' s'/\E cls none H'
theorem Fly.moved {P:Program} {w:World} {outer:List Env} {H H':Hp} {s s':Shared} {e:Addr} {cls a0:Value} {B h2:Heap} (F:Fly P w outer H s e cls H' s') (fl:Heap.FlyingW B outer e cls a0 s'.heap) (cov:Cov outer H' s.heap s'.heap B)
  (st:B.StaysIn h2) (sm:s'.heap.UpToSlots h2):Un (frs outer) [] H H' s.heap h2/\HOk P w H' h2/\Cov outer H' s.heap h2 B:=by
 have nofs:∀b u,H' b=some u->∃o,s'.heap.get? b=some o/\B.get? b=some o/\h2.get? b=some o:=λb u q=>by
  obtain⟨o,e1⟩:=(F.hok b u q).there
  have e2:=cov.2 b u o q e1
  exact⟨o,e1,e2,st b o e2⟩
 have old:∀b o0,s.heap.get? b=some o0->b∉frs outer->∃o,s'.heap.get? b=some o/\B.get? b=some o/\h2.get? b=some o:=λb o0 q hb=>by
  obtain⟨o,e1⟩:=F.un.there b o0 q (by simp)
  have e2:=cov.1 b o ⟨o0,q⟩ hb e1
  exact⟨o,e1,e2,st b o e2⟩
 have fr:∀b∈frs outer,∃o sl,s'.heap.get? b=some o/\h2.get? b=some {o with slots:=sl}:=λb hb=>by
  obtain⟨_,o,e1,d⟩:=fl.2.2.1.mem hb
  obtain⟨sl,e2⟩:=sm b o e1 d
  exact⟨o,sl,e1,e2⟩
 refine⟨⟨λb o q n hb _=> ?_,λb o q n hb _=> ?_,λb o q n hx=>F.un.free b o q n hx,λb o q _=> ?_,F.un.tups,F.un.frzs,F.un.tbls⟩,λa u q=> ?_,λb o q hb e1=> ?_,λb u o q e1=> ?_⟩
 ·obtain⟨o1,e1,_,e3⟩:=old b o q hb
  have e4:=F.un.keep b o q n hb (by simp)
  rw[e1] at e4;cases e4
  exact e3
 ·obtain⟨o1,oS,e1,e2⟩:=fr b hb
  obtain⟨sl,e4⟩:=F.un.slot b o q n hb (by simp)
  rw[e1] at e4;cases e4
  exact⟨oS,e2⟩
 ·by_cases hb:b∈frs outer
  ·obtain⟨o1,oS,e1,e2⟩:=fr b hb
   exact⟨_,e2⟩
  ·obtain⟨o1,_,_,e3⟩:=old b o q hb
   exact⟨_,e3⟩
 ·refine (F.hok a u q).stay (λb ob hb eb=> ?_) (λ_ z=>z) λ_ _ z=>z
  have:∃u',H' b=some u':=by
   rcases hb with z|z
   ·exact⟨u,z ▸ q⟩
   ·exact⟨_,z⟩
  obtain⟨u',hu⟩:=this
  obtain⟨o1,e1,_,e3⟩:=nofs b u' hu
  rw[eb] at e1;cases e1
  exact e3
 ·obtain⟨o0,q⟩:=q
  obtain⟨o1,_,e2,e3⟩:=old b o0 q hb
  rw[e1] at e3;cases e3
  exact e2
 ·obtain⟨o1,_,e2,e3⟩:=nofs b u q
  rw[e1] at e3;cases e3
  exact e2
section
variable {P:Program} {w:World} {K:y3} {mg:Str->Option Value} {base:Heap} {N:List Str} {qual:Str} {scope:Scope} {f:Addr} {bt:Value} {A:Around} {outer:List Env} {s:Shared} {H:Hp} {E:XK}
theorem zP:WV (CXE P w) (XA (CXE P w) P w K mg base N qual scope f bt A outer s H E) E:=by
 rintro pins σ H1 s1 ev s' I ⟨e,cls,H',rfl,F,hE⟩
 obtain⟨B,t,fl,cov⟩:=F.fly
 have nX:∀b∈frs (envOfC qual scope s.heap.objs.size f bt::outer),b∈s.heap.objs.size::frs outer:=I.stkSub
 refine wpAny_mono (zgq (zaQ _ _) (wpAny_leaves_onW (E:=λ_ _=>False) (Q:=λ_ s''=>∃h',s''={s' with heap:=h'}/\Heap.FlyingW B outer e cls (.ref t) h'/\s'.heap.UpToSlots h') (L:=s.heap.objs.size) I.ok.frames rfl fl λh' x1 x2=>⟨h',rfl,x1,x2⟩)) (λ_ s3 h3=> ?_) λ_ _ h3=>h3.1.elim
 obtain⟨⟨h',rfl,x1,x2⟩,kd⟩:=h3
 obtain⟨un,hok,cov'⟩:=F.moved fl cov x1.1 x2
 have gH:∀b:Addr,b∉(XA (CXE P w) P w K mg base N qual scope f bt A outer s H E).ex:=λb z=>absurd (show b∈([]:List Addr) from z) (by simp)
 have oY:∀b o,s.heap.get? b=some o->b∉frs outer->b∉frs (envOfC qual scope s.heap.objs.size f bt::outer):=λb o q hb hz=>by
  rcases Ak.mp (nX b hz) with z|z
  ·exact Ad (Heap.lt_size q) z
  ·exact hb z
 have sub:∀b∈frs outer,b∈frs (envOfC qual scope s.heap.objs.size f bt::outer):=λb hb=>by
  unfold frs at hb ⊢
  rw[C3]
  exact Aj _ hb
 refine⟨e,cls,H',rfl,⟨F.os.trans I.os,F.bare,⟨λb o q n hb _=> ?_,λb o q n hb _=> ?_,λb o q n _=> ?_,λb o q _=> ?_,λb xs q=>un.tups b xs (I.base.tups b xs q),λb o xs q=>un.frzs b o xs (I.base.frzs b o xs q),λb ps q=> ?_⟩,hok,
  ⟨B,t,x1,λb o q hb e1=> ?_,cov'.2⟩,?_,F.free,λo q=> ?_⟩,hE⟩
 ·exact un.keep b o (I.base.keep b o q n hb (gH b)) (I.base.free b o q n (gH b)) (oY b o q hb) (by simp)
 ·obtain⟨sl,e1⟩:=I.base.slot b o q n hb (gH b)
  obtain⟨jF,e2⟩:=un.slot b _ e1 (I.base.free b o q n (gH b)) (sub b hb) (by simp)
  exact⟨jF,e2⟩
 ·obtain⟨o1,e1⟩:=I.base.there b o q (gH b)
  exact un.free b o1 e1 (I.base.free b o q n (gH b)) (by simp)
 ·obtain⟨o1,e1⟩:=I.base.there b o q (gH b)
  exact un.there b o1 e1 (by simp)
 ·obtain⟨m1,e1⟩:=I.base.tbls b ps q
  obtain⟨m2,e2⟩:=un.tbls b _ e1
  exact⟨m1++m2,by rw[e2,Dr]⟩
 ·obtain⟨o0,q⟩:=q
  obtain⟨o1,q1⟩:=I.base.there b o0 q (gH b)
  exact cov'.1 b o ⟨o1,q1⟩ (oY b o0 q hb) e1
 ·cases q:s.heap.get? e with
  |none=>rfl
  |some o=>
   obtain⟨o',q'⟩:=I.base.there e o q (gH e)
   have:=F.new
   rw[q'] at this;cases this
 ·obtain⟨ob,q9,_⟩:=fl.there
  exact (kd.at q9 q).1.trans (F.nd ob q9)
end
structure zgr (K:y3) (mg:Str->Option Value) (x:Str) (C:Addr) (ur:List Value) (newId:String):Prop where
 mg:mg x=some (.ref C)
 uM:EL K C ur newId=true
theorem Wl {P:Program} {w:World} {X:Cx}:WV (CXE P w) X E0:=λ_ _ _ _ _ _ _ ⟨_,_,_,_,_,h⟩=>h.elim
abbrev TEx:=St->Hp->VK->(Value->Hp->Prop)->Prop
abbrev TAx:=St->Hp->(List V->Hp->Prop)->(Value->Hp->Prop)->Prop
abbrev TSx:=Wg->(Value->Hp->Prop)->St->Hp->Prop
section
variable {X:Cx} {e:Expr} {es:List Expr} {te:TE}
end
noncomputable def zk0 (e:Addr) (cls:Value):HO:= .ext λh=>∃ob,h.get? e=some ob/\ob.cls=cls/\ob.dict=none/\∃vs,ob.data= .fields vs
noncomputable abbrev Cx.hand (X:Cx) (e:Addr):Cx:={X with A:=X.A.mark (some (.ref e)),calm:=false,xe:=λ_ _=>False}
section
variable {X:Cx} {pins:List (Addr×Obj)} {σ:St} {H:Hp} {s:Shared}
end
open PySem.Builtin.Int (intBits)
def zj9 (i j:Int):Prop:=∃m n:Nat,intBits i<=m/\intBits j<=n/\m+n<=134217728
def zgs (i j:Int):Prop:=j≠0/\intBits j<=9000
section
variable {X:Cx}
theorem zY:OpR X (binaryOp .Mult) (rI zj9 λi j=> .int (i*j)):=opI λ_ _ _ _ _ _ _ hc q=>by
 obtain⟨m,n,h1,h2,h3⟩:=hc
 exact mul_int q (IntMulOk.of_le h1 h2 h3)
theorem vB:OpR X (binaryOp .FloorDiv) (rI zgs λi j=> .int (i.fdiv j)):=opI λi j _ _ _ _ _ hc q=>floordiv_int hc.1 q (.inl (PyProof.noPylong_of_log2 (by
 have h:=Df.mp hc.2
 by_cases z:j.natAbs=0
 ·rw[z];decide
 ·exact (Nat.log2_lt z).mpr h)))
end
section
variable {prog:Program} {w:World} {A:Around} {E:Value->Shared->Prop} {s:Shared} {K:y3} {x D:Addr} {ox:Obj}
theorem zaR {M:Model} {nameV:Value} {Q:Unit->Shared->Prop} (X:K.In s.heap) (I:Dl s.heap x ox D none) (be:AX K D (.type "BaseException")=some true) (hq:Q () s):
  wpAny M A (checkBuiltinCall "BaseException.__getattribute__" ⟨[.ref x,nameV],[]⟩) Q E s:=by
 obtain⟨hh,g,d,t,os⟩:=s
 have hk:builtinKind "BaseException.__getattribute__"=some .slot:=by decide+kernel
 have hsplit:splitId "BaseException.__getattribute__"=some ("BaseException","__getattribute__"):=by decide+kernel
 have L0:=I.type (M:=M)
 have L1:=PySem.W.looks_mroIn (M:=M) X be
 have ha:=F.args_bexc_ga (.ref x) nameV
 simp only[checkBuiltinCall,hk,hsplit]
 refine wpAny_bind ?_
 unfold isInstance
 refine wpAny_bind (L0.at (L1.at ?_))
 repeat (first|wp_step)
 exact hq
theorem zff {Q:Option Value->Shared->Prop} (X:K.In s.heap) (I:Dl s.heap x ox D none) (ga:A9 K (.ref D) "__getattribute__"=some (some (.builtin "BaseException.__getattribute__"))) (noga:A9 K (.ref D) "__getattr__"=some none)
  (be:AX K D (.type "BaseException")=some true) (hf:Ec K D none "__class__"=some (.bind (.builtin "getset_descriptor.__get__") (.builtin "object.__class__"))) (hm:AX K D (.type "object")=some true)
  (h:Q (some (.ref D)) {s with toks:=s.toks+1}):wpAny (model prog w) A (getAttr? (.ref x) "__class__") Q E s:=by
 obtain⟨hh,g,d,t,os⟩:=s
 have L0:=I.type (M:=model prog w)
 have L1:=Dd (M:=model prog w) X ga
 have L2:=Dd (M:=model prog w) X noga
 have L3:=PySem.W.looks_find (M:=model prog w) X I hf
 have hb:=F.attrBase_ValueError.ga.bind (.ref x)
 unfold getAttr? getAttrBy? getAttrBy
 refine wpAny_bind (wpAny_mkText (wpAny_bind (wpAny_attempt (wpAny_holding (wpAny_bind (L0.at (wpAny_bind (L1.at ?_))))))))
 dsimp only
 rw[if_neg (show ¬(onTheHeap (Value.ref D)&&(Value.builtin "BaseException.__getattribute__"==Value.builtin "object.__getattribute__"))=true by rw[show (Value.builtin "BaseException.__getattribute__"==Value.builtin "object.__getattribute__")=false by decide+kernel];simp)]
 unfold getAttrByItsOwn hookBefore
 refine wpAny_bind ?_
 show wpAny _ _ (typeLookup (.ref D) "__getattr__") _ _ _
 refine L2.at ?_
 refine wpAny_bind (wpAny_attempt (wpAny_holding ?_))
 unfold callGetattribute boundAndCalled
 rw[if_neg ∅,hb]
 refine wpAny_bind (wpAny_pure ?_)
 dsimp only
 refine wpAny_call (codeAny_call_builtin F.attrBase_ValueError.ga.plain F.entry_bexc_ga (zaR (ox:=ox) X I be ?_))
 unfold Builtin.«object.__getattribute__»
 refine wpAny_bind (wpAny_of_eq (show slotArgs "__getattribute__" 1 {pos:=[Value.ref x]++[Value.str (Str.ofString "__class__") t]}=pure (.ref x,[Value.str (Str.ofString "__class__") t]) from rfl) ?_)
 dsimp only
 refine wpAny_bind (wpAny_of_eq (show Builtin.ObjectAttr.attrName (Value.str (Str.ofString "__class__") t)=pure (Str.ofString "__class__") from rfl) ?_)
 refine wpAny_bind (L0.at (wpAny_bind (L3.at ?_)))
 dsimp only
 show wpAny _ _ (do ret (<-holding [Value.builtin "object.__class__"] (call (.builtin "getset_descriptor.__get__") [.builtin "object.__class__",.ref x,.ref D]))) _ _ _
 refine wpAny_bind (wpAny_holding (wpAny_call (PySem.W.class_get (ox:=ox) (od:=none) X I hm ?_)))
 exact wpAny_pure (PySem.W.handed_on rfl (wpAny_pure h))
end
section
variable {X:Cx}
structure zea (K:y3) (D:Addr):Prop where
 ga:A9 K (.ref D) "__getattribute__"=some (some (.builtin "BaseException.__getattribute__"))
 noga:A9 K (.ref D) "__getattr__"=some none
 be:AX K D (.type "BaseException")=some true
 hc:(ER K D).isSome=true
 ha:A9 K (.ref D) "__class__"=some (some (.builtin "object.__class__"))
 hn:CU K (.builtin "object.__class__") "__get__"=some (some (.builtin "getset_descriptor.__get__"))
 htk:E8 K (.builtin "object.__class__")=some true
 hm:AX K D (.type "object")=some true
theorem zgt {K:y3} {x D:Addr} (e:zea K D):Gp K (.ref x) (.ref D) (λh=>∃ox,Dl h x ox D none) where
 ty:=λ_ _ _ ⟨_,I⟩=>I.type
 it:=λ_ _ X _=>by
  obtain⟨cd,cF⟩:=Bg.mp e.hc
  unfold ER at cF
  split at cF
  ·rename_i ho
   intro A' Q' E' s' k q
   unfold isType loadHead
   exact wpAny_bind (wpAny_loadPart (k _ _ (X _ _ ho)) (wpAny_pure q))
  ·cases cF
 ne:=λh tp dd ae n sl X rV=>by
  obtain⟨cd,cF⟩:=Bg.mp e.hc
  refine Bool.eq_false_iff.mpr λq=> ?_
  have z:D=tp:=Value.ref.inj (beq_iff_eq.mp q)
  subst z
  unfold ER at cF
  split at cF
  ·rename_i ho
   have y:=(X _ _ ho).symm.trans rV
   cases y
  ·cases cF
 ca:=λ{_ _ _ _ _ s} X I k=>by
  obtain⟨ox,I⟩:=I
  obtain⟨cd,cF⟩:=Bg.mp e.hc
  have hf:Ec K D none "__class__"=some (.bind (.builtin "getset_descriptor.__get__") (.builtin "object.__class__")):=by
   unfold Ec
   rw[cF,A1,e.ha,A1]
   simp[e.hn,e.htk]
  exact zff X I e.ga e.noga e.be hf e.hm k
inductive TyX (K:y3) (H:Hp):V->Value->Prop where
 |of {x:V} {t:Value} (h:VJ K H x t):TyX K H x t
 |exc {e D:Addr} (h:H e=some (zk0 e (.ref D))) (k:zea K D):TyX K H (.ref e) (.ref D)
 |sqt {a:Addr} {xs:List V} (h:SqT K H a xs):TyX K H (.ref a) (.type "tuple")
 |sql {a:Addr} {xs:List V} (h:SqL K H a xs):TyX K H (.ref a) (.type "list")
theorem TyX.kit {pins:List (Addr×Obj)} {σ:St} {H:Hp} {s:Shared} {x:V} {u t:Value} (I:Inv X pins σ H s) (rx:zD x u) (ty:TyX X.K H x t):∃Hh,Gp X.K u t Hh/\Hh s.heap:=by
 cases ty with
 |of ty=>
  cases ty with
  |non=>cases (show u=Value.none from rx);exact⟨_,PySem.W.kitx_none,B8⟩
  |bl y=>cases (show u=Value.bool y from rx);exact⟨_,PySem.W.kitx_bool,B8⟩
  |int i=>obtain⟨t,q⟩:=(show ∃t,u=Value.int i t from rx);cases q;exact⟨_,PySem.W.kitx_int,B8⟩
  |str y=>obtain⟨t,q⟩:=(show ∃t,u=Value.str y t from rx);cases q;exact⟨_,PySem.W.kitx_str,B8⟩
  |flt y=>obtain⟨t,q⟩:=(show ∃t,u=Value.float y t from rx);cases q;exact⟨_,PySem.W.kitx_float,B8⟩
  | @lst a xs ea=>
   cases (show u=Value.ref a from rx)
   obtain⟨_,_,n,_,h1⟩:=(show yj X.prog X.w H s.heap a (.lst xs) from I.hok a _ ea)
   exact⟨_,Dy,⟨_,h1,rfl⟩⟩
  | @frz a ob xs ea=>
   cases (show u=Value.ref a from rx)
   obtain⟨_,_,_,n,_,h1⟩:=(show yj X.prog X.w H s.heap a (.frz ob (.lst xs)) from I.hok a _ ea)
   exact⟨_,Dy,⟨_,h1,rfl⟩⟩
  | @tup a xs ea=>
   cases (show u=Value.ref a from rx)
   obtain⟨_,_,_,p⟩:=(show yj X.prog X.w H s.heap a (.tup xs) from I.hok a _ ea)
   obtain⟨o,h1,h2,_⟩:=p
   exact⟨_,F9,⟨o,h1,h2⟩⟩
  | @dK a kvs ea=>
   cases (show u=Value.ref a from rx)
   obtain⟨_,_,vs,_,p⟩:=(show yj X.prog X.w H s.heap a (.dK kvs) from I.hok a _ ea)
   obtain⟨o,es,ep,h1,h2,_⟩:=p
   exact⟨_,Fu,⟨o,h1,h2.1⟩⟩
  | @dT a kvs ea=>
   cases (show u=Value.ref a from rx)
   obtain⟨_,_,xs,_,o,es,ep,h1,h2,_⟩:=(show yj X.prog X.w H s.heap a (.dT kvs) from I.hok a _ ea)
   exact⟨_,Fu,⟨o,h1,h2.1⟩⟩
  | @ins a C dx fs ea cl ha hn htk hm=>
   cases (show u=Value.ref a from rx)
   obtain⟨mA,O,_⟩:=zaI I.hok ea
   obtain⟨od,J,_⟩:=O.look
   exact⟨_,PySem.W.kitx_own (cl.get _) cl.hd ha hn htk hm,J⟩
 | @sqt a xs h=>
  cases (show u=Value.ref a from rx)
  obtain⟨ae,_,⟨o,h1,h2,_⟩,_⟩:=I.tuple h
  exact⟨_,F9,⟨o,h1,h2⟩⟩
 | @sql a xs h=>
  cases (show u=Value.ref a from rx)
  obtain⟨ae,_,⟨o,n,h1,h2,_⟩,_⟩:=I.list h
  exact⟨_,Dy,⟨o,h1,h2⟩⟩
 | @exc e D h k=>
  cases (show u=Value.ref e from rx)
  obtain⟨⟨ob,h1,h2,h3,vs,h4⟩,_⟩:=(show yj X.prog X.w H s.heap e (zk0 e (.ref D)) from I.hok e _ h)
  refine⟨_,zgt k,ob,h1,h2,?_,?_⟩
  ·unfold PySem.W.notCls
   rw[h4]
  ·rw[h3];trivial
noncomputable def zms:V->Option Value
 | .ref a=>some (.ref a)
 | .ty n=>some (.type n)
 |_=>none
theorem zgu {c:V} {cv u:Value} (h:zms c=some cv) (r:zD c u):u=cv:=by
 cases c with
 |ref a=>cases h;exact r
 |ty n=>cases h;exact r
 |_=>cases h
theorem zD.nb {x:V} {u:Value} (r:zD x u):u≠ .builtin "__main__.__loader__#opaque":=by
 cases x with
 |non=>rintro rfl;cases r
 |bl b=>rintro rfl;cases r
 |int i=>rintro rfl;obtain⟨_,q⟩:=r;cases q
 |str i=>rintro rfl;obtain⟨_,q⟩:=r;cases q
 |byt i=>rintro rfl;obtain⟨_,q⟩:=r;cases q
 |flt i=>rintro rfl;obtain⟨_,q⟩:=r;cases q
 |ref a=>rintro rfl;cases r
 |ty a=>rintro rfl;cases r
def ziL (K:y3):List V->Hp->VK->Prop:=λxs H Q=>∃x c cv t b,xs=[x,c]/\zms c=some cv/\TyX K H x t/\AU K t cv=some b/\Q (.bl b) H
theorem zgv:ZD X (.builtin "isinstance") (ziL X.K):=by
 intro pins s σ H xs us Q I r h
 obtain⟨x,c,cv,t,b,rfl,hc,ty,e,q⟩:=h
 obtain⟨u,w',rfl,ru,rw'⟩:=zd1 r
 obtain rfl:=zgu hc rw'
 obtain⟨Hh,Z,p⟩:=ty.kit I ru
 exact PySem.W.kia_one Z I.kIn p e ru.nb λtk=>⟨.bl b,H,I.tok tk,rfl,q⟩
end
theorem zbY {K:y3} {t:Value}:AU K t t=some true:=by unfold AU;rw[if_pos (by simp)]
theorem zaS {K:y3}:AU K (.type "bool") (.type "int")=some true:=by
 have h:(fastBuiltinMro "bool").map (·.contains (.type "int"))=some true:=by decide+kernel
 have hm:BP "int"=true:=by decide+kernel
 unfold AU Ez
 rw[if_neg ∅]
 show (if BP "int"=true then Dv K (.type "bool") (.type "int") else none)=_
 rw[if_pos hm]
 exact h
theorem zaT {K:y3}:AU K (.type "int") (.type "bool")=some false:=by
 have h:(fastBuiltinMro "int").map (·.contains (.type "bool"))=some false:=by decide+kernel
 have hm:BP "bool"=true:=by decide+kernel
 unfold AU Ez
 rw[if_neg ∅]
 show (if BP "bool"=true then Dv K (.type "int") (.type "bool") else none)=_
 rw[if_pos hm]
 exact h
end L2
namespace L2
open PySem PySem.Spec PyProof.Rows
inductive D where
 |non|bl (b:Bool)|int (i:Int)|str (x:Str)|tup (l:List D)|lst (l:List D)|ins (C:Addr) (ns:List Str) (l:List D)
mutual
inductive Is (K:y3) (H:Hp):V->D->Prop where
 |non:Is K H .non .non
 |bl (b:Bool):Is K H (.bl b) (.bl b)
 |int (i:Int):Is K H (.int i) (.int i)
 |str (x:Str):Is K H (.str x) (.str x)
 |tup {a:Addr} {xs:List V} {ds:List D}:SqT K H a xs->IsL K H xs ds->Is K H (.ref a) (.tup ds)
 |lst {a:Addr} {xs:List V} {ds:List D}:SqL K H a xs->IsL K H xs ds->Is K H (.ref a) (.lst ds)
 |ins {a C dx:Addr} {ns:List Str} {xs:List V} {ds:List D}:H a=some (.ins C dx (ns.zip xs))->ns.length=xs.length->IsL K H xs ds->Is K H (.ref a) (.ins C ns ds)
inductive IsL (K:y3) (H:Hp):List V->List D->Prop where
 |nil:IsL K H [] []
 |cons {v:V} {d:D} {vs:List V} {ds:List D}:Is K H v d->IsL K H vs ds->IsL K H (v::vs) (d::ds)
end
theorem yl {H:Hp} {p:Addr} {o:HO} (h:H p=none):Zc H (upd H p o):=λb u e=>by rw[zh (wk e h)];exact e
theorem IsL.len {K:y3} {H:Hp}:∀{vs:List V} {ds:List D},IsL K H vs ds->vs.length=ds.length
 |_,_,.nil=>rfl
 |_,_,.cons _ l=>by rw[Ah,Ah,l.len]
theorem IsL.get {K:y3} {H:Hp}:∀{vs:List V} {ds:List D} {i:Nat} {d:D},IsL K H vs ds->ds[i]? =some d->∃v,vs[i]? =some v/\Is K H v d
 |_,_,_,_,.nil,e=>by simp at e
 |_,_,0,_,.cons h _,e=>by simp at e;subst e;exact⟨_,rfl,h⟩
 |_,_,i+1,d,.cons _ l,e=>by
  obtain⟨v,e1,e2⟩:=l.get (i:=i) (d:=d) (by simpa using e)
  exact⟨v,by simpa using e1,e2⟩
theorem Is.int_inv {K:y3} {H:Hp} {v:V} {i:Int} (h:Is K H v (.int i)):v= .int i:=by cases h;rfl
theorem Is.bl_inv {K:y3} {H:Hp} {v:V} {b:Bool} (h:Is K H v (.bl b)):v= .bl b:=by cases h;rfl
theorem Is.str_inv {K:y3} {H:Hp} {v:V} {b:Str} (h:Is K H v (.str b)):v= .str b:=by cases h;rfl
theorem Is.non_inv {K:y3} {H:Hp} {v:V} (h:Is K H v .non):v= .non:=by cases h;rfl
theorem Is.tup_inv {K:y3} {H:Hp} {v:V} {ds:List D} (h:Is K H v (.tup ds)):∃a xs,v= .ref a/\SqT K H a xs/\IsL K H xs ds:=by cases h with|tup a b=>exact⟨_,_,rfl,a,b⟩
theorem Is.lst_inv {K:y3} {H:Hp} {v:V} {ds:List D} (h:Is K H v (.lst ds)):∃a xs,v= .ref a/\SqL K H a xs/\IsL K H xs ds:=by cases h with|lst a b=>exact⟨_,_,rfl,a,b⟩
noncomputable abbrev dQ (a b:Int):D:= .tup [.int a,.int b]
section
variable {σ:St} {H:Hp} {Q:VK} {ta tb tc:TE} {D':Wg} {v:V} {i:Nat}
end
local macro_rules | `(tactic| walk_at "rd") => `(tactic| repeat (first | refine pj ?_ | refine pG ?_ | refine lr ?_ | refine pf rfl ?_ | refine uN ?_ | refine rB ?_ | refine rD ?_ | refine uO ?_ | refine rq ?_ | refine pF ?_ | refine uQ ?_ | refine uP ?_ | refine rC ?_ | refine pz ?_ | refine pH ?_ | refine rA ?_ | refine mG ?_ | refine pw ?_ | refine mB ?_ | refine pE ?_ | refine mC ?_ | refine mD ?_ | refine pk ?_ | refine my ?_ | refine pC ?_ | refine pA ?_ | refine mE ?_ | refine mF ?_ | refine rE ?_ | refine ph ?_ | refine pB ?_ | refine pq ?_ | refine mz ?_ | refine lq ?_))
end L2
namespace L2
open PySem PySem.Spec PyProof.Rows
section
variable {σ:St} {H:Hp} {Q:VK} {D':Wg} {E:XK}
end
theorem Fun.okE {P:Program} {w:World} {K:y3} {mg:Str->Option Value} {base:Heap} {x qual:Str} {st:Stmt} {f:Addr} {fd:FuncData} {N ps:List Str} {k:Nat} {sp:Sp} (F:Fun K x qual st f fd) (S:zy N ps (zg st)) (len:∀vs H Q E,sp vs H Q E->vs.length=ps.length)
  (cQ:∀(bt:Value) (A:Around) (outer:List Env) (s:Shared) (H:Hp) (vs:List V) (Q:VK) (E:XK),xo k (A.deeper (envOfC qual (zg st) s.heap.objs.size f bt))->sp vs H Q E->
   ∃t,PSs (XA (CXE P w) P w K mg base N qual (zg st) f bt A outer s H E) (wF st) t/\t {nx:=λ_ H'=>Q .non H',rt:=Q} (ZG N vs) H):ZF P w K mg base (CXE P w) (k+1) f fd ps sp:=by
 obtain⟨oc,od,kV,doc,pm,an,bt,ct,eY,rfl,lk,cF⟩:=F.ex
 exact zml lk cF S len λA outer s H vs Q E hr f7=>cQ bt A outer s H vs Q E hr f7
section
variable {σ:St} {H:Hp} {Q:VK} {D':Wg} {E:XK} {EX:Value->Hp->Prop}
end
section
variable {X:Cx} {K:y3}
theorem zW (h:X.K=K:=by rfl):IxR X (ziE K):=h ▸ zf9
theorem yq (h:X.K=K:=by rfl):IxR X (ziD K):=h ▸ zd6
theorem zag (h:X.K=K:=by rfl):ZD X (.builtin "isinstance") (ziL K):=h ▸ zgv
theorem xt (h:X.K=K:=by rfl):ZD X (.builtin "len") (λxs H Q=>∃p ys,xs=[.ref p]/\(SqL K H p ys\/SqT K H p ys)/\Q (.int ys.length) H):=h ▸ zaL
theorem zc7 (h:X.K=K:=by rfl):ZD X (.type "list") (λxs H Q=>∃p ys,xs=[.ref p]/\(SqL K H p ys\/SqT K H p ys)/\∀l,H l=none->Q (.ref l) (upd H l (.lst ys))):=h ▸ zaM
theorem Wm (h:X.K=K:=by rfl):SlR X (zga K):=h ▸ ziF
variable {tg l:Expr} {tl:TE}
theorem yg (hl:PE X l tl) (h:X.K=K:=by rfl):PI X tg l (zf0 K tl):=h ▸ ziw hl
theorem yM {es:List Expr} {k:Nat} {t:TGs} {n:Nat} {pos:Pos} (hc:X.calm=true) (h:PGs X es t) (hK:X.K=K:=by rfl)
  (hn:(assignEach es X.env).length=n:=by rfl) (eQ:(assignEach es X.env).findIdx? (·.1)=none:=by rfl):PG X (.Tuple es k pos) (ziv K n t):=hK ▸ zkL hc h hn eQ
theorem yv {sc:Scope}:wG X sc [] []:=trivial
theorem zQ {sc:Scope} {r:List (Option Nat)} {n:List Str} {x:Str} (h:wG X sc r n):wG X sc (none::r) (x::n):=h
theorem xi {sc:Scope} {r:List (Option Nat)} {n:List Str} {x:Str} {i:Nat} (h1:X.N[i]? =some x) (h2:sc.names.lookup x=some .free) (h:wG X sc r n):wG X sc (some i::r) (x::n):=⟨⟨h1,h2⟩,h⟩
end
noncomputable def zgw (osc sc:Scope):Bool:=sc.names.all (λy=>y.2 != .cell)&&sc.kind== .function&&sc.names.all (λy=>y.2 != .local||sc.names.lookup y.1==some .local)&&
 sc.names.all (λy=>y.2 != .free||(osc.names.lookup y.1==some .cell||osc.names.lookup y.1==some .free))
theorem blk {X:Cx} {osc sc:Scope} (hs:X.env.scope=osc) (h:zgw osc sc=true):ZV X sc:=by
 unfold zgw at h
 simp only[BI,D0,bne_iff_ne,ne_eq,beq_iff_eq,Ed] at h
 obtain⟨⟨⟨h1,h2⟩,h3⟩,h4⟩:=h
 refine⟨h1,h2,λy hy e=>(h3 y hy).resolve_left λz=>z e,λy hy e=> ?_⟩
 show X.env.scope.names.lookup y.1=_\/X.env.scope.names.lookup y.1=_
 rw[hs]
 exact (h4 y hy).resolve_left λz=>z e
section
variable {g:TG} {tb:TS} {σ:St} {H:Hp} {nx:St->Hp->Prop} {rt:VK}
end
mutual
noncomputable def D.depth:D->Nat
 | .tup l=>D.depths l+1
 | .lst l=>D.depths l+1
 | .ins _ _ _=>1000
 |_=>0
noncomputable def D.depths:List D->Nat
 |[]=>0
 |d::r=>max (D.depth d) (D.depths r)
end
section
variable {X:Cx} {pins:List (Addr×Obj)} {σ:St} {H:Hp} {s:Shared}
end
section
variable {σ:St} {H:Hp} {Q:VK} {D':Wg} {cap:List (Option Nat)} {wi:TI} {g:TG} {tt:TT} {te:TE}
variable {acc:Addr} {H0:Hp} {Qh:Hp->Prop}
end
section
variable {X:Cx}
end
section
variable {X:Cx} {pins:List (Addr×Obj)} {σ:List (Option V)} {H H':Hp} {s:Shared} {h':Heap}
theorem Inv.turnedL {t':Nat} {fp:List Addr} (I:Inv X pins σ H s) (k:∀b o,b∉fp->s.heap.get? b=some o->h'.get? b=some o) (hf:∀b∈fp,WR X pins H b):Inv X pins σ H {s with heap:=h',toks:=t'}:=by
 have fi:∀b u,H b=some u->b∉fp:=λb u e z=>by rw[(hf b z).1] at e;cases e
 refine I.step (g':=s.gens) (d':=s.drawn) (ch:=fp) (λb hb=> ?_) (λb o _ _ hc e _=>k b o hc e) (λb o _ _ hc e _=>⟨o.slots,k b o hc e⟩) (λ_ _ _ _ n=>n)
  (λb o hc e=>⟨o,k b o hc e⟩) (λ_ _ e=>e) (λ_ _ _ e=>e) (λb ps e=>⟨#[],by rw[e];simp⟩) (λm hm=> ?_) (λb u e=> ?_) I.bare
 ·obtain⟨f0,f1,f2,f3,f4,f5⟩:=hf b hb
  exact⟨f3,f1,f4,f5⟩
 ·obtain⟨o,es,ep,ho,r⟩:=hm
  exact⟨o,es,ep,k _ o (λz=>(hf _ z).2.1 rfl) ho,r⟩
 ·refine (I.hok b u e).stay (λc v hc q=>k c v ?_ q) (λ_ q=>q) λ_ _ q=>q
  rcases hc with z|z
  ·rw[z];exact fi b u e
  ·exact fi c _ z
theorem Inv.turnedT {t':Nat} {fp:List Addr} {ys:List V} {us:List Value} (I:Inv X pins σ H s) (hv:zI ys us) (hl:ys.length<=sizeLine) (k:∀b o,b∉fp->s.heap.get? b=some o->h'.get? b=some o)
  (hp:h'.get? s.heap.objs.size=some {cls:= .type "tuple",data:= .seq us.toArray}) (hf:∀b∈fp,WR X pins H b) (hx:∀b∈fp,∃o,s.heap.get? b=some o):
  Inv X pins σ (upd H s.heap.objs.size (.tup ys)) {s with heap:=h',toks:=t'}/\H s.heap.objs.size=none/\∀b∈fp,upd H s.heap.objs.size (.tup ys) b=none:=by
 have fr:H s.heap.objs.size=none:=I.hok.fresh (z5 _)
 have nb:∀b∈fp,b≠s.heap.objs.size:=λb hb z=>by
  obtain⟨o,e⟩:=hx b hb
  exact absurd (Heap.lt_size e) (by rw[z];exact Bh _)
 have fb:∀b∈fp,upd H s.heap.objs.size (.tup ys) b=none:=λb hb=>by rw[zh (nb b hb)];exact (hf b hb).1
 have I0:Inv X pins σ (upd H s.heap.objs.size (.tup ys)) {s with heap:=s.heap.push {cls:= .type "tuple",data:= .seq us.toArray}}:=
  I.laid (t':=s.toks) (λb o e=>Heap.get?_push_of_some _ e) (z5 _) ⟨hl,us,hv,WP.new _ _⟩
 refine⟨Inv.turnedL (s:={s with heap:=s.heap.push {cls:= .type "tuple",data:= .seq us.toArray}}) (t':=t') (fp:=fp) I0 (λb o hb e=> ?_) (λb hb=> ?_),fr,fb⟩
 ·by_cases z:b=s.heap.objs.size
  ·subst z
   rw[Heap.get?_push_size _ rfl] at e
   cases e
   exact hp
  ·refine k b o hb ?_
   rwa [Heap.get?_push_ne _ _ _ z] at e
 ·obtain⟨f0,f1,f2,f3,f4,f5⟩:=hf b hb
  exact⟨fb b hb,f1,f2,f3,f4,f5⟩
end
noncomputable def Ite (K:y3) (a:Addr):It:=
 ⟨λi H=>∃xs x,SqL K H a xs/\xs[i]? =some x,λi H x H'=>∃p y,x= .ref p/\H p=none/\H'=upd H p (.tup [.int i,y])/\∀xs,SqL K H a xs->xs[i]? =some y,λi H=>∃xs,SqL K H a xs/\xs.length<=i⟩
theorem zfg {P:Program} {w:World} {K:y3} {elts:List Expr} {k:Nat} {tp:Pos} (a e it:Addr) (cE:e≠it):
  zcU P w K (.Tuple elts k tp) (Ite K a) [e,it] e (λi h=>(∃old,IsEnum h e it i old)/\h.IsListIter it a i) where
 mem:=by simp
 obj:=λi h st b hb=>by
  obtain⟨⟨old,he⟩,o,e',c,d⟩:=st
  rcases (by simpa using hb:b=e\/b=it) with rfl|rfl
  ·exact⟨_,he,λv z=>by cases z⟩
  ·exact⟨o,e',λv z=>by rw[d] at z;cases z⟩
 keep:=λi h h' st k=>⟨let ⟨old,he⟩:=st.1;⟨old,k e (by simp) _ he⟩,st.2.at λo e=>k it (by simp) o e⟩
 item:=by
  intro X hP hw hK hc i pins s σ H E I hf st hg
  subst hP hw hK
  obtain⟨xs,x,hq,hx⟩:=hg
  obtain⟨ae,rv,p,hz⟩:=I.list hq
  obtain⟨u,hu,ru⟩:=rv.get hx
  obtain⟨⟨old,he⟩,hit⟩:=st
  refine wpAny_pyNext_enum_item he hit p.isList (x:=u) (by simpa using hu) cE λh1 hG gw mW mJ iT=> ?_
  refine⟨_,rfl,?_⟩
  refine wpAny_letOwnedTupleGo_enum (s:={s with heap:=h1,toks:=s.toks+1}) hG λh2 jv cx=> ?_
  have cx:Heap.SameBut e h1 h2:=cx
  have mo:e<s.heap.objs.size:=Heap.lt_size he
  have vv:zI [V.int i,x] [.int i s.toks,u]:= .cons ⟨_,rfl⟩ (.cons ru .nil)
  have T:=Inv.turnedT (h':=h2) (t':=s.toks+1) (fp:=[e,it]) I vv (by show 2<=sizeLine;decide) (λb o hb eb=> ?_) ((cx.2 _ (Av mo)).trans mW) hf (λb hb=> ?_)
  ·obtain⟨I2,fr,fb⟩:=T
   exact⟨.ref s.heap.objs.size,_,I2,rfl,⟨_,x,rfl,fr,rfl,λys hy=>by rw[I.list_inj hy hq];exact hx⟩,⟨⟨_,jv⟩,gw.at λo eo=>(cx.2 it cE.symm).trans eo⟩,fb⟩
  ·have hb:b≠e/\b≠it:=by simpa using hb
   exact (cx.2 b hb.1).trans (iT b o hb.1 hb.2 eb)
  ·obtain⟨o,eo,_⟩:=hit
   rcases (by simpa using hb:b=e\/b=it) with rfl|rfl
   ·exact⟨_,he⟩
   ·exact⟨o,eo⟩
 done:=by
  intro X hP hw hK hc i pins s σ H E I hf st hg
  subst hP hw hK
  obtain⟨xs,hq,hx⟩:=hg
  obtain⟨ae,rv,p,hz⟩:=I.list hq
  have hl:=rv.length
  obtain⟨⟨old,he⟩,hit⟩:=st
  exact wpAny_pyNext_enum_end (I.ok.hd hc) he hit p.isList (by simp;omega) λh' eb=>⟨rfl,Inv.turnedL (t':=s.toks) (fp:=[e,it]) I (λb o hb eo=>eb b o (λz=>hb (by simp[z])) eo) hf⟩
 self:=λ_ _ _ _ _ st h=>let ⟨⟨_,he⟩,_⟩:=st;wpAny_pyIter_enum he h
section
variable {X:Cx}
def zka (K:y3) (ta:TA):TI:=λσ H R=>ta σ H λvs H1=>∃a,vs=[.ref a]/\(∃xs,SqL K H1 a xs)/\R (Ite K a) H1
theorem zaU {K:y3} {elts:List Expr} {k:Nat} {tp:Pos} {l:Expr} {ta:TA} {p pos:Pos} (hg:Gl X "enumerate") (hm:X.mg "enumerate"=none) (ha:PA X [l] ta) (hK:X.K=K:=by rfl) (hs:starEach [l] X.env=[(false,eval l X.env)]:=by rfl):
  PI X (.Tuple elts k tp) (.Call (.Name "enumerate" p) [l] [] pos) (zka K ta):=by
 subst hK
 intro pins s σ H R I h
 refine Call_ (va I hg hm Boot.«enumerate» (AB (thn (ha pos pins s σ H _ I h) ?_) hs rfl))
 rintro us s1 ⟨vs,H1,I1,r1,q1⟩
 obtain⟨a,e,⟨xs,hq⟩,q⟩:=q1
 subst e
 obtain⟨u,rfl,ru⟩:=Yv r1
 cases ru
 obtain⟨ae,rv,p,hz⟩:=I1.list hq
 refine call_enumerate_list p.isList λh' he hit hsz hk=> ?_
 have I2:Inv X pins σ H1 {s1 with heap:=h'}:=I1.kept (t':=s1.toks) hk
 refine wpAny_pyIter_enum (s:={s1 with heap:=h'}) he ?_
 refine⟨s1.heap.objs.size+1,[s1.heap.objs.size+1,s1.heap.objs.size],_,_,H1,rfl,I2,zfg a (s1.heap.objs.size+1) s1.heap.objs.size (DJ _),⟨⟨_,he⟩,hit⟩,λb hb=> ?_,q⟩
 have hb:s1.heap.objs.size<=b:=by
  rcases (by simpa using hb:b=s1.heap.objs.size+1\/b=s1.heap.objs.size) with rfl|rfl
  ·exact B5 _
  ·exact z5 _
 exact Inv.fpOk I1 hb (I1.hok.fresh hb)|>λ⟨f0,f1,f2,f3,f4,f5⟩=>⟨f0,f1,f2,f3,f4,f5⟩
end
noncomputable def Itz (K:y3) (a b:Addr):It:=
  ⟨λi H=>∃xs ys x y,SqL K H a xs/\SqL K H b ys/\xs[i]? =some x/\ys[i]? =some y,
   λi H x H'=>∃p u v,x= .ref p/\H p=none/\H'=upd H p (.tup [u,v])/\(∀xs,SqL K H a xs->xs[i]? =some u)/\∀ys,SqL K H b ys->ys[i]? =some v,
   λi H=>∃xs ys,SqL K H a xs/\SqL K H b ys/\(xs.length<=i\/ys.length<=i)⟩
structure ZA (z TI TO i1 i2:Addr):Prop where
 TIz:TI≠z
 TOz:TO≠z
 i1z:i1≠z
 i2z:i2≠z
 TITO:TI≠TO
 TIi1:TI≠i1
 TIi2:TI≠i2
 TOi1:TO≠i1
 TOi2:TO≠i2
 i12:i1≠i2
theorem zgx {P:Program} {w:World} {K:y3} {elts:List Expr} {k:Nat} {tp:Pos} (a b z TI TO i1 i2:Addr) (D:ZA z TI TO i1 i2):
  zcU P w K (.Tuple elts k tp) (Itz K a b) [z,TI,TO,i1,i2] z (λi h=>IsZip h z TI TO .none/\IsPair h TI (.ref i1) (.ref i2)/\(∃u v,IsPair h TO u v)/\h.IsListIter i1 a i/\h.IsListIter i2 b i) where
 mem:=by simp
 obj:=λi h st c hb=>by
  obtain⟨hz,cT,⟨u,v,cV⟩,⟨o1,e1,_,d1⟩,o2,e2,_,d2⟩:=st
  rcases (by simpa using hb:c=z\/c=TI\/c=TO\/c=i1\/c=i2) with rfl|rfl|rfl|rfl|rfl
  ·exact⟨_,hz,λv z=>by cases z⟩
  ·exact⟨_,cT,λv z=>by cases z⟩
  ·exact⟨_,cV,λv z=>by cases z⟩
  ·exact⟨o1,e1,λv z=>by rw[d1] at z;cases z⟩
  ·exact⟨o2,e2,λv z=>by rw[d2] at z;cases z⟩
 keep:=λi h h' st k=>by
  obtain⟨hz,cT,⟨u,v,cV⟩,h1,h2⟩:=st
  exact⟨k z (by simp) _ hz,k TI (by simp) _ cT,⟨u,v,k TO (by simp) _ cV⟩,h1.at λo e=>k i1 (by simp) o e,h2.at λo e=>k i2 (by simp) o e⟩
 item:=by
  intro X hP hw hK hc i pins s σ H E I hf st hg
  subst hP hw hK
  obtain⟨xs,ys,x,y,hq,cj,hx,hy⟩:=hg
  obtain⟨ae,rv,p,eP⟩:=I.list hq
  obtain⟨its',rv',p',mH⟩:=I.list cj
  obtain⟨u,hu,ru⟩:=rv.get hx
  obtain⟨u',rS,ru'⟩:=rv'.get hy
  obtain⟨hz,cT,⟨w1,w2,cV⟩,h1,h2⟩:=st
  have nf:∀(c:Addr) (l:Addr) (zs:List V),SqL X.K H l zs->c∈[z,TI,TO,i1,i2]->l≠c:=λc l zs hl hc e=>by
   subst e
   obtain⟨_,_,⟨o,n,eo,ec,_,_⟩,_⟩:=I.list hl
   obtain⟨o1,e1,c1,_⟩:=id h1
   obtain⟨o2,e2,c2,_⟩:=id h2
   rcases (by simpa using hc:l=z\/l=TI\/l=TO\/l=i1\/l=i2) with rfl|rfl|rfl|rfl|rfl
   ·rw[hz] at eo;cases eo;exact absurd (show Value.type "zip"= .type "list" from ec) ∅
   ·rw[cT] at eo;cases eo;exact absurd (show Value.type "tuple"= .type "list" from ec) ∅
   ·rw[cV] at eo;cases eo;exact absurd (show Value.type "tuple"= .type "list" from ec) ∅
   ·rw[e1] at eo;cases eo;rw[c1] at ec;exact absurd ec ∅
   ·rw[e2] at eo;cases eo;rw[c2] at ec;exact absurd ec ∅
  have D':ZipApart z TI TO i1 i2 a b:=⟨D.TIz,D.TOz,D.i1z,D.i2z,D.TITO,D.TIi1,D.TIi2,D.TOi1,D.TOi2,D.i12,nf _ _ _ hq (by simp),nf _ _ _ hq (by simp),nf _ _ _ hq (by simp),nf _ _ _ hq (by simp),nf _ _ _ cj (by simp),nf _ _ _ cj (by simp),nf _ _ _ cj (by simp),nf _ _ _ cj (by simp)⟩
  refine wpAny_pyNext_zip_item D' hz cT cV h1 h2 p.isList p'.isList (x:=u) (y:=u') (by simpa using hu) (by simpa using rS) λh3 rF om u3 tZ rW pT qf=> ?_
  refine⟨_,rfl,?_⟩
  refine wpAny_letOwnedTupleGo_zip (s:={s with heap:=h3}) rF λh4 lu fM=> ?_
  have fM:Heap.SameBut z h3 h4:=fM
  have ltZ:z<s.heap.objs.size:=Heap.lt_size hz
  have vv:zI [x,y] [u,u']:= .cons ru (.cons ru' .nil)
  have T:=Inv.turnedT (h':=h4) (t':=s.toks) (fp:=[z,TI,TO,i1,i2]) I vv (by show 2<=sizeLine;decide) (λc o hb eb=> ?_) ((fM.2 _ (Av ltZ)).trans rW) hf (λc hb=> ?_)
  ·obtain⟨I2,fr,fb⟩:=T
   refine⟨.ref s.heap.objs.size,_,I2,rfl,⟨_,x,y,rfl,fr,rfl,λys hy=>by rw[I.list_inj hy hq];exact hx,λys hz=>by rw[I.list_inj hz cj];exact hy⟩,⟨lu,?_,⟨_,_,(fM.2 TO D.TOz).trans om⟩,u3.at λo eo=>(fM.2 i1 D.i1z).trans eo,tZ.at λo eo=>(fM.2 i2 D.i2z).trans eo⟩,fb⟩
   exact (fM.2 TI D.TIz).trans (qf TI _ D.TIz D.TITO D.TIi1 D.TIi2 cT)
  ·have hb:c≠z/\c≠TI/\c≠TO/\c≠i1/\c≠i2:=by simpa using hb
   exact (fM.2 c hb.1).trans (qf c o hb.1 hb.2.2.1 hb.2.2.2.1 hb.2.2.2.2 eb)
  ·obtain⟨o1,e1,_⟩:=h1
   obtain⟨o2,e2,_⟩:=h2
   rcases (by simpa using hb:c=z\/c=TI\/c=TO\/c=i1\/c=i2) with rfl|rfl|rfl|rfl|rfl
   ·exact⟨_,hz⟩
   ·exact⟨_,cT⟩
   ·exact⟨_,cV⟩
   ·exact⟨o1,e1⟩
   ·exact⟨o2,e2⟩
 done:=by
  intro X hP hw hK hc i pins s σ H E I hf st hg
  subst hP hw hK
  obtain⟨xs,ys,hq,cj,hx⟩:=hg
  obtain⟨ae,rv,p,eP⟩:=I.list hq
  obtain⟨its',rv',p',mH⟩:=I.list cj
  obtain⟨hz,cT,⟨w1,w2,cV⟩,h1,h2⟩:=st
  have hl:=rv.length
  have fk:=rv'.length
  have nf:∀(c:Addr) (l:Addr) (zs:List V),SqL X.K H l zs->c∈[z,TI,TO,i1,i2]->l≠c:=λc l zs hl hc e=>by
   subst e
   obtain⟨_,_,⟨o,n,eo,ec,_,_⟩,_⟩:=I.list hl
   obtain⟨o1,e1,c1,_⟩:=id h1
   obtain⟨o2,e2,c2,_⟩:=id h2
   rcases (by simpa using hc:l=z\/l=TI\/l=TO\/l=i1\/l=i2) with rfl|rfl|rfl|rfl|rfl
   ·rw[hz] at eo;cases eo;exact absurd (show Value.type "zip"= .type "list" from ec) ∅
   ·rw[cT] at eo;cases eo;exact absurd (show Value.type "tuple"= .type "list" from ec) ∅
   ·rw[cV] at eo;cases eo;exact absurd (show Value.type "tuple"= .type "list" from ec) ∅
   ·rw[e1] at eo;cases eo;rw[c1] at ec;exact absurd ec ∅
   ·rw[e2] at eo;cases eo;rw[c2] at ec;exact absurd ec ∅
  have D':ZipApart z TI TO i1 i2 a b:=⟨D.TIz,D.TOz,D.i1z,D.i2z,D.TITO,D.TIi1,D.TIi2,D.TOi1,D.TOi2,D.i12,nf _ _ _ hq (by simp),nf _ _ _ hq (by simp),nf _ _ _ hq (by simp),nf _ _ _ hq (by simp),nf _ _ _ cj (by simp),nf _ _ _ cj (by simp),nf _ _ _ cj (by simp),nf _ _ _ cj (by simp)⟩
  exact wpAny_pyNext_zip_end (I.ok.hd hc) D' hz cT cV h1 h2 p.isList p'.isList (by simp;omega) λh' eb=>⟨rfl,Inv.turnedL (t':=s.toks) (fp:=[z,TI,TO,i1,i2]) I (λc o hb eo=>by
   have hb:c≠z/\c≠TI/\c≠TO/\c≠i1/\c≠i2:=by simpa using hb
   exact eb c o hb.1 hb.2.2.1 hb.2.2.2.1 hb.2.2.2.2 eo) hf⟩
 self:=λ_ _ _ _ _ st h=>wpAny_pyIter_zip st.1 h
section
variable {X:Cx}
def zkb (K:y3) (ta:TA):TI:=λσ H R=>ta σ H λvs H1=>∃a b,vs=[.ref a,.ref b]/\(∃xs,SqL K H1 a xs)/\(∃ys,SqL K H1 b ys)/\R (Itz K a b) H1
theorem Xj {K:y3} {elts:List Expr} {k:Nat} {tp:Pos} {l m:Expr} {ta:TA} {p pos:Pos} (hg:Gl X "zip") (hm:X.mg "zip"=none) (ha:PA X [l,m] ta) (hK:X.K=K:=by rfl) (hs:starEach [l,m] X.env=[(false,eval l X.env),(false,eval m X.env)]:=by rfl) (cx:starEach [m] X.env=[(false,eval m X.env)]:=by rfl):
  PI X (.Tuple elts k tp) (.Call (.Name "zip" p) [l,m] [] pos) (zkb K ta):=by
 subst hK
 intro pins s σ H R I h
 refine Call_ (va I hg hm Boot.«zip» (AB (thn (ha pos pins s σ H _ I h) λus s1 ⟨vs,H1,I1,r1,q1⟩=> ?_) (by rw[hs,cx]) (by rw[cx];rfl)))
 obtain⟨a,b,e,⟨xs,hq⟩,⟨ys,cj⟩,q⟩:=q1
 subst e
 obtain⟨u,u',rfl,ru,ru'⟩:=zd1 r1
 cases ru
 cases ru'
 obtain⟨ae,rv,p,hz⟩:=I1.list hq
 obtain⟨its',rv',p',mK⟩:=I1.list cj
 refine call_zip_2 p.isList p'.isList λh' hz cT cV h1 h2 hsz hk=> ?_
 have I2:Inv X pins σ H1 {s1 with heap:=h'}:=I1.kept (t':=s1.toks) hk
 generalize hn:s1.heap.objs.size=n at hz cT cV h1 h2 hsz
 refine wpAny_pyIter_zip (s:={s1 with heap:=h'}) hz ?_
 refine⟨n+4,[n+4,n+2,n+3,n,n+1],_,_,H1,rfl,I2,zgx a b (n+4) (n+2) (n+3) n (n+1) ⟨by simp,by simp,by simp,by simp,by simp,by simp,by simp,by simp,by simp,by simp⟩,⟨hz,cT,⟨_,_,cV⟩,h1,h2⟩,λc hb=> ?_,q⟩
 have hb:s1.heap.objs.size<=c:=by
  rw[hn]
  rcases (by simpa using hb:c=n+4\/c=n+2\/c=n+3\/c=n\/c=n+1) with rfl|rfl|rfl|rfl|rfl<;>simp
 exact Inv.fpOk I1 hb (I1.hok.fresh hb)|>λ⟨f0,f1,f2,f3,f4,f5⟩=>⟨f0,f1,f2,f3,f4,f5⟩
end
section
variable {σ:St} {H:Hp} {cap:List (Option Nat)} {g:TG} {tt:TT} {te:TE} {acc:Addr} {H0:Hp} {Qh:Hp->Prop}
structure zno (J:It) (n:Nat) (f:Nat->Option (V×V)) (ok:Hp->Prop):Prop where
 go:∀i H,ok H->i<n->J.go i H
 stop:∀H,ok H->J.stop n H
 yld:∀i H x H',ok H->i<n->J.yld i H x H'->∃p u v,x= .ref p/\H p=none/\H'=upd H p (.tup [u,v])/\f i=some (u,v)
end
section
variable {σ:St} {H:Hp} {Q:VK} {D':Wg}
end
section
variable {σ:St} {H:Hp} {Q:VK}
end
open Classical in
noncomputable def frG (H H':Hp):Hp:=λb=>match H' b with
 |some (.lst xs)=>if H b=none then some (.lst xs) else none
 |o=>o
def Dom (H H':Hp):Prop:=∀b,H' b=none->H b=none
structure Acc (K:y3) (H0:Hp) (acc:Addr) (ys:List V) (ds:List D) (H:Hp):Prop where
 at_:H acc=some (.lst ys)
 new:IsL K (frG (upd H0 acc (.lst [])) H) ys ds
 same:Zc H0 H
 dom:Dom (upd H0 acc (.lst [])) H
section
variable {X:Cx}
theorem zah (ns:List Int):∀k,preSum (λi=>ns.getD i 0) k=(ns.take k).sum
 |0=>by simp[preSum]
 |k+1=>by
  unfold preSum
  rw[zah ns k,List.take_add_one,List.sum_append]
  cases h:ns[k]? <;>simp[z8,h]
def zmt (K:y3):List V->Hp->VK->Prop:=λxs H Q=>∃(p:Addr) (ns:List Int),xs=[.ref p]/\SqL K H p (ns.map V.int)/\Q (.int ns.sum) H
theorem WX {K:y3} (hc:X.calm=true) (hK:X.K=K:=by rfl):ZD X (.builtin "sum") (zmt K):=by
 subst hK
 intro pins s σ H xs us Q I r h
 obtain⟨p,ns,rfl,hq,q⟩:=h
 obtain⟨u,rfl,ru⟩:=Yv r
 cases ru
 obtain⟨ae,rv,pl,hz⟩:=I.list hq
 have lt:p<s.heap.objs.size:=by
  obtain⟨o,n,e,_⟩:=id pl
  exact Heap.lt_size e
 have hl:=rv.length
 rw[y7] at hl
 refine call_sum_walkAnyS (wpAny_pyIter_list pl.isList ?_)
 have W:=(Walks.list (prog:=X.prog) (w:=X.w) (A:=X.A.in1) (I.ok.hd hc) s.heap.objs.size p (Ad lt) ae.toArray).toS
 refine⟨s.heap.objs.size,_,_,_,_,_,_,λi=>ns.getD i 0,rfl,W,?_,?_,?_,?_⟩
 ·exact⟨⟨_,Heap.get?_push_size _ rfl,rfl,rfl⟩,Heap.IsList.push pl.isList _⟩
 ·intro b hb
  rw[Heap.size_push]
  rcases (by simpa using hb:b=s.heap.objs.size\/b=p) with rfl|rfl
  ·exact Bf _
  ·exact B2 lt
 ·intro i v hv
  have hv:ae[i]? =some v:=by simpa using hv
  have hi:i<ns.length:=by rw[hl];exact (y4.1 hv).1
  obtain⟨u,hu,t,ru⟩:=rv.get (i:=i) (x:=V.int ns[i]) (by rw[y8,y6 hi];rfl)
  rw[hu] at hv
  cases hv
  refine⟨t,?_⟩
  rw[ru]
  show Value.int ns[i] t=Value.int (ns.getD i 0) t
  rw[z8,y6 hi,FH]
 ·intro s' t' m
  have I1:Inv X pins σ H {s with heap:=s'.heap,toks:=s'.toks}:=I.kept λb o e=>m.heap b o (λz=>by
   have z:b=s.heap.objs.size:=by simpa using z
   exact absurd (Heap.lt_size e) (by rw[z];exact Bh _)) (Heap.get?_push_of_some _ e)
  have e:({s with heap:=s'.heap,toks:=s'.toks}:Shared)=s':=by
   have h1:=m.gens
   have h2:=m.drawn
   have h3:=m.os
   cases s'
   simp only at h1 h2 h3
   subst h1 h2 h3
   rfl
  rw[e] at I1
  refine⟨.int ns.sum,H,I1,⟨t',?_⟩,q⟩
  rw[zah]
  have:ae.toArray.size=ns.length:=by rw[A3,<-hl]
  rw[this,Ar]
end
section
variable {σ:St} {H:Hp} {Q:VK}
end
section
variable {σ:St} {H:Hp} {v:V}
end
end L2
namespace L2
open PySem PySem.Spec PyProof.Rows PyProof
section
variable {X:Cx}
theorem zk1 {K:y3} {a b:String} (h1:(Value.type a==Value.type b)=false) (h:(fastBuiltinMro a).map (·.contains (.type b))=some false) (hm:BP b=true) (hs:Dv K (.type a) (.type b)=(fastBuiltinMro a).map (·.contains (.type b))):AU K (.type a) (.type b)=some false:=by
 unfold AU Ez
 rw[if_neg (by rw[h1];decide)]
 show (if BP b=true then Dv K (.type a) (.type b) else none)=_
 rw[if_pos hm,hs,h]
end
end L2
namespace L2
open PySem PySem.Spec PyProof.Rows
open AutoSeq1 (wpAny_loadPart')
section
variable {prog:Program} {w:World} {A:Around} {E:Value->Shared->Prop} {s:Shared}
end
section
variable {X:Cx}
end
end L2
namespace L2
open PySem PySem.Spec PyProof.Rows
section
variable {prog:Program} {w:World} {A:Around} {E:Value->Shared->Prop} {s:Shared}
noncomputable abbrev zT1 (h:Heap) (l1:Addr):Heap:=h.push {cls:= .type "tuple_iterator",data:= .fields #[.ref l1,.int 0 0]}
noncomputable abbrev zT2 (h:Heap) (l1 l2:Addr):Heap:=(zT1 h l1).push {cls:= .type "tuple_iterator",data:= .fields #[.ref l2,.int 0 0]}
noncomputable abbrev zT3 (h:Heap) (l1 l2:Addr):Heap:=(zT2 h l1 l2).push {cls:= .type "tuple",data:= .seq #[.ref h.objs.size,.ref (zT1 h l1).objs.size]}
noncomputable abbrev zT4 (h:Heap) (l1 l2:Addr):Heap:=(zT3 h l1 l2).push {cls:= .type "tuple",data:= .seq #[.none,.none]}
noncomputable abbrev zT5 (h:Heap) (l1 l2:Addr):Heap:=(zT4 h l1 l2).push {cls:= .type "zip",data:= .fields #[.none,.bool false,.bool false,.ref (zT2 h l1 l2).objs.size,.ref (zT3 h l1 l2).objs.size]}
end
section
variable {X:Cx}
end
mutual
noncomputable def D.py:D->PyData
 | .non=> .none
 | .bl b=> .bool b
 | .int i=> .int i
 | .str x=> .str x
 | .tup l=> .tuple (D.pys l)
 | .lst l=> .list (D.pys l)
 | .ins _ _ _=> .none
noncomputable def D.pys:List D->List PyData
 |[]=>[]
 |d::r=>D.py d::D.pys r
end
mutual
def D.small (n:Nat):D->Prop
 | .int i=>i.natAbs<2^n
 | .tup l=>D.smalls n l
 | .lst l=>D.smalls n l
 | .non=>True
 | .bl _=>True
 | .str _=>False
 | .ins _ _ _=>False
def D.smalls (n:Nat):List D->Prop
 |[]=>True
 |d::r=>D.small n d/\D.smalls n r
end
mutual
noncomputable def D.wt (n:Nat):D->Nat
 | .tup l=>D.wts n l
 | .lst l=>D.wts n l
 | .int _=>n
 |_=>0
noncomputable def D.wts (n:Nat):List D->Nat
 |[]=>0
 |d::r=>D.wt n d+1+D.wts n r
end
section
variable {X:Cx} {pins:List (Addr×Obj)} {σ:St} {H:Hp} {s:Shared}
end
theorem zc8 {i:Int} {n:Nat} (hn:0<n) (h:i.natAbs<2^n):i.natAbs.log2<n:=by
 by_cases h0:i.natAbs=0
 ·rw[h0];exact hn
 ·exact (Nat.log2_lt h0).mpr h
structure znh (n:Nat) (d:D):Prop where
 seq:∃l,d= .tup l\/d= .lst l
 small:D.small n d
 n0:8<=n
 n1:n<=1900
 deep:D.depth d<=40
 size:(n+3)*D.wt n d+n+1<=16777216
section
variable {X:Cx}
end
noncomputable abbrev zmu (t:Addr) (i:Int):Obj:={cls:= .type "reversed",data:= .fields #[.ref t,rawInt i]}
noncomputable abbrev zns (h:Heap) (a t:Addr) (i:Int):Prop:=h.get? a=some (zmu t i)
section
variable {prog:Program} {w:World} {A:Around} {E:Value->Shared->Prop} {s:Shared}
end
section
variable {X:Cx} {tg:Expr}
end
end L2
namespace L2
open PySem PySem.Spec PyProof.Rows PyProof
section
variable {X:Cx}
end
end L2
namespace L2
open PySem PySem.Spec PyProof.Rows
section
variable {X:Cx}
theorem Inv.lstR {pins:List (Addr×Obj)} {σ:St} {H:Hp} {s:Shared} {l:Addr} {xs:List V} (I:Inv X pins σ H s) (hH:SqX X.K H l xs):xs.length<=sizeLine/\∃(ae:List Value) (n:Nat),zI xs ae/\xs.length=ae.length/\s.heap.get? l=some {cls:= .type "list",data:= .seq ae.toArray n}:=by
 rcases hH with hH|⟨ae,n,hk,hz,r⟩
 ·obtain⟨z,ae,n,r,e⟩:=hH.ok I.hok
  exact⟨z,ae,n,r,r.length,e⟩
 ·have hl:=r.length
  have hl2:ae.toList.length=ae.size:=BH
  exact⟨⋯,ae.toList,n,r,r.length,I.kIn l _ hk⟩
def zkc (K:y3):R2:=λx y H Q=>∃l b xs zs,x= .ref l/\y= .ref b/\SqX K H l xs/\SqX K H b zs/\xs.length+zs.length<=sizeLine/\∀p,H p=none->Q (.ref p) (upd H p (.lst (xs++zs)))
theorem zaV {K:y3} (hK:X.K=K:=by rfl):OpR X (binaryOp .Add) (zkc K):=by
 subst hK
 intro pins s σ H x y v u Q I rx ry h
 obtain⟨l,b,xs,zs,rfl,rfl,hH,hB,hz,q⟩:=h
 cases rx
 cases ry
 obtain⟨z,ae,n,r,hl,e⟩:=I.lstR hH
 obtain⟨z2,bS,n2,r2,hl2,e2⟩:=I.lstR hB
 refine PySem.P.add_list e e2 ?_ (by rw[A3,A3];omega)
 have ea:ae.toArray++bS.toArray=(ae++bS).toArray:=by simp
 rw[ea]
 exact⟨.ref _,_,I.lnew (t':=s.toks) (r.append r2) (by rw[A7];omega),rfl,q _ I.fresh⟩
def zkd (K:y3):R2:=λx y H Q=>∃l k xs,x= .ref l/\y= .int k/\SqX K H l xs/\ -(2^63)<=k/\k<2^63/\xs.length*k.toNat<=sizeLine/\
 ∀p,H p=none->Q (.ref p) (upd H p (.lst (z9 k.toNat xs).flatten))
theorem zeb {K:y3} (hK:X.K=K:=by rfl):OpR X (binaryOp .Mult) (zkd K):=by
 subst hK
 intro pins s σ H x y v u Q I rx ry h
 obtain⟨l,k,xs,rfl,rfl,hH,h1,h2,hz,q⟩:=h
 cases rx
 obtain⟨t,rfl⟩:=ry
 obtain⟨z,ae,n,r,hl,e⟩:=I.lstR hH
 have hlen:ae.toArray.size*k.toNat<=sizeLine:=by rw[A3,<-hl];exact hz
 have oe:¬ae.toArray.size*k.toNat>(2^63-1) / 8:=by
  have:(sizeLine:Nat)<=(2^63-1) / 8:=by decide
  omega
 have nZ:¬(!Builtin.List.listFitsIndex k)=true:=by
  rw[fitsIndex_both h1 h2]
  exact Ai
 have kj:¬Builtin.List.listTooLong (ae.toArray.size*k.toNat)=true:=by
  rw[zgc hlen]
  exact Ai
 have du:FT (λx1 x2=>x1++x2) #[] (z9 (if ae.toArray.isEmpty=true then 0 else k.toNat) ae.toArray)=(z9 k.toNat ae).flatten.toArray:=by
  have f0:∀m:Nat,FT (λx1 x2=>x1++x2) #[] (z9 m ae.toArray)=(z9 m ae).flatten.toArray:=λm=>by
   have:=TX ae m []
   rw[FW] at this
   exact this
  rw[f0]
  cases ae with
  |nil=>simp
  |cons a r'=>rw[if_neg (by simp)]
 refine wpAny_binaryOp_repeat_ref (T:="list") (U:="int") ∅ ⟨_,e,rfl⟩ (λs'=>typeIs_int s' k t) noFill_list_mul F.fills_int_mul F.slot_int_rmul repeat_list F.slot_int_index.lookup
  (call_meets F.slot_int_rmul (typeIs_int s k t) F.entry_int_rmul (F.args_int_rmul_2 _ _) (int___rmul___int_list k t l ae.toArray n)
   ⟨e,rfl,⟨_,e,rfl⟩,call_meets F.slot_list_mul ⟨_,e,rfl⟩ F.entry_list_mul (F.args_list_mul_2 _ _) (AutoListH.list___mul___list_int_3 l ae.toArray n k t nZ oe kj) ⟨e,?_⟩⟩)
 rw[du]
 exact⟨.ref _,_,I.lnew (t':=s.toks) (r.rep k.toNat) (by rw[ziG,Fb];exact hz),rfl,q _ I.fresh⟩
end
section
variable {prog:Program} {w:World} {A:Around} {E:Value->Shared->Prop} {s:Shared}
end
section
variable {X:Cx}
end
end L2
namespace HT
open PySem PyProof.Rows
section
variable {prog:Program} {w:World} {A:Around} {E:Value->Shared->Prop} {s:Shared}
end
end HT
namespace L2
open PySem PySem.Spec PyProof.Rows
section
variable {X:Cx}
noncomputable def zmv (K:y3) (a:Addr) (n:Nat):It:=
 ⟨λi H=>i<n/\∃xs,SqL K H a xs/\xs.length=n,λi H x H'=>H'=H/\∀xs,SqL K H a xs->xs[n-1-i]? =some x,λi H=>i=n⟩
theorem zgy {P:Program} {w:World} {K:y3} {tg:Expr} (a it:Addr) (n:Nat):zcU P w K tg (zmv K a n) [it] it (λi h=>h.IsRevIter it a ((n:Int)-1-(i:Int))) where
 mem:=by simp
 obj:=λi h st b hb=>by
  have e:b=it:=by simpa using hb
  subst e
  obtain⟨o,ho,_,hd⟩:=st
  exact⟨_,ho,λv z=>by rw[hd] at z;cases z⟩
 keep:=λi h h' st k=>st.at λo e=>k it (by simp) _ e
 item:=by
  intro X hP hw hK hc i pins s σ H E I hf st hg
  subst hP hw hK
  obtain⟨hi,xs,hq,hl⟩:=hg
  have hx:xs[n-1-i]? =some (xs[n-1-i]'⋯):=y6 ⋯
  obtain⟨ae,rv,p,hz⟩:=I.list hq
  obtain⟨u,hu,ru⟩:=rv.get hx
  obtain⟨f0,f1,f2,f3,f4,f5⟩:=hf it (by simp)
  have e:(n:Int)-1-(i:Int)=((n-1-i:Nat):Int):=by omega
  rw[e] at st
  refine wpAny_pyNext_rev_item st p.isList (x:=u) (by simpa using hu) λh' st' sb=> ?_
  have I1:Inv X pins σ H {s with heap:=h',toks:=s.toks}:=I.turned (t':=s.toks) (λb o hb e=>(sb.2 b hb).trans e) f0 f1 f3 f4 f5
  have e2:((n-1-i:Nat):Int)-1=(n:Int)-1-((i+1:Nat):Int):=by omega
  rw[e2] at st'
  obtain⟨oo,ho,dA,hd⟩:=id st'
  exact⟨u,rfl,zfZ (s:={s with heap:=h',toks:=s.toks}) (n:="list_reverseiterator") ho dA hd ∅ ⟨_,H,I1,ru,⟨rfl,λys hy=>by rw[I.list_inj hy hq];exact hx⟩,st',λb hb=>(hf b hb).1⟩⟩
 done:=by
  intro X hP hw hK hc i pins s σ H E I hf st hg
  subst hP hw hK
  have hg:i=n:=hg
  obtain⟨f0,f1,f2,f3,f4,f5⟩:=hf it (by simp)
  have e:(n:Int)-1-(i:Int)= -1:=by omega
  rw[e] at st
  exact wpAny_pyNext_rev_end (I.ok.hd hc) st λh' eb=>⟨rfl,I.turned (t':=s.toks) (λb o hb e=>eb b o hb e) f0 f1 f3 f4 f5⟩
 self:=λ_ _ _ _ _ st h=>wpAny_pyIter_revIter st h
section
variable {X:Cx} {tg:Expr}
def zmw (K:y3) (ta:TA):TI:=λσ H R=>ta σ H λvs H1=>∃a xs,vs=[.ref a]/\SqL K H1 a xs/\R (zmv K a xs.length) H1
theorem zk2 {K:y3} {l:Expr} {ta:TA} {p pos:Pos} (hg:Gl X "reversed") (hm:X.mg "reversed"=none) (ha:PA X [l] ta) (hK:X.K=K:=by rfl) (hs:starEach [l] X.env=[(false,eval l X.env)]:=by rfl):
  PI X tg (.Call (.Name "reversed" p) [l] [] pos) (zmw K ta):=by
 subst hK
 intro pins s σ H R I h
 refine Call_ (va I hg hm Boot.«reversed» (AB (thn (ha pos pins s σ H _ I h) ?_) hs rfl))
 rintro us s1 ⟨vs,H1,I1,r1,q1⟩
 obtain⟨a,xs,e,hq,q⟩:=q1
 subst e
 obtain⟨u,rfl,ru⟩:=Yv r1
 cases ru
 obtain⟨ae,rv,p,hz⟩:=I1.list hq
 have hl:=rv.length
 refine call_reversed_list p.isList ?_
 have I2:Inv X pins σ H1 {s1 with heap:=s1.heap.push (revObj a ((ae.toArray.size:Int)-1)),toks:=s1.toks}:=I1.kept (t':=s1.toks) λb o e=>Heap.get?_push_of_some _ e
 refine wpAny_pyIter_revIter (s:={s1 with heap:=s1.heap.push (revObj a ((ae.toArray.size:Int)-1))}) ⟨_,Heap.get?_push_size _ rfl,rfl,rfl⟩ ?_
 refine⟨s1.heap.objs.size,[s1.heap.objs.size],_,_,H1,rfl,I2,zgy a s1.heap.objs.size xs.length,?_,λb hb=> ?_,q⟩
 ·have e:((ae.toArray.size:Nat):Int)-1=(xs.length:Int)-1-((0:Nat):Int):=by rw[A3];omega
  show Heap.IsRevIter _ _ _ _
  rw[<-e]
  exact⟨_,Heap.get?_push_size _ rfl,rfl,rfl⟩
 ·have e:b=s1.heap.objs.size:=by simpa using hb
  subst e
  exact Inv.fpOk I1 (z5 _) (I1.hok.fresh (z5 _))
end
end
section
variable {env:Env} {r:List Expr}
theorem zgz {a b c}:starEach (.Tuple a b c::r) env=(false,eval (.Tuple a b c) env)::starEach r env:=by rw[starEach];simp
theorem zbZ {a b c}:starEach (.Constant a b c::r) env=(false,eval (.Constant a b c) env)::starEach r env:=by rw[starEach];simp
theorem ziM {a b}:starEach (.Name a b::r) env=(false,eval (.Name a b) env)::starEach r env:=by rw[starEach];simp
theorem zaW {a b c}:starEach (.Subscript a b c::r) env=(false,eval (.Subscript a b c) env)::starEach r env:=by rw[starEach];simp
theorem zgA {a b c d}:starEach (.BinOp a b c d::r) env=(false,eval (.BinOp a b c d) env)::starEach r env:=by rw[starEach];simp
theorem zc9 {a b c}:starEach (.UnaryOp a b c::r) env=(false,eval (.UnaryOp a b c) env)::starEach r env:=by rw[starEach];simp
theorem ziN {a b c d}:starEach (.Call a b c d::r) env=(false,eval (.Call a b c d) env)::starEach r env:=by rw[starEach];simp
theorem zaX {a b c}:starEach (.Attribute a b c::r) env=(false,eval (.Attribute a b c) env)::starEach r env:=by rw[starEach];simp
end
end L2
namespace L2
open PySem PySem.Spec PyProof.Rows PySem.Builtin
section
variable {X:Cx}
end
end L2
namespace L2
open PySem PySem.Spec PyProof.Rows PySem.Calls
section
variable {X:Cx}
end
section
variable {prog:Program} {w:World} {A:Around} {E:Value->Shared->Prop} {s:Shared} {T:String} {r d:Addr} {n:Nat} {P:Nat->Value->Prop} {OK:Heap->Prop} {Q:Value->Shared->Prop}
end
section
variable {X:Cx}
theorem zk3 {n:Nat} (h:n<64):n<=sizeLine:=A2 (Ag h) ∅
end
section
variable {prog:Program} {w:World} {A:Around} {E:Value->Shared->Prop} {s:Shared} {T:String} {r d:Addr} {n:Nat} {P:Nat->Value->Prop} {OK:Heap->Prop} {Q:Value->Shared->Prop}
end
section
variable {X:Cx}
end
end L2
namespace L2
open PySem
structure XB where
 C:Option Str
 m:Str
 d:Str
structure xf where
 id:Nat
 par:Arguments
 body:FX
 sc:Scope
 t:XB
 fr:List Str
noncomputable def XB.q (t:XB):Str:=(t.d++".<locals>.")++"<lambda>"
noncomputable abbrev xf.q (L:xf):Str:=L.t.q
noncomputable def zgB (K:y3):Option Str->Str->Option Addr
 |none,m=>(match A8 K mainGlobals m with
  |some (some (.ref f))=>some f
  |_=>none)
 |some C,m=>(match A8 K mainGlobals C with
  |some (some (.ref g))=>(match A9 K (.ref g) m with
   |some (some (.ref f))=>some f
   |_=>none)
  |_=>none)
noncomputable def zgC (K:y3) (f:Addr):Option (Addr×Addr):=match K.lookup f with
 |some ⟨_,_,.func fd,_⟩=>(match fd.code with
  | .ref c=>(match K.lookup c with
   |some ⟨_,_,.fields vs,_⟩=>(match (vs[11]? :Option Value) with
    |some (.ref P)=>if Cq K c P then some (c,P) else none
    |_=>none)
   |_=>none)
  |_=>none)
 |_=>none
noncomputable def XC (K:y3) (t:XB):Option (Addr×Addr):=(zgB K t.C t.m).bind (zgC K)
inductive Xv where
 |non|bl (b:Bool)|int (i:Int)|str (x:Str)|tup (xs:List Xv)|ct (xs:List Xv)|ref (n:Nat)|lam (L:xf) (xs:List Xv)
inductive Ce where
 |lst (xs:List Xv)
 |frz (xs:List Xv)
 |dk (kvs:List (Key×Xv))
 |dt (kvs:List (List Key×Xv))
 |ins (nm:Str) (fs:List (Str×Xv))
 |fdk (kvs:List (Key×Xv))
 |dn (kvs:List (NK×Xv×Xv))
 |exc (nm:Str)
 |tab (t:XB)
 |fdn (kvs:List (NK×Xv×Xv))
abbrev Sto:=List Ce
abbrev Rho:=List (Option Xv)
noncomputable def Ce.fz:Ce->Bool
 | .frz _=>true
 | .fdk _=>true
 | .fdn _=>true
 | .exc _=>true
 |_=>false
noncomputable def HO.mu:HO->Bool
 | .lst _=>true
 | .dK _=>true
 | .dT _=>true
 | .dN _=>true
 | .ins _ _ _=>true
 | .set _ _=>true
 | .tbl _=>true
 |_=>false
def xF (H H':Hp):Prop:=∀b u,H b=some u->u.mu=false->H' b=some u
theorem xF.refl (H:Hp):xF H H:=λ_ _ e _=>e
theorem xF.trans {H H1 H2:Hp} (a:xF H H1) (b:xF H1 H2):xF H H2:=λx u e m=>b x u (a x u e m) m
theorem xF.same {H H':Hp} (S:Zc H H'):xF H H':=λb u e _=>S b u e
structure Ext (j:List Addr) (H:Hp) (j':List Addr) (H':Hp):Prop where
 pre:∀(n:Nat) a,j[n]? =some a->j'[n]? =some a
 imm:xF H H'
theorem Ext.refl {j:List Addr} {H:Hp}:Ext j H j H:=⟨λ_ _ e=>e,xF.refl _⟩
theorem Ext.trans {j j1 j2:List Addr} {H H1 H2:Hp} (a:Ext j H j1 H1) (b:Ext j1 H1 j2 H2):Ext j H j2 H2:=⟨λn x e=>b.pre n x (a.pre n x e),a.imm.trans b.imm⟩
theorem Ext.same {j:List Addr} {H H':Hp} (S:Zc H H'):Ext j H j H':=⟨λ_ _ e=>e,xF.same S⟩
def ZI (H:Hp) (q:Str) (c:Addr):Prop:=∃(oc:Obj) (fs:Array Value) (t:Tok),H c=some (.frz oc (.own 0))/\oc.data= .fields fs/\fs[1]? =some (.str q t)
structure XH (H:Hp) (L:xf) (f:Addr) (vs:List V):Prop where
 ex:∃(aG:List (Str×Addr)) (pm cB:Value) (c:Addr),H f=some (.frz (Bz "<lambda>" L.q L.par L.body L.sc aG pm c cB) (.own 0))/\ZI H L.q c/\
  (∀(i:Nat) x v,L.fr[i]? =some x->vs[i]? =some v->∃(a:Addr) (o:Obj) (u:Value),aG.lookup x=some a/\H a=some (.frz o (.own 0))/\o.data= .cell (some u)/\zD v u)/\
  (∀x y a,aG.lookup x=some a->aG.lookup y=some a->x=y)/\(∀y∈L.sc.names,y.2= .free->∃a,aG.lookup y.1=some a)/\
  ∀x a,aG.lookup x=some a->∃(o:Obj) (u:Option Value),H a=some (.frz o (.own 0))/\o.data= .cell u
theorem ZI.mono {H H':Hp} {q:Str} {c:Addr} (k:xF H H') (h:ZI H q c):ZI H' q c:=by
 obtain⟨oc,fs,t,e,r⟩:=h
 exact⟨oc,fs,t,k _ _ e rfl,r⟩
theorem XH.mono {H H':Hp} {L:xf} {f:Addr} {vs:List V} (k:xF H H') (h:XH H L f vs):XH H' L f vs:=by
 obtain⟨aG,pm,cB,c,h1,h2,h3,h4,h5,h6⟩:=h.ex
 refine⟨aG,pm,cB,c,k _ _ h1 rfl,h2.mono k,λi x v e1 e2=> ?_,h4,h5,λx a e=> ?_⟩
 ·obtain⟨a,o,u,e3,e4,r⟩:=h3 i x v e1 e2
  exact⟨a,o,u,e3,k _ _ e4 rfl,r⟩
 ·obtain⟨o,u,e3,r⟩:=h6 x a e
  exact⟨o,u,k _ _ e3 rfl,r⟩
mutual
inductive Xis (K:y3) (j:List Addr) (H:Hp):Xv->V->Prop where
 |non:Xis K j H .non .non
 |bl (b:Bool):Xis K j H (.bl b) (.bl b)
 |int (i:Int):Xis K j H (.int i) (.int i)
 |str (x:Str):Xis K j H (.str x) (.str x)
 |tup {a:Addr} {vs:List V} {xs:List Xv}:H a=some (.tup vs)->zE K j H xs vs->Xis K j H (.tup xs) (.ref a)
 |ct {a:Addr} {vs:List V} {xs:List Xv}:(∀H,SqT K H a vs)->zE K j H xs vs->Xis K j H (.ct xs) (.ref a)
 |ref {n:Nat} {a:Addr}:j[n]? =some a->Xis K j H (.ref n) (.ref a)
 |lam {f:Addr} {vs:List V} {L:xf} {xs:List Xv}:XH H L f vs->zE K j H xs vs->Xis K j H (.lam L xs) (.ref f)
inductive zE (K:y3) (j:List Addr) (H:Hp):List Xv->List V->Prop where
 |nil:zE K j H [] []
 |cons {x:Xv} {v:V} {xs:List Xv} {vs:List V}:Xis K j H x v->zE K j H xs vs->zE K j H (x::xs) (v::vs)
end
theorem Xis.mono {K:y3} {j j':List Addr} {H H':Hp} (S:Ext j H j' H') {x:Xv} {v:V} (h:Xis K j H x v):Xis K j' H' x v:=
 Xis.rec (motive_1:=λx v _=>Xis K j' H' x v) (motive_2:=λxs vs _=>zE K j' H' xs vs) .non .bl .int .str (λh _ l=> .tup (S.imm _ _ h rfl) l) (λh _ l=> .ct h l) (λh=> .ref (S.pre _ _ h)) (λh _ l=> .lam (h.mono S.imm) l) .nil (λ_ _ h l=> .cons h l) h
theorem zE.ind {K:y3} {j:List Addr} {H:Hp} {m:List Xv->List V->Prop} (h0:m [] []) (h1:∀{x:Xv} {v:V} {xs:List Xv} {vs:List V},Xis K j H x v->zE K j H xs vs->m xs vs->m (x::xs) (v::vs)) {xs:List Xv} {vs:List V} (h:zE K j H xs vs):m xs vs:=
 zE.rec (motive_1:=λ_ _ _=>True) (motive_2:=λxs vs _=>m xs vs) trivial (λ_=>trivial) (λ_=>trivial) (λ_=>trivial) (λ_ _ _=>trivial) (λ_ _ _=>trivial) (λ_=>trivial) (λ_ _ _=>trivial) h0 (λa b _ c=>h1 a b c) h
theorem zE.mono {K:y3} {j j':List Addr} {H H':Hp} (S:Ext j H j' H') {xs:List Xv} {vs:List V} (h:zE K j H xs vs):zE K j' H' xs vs:=h.ind (m:=zE K j' H') .nil λa _ c=> .cons (a.mono S) c
section
variable {K:y3} {j:List Addr} {H:Hp}
theorem zE.len {xs:List Xv} {vs:List V} (h:zE K j H xs vs):vs.length=xs.length:=h.ind (m:=λxs vs=>vs.length=xs.length) rfl λ_ _ e=>congrArg (· +1) e
theorem zE.get {xs:List Xv} {vs:List V} {i:Nat} {x:Xv} (h:zE K j H xs vs):xs[i]? =some x->∃v,vs[i]? =some v/\Xis K j H x v:=
 h.ind (m:=λxs vs=>∀i,xs[i]? =some x->∃v,vs[i]? =some v/\Xis K j H x v) (λi e=>by simp at e) (λa _ ih i e=>by
  cases i with
  |zero=>simp at e;subst e;exact⟨_,rfl,a⟩
  |succ i=>exact ih i e) i
theorem zE.getV {xs:List Xv} {vs:List V} {i:Nat} {v:V} (h:zE K j H xs vs):vs[i]? =some v->∃x,xs[i]? =some x/\Xis K j H x v:=
 h.ind (m:=λxs vs=>∀i,vs[i]? =some v->∃x,xs[i]? =some x/\Xis K j H x v) (λi e=>by simp at e) (λa _ ih i e=>by
  cases i with
  |zero=>simp at e;subst e;exact⟨_,rfl,a⟩
  |succ i=>exact ih i e) i
theorem zE.append {xs ys:List Xv} {vs ws:List V} (h:zE K j H xs vs) (k:zE K j H ys ws):zE K j H (xs++ys) (vs++ws):=h.ind (m:=λxs vs=>zE K j H (xs++ys) (vs++ws)) k λa _ c=> .cons a c
theorem zE.one {v:V} {x:Xv} (h:Xis K j H x v):zE K j H [x] [v]:= .cons h .nil
theorem zE.take {xs:List Xv} {vs:List V} (n:Nat) (h:zE K j H xs vs):zE K j H (xs.take n) (vs.take n):=
 h.ind (m:=λxs vs=>∀n,zE K j H (xs.take n) (vs.take n)) (λn=>by cases n<;>exact .nil) (λa _ ih n=>by
  cases n with
  |zero=>exact .nil
  |succ n=>exact .cons a (ih n)) n
theorem zE.drop {xs:List Xv} {vs:List V} (n:Nat) (h:zE K j H xs vs):zE K j H (xs.drop n) (vs.drop n):=
 h.ind (m:=λxs vs=>∀n,zE K j H (xs.drop n) (vs.drop n)) (λn=>by cases n<;>exact .nil) (λa b ih n=>by
  cases n with
  |zero=>exact .cons a b
  |succ n=>exact ih n) n
theorem zE.ints (ns:List Int):zE K j H (ns.map Xv.int) (ns.map V.int):=by
 induction ns with
 |nil=>exact .nil
 |cons n r ih=>exact .cons (.int n) ih
theorem zE.set {v:V} {x:Xv} (hv:Xis K j H x v) {xs:List Xv} {vs:List V} (n:Nat) (h:zE K j H xs vs):zE K j H (xs.set n x) (vs.set n v):=
 h.ind (m:=λxs vs=>∀n,zE K j H (xs.set n x) (vs.set n v)) (λ_=> .nil) (λa b ih n=>by
  cases n with
  |zero=>exact .cons hv b
  |succ n=>exact .cons a (ih n)) n
theorem zE.dropLast {xs:List Xv} {vs:List V} (h:zE K j H xs vs):zE K j H xs.dropLast vs.dropLast:=by
 rw[EA,EA,h.len]
 exact h.take _
theorem zE.at_ {xs:List Xv} {vs:List V} {i:Int} {x:Xv} (h:zE K j H xs vs) (e:atI xs i=some x):∃v,atI vs i=some v/\Xis K j H x v:=by
 unfold atI at e ⊢
 rw[h.len]
 cases e1:ixN xs.length i with
 |none=>rw[e1] at e;cases e
 |some m=>
  rw[e1] at e
  obtain⟨v,e3,e4⟩:=h.get (i:=m) e
  exact⟨v,e3,e4⟩
theorem Xis.int_inv {v:V} {i:Int} (h:Xis K j H (.int i) v):v= .int i:=by cases h;rfl
theorem Xis.bl_inv {v:V} {b:Bool} (h:Xis K j H (.bl b) v):v= .bl b:=by cases h;rfl
theorem Xis.non_inv {v:V} (h:Xis K j H .non v):v= .non:=by cases h;rfl
theorem Xis.ref_inv {v:V} {n:Nat} (h:Xis K j H (.ref n) v):∃a,v= .ref a/\j[n]? =some a:=by cases h with|ref e=>exact⟨_,rfl,e⟩
theorem Xis.tup_inv {v:V} {xs:List Xv} (h:Xis K j H (.tup xs) v):∃a vs,v= .ref a/\H a=some (.tup vs)/\zE K j H xs vs:=by cases h with|tup a b=>exact⟨_,_,rfl,a,b⟩
theorem zE.cons_inv {vs:List V} {x:Xv} {xs:List Xv} (h:zE K j H (x::xs) vs):∃v r,vs=v::r/\Xis K j H x v/\zE K j H xs r:=by cases h with|cons a b=>exact⟨_,_,rfl,a,b⟩
theorem zE.nil_inv {vs:List V} (h:zE K j H [] vs):vs=[]:=by cases h;rfl
theorem zE.d1 {vs:List V} {a:Xv} (h:zE K j H [a] vs):∃x,vs=[x]/\Xis K j H a x:=by
 obtain⟨x,r,rfl,hx,h⟩:=h.cons_inv
 obtain rfl:=h.nil_inv
 exact⟨x,rfl,hx⟩
theorem zE.d2 {vs:List V} {a b:Xv} (h:zE K j H [a,b] vs):∃x y,vs=[x,y]/\Xis K j H a x/\Xis K j H b y:=by
 obtain⟨x,r,rfl,hx,h⟩:=h.cons_inv
 obtain⟨y,rfl,hy⟩:=h.d1
 exact⟨x,y,rfl,hx,hy⟩
noncomputable def Xv.tupOf:Xv->Option (List Xv)
 | .tup xs=>some xs
 | .ct xs=>some xs
 |_=>none
theorem Xis.tupO {v:V} {x:Xv} {xs:List Xv} (h:Xis K j H x v) (e:x.tupOf=some xs):∃a vs,v= .ref a/\SqT K H a vs/\zE K j H xs vs:=by
 cases h with
 |tup h l=>simp[Xv.tupOf] at e;subst e;exact⟨_,_,rfl,SqT.of h,l⟩
 |ct h l=>simp[Xv.tupOf] at e;subst e;exact⟨_,_,rfl,h H,l⟩
 |_=>simp[Xv.tupOf] at e
end
inductive KX {κ:Type} (K:y3) (j:List Addr) (H:Hp):List (κ×Xv)->List (κ×V)->Prop where
 |nil:KX K j H [] []
 |cons {k:κ} {x:Xv} {v:V} {r:List (κ×Xv)} {rs:List (κ×V)}:Xis K j H x v->KX K j H r rs->KX K j H ((k,x)::r) ((k,v)::rs)
theorem KX.mono {κ:Type} {K:y3} {j j':List Addr} {H H':Hp} (S:Ext j H j' H') {xs:List (κ×Xv)} {vs:List (κ×V)} (h:KX K j H xs vs):KX K j' H' xs vs:=by
 induction h with
 |nil=>exact .nil
 |cons h _ ih=>exact .cons (h.mono S) ih
mutual
noncomputable def zmx:Xv->Option NK
 | .int i=>some (.int i)
 | .str x=>some (.str x)
 | .tup l=>(zgD l).map .tup
 | .ct l=>(zgD l).map .tup
 | .non=>none
 | .bl _=>none
 | .ref _=>none
 | .lam _ _=>none
noncomputable def zgD:List Xv->Option (List NK)
 |[]=>some []
 |x::r=>(zmx x).bind λk=>(zgD r).map (k:: ·)
end
inductive NX (K:y3) (j:List Addr) (H:Hp):List (NK×Xv×Xv)->List (NK×Addr×V)->Prop where
 |nil:NX K j H [] []
 |cons {k:NK} {x y:Xv} {b:Addr} {v:V} {r:List (NK×Xv×Xv)} {rs:List (NK×Addr×V)}:zmx x=some k/\zio k<=8->Xis K j H x (.ref b)->Xis K j H y v->NX K j H r rs->NX K j H ((k,x,y)::r) ((k,b,v)::rs)
theorem NX.mono {K:y3} {j j':List Addr} {H H':Hp} (S:Ext j H j' H') {xs:List (NK×Xv×Xv)} {vs:List (NK×Addr×V)} (h:NX K j H xs vs):NX K j' H' xs vs:=by
 induction h with
 |nil=>exact .nil
 |cons e h1 h2 _ ih=>exact .cons e (h1.mono S) (h2.mono S) ih
def Wn (K:y3) (j:List Addr) (H:Hp) (a:Addr):Ce->Prop
 | .lst xs=>∃vs,H a=some (.lst vs)/\zE K j H xs vs
 | .frz xs=>∃vs,((∃o,H a=some (.frz o (.lst vs)))\/∀H,SqX K H a vs)/\zE K j H xs vs
 | .dk kvs=>∃ks:List (Key×V),H a=some (.dK ks)/\KX K j H kvs ks
 | .dt kvs=>∃ks:List (List Key×V),H a=some (.dT ks)/\KX K j H kvs ks
 | .ins nm fs=>∃(C dx:Addr) (vs:List (Str×V)),A8 K mainGlobals nm=some (some (.ref C))/\H a=some (.ins C dx vs)/\KX K j H fs vs
 | .fdk kvs=>∃(o:Obj) (ks:List (Key×V)),H a=some (.frz o (.dK ks))/\KX K j H kvs ks
 | .dn kvs=>∃ks:List (NK×Addr×V),H a=some (.dN ks)/\NX K j H kvs ks
 | .fdn kvs=>∃(o:Obj) (ks:List (NK×Addr×V)),H a=some (.frz o (.dN ks))/\NX K j H kvs ks
 | .exc nm=>∃C:Addr,A8 K mainGlobals nm=some (some (.ref C))/\H a=some (zk0 a (.ref C))
 | .tab t=>∃(ps:Array Value) (d:Addr),H a=some (.tbl ps)/\XC K t=some (d,a)/\TriplesOk ps.toList/\∀pos cv,codeAmong pos ps.toList=some cv->∃c,cv= .ref c/\ZI H t.q c
theorem Wn.mu {K:y3} {j:List Addr} {H:Hp} {a:Addr} {c:Ce} (h:Wn K j H a c) (z:c.fz=false):∃o,H a=some o/\o.mu=true:=by
 cases c with
 |lst l=>obtain⟨_,e,_⟩:=h;exact⟨_,e,rfl⟩
 |dk l=>obtain⟨_,e,_⟩:=h;exact⟨_,e,rfl⟩
 |dt l=>obtain⟨_,e,_⟩:=h;exact⟨_,e,rfl⟩
 |ins n l=>obtain⟨_,_,_,_,e,_⟩:=h;exact⟨_,e,rfl⟩
 |dn l=>obtain⟨_,e,_⟩:=h;exact⟨_,e,rfl⟩
 |tab t=>obtain⟨_,_,e,_⟩:=h;exact⟨_,e,rfl⟩
 |_=>cases z
theorem Wn.mono {K:y3} {j j':List Addr} {H H':Hp} {a:Addr} (S:Ext j H j' H') {c:Ce} (h:c.fz=false->H' a=H a) (k:Wn K j H a c):Wn K j' H' a c:=by
 cases c with
 |lst l=>obtain⟨_,e,l⟩:=k;exact⟨_,(h rfl).trans e,l.mono S⟩
 |frz l=>
  obtain⟨_,e,l⟩:=k
  rcases e with⟨o,e⟩|e
  ·exact⟨_,.inl ⟨o,S.imm _ _ e rfl⟩,l.mono S⟩
  ·exact⟨_,.inr e,l.mono S⟩
 |dk l=>obtain⟨_,e,l⟩:=k;exact⟨_,(h rfl).trans e,l.mono S⟩
 |dt l=>obtain⟨_,e,l⟩:=k;exact⟨_,(h rfl).trans e,l.mono S⟩
 |ins n l=>obtain⟨_,_,_,n,e,l⟩:=k;exact⟨_,_,_,n,(h rfl).trans e,l.mono S⟩
 |fdk l=>obtain⟨_,_,e,l⟩:=k;exact⟨_,_,S.imm _ _ e rfl,l.mono S⟩
 |dn l=>obtain⟨_,e,l⟩:=k;exact⟨_,(h rfl).trans e,l.mono S⟩
 |fdn l=>obtain⟨_,_,e,l⟩:=k;exact⟨_,_,S.imm _ _ e rfl,l.mono S⟩
 |exc c=>obtain⟨C,n,e⟩:=k;exact⟨C,n,S.imm _ _ e rfl⟩
 |tab t=>
  obtain⟨ps,d,e,x,t,r⟩:=k
  refine⟨ps,d,(h rfl).trans e,x,t,λpos cv q=> ?_⟩
  obtain⟨c,e1,e2⟩:=r pos cv q
  exact⟨c,e1,e2.mono S.imm⟩
structure Fm where
 H0:Hp
 j0:List Addr
 S0:Sto
structure En (K:y3) (F:Fm) (j:List Addr) (H:Hp) (σ:St) (ρ:Rho) (S:Sto):Prop where
 len:σ.length=ρ.length
 slot:∀(i:Nat) x,ρ[i]? =some (some x)->∃v,σ[i]? =some (some v)/\Xis K j H x v
 jl:j.length=S.length
 inj:∀(n m:Nat) a c d,j[n]? =some a->j[m]? =some a->S[n]? =some c->S[m]? =some d->c.fz=false->d.fz=false->n=m
 cel:∀(n:Nat) c a,S[n]? =some c->j[n]? =some a->Wn K j H a c
 ext:Ext F.j0 F.H0 j H
 old:∀(n:Nat) c,F.S0[n]? =some c->∃c',S[n]? =some c'/\(c'.fz=false->c.fz=false)/\(c.fz=true->c'=c)
 l0:F.j0.length=F.S0.length
 keep:∀b u,F.H0 b=some u->H b=some u\/∃(n:Nat) (c:Ce),F.j0[n]? =some b/\F.S0[n]? =some c/\c.fz=false
 fresh:∀(n:Nat) a,F.j0.length<=n->j[n]? =some a->F.H0 a=none
 dom:∀b,H b=none->F.H0 b=none
section
variable {K:y3} {F:Fm} {j j':List Addr} {H H':Hp} {σ σ':St} {ρ ρ':Rho} {S S':Sto} {v:V} {x:Xv} {a p:Addr} {o:HO} {i n:Nat} {c c':Ce}
theorem En.heap (E:En K F j H σ ρ S) (Sm:Zc H H'):En K F j H' σ ρ S:=by
 have X:Ext j H j H':=Ext.same Sm
 refine⟨E.len,λi x e=> ?_,E.jl,E.inj,λn c a e1 e2=> ?_,E.ext.trans X,E.old,E.l0,λb u e=> ?_,E.fresh,λb e=>E.dom b ?_⟩
 ·obtain⟨v,e1,e2⟩:=E.slot i x e
  exact⟨v,e1,e2.mono X⟩
 ·have h:=E.cel n c a e1 e2
  refine h.mono X λz=> ?_
  obtain⟨o,e,_⟩:=h.mu z
  exact (Sm _ _ e).trans e.symm
 ·rcases E.keep b u e with h|h
  ·exact .inl (Sm _ _ h)
  ·exact .inr h
 ·cases e':H b with
  |none=>rfl
  |some u=>rw[Sm b u e'] at e;cases e
theorem En.new (E:En K F j H σ ρ S) (h:H p=none):En K F j (upd H p o) σ ρ S/\Ext j H j (upd H p o):=⟨E.heap (yl h),Ext.same (yl h)⟩
theorem En.cell (E:En K F j H σ ρ S) (h:H p=none) (hc:Wn K (j++[p]) (upd H p o) p c):En K F (j++[p]) (upd H p o) σ ρ (S++[c])/\Ext j H (j++[p]) (upd H p o):=by
 have X:Ext j H (j++[p]) (upd H p o):=⟨λn a e=>by rw[y9 (y4.1 e).1];exact e,xF.same (yl h)⟩
 have gQ:∀{n:Nat} {a:Addr},(j++[p])[n]? =some a->j[n]? =some a\/(n=j.length/\a=p):=λ{n a} e=>by
  by_cases hn:n<j.length
  ·rw[y9 hn] at e;exact .inl e
  ·rw[z6 ⋯] at e
   cases hm:n-j.length with
   |zero=>rw[hm] at e;simp at e;exact .inr ⟨⋯,e.symm⟩
   |succ m=>rw[hm] at e;simp at e
 have sat:∀{n:Nat} {d:Ce},(S++[c])[n]? =some d->S[n]? =some d\/(n=S.length/\d=c):=λ{n d} e=>by
  by_cases hn:n<S.length
  ·rw[y9 hn] at e;exact .inl e
  ·rw[z6 ⋯] at e
   cases hm:n-S.length with
   |zero=>rw[hm] at e;simp at e;exact .inr ⟨⋯,e.symm⟩
   |succ m=>rw[hm] at e;simp at e
 have lt:∀{n:Nat} {d:Ce},S[n]? =some d->n<S.length:=λe=>(y4.1 e).1
 have ig:∀{n:Nat} {a:Addr} {d:Ce},j[n]? =some a->S[n]? =some d->d.fz=false->a≠p:=λ{n a d} e1 e2 z q=>by
  subst q
  obtain⟨o',e,_⟩:=(E.cel n d a e2 e1).mu z
  rw[h] at e;cases e
 refine⟨⟨E.len,λi x e=> ?_,by simp[E.jl],λn m a c1 c2 e1 e2 e3 e4 z1 z2=> ?_,λn d a e1 e2=> ?_,E.ext.trans X,λn d e=> ?_,E.l0,λb u e=> ?_,λn a hn e=> ?_,λb e=> ?_⟩,X⟩
 ·obtain⟨v,e1,e2⟩:=E.slot i x e
  exact⟨v,e1,e2.mono X⟩
 ·rcases sat e3 with e3|⟨e3,_⟩
  ·have h1:j[n]? =some a:=by
    rcases gQ e1 with h1|⟨h1,_⟩
    ·exact h1
    ·have:=lt e3;rw[E.jl] at h1;omega
   rcases sat e4 with e4|⟨e4,_⟩
   ·have h2:j[m]? =some a:=by
     rcases gQ e2 with h2|⟨h2,_⟩
     ·exact h2
     ·have:=lt e4;rw[E.jl] at h2;omega
    exact E.inj n m a c1 c2 h1 h2 e3 e4 z1 z2
   ·have:a=p:=by
     rcases gQ e2 with h2|⟨_,h2⟩
     ·have:=(y4.1 h2).1;rw[E.jl] at this;omega
     ·exact h2
    exact absurd this (ig h1 e3 z1)
  ·have:a=p:=by
    rcases gQ e1 with h2|⟨_,h2⟩
    ·have:=(y4.1 h2).1;rw[E.jl] at this;omega
    ·exact h2
   rcases sat e4 with e4|⟨e4,_⟩
   ·have h2:j[m]? =some a:=by
     rcases gQ e2 with h2|⟨h2,_⟩
     ·exact h2
     ·have:=lt e4;rw[E.jl] at h2;omega
    exact absurd this (ig h2 e4 z2)
   ·rw[e3,e4]
 ·rcases sat e1 with e1|⟨e1,rfl⟩
  ·have h2:j[n]? =some a:=by
    rcases gQ e2 with h2|⟨h2,_⟩
    ·exact h2
    ·have:=lt e1;rw[E.jl] at h2;omega
   have hh:=E.cel n d a e1 h2
   exact hh.mono X λz=>zh (ig h2 e1 z)
  ·have:a=p:=by
    rcases gQ e2 with h2|⟨_,h2⟩
    ·have:=(y4.1 h2).1;rw[E.jl] at this;omega
    ·exact h2
   subst this
   exact hc
 ·obtain⟨d',e1,e2⟩:=E.old n d e
  exact⟨d',by rw[y9 (lt e1)];exact e1,e2⟩
 ·rcases E.keep b u e with h'|h'
  ·exact .inl (yl h _ _ h')
  ·exact .inr h'
 ·rcases gQ e with e|⟨_,rfl⟩
  ·exact E.fresh n a hn e
  ·exact E.dom _ h
 ·refine E.dom b ?_
  cases e':H b with
  |none=>rfl
  |some u=>rw[yl h b u e'] at e;cases e
theorem En.writeF (E:En K F j H σ ρ S) (hs:S[n]? =some c) (z:c.fz=false) (hj:j[n]? =some a) (hc:∀X:Ext j H j (upd H a o),Wn K j (upd H a o) a c'):En K F j (upd H a o) σ ρ (S.set n c')/\Ext j H j (upd H a o):=by
 obtain⟨o0,h0,m0⟩:=(E.cel n c a hs hj).mu z
 have X:Ext j H j (upd H a o):=⟨λ_ _ e=>e,λb u e m=>by
  have:b≠a:=λq=>by subst q;rw[h0] at e;cases e;rw[m] at m0;cases m0
  rw[zh this];exact e⟩
 have sat:∀{m:Nat} {d:Ce},(S.set n c')[m]? =some d->(m=n/\d=c')\/(m≠n/\S[m]? =some d):=λ{m d} e=>by
  rw[Af] at e
  split at e
  ·rename_i q
   split at e
   ·cases e;exact .inl ⟨q.symm,rfl⟩
   ·cases e
  ·rename_i q
   exact .inr ⟨λr=>q r.symm,e⟩
 have qG:∀{m:Nat} {d:Ce},(S.set n c')[m]? =some d->∃d',S[m]? =some d'/\(d.fz=false->d'.fz=false):=λ{m d} e=>by
  rcases sat e with⟨rfl,rfl⟩|⟨_,e⟩
  ·exact⟨c,hs,λ_=>z⟩
  ·exact⟨d,e,λy=>y⟩
 refine⟨⟨E.len,λi x e=> ?_,by simp[E.jl],λk m b c1 c2 e1 e2 e3 e4 z1 z2=> ?_,λm d b e1 e2=> ?_,E.ext.trans X,λm d e=> ?_,E.l0,λb u e=> ?_,E.fresh,λb e=> ?_⟩,X⟩
 ·obtain⟨v,e1,e2⟩:=E.slot i x e
  exact⟨v,e1,e2.mono X⟩
 ·obtain⟨d1,f1,g1⟩:=qG e3
  obtain⟨d2,f2,g2⟩:=qG e4
  exact E.inj k m b d1 d2 e1 e2 f1 f2 (g1 z1) (g2 z2)
 ·rcases sat e1 with⟨rfl,rfl⟩|⟨q,e1⟩
  ·rw[hj] at e2
   cases e2
   exact hc X
  ·refine (E.cel m d b e1 e2).mono X λzd=>zh λr=> ?_
   subst r
   exact q (E.inj m n b d c e2 hj e1 hs zd z)
 ·obtain⟨d',e1,e2,e3⟩:=E.old m d e
  by_cases q:m=n
  ·subst q
   rw[hs] at e1
   cases e1
   refine⟨c',by rw[Af,if_pos rfl,if_pos (y4.1 hs).1],λ_=>e2 z,λy=> ?_⟩
   rw[e2 z] at y
   cases y
  ·exact⟨d',by rw[Af,if_neg (λr=>q r.symm)];exact e1,e2,e3⟩
 ·by_cases q:b=a
  ·subst q
   by_cases hn:n<F.j0.length
   ·have lG:F.j0[n]? =some b:=by
     have e1:F.j0[n]? =some F.j0[n]:=y6 hn
     have e2:=E.ext.pre n _ e1
     rw[hj] at e2
     cases e2
     exact e1
    have cX:n<F.S0.length:=by rw[<-E.l0];exact hn
    obtain⟨d',f1,f2,_⟩:=E.old n _ (y6 cX)
    rw[hs] at f1
    cases f1
    exact .inr ⟨n,_,lG,y6 cX,f2 z⟩
   ·rw[E.fresh n b ⋯ hj] at e
    cases e
  ·rcases E.keep b u e with h|h
   ·exact .inl (by rw[zh q];exact h)
   ·exact .inr h
 ·by_cases q:b=a
  ·subst q;rw[zm] at e;cases e
  ·rw[zh q] at e;exact E.dom b e
theorem En.write (E:En K F j H σ ρ S) (hs:S[n]? =some c) (z:c.fz=false) (hj:j[n]? =some a) (_:c'.fz=false) (hc:∀X:Ext j H j (upd H a o),Wn K j (upd H a o) a c'):En K F j (upd H a o) σ ρ (S.set n c')/\Ext j H j (upd H a o):=E.writeF hs z hj hc
theorem En.slots (E:En K F j H σ ρ S) (hl:σ'.length=ρ'.length) (h:∀(i:Nat) x,ρ'[i]? =some (some x)->∃v,σ'[i]? =some (some v)/\Xis K j H x v):En K F j H σ' ρ' S:=
 ⟨hl,h,E.jl,E.inj,E.cel,E.ext,E.old,E.l0,E.keep,E.fresh,E.dom⟩
theorem En.set (E:En K F j H σ ρ S) (h:Xis K j H x v):En K F j H (σ.set i (some v)) (ρ.set i (some x)) S:=E.slots (by simp[E.len]) λk y e=>by
 rw[Af] at e ⊢
 split at e
 ·rename_i q
  subst q
  split at e
  ·rename_i hl
   cases e
   rw[if_pos rfl,if_pos (by rw[E.len];exact hl)]
   exact⟨v,rfl,h⟩
  ·cases e
 ·rename_i q
  rw[if_neg q]
  exact E.slot k y e
theorem En.enter (E:En K F j H σ ρ S) (hl:σ'.length=ρ'.length) (h:∀(i:Nat) x,ρ'[i]? =some (some x)->∃v,σ'[i]? =some (some v)/\Xis K j H x v):En K ⟨H,j,S⟩ j H σ' ρ' S:=
 ⟨hl,h,E.jl,E.inj,E.cel,Ext.refl,λn c e=>⟨c,e,λz=>z,λ_=>rfl⟩,E.jl,λb u e=> .inl e,λn a hn e=>by have:=(y4.1 e).1;dsimp only at hn;omega,λb e=>e⟩
theorem En.leave (E:En K F j H σ ρ S) (X:En K ⟨H,j,S⟩ j' H' σ' ρ' S'):En K F j' H' σ ρ S'/\Ext j H j' H':=by
 have e:Ext j H j' H':=X.ext
 refine⟨⟨E.len,λi x h=> ?_,X.jl,X.inj,X.cel,E.ext.trans e,λn c h=> ?_,E.l0,λb u h=> ?_,λn a hn h=> ?_,λb h=>E.dom b (X.dom b h)⟩,e⟩
 ·obtain⟨v,e1,e2⟩:=E.slot i x h
  exact⟨v,e1,e2.mono e⟩
 ·obtain⟨c1,e1,e2,e3⟩:=E.old n c h
  obtain⟨c2,f1,f2,f3⟩:=X.old n c1 e1
  refine⟨c2,f1,λz=>e2 (f2 z),λz=> ?_⟩
  obtain rfl:=e3 z
  exact f3 z
 ·rcases E.keep b u h with h1|h1
  ·rcases X.keep b u h1 with h2|⟨n,c,h2,h3,h4⟩
   ·exact .inl h2
   ·by_cases hn:n<F.j0.length
    ·have e1:F.j0[n]? =some F.j0[n]:=y6 hn
     have e2:=E.ext.pre n _ e1
     have lU:j[n]? =some b:=h2
     rw[lU] at e2
     cases e2
     have cX:n<F.S0.length:=by rw[<-E.l0];exact hn
     obtain⟨c1,f1,f2,_⟩:=E.old n _ (y6 cX)
     have oy:S[n]? =some c:=h3
     rw[oy] at f1
     cases f1
     exact .inr ⟨n,_,e1,y6 cX,f2 h4⟩
    ·have:=E.fresh n b ⋯ h2
     rw[this] at h;cases h
  ·exact .inr h1
 ·by_cases hm:n<j.length
  ·have e1:j[n]? =some j[n]:=y6 hm
   have e2:=e.pre n _ e1
   rw[h] at e2
   cases e2
   exact E.fresh n _ hn e1
  ·exact E.dom a (X.fresh n a (by dsimp only;omega) h)
theorem En.grow {k:Nat} (E:En K F j H σ ρ S):En K F j H (σ++z9 k none) (ρ++z9 k none) S:=E.slots (by simp[E.len]) λi x e=>by
 by_cases hi:i<ρ.length
 ·rw[y9 hi] at e
  rw[y9 (by rw[E.len];exact hi)]
  exact E.slot i x e
 ·rw[z6 ⋯,BF] at e
  split at e
  ·cases e
  ·cases e
end
inductive Rs (α:Type) where
 |ok (a:α) (S:Sto)
 |ex (c:Str) (S:Sto)
abbrev TwE:=Rho->Sto->Option (Rs Xv)
abbrev TwT:=Rho->Sto->Option (Rs Bool)
abbrev TwL:=Rho->Sto->Option (Rs (List Xv))
abbrev TwO:=Rho->Sto->Option (Rs (Option Int))
abbrev TwG:=Xv->Rho->Sto->Option (Rs Rho)
abbrev zda:=List Xv->Rho->Sto->Option (Rs Rho)
abbrev TwI:=Rho->Sto->Option (Rs (Sto->Option (List Xv)))
inductive Fl where
 |nx (ρ:Rho) (S:Sto)
 |bk (ρ:Rho) (S:Sto)
 |ct (ρ:Rho) (S:Sto)
 |rt (x:Xv) (S:Sto)
 |ex (c:Str) (S:Sto)
abbrev TwS:=Rho->Sto->Option Fl
noncomputable def rb {α β:Type} (m:Option (Rs α)) (f:α->Sto->Option (Rs β)):Option (Rs β):=match m with
 |some (.ok a S)=>f a S
 |some (.ex c S)=>some (.ex c S)
 |none=>none
noncomputable def sb {α:Type} (m:Option (Rs α)) (f:α->Sto->Option Fl):Option Fl:=match m with
 |some (.ok a S)=>f a S
 |some (.ex c S)=>some (.ex c S)
 |none=>none
theorem zj {α β:Type} {m:Option (Rs α)} {f:α->Sto->Option (Rs β)} {r:Rs β} (h:rb m f=some r):(∃a S,m=some (.ok a S)/\f a S=some r)\/∃c S,m=some (.ex c S)/\r= .ex c S:=by
 unfold rb at h
 split at h
 ·exact .inl ⟨_,_,rfl,h⟩
 ·cases h;exact .inr ⟨_,_,rfl,rfl⟩
 ·cases h
theorem xj {α:Type} {m:Option (Rs α)} {f:α->Sto->Option Fl} {r:Fl} (h:sb m f=some r):(∃a S,m=some (.ok a S)/\f a S=some r)\/∃c S,m=some (.ex c S)/\r= .ex c S:=by
 unfold sb at h
 split at h
 ·exact .inl ⟨_,_,rfl,h⟩
 ·cases h;exact .inr ⟨_,_,rfl,rfl⟩
 ·cases h
def PX (K:y3) (F:Fm) (j:List Addr) (H:Hp) (E:XK) (c:Str) (S':Sto):Prop:=
 ∀j' H' σ' ρ' C,Ext j H j' H'->En K F j' H' σ' ρ' S'->A8 K mainGlobals c=some (some (.ref C))->E (.ref C) none H'
theorem PX.mono {K:y3} {F:Fm} {j j1:List Addr} {H H1:Hp} {E:XK} {c:Str} {S':Sto} (h:PX K F j H E c S') (e:Ext j H j1 H1):PX K F j1 H1 E c S':=λj' H' σ' ρ' C x y z=>h j' H' σ' ρ' C (e.trans x) y z
def Po {α:Type} (K:y3) (F:Fm) (j:List Addr) (H:Hp) (σ:St) (ρ:Rho) (E:XK) (P:α->List Addr->Hp->Prop):Rs α->Prop
 | .ok a S'=>∀j' H',Ext j H j' H'->En K F j' H' σ ρ S'->P a j' H'
 | .ex c S'=>PX K F j H E c S'
theorem Po.step {α:Type} {K:y3} {F:Fm} {j j1:List Addr} {H H1:Hp} {σ:St} {ρ:Rho} {E:XK} {P:α->List Addr->Hp->Prop}:∀{r:Rs α},Po K F j H σ ρ E P r->Ext j H j1 H1->Po K F j1 H1 σ ρ E P r
 | .ok a S',h,e=>λj' H' x y=>h j' H' (e.trans x) y
 | .ex c S',h,e=>PX.mono h e
noncomputable abbrev PoV (K:y3) (Q:VK):Xv->List Addr->Hp->Prop:=λx j' H'=>∀v,Xis K j' H' x v->Q v H'
def RE (K:y3) (E:XK) (t:TE) (m:TwE):Prop:=∀{F:Fm} {j:List Addr} {σ:St} {H:Hp} {ρ:Rho} {S:Sto} {r:Rs Xv} {Q:VK},En K F j H σ ρ S->m ρ S=some r->Po K F j H σ ρ E (PoV K Q) r->t σ H Q
def RT (K:y3) (E:XK) (t:TT) (m:TwT):Prop:=∀{F:Fm} {j:List Addr} {σ:St} {H:Hp} {ρ:Rho} {S:Sto} {r:Rs Bool} {Q:Bool->Hp->Prop},En K F j H σ ρ S->m ρ S=some r->Po K F j H σ ρ E (λb _ H'=>Q b H') r->t σ H Q
def RL (K:y3) (E:XK) (t:TA) (m:TwL):Prop:=∀{F:Fm} {j:List Addr} {σ:St} {H:Hp} {ρ:Rho} {S:Sto} {r:Rs (List Xv)} {Q:List V->Hp->Prop},En K F j H σ ρ S->m ρ S=some r->Po K F j H σ ρ E (λxs j' H'=>∀vs,zE K j' H' xs vs->Q vs H') r->t σ H Q
def RO (K:y3) (E:XK) (t:TO) (m:TwO):Prop:=∀{F:Fm} {j:List Addr} {σ:St} {H:Hp} {ρ:Rho} {S:Sto} {r:Rs (Option Int)} {Q:Option Int->Hp->Prop},En K F j H σ ρ S->m ρ S=some r->Po K F j H σ ρ E (λo _ H'=>Q o H') r->t σ H Q
def PoG (K:y3) (F:Fm) (j:List Addr) (H:Hp) (E:XK) (R:St->Hp->Prop):Rs Rho->Prop
 | .ok ρ' S'=>∀σ' j' H',Ext j H j' H'->En K F j' H' σ' ρ' S'->R σ' H'
 | .ex c S'=>PX K F j H E c S'
theorem PoG.step {K:y3} {F:Fm} {j j1:List Addr} {H H1:Hp} {E:XK} {R:St->Hp->Prop}:∀{r:Rs Rho},PoG K F j H E R r->Ext j H j1 H1->PoG K F j1 H1 E R r
 | .ok a S',h,e=>λσ' j' H' x y=>h σ' j' H' (e.trans x) y
 | .ex c S',h,e=>PX.mono h e
def RG (K:y3) (E:XK) (t:TG) (g:TwG):Prop:=∀{F:Fm} {j:List Addr} {σ:St} {H:Hp} {ρ:Rho} {S:Sto} {r:Rs Rho} {x:Xv} {v:V} {R:St->Hp->Prop},En K F j H σ ρ S->Xis K j H x v->g x ρ S=some r->PoG K F j H E R r->t v σ H R
def RGs (K:y3) (E:XK) (t:TGs) (g:zda):Prop:=∀{F:Fm} {j:List Addr} {σ:St} {H:Hp} {ρ:Rho} {S:Sto} {r:Rs Rho} {xs:List Xv} {vs:List V} {R:St->Hp->Prop},En K F j H σ ρ S->zE K j H xs vs->g xs ρ S=some r->PoG K F j H E R r->t vs σ H R
def ziO (K:y3) (F:Fm) (j:List Addr) (H:Hp) (E:XK) (D':Wg):Fl->Prop
 | .nx ρ S=>∀σ j' H',Ext j H j' H'->En K F j' H' σ ρ S->D'.nx σ H'
 | .bk ρ S=>∀σ j' H',Ext j H j' H'->En K F j' H' σ ρ S->D'.bk σ H'
 | .ct ρ S=>∀σ j' H',Ext j H j' H'->En K F j' H' σ ρ S->D'.ct σ H'
 | .rt x S=>∀v σ ρ j' H',Ext j H j' H'->En K F j' H' σ ρ S->Xis K j' H' x v->D'.rt v H'
 | .ex c S=>PX K F j H E c S
theorem ziO.step {K:y3} {F:Fm} {j j1:List Addr} {H H1:Hp} {E:XK} {D':Wg}:∀{fl:Fl},ziO K F j H E D' fl->Ext j H j1 H1->ziO K F j1 H1 E D' fl
 | .nx _ _,h,e=>λσ j' H' x y=>h σ j' H' (e.trans x) y
 | .bk _ _,h,e=>λσ j' H' x y=>h σ j' H' (e.trans x) y
 | .ct _ _,h,e=>λσ j' H' x y=>h σ j' H' (e.trans x) y
 | .rt _ _,h,e=>λv σ ρ j' H' x y z=>h v σ ρ j' H' (e.trans x) y z
 | .ex _ _,h,e=>PX.mono h e
def RS (K:y3) (E:XK) (t:TS) (m:TwS):Prop:=∀{F:Fm} {j:List Addr} {D':Wg} {σ:St} {H:Hp} {ρ:Rho} {S:Sto} {fl:Fl},En K F j H σ ρ S->m ρ S=some fl->ziO K F j H E D' fl->t D' σ H
def zmy (K:y3) (j:List Addr) (H:Hp) (J:It) (get:Sto->Option (List Xv)):Prop:=∀{F:Fm} {j':List Addr} {H':Hp} {σ:St} {ρ:Rho} {S:Sto} {xs:List Xv} (i:Nat),Ext j H j' H'->En K F j' H' σ ρ S->get S=some xs->
 (∀x,xs[i]? =some x->J.go i H'/\∀v H'',J.yld i H' v H''->Zc H' H''/\Xis K j' H'' x v)/\(i=xs.length->J.stop i H')
def RI (K:y3) (E:XK) (t:TI) (m:TwI):Prop:=∀{F:Fm} {j:List Addr} {σ:St} {H:Hp} {ρ:Rho} {S:Sto} {r:Rs (Sto->Option (List Xv))} {R:It->Hp->Prop},En K F j H σ ρ S->m ρ S=some r->Po K F j H σ ρ E (λget j' H'=>∀J,zmy K j' H' J get->R J H') r->t σ H R
abbrev Op2:=Xv->Xv->Sto->Option (Xv×Sto)
abbrev Opn:=List Xv->Sto->Option (Xv×Sto)
def ZX (K:y3) (r:R2) (f:Op2):Prop:=∀{F:Fm} {j:List Addr} {σ:St} {H:Hp} {ρ:Rho} {S S':Sto} {x y z:Xv} {u v:V} {Q:VK},En K F j H σ ρ S->Xis K j H x u->Xis K j H y v->f x y S=some (z,S')->(∀w j' H',Ext j H j' H'->En K F j' H' σ ρ S'->Xis K j' H' z w->Q w H')->r u v H Q
def zmz (K:y3) (r:V->Hp->VK->Prop) (f:Xv->Sto->Option (Xv×Sto)):Prop:=∀{F:Fm} {j:List Addr} {σ:St} {H:Hp} {ρ:Rho} {S S':Sto} {x z:Xv} {u:V} {Q:VK},En K F j H σ ρ S->Xis K j H x u->f x S=some (z,S')->(∀w j' H',Ext j H j' H'->En K F j' H' σ ρ S'->Xis K j' H' z w->Q w H')->r u H Q
def zaY (K:y3) (r:List V->Hp->VK->Prop) (f:Opn):Prop:=∀{F:Fm} {j:List Addr} {σ:St} {H:Hp} {ρ:Rho} {S S':Sto} {xs:List Xv} {z:Xv} {vs:List V} {Q:VK},En K F j H σ ρ S->zE K j H xs vs->f xs S=some (z,S')->(∀w j' H',Ext j H j' H'->En K F j' H' σ ρ S'->Xis K j' H' z w->Q w H')->r vs H Q
noncomputable def za (i:Nat):TwE:=λρ S=>match ρ[i]? with
 |some (some x)=>some (.ok x S)
 |_=>none
noncomputable def eC (x:Xv):TwE:=λ_ S=>some (.ok x S)
noncomputable def okP (o:Option (Xv×Sto)):Option (Rs Xv):=o.map λp=> .ok p.1 p.2
theorem ZJ {o:Option (Xv×Sto)} {r:Rs Xv} (h:okP o=some r):∃z S,o=some (z,S)/\r= .ok z S:=by
 cases o with
 |none=>cases h
 |some p=>cases h;exact⟨_,_,rfl,rfl⟩
def eOp (f:Op2) (a b:TwE):TwE:=λρ S=>rb (a ρ S) λx S1=>rb (b ρ S1) λy S2=>okP (f x y S2)
def eUn (f:Xv->Sto->Option (Xv×Sto)) (a:TwE):TwE:=λρ S=>rb (a ρ S) λx S1=>okP (f x S1)
noncomputable def bE (m:TwE):TwT:=λρ S=>rb (m ρ S) λx S1=>match x with
 | .bl b=>some (.ok b S1)
 |_=>none
noncomputable def eB (m:TwT):TwE:=λρ S=>rb (m ρ S) λb S1=>some (.ok (.bl b) S1)
noncomputable def ziP (a b:TwT):TwT:=λρ S=>rb (a ρ S) λx S1=>if x then b ρ S1 else some (.ok false S1)
noncomputable def bOr (a b:TwT):TwT:=λρ S=>rb (a ρ S) λx S1=>if x then some (.ok true S1) else b ρ S1
noncomputable def zdb (a:TwT):TwT:=λρ S=>rb (a ρ S) λx S1=>some (.ok (!x) S1)
def zk4 (a b:TwE):TwE:=λρ S=>rb (bE a ρ S) λx S1=>if x then b ρ S1 else some (.ok (.bl false) S1)
noncomputable def eIf (c:TwT) (a b:TwE):TwE:=λρ S=>rb (c ρ S) λx S1=>if x then a ρ S1 else b ρ S1
noncomputable def evL:List TwE->TwL
 |[]=>λ_ S=>some (.ok [] S)
 |m::r=>λρ S=>rb (m ρ S) λx S1=>rb (evL r ρ S1) λxs S2=>some (.ok (x::xs) S2)
noncomputable def ZK (ms:List TwE):TwE:=λρ S=>rb (evL ms ρ S) λxs S1=>some (.ok (.tup xs) S1)
noncomputable def VP (ms:List TwE):TwE:=λρ S=>rb (evL ms ρ S) λxs S1=>some (.ok (.ref S1.length) (S1++[.lst xs]))
def eFn (f:Opn) (ms:List TwE):TwE:=λρ S=>rb (evL ms ρ S) λxs S1=>okP (f xs S1)
noncomputable def zmA (f:Xv->Option Xv):Xv->Sto->Option (Xv×Sto):=λx S=>(f x).map λz=>(z,S)
section
variable {K:y3} {E:XK} {F:Fm} {j:List Addr} {H:Hp} {σ:St} {ρ:Rho} {S:Sto}
theorem Po.val {Q:VK} {x:Xv} {v:V} (k:Po K F j H σ ρ E (PoV K Q) (.ok x S)) (En0:En K F j H σ ρ S) (h:Xis K j H x v):Q v H:=k j H Ext.refl En0 v h
theorem zo (i:Nat):RE K E (zkB i) (za i):=by
 intro F j σ H ρ S r Q En0 e k
 unfold za at e
 split at e
 ·rename_i x ex
  cases e
  obtain⟨v,e1,e2⟩:=En0.slot i _ ex
  exact⟨v,e1,k.val En0 e2⟩
 ·cases e
theorem ziQ {v:V} {x:Xv} (h:∀j H,Xis K j H x v):RE K E (tC v) (eC x):=λEn0 e k=>by
 cases e
 exact k.val En0 (h _ _)
theorem wu (i:Int):RE K E (tC (.int i)) (eC (.int i)):=ziQ λ_ _=> .int i
theorem zk5 (x:Str):RE K E (tC (.str x)) (eC (.str x)):=ziQ λ_ _=> .str x
theorem zke (b:Bool):RE K E (tC (.bl b)) (eC (.bl b)):=ziQ λ_ _=> .bl b
theorem zgE:RE K E (tC .non) (eC .non):=ziQ λ_ _=> .non
theorem xp {r:R2} {f:Op2} {ta tb:TE} {a b:TwE} (ho:ZX K r f) (ha:RE K E ta a) (hb:RE K E tb b):RE K E (tOp r ta tb) (eOp f a b):=by
 intro F j σ H ρ S r Q En0 e k
 rcases zj e with⟨x,S1,e1,e⟩|⟨c,S1,e1,rfl⟩
 ·refine ha En0 e1 λj1 H1 X1 E1 u hu=> ?_
  rcases zj e with⟨y,S2,e2,e⟩|⟨c,S2,e2,rfl⟩
  ·obtain⟨z,S3,e3,rfl⟩:=ZJ e
   exact hb E1 e2 λj2 H2 X2 E2 v hv=>ho E2 (hu.mono X2) hv e3 λw j3 H3 X3 E3 hw=>k _ _ (X1.trans (X2.trans X3)) E3 _ hw
  ·exact hb E1 e2 (PX.mono k X1)
 ·exact ha En0 e1 k
theorem zec {r:V->Hp->VK->Prop} {f:Xv->Sto->Option (Xv×Sto)} {ta:TE} {a:TwE} (ho:zmz K r f) (ha:RE K E ta a):RE K E (tUn r ta) (eUn f a):=by
 intro F j σ H ρ S r Q En0 e k
 rcases zj e with⟨x,S1,e1,e⟩|⟨c,S1,e1,rfl⟩
 ·obtain⟨z,S3,e3,rfl⟩:=ZJ e
  exact ha En0 e1 λj1 H1 X1 E1 u hu=>ho E1 hu e3 λw j3 H3 X3 E3 hw=>k _ _ (X1.trans X3) E3 _ hw
 ·exact ha En0 e1 k
theorem zb0 {t:TE} {m:TwE} (h:RE K E t m):RT K E (tB t) (bE m):=by
 intro F j σ H ρ S r Q En0 e k
 rcases zj e with⟨x,S1,e1,e⟩|⟨c,S1,e1,rfl⟩
 ·split at e
  ·cases e
   exact h En0 e1 λj1 H1 X1 E1 u hu=>⟨_,hu.bl_inv,k _ _ X1 E1⟩
  ·cases e
 ·exact h En0 e1 k
theorem ziR {t:TE} {m:TwE} (h:RE K E t m):RT K E (zj2 t) (bE m):=zb0 h
theorem zk6 {t u:TT} {a b:TwT} (ha:RT K E t a) (hb:RT K E u b):RT K E (zl5 t u) (ziP a b):=by
 intro F j σ H ρ S r Q En0 e k
 rcases zj e with⟨x,S1,e1,e⟩|⟨c,S1,e1,rfl⟩
 ·refine ha En0 e1 λj1 H1 X1 E1=> ?_
  cases x with
  |true=>exact hb E1 e (k.step X1)
  |false=>cases e;exact k _ _ X1 E1
 ·exact ha En0 e1 k
theorem zmB {t u:TT} {a b:TwT} (ha:RT K E t a) (hb:RT K E u b):RT K E (tOr t u) (bOr a b):=by
 intro F j σ H ρ S r Q En0 e k
 rcases zj e with⟨x,S1,e1,e⟩|⟨c,S1,e1,rfl⟩
 ·refine ha En0 e1 λj1 H1 X1 E1=> ?_
  cases x with
  |true=>cases e;exact k _ _ X1 E1
  |false=>exact hb E1 e (k.step X1)
 ·exact ha En0 e1 k
theorem zk7 {t:TT} {a:TwT} (ha:RT K E t a):RT K E (zl6 t) (zdb a):=by
 intro F j σ H ρ S r Q En0 e k
 rcases zj e with⟨x,S1,e1,e⟩|⟨c,S1,e1,rfl⟩
 ·cases e
  exact ha En0 e1 λj1 H1 X1 E1=>k _ _ X1 E1
 ·exact ha En0 e1 k
theorem zk8 {ta tb:TE} {a b:TwE} (ha:RE K E ta a) (hb:RE K E tb b):RE K E (zjW ta tb) (zk4 a b):=by
 intro F j σ H ρ S r Q En0 e k
 rcases zj e with⟨x,S1,e1,e⟩|⟨c,S1,e1,rfl⟩
 ·rcases zj e1 with⟨y,S2,e2,e1⟩|⟨c,S2,e2,z⟩
  ·split at e1
   ·cases e1
    refine ha En0 e2 λj1 H1 X1 E1 u hu=>⟨_,hu.bl_inv,?_⟩
    cases x with
    |true=>exact hb E1 e (k.step X1)
    |false=>cases e;exact k _ _ X1 E1 _ (.bl false)
   ·cases e1
  ·cases z
 ·rcases zj e1 with⟨y,S2,e2,e1⟩|⟨c,S2,e2,z⟩
  ·split at e1<;>cases e1
  ·cases z;exact ha En0 e2 k
theorem zk9 {ta:TE} {a:TwE} (ha:RE K E ta a):RE K E (zjX ta) (eB (zdb (bE a))):=by
 intro F j σ H ρ S r Q En0 e k
 rcases zj e with⟨x,S1,e1,e⟩|⟨c,S1,e1,rfl⟩
 ·rcases zj e1 with⟨y,S2,e2,e1⟩|⟨c,S2,e2,z⟩
  ·rcases zj e2 with⟨z,S3,e3,e2⟩|⟨c,S3,e3,z⟩
   ·split at e2
    ·cases e2;cases e1;cases e
     exact ha En0 e3 λj1 H1 X1 E1 u hu=>⟨_,hu.bl_inv,k _ _ X1 E1 _ (.bl _)⟩
    ·cases e2
   ·cases z
  ·cases z
 ·rcases zj e1 with⟨y,S2,e2,e1⟩|⟨c,S2,e2,z⟩
  ·cases e1
  ·cases z
   rcases zj e2 with⟨z,S3,e3,e2⟩|⟨c,S3,e3,z⟩
   ·split at e2<;>cases e2
   ·cases z;exact ha En0 e3 k
theorem zmC {t:TT} {c:TwT} {ta tb:TE} {a b:TwE} (hc:RT K E t c) (ha:RE K E ta a) (hb:RE K E tb b):RE K E (tIf t ta tb) (eIf c a b):=by
 intro F j σ H ρ S r Q En0 e k
 rcases zj e with⟨x,S1,e1,e⟩|⟨c,S1,e1,rfl⟩
 ·refine hc En0 e1 λj1 H1 X1 E1=> ?_
  cases x with
  |true=>exact ha E1 e (k.step X1)
  |false=>exact hb E1 e (k.step X1)
 ·exact hc En0 e1 k
noncomputable def Xv.isNon:Xv->Bool
 | .non=>true
 |_=>false
noncomputable def zdc:Xv->Sto->Option (Xv×Sto):=zmA λx=>some (.bl x.isNon)
noncomputable def zed:Xv->Sto->Option (Xv×Sto):=zmA λx=>some (.bl (!x.isNon))
theorem zee {x:Xv} {v:V} (h:Xis K j H x v):decide (v= .non)=x.isNon:=by cases h<;>simp[Xv.isNon]
theorem zgF {ta:TE} {a:TwE} (ha:RE K E ta a):RE K E (zl4 ta) (eUn zdc a):=by
 intro F j σ H ρ S r Q En0 e k
 rcases zj e with⟨x,S1,e1,e⟩|⟨c,S1,e1,rfl⟩
 ·cases e
  exact ha En0 e1 λj1 H1 X1 E1 u hu=>k _ _ X1 E1 _ (by rw[zee hu];exact .bl _)
 ·exact ha En0 e1 k
theorem ziS {ta:TE} {a:TwE} (ha:RE K E ta a):RE K E (zjV ta) (eUn zed a):=by
 intro F j σ H ρ S r Q En0 e k
 rcases zj e with⟨x,S1,e1,e⟩|⟨c,S1,e1,rfl⟩
 ·cases e
  exact ha En0 e1 λj1 H1 X1 E1 u hu=>k _ _ X1 E1 _ (by rw[zee hu];exact .bl _)
 ·exact ha En0 e1 k
theorem yA:RL K E zbI (evL []):=λEn0 e k=>by
 cases e
 exact k _ _ Ext.refl En0 [] .nil
theorem zA {ta:TE} {tr:TA} {m:TwE} {ms:List TwE} (ha:RE K E ta m) (hr:RL K E tr (evL ms)):RL K E (Yw ta tr) (evL (m::ms)):=by
 intro F j σ H ρ S r Q En0 e k
 rcases zj e with⟨x,S1,e1,e⟩|⟨c,S1,e1,rfl⟩
 ·refine ha En0 e1 λj1 H1 X1 E1 u hu=> ?_
  rcases zj e with⟨xs,S2,e2,e⟩|⟨c,S2,e2,rfl⟩
  ·cases e
   exact hr E1 e2 λj2 H2 X2 E2 vs hv=>k _ _ (X1.trans X2) E2 (u::vs) (.cons (hu.mono X2) hv)
  ·exact hr E1 e2 (PX.mono k X1)
 ·exact ha En0 e1 k
theorem ZY:∀{ms:List TwE} {ρ:Rho} {S S':Sto} {xs:List Xv},evL ms ρ S=some (.ok xs S')->xs.length=ms.length
 |[],_,_,_,_,h=>by cases h;rfl
 |m::ms,ρ,S,S',xs,h=>by
  rcases zj h with⟨x,S1,e1,h⟩|⟨c,S1,e1,z⟩
  ·rcases zj h with⟨ys,S2,e2,h⟩|⟨c,S2,e2,z⟩
   ·cases h
    simp[ZY e2]
   ·cases z
  ·cases z
theorem zdd {t:TA} {ms:List TwE} (h:RL K E t (evL ms)) (hl:ms.length<=1000:=by simp):RE K E (zmj t) (ZK ms):=by
 intro F j σ H ρ S r Q En0 e k
 rcases zj e with⟨xs,S1,e1,e⟩|⟨c,S1,e1,rfl⟩
 ·cases e
  refine h En0 e1 λj1 H1 X1 E1 vs hv=>⟨?_,λp hp=> ?_⟩
  ·rw[hv.len,ZY e1]
   exact A2 hl ∅
  ·obtain⟨E2,X2⟩:=E1.new (o:= .tup vs) hp
   exact k _ _ (X1.trans X2) E2 _ (.tup zm (hv.mono X2))
 ·exact h En0 e1 k
theorem En.lst {xs:List Xv} {vs:List V} {p:Addr} (En0:En K F j H σ ρ S) (hv:zE K j H xs vs) (hp:H p=none):En K F (j++[p]) (upd H p (.lst vs)) σ ρ (S++[.lst xs])/\Ext j H (j++[p]) (upd H p (.lst vs))/\Xis K (j++[p]) (upd H p (.lst vs)) (.ref S.length) (.ref p):=by
 have X:Ext j H (j++[p]) (upd H p (.lst vs)):=⟨λn a e=>by rw[y9 (y4.1 e).1];exact e,xF.same (yl hp)⟩
 obtain⟨E1,_⟩:=En0.cell (o:= .lst vs) (c:= .lst xs) hp ⟨vs,zm,hv.mono X⟩
 exact⟨E1,X,.ref (by rw[<-En0.jl];simp)⟩
theorem zaZ {t:TA} {ms:List TwE} (h:RL K E t (evL ms)) (hl:ms.length<=1000:=by simp):RE K E (zmk t) (VP ms):=by
 intro F j σ H ρ S r Q En0 e k
 rcases zj e with⟨xs,S1,e1,e⟩|⟨c,S1,e1,rfl⟩
 ·cases e
  refine h En0 e1 λj1 H1 X1 E1 vs hv=>⟨?_,λp hp=> ?_⟩
  ·rw[hv.len,ZY e1]
   exact A2 hl ∅
  ·obtain⟨E2,X2,h2⟩:=E1.lst hv hp
   exact k _ _ (X1.trans X2) E2 _ h2
 ·exact h En0 e1 k
theorem zai {t:TA} {ms:List TwE} {r:List V->Hp->VK->Prop} {f:Opn} (hr:zaY K r f) (h:RL K E t (evL ms)):RE K E (tCB r t) (eFn f ms):=by
 intro F j σ H ρ S r Q En0 e k
 rcases zj e with⟨xs,S1,e1,e⟩|⟨c,S1,e1,rfl⟩
 ·obtain⟨z,S3,e3,rfl⟩:=ZJ e
  exact h En0 e1 λj1 H1 X1 E1 vs hv=>hr E1 hv e3 λw j3 H3 X3 E3 hw=>k _ _ (X1.trans X3) E3 _ hw
 ·exact h En0 e1 k
end
noncomputable def zv (S:Sto):Xv->Option (List Xv)
 | .ref n=>match S[n]? with
  |some (.lst xs)=>some xs
  |some (.frz xs)=>some xs
  |_=>none
 |_=>none
noncomputable def Wo (S:Sto) (x:Xv):Option (List Xv):=match x.tupOf with
 |some xs=>some xs
 |none=>zv S x
noncomputable def Wp (S:Sto):Xv->Option (Nat×List Xv)
 | .ref n=>match S[n]? with
  |some (.lst xs)=>some (n,xs)
  |_=>none
 |_=>none
section
variable {K:y3} {E:XK} {F:Fm} {j:List Addr} {H:Hp} {σ:St} {ρ:Rho} {S:Sto} {x:Xv} {v:V}
theorem En.lstAt {xs:List Xv} (E0:En K F j H σ ρ S) (hx:Xis K j H x v) (h:L2.zv S x=some xs):∃a vs,v= .ref a/\SqX K H a vs/\zE K j H xs vs:=by
 cases x<;>simp only[L2.zv,reduceCtorEq] at h
 obtain⟨a,rfl,hj⟩:=hx.ref_inv
 split at h
 ·cases h
  obtain⟨vs,e1,e2⟩:=E0.cel _ _ _ (by assumption) hj
  exact⟨a,vs,rfl,SqX.of e1,e2⟩
 ·cases h
  obtain⟨vs,e1,e2⟩:=E0.cel _ _ _ (by assumption) hj
  refine⟨a,vs,rfl,?_,e2⟩
  rcases e1 with⟨o,e1⟩|e1
  ·exact .inl (.inr ⟨o,e1⟩)
  ·exact e1 H
 ·cases h
theorem En.seqAt {xs:List Xv} (E0:En K F j H σ ρ S) (hx:Xis K j H x v) (h:L2.Wo S x=some xs):∃a vs,v= .ref a/\(SqX K H a vs\/SqT K H a vs)/\zE K j H xs vs:=by
 unfold L2.Wo at h
 split at h
 ·cases h
  obtain⟨a,vs,e1,e2,e3⟩:=hx.tupO (by assumption)
  exact⟨a,vs,e1,.inr e2,e3⟩
 ·obtain⟨a,vs,e1,e2,e3⟩:=E0.lstAt hx h
  exact⟨a,vs,e1,.inl e2,e3⟩
theorem zaj {n:Nat} {xs:List Xv} (h:Wp S x=some (n,xs)):x= .ref n/\S[n]? =some (.lst xs):=by
 cases x<;>simp only[Wp,reduceCtorEq] at h
 split at h
 ·cases h;exact⟨rfl,by assumption⟩
 ·cases h
theorem En.wl {n:Nat} {xs:List Xv} (E0:En K F j H σ ρ S) (hx:Xis K j H x v) (h:Wp S x=some (n,xs)):∃a vs,v= .ref a/\j[n]? =some a/\H a=some (.lst vs)/\zE K j H xs vs:=by
 obtain⟨rfl,hs⟩:=zaj h
 obtain⟨a,rfl,hj⟩:=hx.ref_inv
 obtain⟨vs,e1,e2⟩:=E0.cel _ _ _ hs hj
 exact⟨a,vs,rfl,hj,e1,e2⟩
theorem En.wr {n:Nat} {xs ys:List Xv} {ws:List V} {a:Addr} (E0:En K F j H σ ρ S) (h:Wp S x=some (n,xs)) (hj:j[n]? =some a) (hw:zE K j H ys ws):En K F j (upd H a (.lst ws)) σ ρ (S.set n (.lst ys))/\Ext j H j (upd H a (.lst ws)):=
 E0.write (zaj h).2 rfl hj rfl λX=>⟨ws,zm,hw.mono X⟩
theorem tyL {a:Addr} {vs:List V} (h:SqL K H a vs):tyV K "list" (.ref a) H:= .inl ⟨rfl,vs,h⟩
noncomputable def xY:Op2:=λx y S=>match x.tupOf,y with
 |some xs,.int i=>(atI xs i).map λz=>(z,S)
 |_,_=>none
noncomputable def vH:Op2:=λx y S=>match zv S x,y with
 |some xs,.int i=>(atI xs i).map λz=>(z,S)
 |_,_=>none
theorem zgG:ZX K (ziE K) xY:=by
 intro F j σ H ρ S S' x y z u v Q E0 hx hy h k
 unfold xY at h
 split at h
 ·rename_i xs i ex
  cases e:atI xs i with
  |none=>rw[e] at h;cases h
  |some z'=>
   rw[e] at h
   cases h
   obtain⟨a,vs,rfl,h1,h2⟩:=hx.tupO ex
   obtain⟨w,e1,e2⟩:=h2.at_ e
   exact⟨a,vs,_,w,rfl,hy.int_inv,h1,e1,k _ _ _ Ext.refl E0 e2⟩
 ·cases h
theorem ZZ:ZX K (ziD K) vH:=by
 intro F j σ H ρ S S' x y z u v Q E0 hx hy h k
 unfold vH at h
 split at h
 ·rename_i xs i ex
  cases e:atI xs i with
  |none=>rw[e] at h;cases h
  |some z'=>
   rw[e] at h
   cases h
   obtain⟨a,vs,rfl,h1,h2⟩:=E0.lstAt hx ex
   obtain⟨w,e1,e2⟩:=h2.at_ e
   exact⟨a,vs,_,w,rfl,hy.int_inv,h1.sql,e1,k _ _ _ Ext.refl E0 e2⟩
 ·cases h
noncomputable def zde:Op2:=λx y S=>match Wo S x,y with
 |some xs,.int i=>(atI xs i).map λz=>(z,S)
 |_,_=>none
theorem zgH:ZX K (rIx K) zde:=by
 intro F j σ H ρ S S' x y z u v Q E0 hx hy h k
 unfold zde at h
 split at h
 ·rename_i xs i ex
  cases e:atI xs i with
  |none=>rw[e] at h;cases h
  |some z'=>
   rw[e] at h
   cases h
   obtain⟨a,vs,rfl,h1,h2⟩:=E0.seqAt hx ex
   obtain⟨w,e1,e2⟩:=h2.at_ e
   rcases h1 with h1|h1
   ·exact .inl ⟨a,vs,_,w,rfl,hy.int_inv,h1.sql,e1,k _ _ _ Ext.refl E0 e2⟩
   ·exact .inr (.inl ⟨a,vs,_,w,rfl,hy.int_inv,h1,e1,k _ _ _ Ext.refl E0 e2⟩)
 ·cases h
noncomputable def oNo:TwO:=λ_ S=>some (.ok none S)
noncomputable def zak (m:TwE):TwO:=λρ S=>rb (m ρ S) λx S1=>match x with
 | .int i=>some (.ok (some i) S1)
 |_=>none
theorem zmD:RO K E zd4 oNo:=λE0 e k=>by
 cases e
 exact k _ _ Ext.refl E0
theorem ziT {t:TE} {m:TwE} (h:RE K E t m):RO K E (zj3 t) (zak m):=by
 intro F j σ H ρ S r Q En0 e k
 rcases zj e with⟨x,S1,e1,e⟩|⟨c,S1,e1,rfl⟩
 ·split at e
  ·cases e
   exact h En0 e1 λj1 H1 X1 E1 u hu=>⟨_,hu.int_inv,k _ _ X1 E1⟩
  ·cases e
 ·exact h En0 e1 k
noncomputable def zb1 {α:Type} (xs:List α) (lo hi:Option Int):List α:=(xs.drop (HT.sIx xs.length 0 lo)).take (HT.sIx xs.length xs.length hi-HT.sIx xs.length 0 lo)
theorem zE.cut {xs:List Xv} {vs:List V} (h:zE K j H xs vs) (lo hi:Option Int):zE K j H (zb1 xs lo hi) (ze6 vs lo hi):=by
 unfold ze6 zb1
 rw[h.len]
 exact (h.drop _).take _
def eSl (f:Xv->Option Int->Option Int->Sto->Option (Xv×Sto)) (m:TwE) (lo hi:TwO):TwE:=λρ S=>rb (m ρ S) λx S1=>rb (lo ρ S1) λy S2=>rb (hi ρ S2) λz S3=>okP (f x y z S3)
def zkf (K:y3) (r:V->Option Int->Option Int->Hp->VK->Prop) (f:Xv->Option Int->Option Int->Sto->Option (Xv×Sto)):Prop:=∀{F:Fm} {j:List Addr} {σ:St} {H:Hp} {ρ:Rho} {S S':Sto} {x z:Xv} {lo hi:Option Int} {u:V} {Q:VK},En K F j H σ ρ S->Xis K j H x u->f x lo hi S=some (z,S')->(∀w j' H',Ext j H j' H'->En K F j' H' σ ρ S'->Xis K j' H' z w->Q w H')->r u lo hi H Q
theorem zmE {r:V->Option Int->Option Int->Hp->VK->Prop} {f:Xv->Option Int->Option Int->Sto->Option (Xv×Sto)} {te:TE} {tl th:TO} {m:TwE} {lo hi:TwO} (ho:zkf K r f) (hm:RE K E te m) (hl:RO K E tl lo) (hh:RO K E th hi):RE K E (tSl r te tl th) (eSl f m lo hi):=by
 intro F j σ H ρ S r Q En0 e k
 rcases zj e with⟨x,S1,e1,e⟩|⟨c,S1,e1,rfl⟩
 ·refine hm En0 e1 λj1 H1 X1 E1 u hu=> ?_
  rcases zj e with⟨y,S2,e2,e⟩|⟨c,S2,e2,rfl⟩
  ·refine hl E1 e2 λj2 H2 X2 E2=> ?_
   rcases zj e with⟨z,S3,e3,e⟩|⟨c,S3,e3,rfl⟩
   ·obtain⟨w,S4,e4,rfl⟩:=ZJ e
    exact hh E2 e3 λj3 H3 X3 E3=>ho E3 (hu.mono (X2.trans X3)) e4 λw j4 H4 X4 E4 hw=>k _ _ (X1.trans (X2.trans (X3.trans X4))) E4 _ hw
   ·exact hh E2 e3 (PX.mono k (X1.trans X2))
  ·exact hl E1 e2 (PX.mono k X1)
 ·exact hm En0 e1 k
noncomputable def Tt:Xv->Option Int->Option Int->Sto->Option (Xv×Sto):=λx lo hi S=>(zv S x).map λxs=>(.ref S.length,S++[.lst (zb1 xs lo hi)])
theorem zmF:zkf K (zga K) Tt:=by
 intro F j σ H ρ S S' x z lo hi u Q E0 hx h k
 unfold Tt at h
 cases e:zv S x with
 |none=>rw[e] at h;cases h
 |some xs=>
  rw[e] at h
  cases h
  obtain⟨a,vs,rfl,h1,h2⟩:=E0.lstAt hx e
  refine⟨a,vs,rfl,h1.sql,λp hp=> ?_⟩
  obtain⟨E1,X1,h3⟩:=E0.lst (h2.cut lo hi) hp
  exact k _ _ _ X1 E1 h3
theorem zla {te:TE} {tl th:TO} {m:TwE} {lo hi:TwO} (hm:RE K E te m) (hl:RO K E tl lo) (hh:RO K E th hi):RE K E (tSl (zga K) te tl th) (eSl Tt m lo hi):= @zmE K E (zga K) Tt te tl th m lo hi (@zmF K) hm hl hh
abbrev OpM:=Xv->List Xv->Sto->Option (Xv×Sto)
def ziU (K:y3) (r:V->List V->Hp->VK->Prop) (f:OpM):Prop:=∀{F:Fm} {j:List Addr} {σ:St} {H:Hp} {ρ:Rho} {S S':Sto} {x z:Xv} {ys:List Xv} {u:V} {vs:List V} {Q:VK},En K F j H σ ρ S->Xis K j H x u->zE K j H ys vs->f x ys S=some (z,S')->(∀w j' H',Ext j H j' H'->En K F j' H' σ ρ S'->Xis K j' H' z w->Q w H')->r u vs H Q
def eMt (f:OpM) (o:TwE) (ms:List TwE):TwE:=λρ S=>rb (o ρ S) λx S1=>(zv S1 x).bind λ_=>rb (evL ms ρ S1) λys S2=>okP (f x ys S2)
theorem zb2 {r:V->List V->Hp->VK->Prop} {f:OpM} {to:TE} {t:TA} {o:TwE} {ms:List TwE} (hr:ziU K r f) (ho:RE K E to o) (ht:RL K E t (evL ms)):RE K E (tBM K "list" r to t) (eMt f o ms):=by
 intro F j σ H ρ S r Q En0 e k
 rcases zj e with⟨x,S1,e1,e⟩|⟨c,S1,e1,rfl⟩
 ·refine ho En0 e1 λj1 H1 X1 E1 u hu=> ?_
  cases el:L2.zv S1 x with
  |none=>rw[el] at e;cases e
  |some l=>
   rw[el] at e
   obtain⟨a,vs,rfl,h1,_⟩:=E1.lstAt hu el
   refine⟨tyL h1.sql,?_⟩
   rcases zj e with⟨ys,S2,e2,e⟩|⟨c,S2,e2,rfl⟩
   ·obtain⟨z,S3,e3,rfl⟩:=ZJ e
    exact ht E1 e2 λj2 H2 X2 E2 ws hw=>hr E2 (hu.mono X2) hw e3 λw j3 H3 X3 E3 hz=>k _ _ (X1.trans (X2.trans X3)) E3 _ hz
   ·exact ht E1 e2 (PX.mono k X1)
 ·exact ho En0 e1 k
theorem zgI {r:V->List V->Hp->VK->Prop} {f:OpM} {to:TE} {o:TwE} (hr:ziU K r f) (ho:RE K E to o):RE K E (zkW K "list" r to) (eMt f o []):=by
 intro F j σ H ρ S r Q En0 e k
 exact zb2 hr ho yA En0 e k
noncomputable def yw:OpM:=λx ys S=>match Wp S x,ys with
 |some (n,xs),[y]=>if xs.length<sizeLine then some (.non,S.set n (.lst (xs++[y]))) else none
 |_,_=>none
theorem Xk:ziU K zd7 yw:=by
 intro F j σ H ρ S S' x z ys u vs Q E0 hx hy h k
 unfold yw at h
 split at h
 ·rename_i n xs y e
  split at h
  ·rename_i hl
   cases h
   obtain⟨a,ws,rfl,hj,h1,h2⟩:=E0.wl hx e
   obtain⟨w,rfl,hw⟩:=hy.d1
   obtain⟨E1,X1⟩:=E0.wr e hj (h2.append (.one hw))
   exact⟨a,ws,w,rfl,rfl,h1,by rw[h2.len];exact hl,k _ _ _ X1 E1 .non⟩
  ·cases h
 ·cases h
noncomputable def zgJ:OpM:=λx ys S=>match Wp S x,ys with
 |some (n,xs),[]=>(xs[xs.length-1]?).map λy=>(y,S.set n (.lst xs.dropLast))
 |_,_=>none
theorem zgK:ziU K zmo zgJ:=by
 intro F j σ H ρ S S' x z ys u vs Q E0 hx hy h k
 unfold zgJ at h
 split at h
 ·rename_i n xs e
  cases e1:xs[xs.length-1]? with
  |none=>rw[e1] at h;cases h
  |some y=>
   rw[e1] at h
   cases h
   obtain⟨a,ws,rfl,hj,h1,h2⟩:=E0.wl hx e
   obtain rfl:=hy.nil_inv
   obtain⟨w,f1,f2⟩:=h2.get e1
   obtain⟨E1,X1⟩:=E0.wr e hj h2.dropLast
   exact⟨a,ws,w,rfl,rfl,h1,by rw[h2.len];exact f1,k _ _ _ X1 E1 (f2.mono X1)⟩
 ·cases h
noncomputable def zl (a b:TwS):TwS:=λρ S=>match a ρ S with
 |some (.nx ρ1 S1)=>b ρ1 S1
 |r=>r
noncomputable def yt:TwS:=λρ S=>some (.nx ρ S)
noncomputable def UG:TwS:=λ_ _=>none
def zr (m:TwE) (g:TwG):TwS:=λρ S=>sb (m ρ S) λx S1=>sb (g x ρ S1) λρ1 S2=>some (.nx ρ1 S2)
def vR (m:TwE):TwS:=λρ S=>sb (m ρ S) λ_ S1=>some (.nx ρ S1)
def yB (m:TwE):TwS:=λρ S=>sb (m ρ S) λx S1=>some (.rt x S1)
def sIf (c:TwT) (a b:TwS):TwS:=λρ S=>sb (c ρ S) λx S1=>if x then a ρ S1 else b ρ S1
def ziV (i k:Nat) (ms:List TwE):TwS:=λρ S=>sb (evL ms ρ S) λxs S1=>match xs with
 |[a,b]=>some (.nx ((ρ.set i (some a)).set k (some b)) S1)
 |_=>none
noncomputable def turn (r:Option Fl) (go:Rho->Sto->Option Fl):Option Fl:=match r with
 |some (.nx ρ S)=>go ρ S
 |some (.ct ρ S)=>go ρ S
 |some (.bk ρ S)=>some (.nx ρ S)
 |r=>r
noncomputable def XI (get:Sto->Option (List Xv)) (g:TwG) (b:TwS):Nat->Nat->Rho->Sto->Option Fl
 |0,_,_,_=>none
 |f+1,i,ρ,S=>(get S).bind λxs=>match xs[i]? with
  |none=>if i=xs.length then some (.nx ρ S) else none
  |some x=>sb (g x ρ S) λρ1 S1=>turn (b ρ1 S1) λρ2 S2=>XI get g b f (i+1) ρ2 S2
def ZL (m:TwI) (g:TwG) (b:TwS):TwS:=λρ S=>sb (m ρ S) λget S1=>(get S1).bind λxs=>XI get g b (xs.length+1) 0 ρ S1
noncomputable def Yz (c:TwT) (b:TwS):Nat->Rho->Sto->Option Fl
 |0,_,_=>none
 |n+1,ρ,S=>sb (c ρ S) λx S1=>if x then turn (b ρ S1) λρ2 S2=>Yz c b n ρ2 S2 else some (.nx ρ S1)
noncomputable def sWh (n:Nat) (c:TwT) (b:TwS):TwS:=λρ S=>Yz c b n ρ S
noncomputable def gN (i:Nat):TwG:=λx ρ S=>some (.ok (ρ.set i (some x)) S)
noncomputable def xG:zda:=λxs ρ S=>match xs with
 |[]=>some (.ok ρ S)
 |_=>none
noncomputable def zJ (g:TwG) (gs:zda):zda:=λxs ρ S=>match xs with
 |x::r=>rb (g x ρ S) λρ1 S1=>gs r ρ1 S1
 |_=>none
noncomputable def gT (n:Nat) (gs:zda):TwG:=λx ρ S=>x.tupOf.bind λl=>if l.length=n then gs l ρ S else none
noncomputable def za0 (o mi:TwE):TwG:=λd ρ S=>rb (o ρ S) λx S1=>rb (mi ρ S1) λy S2=>match Wp S2 x,y with
 |some (n,xs),.int i=>(ixN xs.length i).map λk=> .ok ρ (S2.set n (.lst (xs.set k d)))
 |_,_=>none
theorem yc {i:Nat}:RG K E (TM i) (gN i):=λE0 hx e k=>by
 cases e
 exact k _ _ _ Ext.refl (E0.set hx)
theorem VT:RGs K E zkK xG:=by
 intro F j σ H ρ S r xs vs R E0 hv e k
 unfold xG at e
 split at e
 ·cases e
  obtain rfl:=hv.nil_inv
  exact⟨rfl,k _ _ _ Ext.refl E0⟩
 ·cases e
theorem Zd {t:TG} {u:TGs} {g:TwG} {gs:zda} (h1:RG K E t g) (h2:RGs K E u gs):RGs K E (zfV t u) (zJ g gs):=by
 intro F j σ H ρ S r xs vs R E0 hv e k
 unfold zJ at e
 split at e
 ·obtain⟨w,ws,rfl,hw,rP⟩:=hv.cons_inv
  rcases zj e with⟨ρ1,S1,e1,e⟩|⟨c,S1,e1,rfl⟩
  ·exact⟨w,ws,rfl,h1 E0 hw e1 λσ1 j1 H1 X1 E1=>h2 E1 (rP.mono X1) e (k.step X1)⟩
  ·exact⟨w,ws,rfl,h1 E0 hw e1 k⟩
 ·cases e
theorem za1 {n:Nat} {t:TGs} {gs:zda} (h:RGs K E t gs):RG K E (ziv K n t) (gT n gs):=by
 intro F j σ H ρ S r x v R E0 hx e k
 unfold gT at e
 cases ex:x.tupOf with
 |none=>rw[ex] at e;cases e
 |some l=>
  rw[ex] at e
  dsimp only[Dm] at e
  split at e
  ·rename_i hn
   obtain⟨a,vs,rfl,h1,h2⟩:=hx.tupO ex
   exact⟨a,vs,rfl,h1,by rw[h2.len];exact hn,h E0 h2 e k⟩
  ·cases e
theorem zgL {to ti:TE} {o mi:TwE} (ho:RE K E to o) (hi:RE K E ti mi):RG K E (zma to ti zj4) (za0 o mi):=by
 intro F j σ H ρ S r d vd R E0 hd e k
 rcases zj e with⟨x,S1,e1,e⟩|⟨c,S1,e1,rfl⟩
 ·refine ho E0 e1 λj1 H1 X1 E1 u hu=> ?_
  rcases zj e with⟨y,S2,e2,e⟩|⟨c,S2,e2,rfl⟩
  ·refine hi E1 e2 λj2 H2 X2 E2 w hw=> ?_
   split at e
   ·rename_i n xs i ex
    cases e3:ixN xs.length i with
    |none=>rw[e3] at e;cases e
    |some m=>
     rw[e3] at e
     cases e
     obtain⟨a,vs,rfl,hj,h1,h2⟩:=E2.wl (hu.mono X2) ex
     obtain⟨E3,X3⟩:=E2.wr ex hj (h2.set (hd.mono (X1.trans X2)) m)
     exact⟨a,vs,i,m,rfl,hw.int_inv,h1,by rw[h2.len];exact e3,k _ _ _ (X1.trans (X2.trans X3)) E3⟩
   ·cases e
  ·exact hi E1 e2 (PX.mono k X1)
 ·exact ho E0 e1 k
theorem Wq:RS K E zjY yt:=λE0 e k=>by
 cases e
 exact k _ _ _ Ext.refl E0
theorem zgM {t:TS}:RS K E t UG:=λ_ e _=>by cases e
theorem yI {t u:TS} {a b:TwS} (ha:RS K E t a) (hb:RS K E u b):RS K E (zkH t u) (zl a b):=by
 intro F j D' σ H ρ S fl E0 e k
 unfold zl at e
 split at e
 ·rename_i ρ1 S1 e1
  exact ha (D':={D' with nx:=u D'}) E0 e1 λσ1 j1 H1 X1 E1=>hb E1 e (k.step X1)
 ·rename_i hn
  refine ha (D':={D' with nx:=u D'}) E0 e ?_
  cases fl with
  |nx ρ1 S1=>exact absurd e (hn ρ1 S1)
  |bk ρ1 S1=>exact k
  |ct ρ1 S1=>exact k
  |rt x S1=>exact k
  |ex c S1=>exact k
theorem wI {te:TE} {g:TG} {m:TwE} {g':TwG} (h:RE K E te m) (hg:RG K E g g'):RS K E (zkM te g) (zr m g'):=by
 intro F j D' σ H ρ S fl E0 e k
 rcases xj e with⟨x,S1,e1,e⟩|⟨c,S1,e1,rfl⟩
 ·refine h E0 e1 λj1 H1 X1 E1 u hu=> ?_
  rcases xj e with⟨ρ1,S2,e2,e⟩|⟨c,S2,e2,rfl⟩
  ·cases e
   exact hg E1 hu e2 λσ2 j2 H2 X2 E2=>k _ _ _ (X1.trans X2) E2
  ·exact hg E1 hu e2 (PX.mono k X1)
 ·exact h E0 e1 k
theorem za2 {te:TE} {m:TwE} (h:RE K E te m):RS K E (zjZ te) (vR m):=by
 intro F j D' σ H ρ S fl E0 e k
 rcases xj e with⟨x,S1,e1,e⟩|⟨c,S1,e1,rfl⟩
 ·cases e
  exact h E0 e1 λj1 H1 X1 E1 u hu=>k _ _ _ X1 E1
 ·exact h E0 e1 k
theorem za3 {te:TE} {m:TwE} (h:RE K E te m):RS K E (zl7 te) (yB m):=by
 intro F j D' σ H ρ S fl E0 e k
 rcases xj e with⟨x,S1,e1,e⟩|⟨c,S1,e1,rfl⟩
 ·cases e
  exact h E0 e1 λj1 H1 X1 E1 u hu=>k _ _ _ _ _ X1 E1 hu
 ·exact h E0 e1 k
theorem zb3 {c:TT} {t u:TS} {m:TwT} {a b:TwS} (hc:RT K E c m) (ha:RS K E t a) (hb:RS K E u b):RS K E (zl8 c t u) (sIf m a b):=by
 intro F j D' σ H ρ S fl E0 e k
 rcases xj e with⟨x,S1,e1,e⟩|⟨c,S1,e1,rfl⟩
 ·refine hc E0 e1 λj1 H1 X1 E1=> ?_
  cases x with
  |true=>exact ha E1 e (k.step X1)
  |false=>exact hb E1 e (k.step X1)
 ·exact hc E0 e1 k
theorem zlb {i m:Nat} {t:TA} {ms:List TwE} (h:RL K E t (evL ms)):RS K E (zmb i m t) (ziV i m ms):=by
 intro F j D' σ H ρ S fl E0 e k
 rcases xj e with⟨xs,S1,e1,e⟩|⟨c,S1,e1,rfl⟩
 ·split at e
  ·cases e
   refine h E0 e1 λj1 H1 X1 E1 vs hv=> ?_
   obtain⟨x,y,rfl,hx,hy⟩:=hv.d2
   exact⟨x,y,rfl,k _ _ _ X1 ((E1.set hx).set hy)⟩
  ·cases e
 ·exact h E0 e1 k
theorem zal {r:Option Fl} {go:Rho->Sto->Option Fl} {fl:Fl} (h:turn r go=some fl):∃f,r=some f/\((∃ρ S,(f= .nx ρ S\/f= .ct ρ S)/\go ρ S=some fl)\/(∃ρ S,f= .bk ρ S/\fl= .nx ρ S)\/(f=fl/\((∃x S,fl= .rt x S)\/∃c S,fl= .ex c S))):=by
 unfold turn at h
 split at h
 ·exact⟨_,rfl,.inl ⟨_,_,.inl rfl,h⟩⟩
 ·exact⟨_,rfl,.inl ⟨_,_,.inr rfl,h⟩⟩
 ·cases h;exact⟨_,rfl,.inr (.inl ⟨_,_,rfl,rfl⟩)⟩
 ·rename_i n1 n2 n3
  refine⟨fl,h,.inr (.inr ⟨rfl,?_⟩)⟩
  cases fl with
  |nx ρ S=>exact absurd h (n1 ρ S)
  |ct ρ S=>exact absurd h (n2 ρ S)
  |bk ρ S=>exact absurd h (n3 ρ S)
  |rt x S=>exact .inl ⟨x,S,rfl⟩
  |ex c S=>exact .inr ⟨c,S,rfl⟩
theorem zgN {wi:TI} {g:TG} {tb:TS} {m:TwI} {g':TwG} {b:TwS} (hi:RI K E wi m) (hg:RG K E g g') (hb:RS K E tb b):RS K E (zmc wi g tb) (ZL m g' b):=by
 intro F j D' σ H ρ S fl E0 e k
 rcases xj e with⟨get,S1,e1,e⟩|⟨c,S1,e1,rfl⟩
 ·refine hi E0 e1 λj1 H1 X1 E1 J ok=> ?_
  cases eg:get S1 with
  |none=>rw[eg] at e;cases e
  |some xs=>
   rw[eg] at e
   refine⟨λi n σ H=>∃j2 ρ2 S2,Ext j1 H1 j2 H/\En K F j2 H σ ρ2 S2/\XI get g' b n i ρ2 S2=some fl,⟨xs.length+1,j1,ρ,S1,Ext.refl,E1,e⟩,?_⟩
   rintro i n σ2 H2 ⟨j2,ρ2,S2,X2,E2,e2⟩
   cases n with
   |zero=>cases e2
   |succ n=>
    unfold XI at e2
    cases jc:get S2 with
    |none=>rw[jc] at e2;cases e2
    |some ys=>
     rw[jc] at e2
     dsimp only[Dm] at e2
     obtain⟨go,stop⟩:=ok i X2 E2 jc
     split at e2
     ·split at e2
      ·rename_i hl
       cases e2
       exact .inl ⟨stop hl,k _ _ _ (X1.trans X2) E2⟩
      ·cases e2
     ·rename_i x ex
      obtain⟨g1,g2⟩:=go x ex
      refine .inr ⟨g1,λσ' H'=>∃j3 ρ3 S3,Ext j1 H1 j3 H'/\En K F j3 H' σ' ρ3 S3/\XI get g' b n (i+1) ρ3 S3=some fl,λ_ _ z=>⟨n,Bf _,z⟩,λv H3 hy=> ?_⟩
      obtain⟨Sm,hv⟩:=g2 v H3 hy
      have E3:=E2.heap Sm
      have X3:Ext j2 H2 j2 H3:=Ext.same Sm
      rcases xj e2 with⟨ρ4,S4,e4,e2⟩|⟨c,S4,e4,rfl⟩
      ·refine hg E3 hv e4 λσ4 j4 H4 X4 E4=> ?_
       obtain⟨f5,e5,h5⟩:=zal e2
       refine hb E4 e5 ?_
       have X14:=X2.trans (X3.trans X4)
       rcases h5 with⟨ρ6,S6,h6,e6⟩|⟨ρ6,S6,rfl,rfl⟩|⟨rfl,h6⟩
       ·rcases h6 with rfl|rfl
        ·exact λσ5 j5 H5 X5 E5=>⟨j5,ρ6,S6,X14.trans X5,E5,e6⟩
        ·exact λσ5 j5 H5 X5 E5=>⟨j5,ρ6,S6,X14.trans X5,E5,e6⟩
       ·exact λσ5 j5 H5 X5 E5=>k _ _ _ (X1.trans (X14.trans X5)) E5
       ·rcases h6 with⟨x6,S6,rfl⟩|⟨c6,S6,rfl⟩
        ·exact λv σ5 ρ5 j5 H5 X5 E5 hv=>k v σ5 ρ5 _ _ (X1.trans (X14.trans X5)) E5 hv
        ·exact PX.mono k (X1.trans X14)
      ·exact hg E3 hv e4 (PX.mono k (X1.trans (X2.trans X3)))
 ·exact hi E0 e1 k
theorem zb4 {c:TT} {tb:TS} {m:TwT} {b:TwS} {n:Nat} (hc:RT K E c m) (hb:RS K E tb b):RS K E (zfY c tb) (sWh n m b):=by
 intro F j D' σ H ρ S fl E0 e k
 refine⟨λn σ2 H2=>∃j2 ρ2 S2,Ext j H j2 H2/\En K F j2 H2 σ2 ρ2 S2/\Yz m b n ρ2 S2=some fl,⟨n,j,ρ,S,Ext.refl,E0,e⟩,?_⟩
 rintro n σ2 H2 ⟨j2,ρ2,S2,X2,E2,e2⟩
 cases n with
 |zero=>cases e2
 |succ n=>
  unfold Yz at e2
  rcases xj e2 with⟨x,S3,e3,e2⟩|⟨c,S3,e3,rfl⟩
  ·refine hc E2 e3 λj3 H3 X3 E3=> ?_
   have X13:=X2.trans X3
   cases x with
   |false=>cases e2;exact k _ _ _ X13 E3
   |true=>
    obtain⟨f5,e5,h5⟩:=zal e2
    refine⟨λσ' H'=>∃j3 ρ3 S3,Ext j H j3 H'/\En K F j3 H' σ' ρ3 S3/\Yz m b n ρ3 S3=some fl,λσ' H' z=>⟨n,Bf _,z⟩,hb E3 e5 ?_⟩
    rcases h5 with⟨ρ6,S6,h6,e6⟩|⟨ρ6,S6,rfl,rfl⟩|⟨rfl,h6⟩
    ·rcases h6 with rfl|rfl
     ·exact λσ5 j5 H5 X5 E5=>⟨j5,ρ6,S6,X13.trans X5,E5,e6⟩
     ·exact λσ5 j5 H5 X5 E5=>⟨j5,ρ6,S6,X13.trans X5,E5,e6⟩
    ·exact λσ5 j5 H5 X5 E5=>k _ _ _ (X13.trans X5) E5
    ·rcases h6 with⟨x6,S6,rfl⟩|⟨c6,S6,rfl⟩
     ·exact λv σ5 ρ5 j5 H5 X5 E5 hv=>k v σ5 ρ5 _ _ (X13.trans X5) E5 hv
     ·exact PX.mono k X13
  ·exact hc E2 e3 (PX.mono k X2)
noncomputable def iL (m:TwE):TwI:=λρ S=>rb (m ρ S) λx S1=>(zv S1 x).map λ_=> .ok (λS=>zv S x) S1
theorem VU {t:TE} {m:TwE} (h:RE K E t m):RI K E (zf0 K t) (iL m):=by
 intro F j σ H ρ S r R En0 e k
 rcases zj e with⟨x,S1,e1,e⟩|⟨c,S1,e1,rfl⟩
 ·cases el:zv S1 x with
  |none=>rw[el] at e;cases e
  |some l=>
   rw[el] at e
   cases e
   refine h En0 e1 λj1 H1 X1 E1 u hu=> ?_
   obtain⟨a,vs,rfl,h1,_⟩:=E1.lstAt hu el
   refine⟨a,rfl,⟨vs,h1.sql⟩,k _ _ X1 E1 _ ?_⟩
   intro F2 j2 H2 σ2 ρ2 S2 xs i X2 E2 e2
   obtain⟨a',ws,ea,g1,g2⟩:=E2.lstAt (hu.mono X2) e2
   cases ea
   refine⟨λy ey=> ?_,λhle=>⟨ws,g1.sql,by rw[g2.len];omega⟩⟩
   obtain⟨w,f1,f2⟩:=g2.get ey
   refine⟨⟨ws,w,g1.sql,f1⟩,?_⟩
   rintro v' H' ⟨rfl,hx⟩
   have:=hx ws g1.sql
   rw[f1] at this
   cases this
   exact⟨Zc.refl _,f2⟩
 ·exact h En0 e1 k
noncomputable def yC (lo:Int) (n:Nat):List Xv:=(Bt n).map λ(k:Nat)=>Xv.int (lo+(k:Int))
def iR1 (m:TwE):TwI:=λρ S=>rb (m ρ S) λx S1=>match x with
 | .int j=>if -(2^62)<=j/\j<2^62 then some (.ok (λ_=>some (yC 0 j.toNat)) S1) else none
 |_=>none
def iR2 (m n:TwE):TwI:=λρ S=>rb (m ρ S) λx S1=>rb (n ρ S1) λy S2=>match x,y with
 | .int i,.int j=>if -(2^62)<=i/\i<2^62/\ -(2^62)<=j/\j<2^62 then some (.ok (λ_=>some (yC i (j-i).toNat)) S2) else none
 |_,_=>none
theorem zb5 {lo:Int} {n:Nat}:zmy K j H (Itr lo n) (λ_=>some (yC lo n)):=by
 intro F2 j2 H2 σ2 ρ2 S2 xs i X2 E2 e2
 cases e2
 refine⟨λd hd=> ?_,λhle=> ?_⟩
 ·unfold yC at hd
  rw[y8] at hd
  have hi:i<n:=by
   apply BR
   intro hn
   rw[Aq (by simp;omega)] at hd
   cases hd
  rw[B7 hi] at hd
  cases hd
  refine⟨hi,?_⟩
  rintro x H' ⟨rfl,rfl⟩
  exact⟨Zc.refl _,.int _⟩
 ·unfold yC at hle
  simp at hle
  show n<=i
  omega
theorem zfh {t:TE} {m:TwE} (h:RE K E t m):RI K E (zj0 (Yw t zbI)) (iR1 m):=by
 intro F j σ H ρ S r R En0 e k
 rcases zj e with⟨x,S1,e1,e⟩|⟨c,S1,e1,rfl⟩
 ·split at e
  ·split at e
   ·rename_i hb
    cases e
    exact h En0 e1 λj1 H1 X1 E1 u hu=>⟨_,by rw[hu.int_inv],hb.1,hb.2,k _ _ X1 E1 _ zb5⟩
   ·cases e
  ·cases e
 ·exact h En0 e1 k
theorem zfi {t u:TE} {m n:TwE} (h:RE K E t m) (h2:RE K E u n):RI K E (zj1 (Yw t (Yw u zbI))) (iR2 m n):=by
 intro F j σ H ρ S r R En0 e k
 rcases zj e with⟨x,S1,e1,e⟩|⟨c,S1,e1,rfl⟩
 ·refine h En0 e1 λj1 H1 X1 E1 u hu=> ?_
  rcases zj e with⟨y,S2,e2,e⟩|⟨c,S2,e2,rfl⟩
  ·split at e
   ·split at e
    ·rename_i hb
     cases e
     exact h2 E1 e2 λj2 H2 X2 E2 w hw=>⟨_,_,by rw[hu.int_inv,hw.int_inv],hb,k _ _ (X1.trans X2) E2 _ zb5⟩
    ·cases e
   ·cases e
  ·exact h2 E1 e2 (PX.mono k X1)
 ·exact h En0 e1 k
end
noncomputable def rn {α β:Type} (m:Option (Rs α)) (f:α->Sto->Option β):Option β:=match m with
 |some (.ok a S)=>f a S
 |_=>none
theorem za4 {α β:Type} {m:Option (Rs α)} {f:α->Sto->Option β} {r:β} (h:rn m f=some r):∃a S,m=some (.ok a S)/\f a S=some r:=by
 unfold rn at h
 split at h
 ·exact⟨_,_,rfl,h⟩
 ·cases h
noncomputable def za5 (cap:List (Option Nat)) (ρ:Rho):Rho:=cap.map λo=>o.bind λi=>(ρ[i]?).join
noncomputable def wJ (get:Sto->Option (List Xv)) (g:TwG) (c:TwT) (e:TwE) (ρc:Rho):Nat->Nat->List Xv->Sto->Option (Rs Xv)
 |0,_,_,_=>none
 |f+1,i,es,S=>(get S).bind λxs=>match xs[i]? with
  |none=>if i=xs.length then some (.ok (.ref S.length) (S++[.lst es])) else none
  |some x=>rn (g x ρc S) λρ1 S1=>rn (c ρ1 S1) λb S2=>if b then rn (e ρ1 S2) λy S3=>if es.length<sizeLine then wJ get g c e ρc f (i+1) (es++[y]) S3 else none
    else wJ get g c e ρc f (i+1) es S2
noncomputable def xy (cap:List (Option Nat)) (m:TwI) (g:TwG) (c:TwT) (e:TwE):TwE:=λρ S=>rb (m ρ S) λget S1=>(get S1).bind λxs=>wJ get g c e (za5 cap ρ) (xs.length+1) 0 [] S1
noncomputable def xH:TwT:=λ_ S=>some (.ok true S)
section
variable {K:y3} {E:XK} {F:Fm} {j j':List Addr} {H H':Hp} {σ σ':St} {ρ ρ':Rho} {S S':Sto} {x:Xv} {v:V} {a:Addr} {o:HO}
theorem Xl:RT K E (λ_ H Q=>Q true H) xH:=λE1 e k=>by
 cases e
 exact k _ _ Ext.refl E1
def zam (j:List Addr) (S:Sto) (a:Addr):Prop:=∀(n:Nat) c,j[n]? =some a->S[n]? =some c->c.fz=true
theorem En.notIn (E1:En K F j H σ ρ S) (h:H a=none):zam j S a:=λn c e1 e2=>by
 cases z:c.fz with
 |true=>rfl
 |false=>
  obtain⟨o,e,_⟩:=(E1.cel n c a e2 e1).mu z
  rw[h] at e;cases e
theorem En.outside (E1:En K F j H σ ρ S) (h:zam j S a) {o0:HO} (h0:H a=some o0) (m0:o0.mu=true) (hf:F.H0 a=none):En K F j (upd H a o) σ ρ S/\Ext j H j (upd H a o):=by
 have X:Ext j H j (upd H a o):=⟨λ_ _ e=>e,λb u e m=>by
  have:b≠a:=λq=>by subst q;rw[h0] at e;cases e;rw[m] at m0;cases m0
  rw[zh this];exact e⟩
 refine⟨⟨E1.len,λi x e=> ?_,E1.jl,E1.inj,λn c b e1 e2=> ?_,E1.ext.trans X,E1.old,E1.l0,λb u e=> ?_,E1.fresh,λb e=> ?_⟩,X⟩
 ·obtain⟨v,e1,e2⟩:=E1.slot i x e
  exact⟨v,e1,e2.mono X⟩
 ·refine (E1.cel n c b e1 e2).mono X λz=>zh λq=> ?_
  subst q
  rw[h n c e2 e1] at z;cases z
 ·have hb:b≠a:=λq=>by subst q;rw[hf] at e;cases e
  rcases E1.keep b u e with h|h
  ·exact .inl (by rw[zh hb];exact h)
  ·exact .inr h
 ·have hb:b≠a:=λq=>by subst q;rw[zm] at e;cases e
  rw[zh hb] at e
  exact E1.dom b e
theorem En.adopt {c:Ce} (E1:En K F j H σ ρ S) (h:zam j S a) (hf:F.H0 a=none) (hc:Wn K (j++[a]) H a c):En K F (j++[a]) H σ ρ (S++[c])/\Ext j H (j++[a]) H:=by
 have X:Ext j H (j++[a]) H:=⟨λn b e=>by rw[y9 (y4.1 e).1];exact e,xF.refl _⟩
 have lt:∀{n:Nat} {d:Ce},S[n]? =some d->n<S.length:=λe=>(y4.1 e).1
 have at_:∀{n:Nat} {b:Addr} {d:Ce},(j++[a])[n]? =some b->(S++[c])[n]? =some d->(j[n]? =some b/\S[n]? =some d)\/(n=S.length/\b=a/\d=c):=λ{n b d} e1 e2=>by
  by_cases hn:n<S.length
  ·rw[y9 hn] at e2
   rw[y9 (by rw[E1.jl];exact hn)] at e1
   exact .inl ⟨e1,e2⟩
  ·rw[z6 ⋯] at e2
   rw[z6 (by rw[E1.jl];omega),E1.jl] at e1
   cases hm:n-S.length with
   |zero=>rw[hm] at e1 e2;simp at e1 e2;exact .inr ⟨⋯,e1.symm,e2.symm⟩
   |succ m=>rw[hm] at e1;simp at e1
 refine⟨⟨E1.len,λi x e=> ?_,by simp[E1.jl],λn m b c1 c2 e1 e2 e3 e4 z1 z2=> ?_,λn d b e1 e2=> ?_,E1.ext.trans X,λn d e=> ?_,E1.l0,E1.keep,λn b hn e=> ?_,E1.dom⟩,X⟩
 ·obtain⟨v,e1,e2⟩:=E1.slot i x e
  exact⟨v,e1,e2.mono X⟩
 ·rcases at_ e1 e3 with⟨f1,f2⟩|⟨f1,f2,f3⟩
  ·rcases at_ e2 e4 with⟨g1,g2⟩|⟨g1,g2,g3⟩
   ·exact E1.inj n m b c1 c2 f1 g1 f2 g2 z1 z2
   ·subst g2
    rw[h n c1 f1 f2] at z1;cases z1
  ·rcases at_ e2 e4 with⟨g1,g2⟩|⟨g1,g2,g3⟩
   ·subst f2
    rw[h m c2 g1 g2] at z2;cases z2
   ·rw[f1,g1]
 ·rcases at_ e2 e1 with⟨f1,f2⟩|⟨f1,rfl,rfl⟩
  ·exact (E1.cel n d b f2 f1).mono X λ_=>rfl
  ·exact hc
 ·obtain⟨d',e1,e2⟩:=E1.old n d e
  exact⟨d',by rw[y9 (lt e1)];exact e1,e2⟩
 ·by_cases hm:n<j.length
  ·rw[y9 hm] at e
   exact E1.fresh n b hn e
  ·rw[z6 ⋯] at e
   cases hk:n-j.length with
   |zero=>rw[hk] at e;simp at e;subst e;exact hf
   |succ m=>rw[hk] at e;simp at e
theorem zfj {cap:List (Option Nat)} (E1:En K F j H σ ρ S):(vA cap σ).length=(za5 cap ρ).length/\∀(i:Nat) x,(za5 cap ρ)[i]? =some (some x)->∃v,(vA cap σ)[i]? =some (some v)/\Xis K j H x v:=by
 refine⟨by simp[vA,za5],λi x h=> ?_⟩
 unfold za5 at h
 unfold vA
 rw[y8] at h ⊢
 cases e:cap[i]? with
 |none=>rw[e] at h;cases h
 |some o=>
  rw[e] at h
  cases o with
  |none=>simp at h
  |some k=>
   simp only[BO,A1,Al] at h ⊢
   cases q:ρ[k]? with
   |none=>rw[q] at h;simp at h
   |some z=>
    rw[q] at h
    simp at h
    subst h
    obtain⟨v,e1,e2⟩:=E1.slot k x q
    exact⟨v,by rw[e1];rfl,e2⟩
theorem Xm {cap:List (Option Nat)} {wi:TI} {g:TG} {tt:TT} {te:TE} {m:TwI} {g':TwG} {c:TwT} {e:TwE} (hi:RI K E wi m) (hg:RG K E0 g g') (hc:RT K E0 tt c) (he:RE K E0 te e):RE K E (zgp cap wi g tt te) (xy cap m g' c e):=by
 intro F j σ H ρ S r Q En0 h k
 rcases zj h with⟨get,S1,e1,h⟩|⟨c1,S1,e1,rfl⟩
 ·refine hi En0 e1 λj1 H1 X1 E1 J ok acc bT=> ?_
  cases eg:get S1 with
  |none=>rw[eg] at h;cases h
  |some xs=>
   rw[eg] at h
   have hf:F.H0 acc=none:=E1.dom acc bT
   obtain⟨Ea,Xa⟩:=E1.new (o:= .lst []) bT
   refine⟨λi n ys H2=>∃j2 S2 es,Ext j1 H1 j2 H2/\En K F j2 H2 σ ρ S2/\H2 acc=some (.lst ys)/\zE K j2 H2 es ys/\zam j2 S2 acc/\wJ get g' c e (za5 cap ρ) n i es S2=some r,
    ⟨xs.length+1,j1,S1,[],Xa,Ea,zm,.nil,E1.notIn bT,h⟩,?_⟩
   rintro i n ys H2 ⟨j2,S2,es,X2,E2,h2,lJ,nin,e2⟩
   cases n with
   |zero=>cases e2
   |succ n=>
    unfold wJ at e2
    cases jc:get S2 with
    |none=>rw[jc] at e2;cases e2
    |some zs=>
     rw[jc] at e2
     dsimp only[Dm] at e2
     obtain⟨go,stop⟩:=ok i X2 E2 jc
     split at e2
     ·split at e2
      ·rename_i hl
       cases e2
       obtain⟨E3,X3⟩:=E2.adopt (c:= .lst es) nin hf ⟨ys,h2,lJ.mono ⟨λn b e=>by rw[y9 (y4.1 e).1];exact e,xF.refl _⟩⟩
       exact .inl ⟨stop hl,k _ _ (X1.trans (X2.trans X3)) E3 _ (.ref (by rw[<-E2.jl];simp))⟩
      ·cases e2
     ·rename_i x ex
      obtain⟨g1,g2⟩:=go x ex
      refine .inr ⟨g1,λv H3 hy=> ?_⟩
      obtain⟨Sm,hv⟩:=g2 v H3 hy
      have E3:=E2.heap Sm
      have X3:Ext j2 H2 j2 H3:=Ext.same Sm
      have h3:H3 acc=some (.lst ys):=Sm _ _ h2
      obtain⟨cl,cs⟩:=zfj (cap:=cap) E3
      have I0:=E3.enter cl cs
      obtain⟨ρ4,S4,e4,e2⟩:=za4 e2
      obtain⟨b,S5,e5,e2⟩:=za4 e2
      have behind:∀{j6:List Addr} {H6:Hp} {σ6:St} {ρ6:Rho} {S6:Sto},En K ⟨H3,j2,S2⟩ j6 H6 σ6 ρ6 S6->En K F j6 H6 σ ρ S6/\Ext j2 H2 j6 H6/\H6 acc=some (.lst ys)/\zam j6 S6 acc:=λ{j6 H6 σ6 ρ6 S6} X=>by
       obtain⟨E6,X6⟩:=E3.leave X
       refine⟨E6,X3.trans X6,?_,λn d q1 q2=> ?_⟩
       ·rcases X.keep acc _ h3 with q|⟨n,d,q1,q2,q3⟩
        ·exact q
        ·rw[nin n d q1 q2] at q3;cases q3
       ·by_cases hn:n<j2.length
        ·have p1:j2[n]? =some j2[n]:=y6 hn
         have p2:=X6.pre n _ p1
         rw[q1] at p2
         cases p2
         have cX:n<S2.length:=by rw[<-E2.jl];exact hn
         obtain⟨d',f1,_,f3⟩:=X.old n _ (y6 cX)
         rw[q2] at f1
         cases f1
         have hz:=nin n _ p1 (y6 cX)
         rw[f3 hz]
         exact hz
        ·have q:=X.fresh n acc (by dsimp only;omega) q1
         have q:H3 acc=none:=q
         rw[h3] at q;cases q
      refine hg I0 hv e4 λσ4 j4 H4 X4 I4=>hc I4 e5 λj5 H5 X5 I5=> ?_
      cases b with
      |true=>
       rw[if_pos rfl]
       rw[if_pos rfl] at e2
       obtain⟨y,S6,e6,e2⟩:=za4 e2
       split at e2
       ·rename_i hsz
        refine he I5 e6 λj6 H6 X6 I6 w hw=> ?_
        obtain⟨E6,X26,h6,gg⟩:=behind I6
        obtain⟨E7,X7⟩:=E6.outside (o:= .lst (ys++[w])) gg h6 rfl hf
        refine⟨h6,by rw[lJ.len];exact hsz,n,Bf _,j6,S6,es++[y],X2.trans (X26.trans X7),E7,zm,((lJ.mono X26).append (.one hw)).mono X7,gg,e2⟩
       ·cases e2
      |false=>
       rw[if_neg (by simp)]
       rw[if_neg (by simp)] at e2
       obtain⟨E6,X26,h6,gg⟩:=behind I5
       exact⟨n,Bf _,j5,S5,es,X2.trans X26,E6,h6,lJ.mono X26,gg,e2⟩
 ·exact hi En0 e1 k
theorem ve {i:Nat} {cap:List (Option Nat)} {wi:TI} {g:TG} {tt:TT} {te:TE} {m:TwE} (h:RE K E (zgp cap wi g tt te) m):RS K E (zbV i cap wi g tt te) (zr m (gN i)):=by
 intro F j D' σ H ρ S fl E1 e k
 rcases xj e with⟨x,S1,e1,e⟩|⟨c,S1,e1,rfl⟩
 ·cases e
  exact h (Q:=λv H2=>D'.nx (σ.set i (some v)) H2) E1 e1 λj1 H1 X1 E1 u hu=>k _ _ _ X1 (E1.set hu)
 ·exact h (Q:=λv H2=>D'.nx (σ.set i (some v)) H2) E1 e1 k
abbrev TwF:=List Xv->Sto->Option (Rs Xv)
noncomputable def yd (n k:Nat) (b:TwS):TwF:=λxs S=>if xs.length=n then match b (xs.map some++z9 k none) S with
  |some (.rt x S')=>some (.ok x S')
  |some (.nx _ S')=>some (.ok .non S')
  |some (.ex c S')=>some (.ex c S')
  |_=>none
 else none
def zmG (K:y3) (F:Fm) (Q:VK) (E:XK):Rs Xv->Prop
 | .ok x S'=>∀v j' H' σ ρ,En K F j' H' σ ρ S'->Xis K j' H' x v->Q v H'
 | .ex c S'=>∀j' H' σ ρ C,En K F j' H' σ ρ S'->A8 K mainGlobals c=some (some (.ref C))->E (.ref C) none H'
def sTw (K:y3) (n:Nat) (tw:TwF):Sp:=λvs H Q E=>vs.length=n/\∃(j:List Addr) (S:Sto) (xs:List Xv) (r:Rs Xv),En K ⟨H,j,S⟩ j H (vs.map some) (xs.map some) S/\tw xs S=some r/\zmG K ⟨H,j,S⟩ Q E r
theorem zkg {n k:Nat} {N:List Str} {t:TS} {b:TwS} {vs:List V} {Q:VK} (hN:N.length=n+k) (h:RS K E t b) (hs:sTw K n (yd n k b) vs H Q E):t {nx:=λ_ H'=>Q .non H',rt:=Q} (ZG N vs) H:=by
 obtain⟨hn,j,S,xs,r,E1,e,ret⟩:=hs
 have es:ZG N vs=vs.map some++z9 k none:=by
  unfold ZG
  rw[hN,hn,Nat.add_sub_cancel_left]
 rw[es]
 unfold yd at e
 split at e
 ·split at e
  ·rename_i x S' e1
   cases e
   exact h E1.grow e1 λv σ ρ j' H' X E' hv=>ret _ _ _ _ _ E' hv
  ·rename_i ρ' S' e1
   cases e
   exact h E1.grow e1 λσ j' H' X E'=>ret _ _ _ _ _ E' .non
  ·rename_i c S' e1
   cases e
   exact h E1.grow e1 λj' H' σ' ρ' C X E' hC=>ret _ _ _ _ _ E' hC
  ·cases e
 ·cases e
noncomputable def zH (tw:TwF) (ms:List TwE):TwE:=λρ S=>rb (evL ms ρ S) λxs S1=>tw xs S1
noncomputable def UH (tw:TwF) (ms:List TwE):TwE:=λρ S=>rb (evL ms ρ S) λxs S1=>match tw xs S1 with
 |some (.ok x S2)=>some (.ok x S2)
 |_=>none
theorem XR {xs:List Xv} {vs:List V} (hv:zE K j H xs vs):(vs.map some).length=(xs.map some).length/\∀(i:Nat) x,(xs.map some)[i]? =some (some x)->∃v,(vs.map some)[i]? =some (some v)/\Xis K j H x v:=by
 refine⟨by simp[hv.len],λi x h=> ?_⟩
 rw[y8] at h ⊢
 cases e:xs[i]? with
 |none=>rw[e] at h;cases h
 |some y=>
  rw[e] at h
  simp at h
  subst h
  obtain⟨v,e1,e2⟩:=hv.get e
  exact⟨v,by rw[e1];rfl,e2⟩
theorem Xn {n:Nat} {tw:TwF} {xs:List Xv} {vs:List V} {r:Rs Xv} {Q:VK} {E':XK} (E1:En K F j H σ ρ S) (hv:zE K j H xs vs) (hn:vs.length=n) (et:tw xs S=some r) (k:Po K F j H σ ρ E' (PoV K Q) r):sTw K n tw vs H Q E':=by
 obtain⟨l,s⟩:=XR hv
 refine⟨hn,j,S,xs,r,E1.enter l s,et,?_⟩
 cases r with
 |ok x S'=>
  intro v j' H' σ' ρ' X hx
  obtain⟨E2,X2⟩:=E1.leave X
  exact k j' H' X2 E2 v hx
 |ex c S'=>
  intro j' H' σ' ρ' C X hC
  obtain⟨E2,X2⟩:=E1.leave X
  exact k j' H' σ ρ C X2 E2 hC
theorem Xo {n:Nat} {tw:TwF} {ms:List TwE} {t:TA} (h:RL K E t (evL ms)) (hn:ms.length=n:=by rfl):RE K E (zf4 (sTw K n tw) [] E t) (zH tw ms):=by
 intro F j σ H ρ S r Q En0 e k
 rcases zj e with⟨xs,S1,e1,e⟩|⟨c,S1,e1,rfl⟩
 ·refine h En0 e1 λj1 H1 X1 E1 vs hv=> ?_
  rw[Bx]
  exact Xn E1 hv (by rw[hv.len,ZY e1,hn]) e (k.step X1)
 ·exact h En0 e1 k
theorem UI {n:Nat} {tw:TwF} {ms:List TwE} {t:TA} (h:RL K E t (evL ms)) (hn:ms.length=n:=by rfl):RE K E (zf4 (sTw K n tw) [] E0 t) (UH tw ms):=by
 intro F j σ H ρ S r Q En0 e k
 rcases zj e with⟨xs,S1,e1,e⟩|⟨c,S1,e1,rfl⟩
 ·refine h En0 e1 λj1 H1 X1 E1 vs hv=> ?_
  rw[Bx]
  split at e
  ·rename_i x S2 e2
   cases e
   exact Xn E1 hv (by rw[hv.len,ZY e1,hn]) e2 (λj' H' X E2 v hw=>k _ _ (X1.trans X) E2 v hw)
  ·cases e
 ·exact h En0 e1 k
end
end L2
namespace L2
open PySem PySem.Spec PyProof.Rows
open PySem.Builtin.Int (intBits)
noncomputable def xI (g:Int->Int->Xv):Op2:=λx y S=>match x,y with
 | .int a,.int b=>some (g a b,S)
 |_,_=>none
noncomputable def xIC (c:Int->Int->Bool) (g:Int->Int->Xv):Op2:=λx y S=>match x,y with
 | .int a,.int b=>if c a b then some (g a b,S) else none
 |_,_=>none
def xB:Op2:=xI λi j=> .int (i+j)
def Ya:Op2:=xI λi j=> .int (i-j)
def UJ:Op2:=xIC (λi j=>decide ((-(2^64)<i/\i<2^64)\/(-(2^64)<j/\j<2^64))) λi j=> .int (i*j)
def yk:Op2:=xIC (λi j=>decide (intBits i+intBits j<=134217728)) λi j=> .int (i*j)
def wX:Op2:=xIC (λ_ j=>decide (0<j)) λi j=> .int (i % j)
def Vz:Op2:=xIC (λ_ j=>decide (0<j/\j<1073741824)) λi j=> .int (i / j)
def wK:Op2:=xIC (λ_ j=>decide (j≠0/\intBits j<=9000)) λi j=> .int (i.fdiv j)
def zfk:Op2:=xIC (λi j=>decide (0<=j/\j<=1000000/\i.natAbs<2^64)) λi j=> .int (i^j.toNat)
def dLt:Op2:=xI λi j=> .bl (decide (i<j))
def dGt:Op2:=xI λi j=> .bl (decide (j<i))
def za6:Op2:=xI λi j=> .bl (decide (i=j))
def UK:Op2:=xI λi j=> .bl (!decide (i=j))
noncomputable def WY:Xv->Sto->Option (Xv×Sto):=λx S=>match x with
 | .int i=>some (.int (-i),S)
 |_=>none
section
variable {K:y3} {E:XK} {F:Fm} {j j':List Addr} {H H':Hp} {σ σ':St} {ρ ρ':Rho} {S S':Sto} {x:Xv} {v:V} {ta tb:TE} {a b:TwE}
theorem zgO {g:Int->Int->V} {g':Int->Int->Xv} (hg:∀i k j H,Xis K j H (g' i k) (g i k)):ZX K (rI0 g) (xI g'):=by
 intro F j σ H ρ S S' x y z u v Q E1 hx hy h k
 unfold xI at h
 split at h
 ·cases h
  exact⟨_,_,hx.int_inv,hy.int_inv,k _ _ _ Ext.refl E1 (hg _ _ _ _)⟩
 ·cases h
theorem zfl {C:Int->Int->Prop} {c:Int->Int->Bool} {g:Int->Int->V} {g':Int->Int->Xv} (hc:∀i j,c i j=true->C i j) (hg:∀i k j H,Xis K j H (g' i k) (g i k)):ZX K (rI C g) (xIC c g'):=by
 intro F j σ H ρ S S' x y z u v Q E1 hx hy h k
 unfold xIC at h
 split at h
 ·split at h
  ·cases h
   exact⟨_,_,hx.int_inv,hy.int_inv,hc _ _ (by assumption),k _ _ _ Ext.refl E1 (hg _ _ _ _)⟩
  ·cases h
 ·cases h
theorem za7 {p:Int->Int->Bool} (ha:RE K E ta a) (hb:RE K E tb b):RE K E (zbG p ta tb) (eOp (xI λi j=> .bl (p i j)) a b):=
 xp (r:=rI0 λi j=> .bl (p i j)) (zgO λi k _ _=> .bl _) ha hb
theorem UL:ZX K (rI0 λi j=> .int (i+j)) xB:=zgO λ_ _ _ _=> .int _
theorem za8:ZX K (rI0 λi j=> .int (i-j)) Ya:=zgO λ_ _ _ _=> .int _
theorem zdf:ZX K (rI zf1 λi j=> .int (i*j)) UJ:=zfl (λi j h=>by simpa [zf1] using h) λ_ _ _ _=> .int _
theorem Wr:ZX K (rI zj9 λi j=> .int (i*j)) yk:=zfl (λi j h=>⟨intBits i,intBits j,z5 _,z5 _,by simpa using h⟩) λ_ _ _ _=> .int _
theorem zdg:ZX K (rI (λ_ j=>0<j) λi j=> .int (i % j)) wX:=zfl (λi j h=>by simpa using h) λ_ _ _ _=> .int _
theorem zef:ZX K (rI zkQ λi j=> .int (i / j)) Vz:=zfl (λi j h=>by simpa [zkQ] using h) λ_ _ _ _=> .int _
theorem UM:ZX K (rI zgs λi j=> .int (i.fdiv j)) wK:=zfl (λi j h=>by simpa [zgs] using h) λ_ _ _ _=> .int _
theorem zgP:ZX K (rI zkR λi j=> .int (i^j.toNat)) zfk:=zfl (λi j h=>by simpa [zkR] using h) λ_ _ _ _=> .int _
theorem zmH (ha:RE K E ta a) (hb:RE K E tb b):RE K E (tLt ta tb) (eOp dLt a b):=za7 ha hb
theorem zgQ (ha:RE K E ta a) (hb:RE K E tb b):RE K E (tGt ta tb) (eOp dGt a b):=za7 ha hb
theorem zlc (ha:RE K E ta a) (hb:RE K E tb b):RE K E (zl2 ta tb) (eOp za6 a b):=za7 ha hb
theorem zld (ha:RE K E ta a) (hb:RE K E tb b):RE K E (zl3 ta tb) (eOp UK a b):=za7 ha hb
theorem UN:zmz K (rU λi=> .int (-i)) WY:=by
 intro F j σ H ρ S S' x z u Q E1 hx h k
 unfold WY at h
 split at h
 ·cases h
  exact⟨_,hx.int_inv,k _ _ _ Ext.refl E1 (.int _)⟩
 ·cases h
noncomputable def UO:Op2:=λx y S=>match zv S x,zv S y with
 |some a,some b=>if a.length+b.length<=sizeLine then some (.ref S.length,S++[.lst (a++b)]) else none
 |_,_=>none
theorem zeg:ZX K (zkc K) UO:=by
 intro F j σ H ρ S S' x y z u v Q E1 hx hy h k
 unfold UO at h
 split at h
 ·rename_i l1 l2 e1 e2
  split at h
  ·rename_i hz
   cases h
   obtain⟨p,xs,rfl,h1,h2⟩:=E1.lstAt hx e1
   obtain⟨q,ys,rfl,g1,g2⟩:=E1.lstAt hy e2
   refine⟨p,q,xs,ys,rfl,rfl,h1,g1,by rw[h2.len,g2.len];exact hz,λl hl=> ?_⟩
   obtain⟨E2,X2,h3⟩:=E1.lst (h2.append g2) hl
   exact k _ _ _ X2 E2 h3
  ·cases h
 ·cases h
noncomputable def zgR (g:Int->Xv):Opn:=λxs S=>match xs with
 |[.int i]=>some (g i,S)
 |_=>none
theorem ziW {g:Int->V} {g':Int->Xv} (hg:∀i j H,Xis K j H (g' i) (g i)):zaY K (λxs H Q=>∃i,xs=[V.int i]/\Q (g i) H) (zgR g'):=by
 intro F j σ H ρ S S' xs z vs Q E1 hv h k
 unfold zgR at h
 split at h
 ·cases h
  obtain⟨x,rfl,hx⟩:=hv.d1
  exact⟨_,by rw[hx.int_inv],k _ _ _ Ext.refl E1 (hg _ _ _)⟩
 ·cases h
def za9:Opn:=zgR λi=> .int (if i<0 then -i else i)
theorem zgS:zaY K (λxs H Q=>∃i,xs=[V.int i]/\Q (.int (if i<0 then -i else i)) H) za9:=ziW λ_ _ _=> .int _
noncomputable def XS:Opn:=λxs S=>match xs with
 |[x]=>(Wo S x).map λl=>(.int l.length,S)
 |_=>none
theorem UP:zaY K (λxs H Q=>∃p ys,xs=[V.ref p]/\(SqL K H p ys\/SqT K H p ys)/\Q (.int ys.length) H) XS:=by
 intro F j σ H ρ S S' xs z vs Q E1 hv h k
 unfold XS at h
 split at h
 ·rename_i x
  cases e:Wo S x with
  |none=>rw[e] at h;cases h
  |some l=>
   rw[e] at h
   cases h
   obtain⟨w,rfl,hx⟩:=hv.d1
   obtain⟨a,ws,rfl,h1,h2⟩:=E1.seqAt hx e
   refine⟨a,ws,rfl,?_,k _ _ _ Ext.refl E1 (by rw[h2.len];exact .int _)⟩
   rcases h1 with h1|h1
   ·exact .inl h1.sql
   ·exact .inr h1
 ·cases h
noncomputable def zb6:Opn:=λxs S=>match xs with
 |[x]=>(Wo S x).map λl=>(.ref S.length,S++[.lst l])
 |_=>none
theorem zeh:zaY K (λxs H Q=>∃p ys,xs=[V.ref p]/\(SqL K H p ys\/SqT K H p ys)/\∀l,H l=none->Q (.ref l) (upd H l (.lst ys))) zb6:=by
 intro F j σ H ρ S S' xs z vs Q E1 hv h k
 unfold zb6 at h
 split at h
 ·rename_i x
  cases e:Wo S x with
  |none=>rw[e] at h;cases h
  |some l=>
   rw[e] at h
   cases h
   obtain⟨w,rfl,hx⟩:=hv.d1
   obtain⟨a,ws,rfl,h1,h2⟩:=E1.seqAt hx e
   refine⟨a,ws,rfl,?_,λp hp=> ?_⟩
   ·rcases h1 with h1|h1
    ·exact .inl h1.sql
    ·exact .inr h1
   ·obtain⟨E2,X2,h3⟩:=E1.lst h2 hp
    exact k _ _ _ X2 E2 h3
 ·cases h
noncomputable def YA:List Xv->Option (List Int)
 |[]=>some []
 | .int i::r=>(YA r).map (i:: ·)
 |_::_=>none
theorem UQ:∀{xs:List Xv} {ns:List Int} {vs:List V},YA xs=some ns->zE K j H xs vs->vs=ns.map V.int
 |[],ns,vs,e,h=>by cases e;exact h.nil_inv
 |x::r,ns,vs,e,h=>by
  obtain⟨v,ws,rfl,h1,h2⟩:=h.cons_inv
  cases x<;>simp only[YA,reduceCtorEq] at e
  cases e2:YA r with
  |none=>rw[e2] at e;cases e
  |some ms=>
   rw[e2] at e
   cases e
   rw[h1.int_inv,UQ e2 h2]
   rfl
theorem zfm (ns:List Int):YA (ns.map Xv.int)=some ns:=by
 induction ns with
 |nil=>rfl
 |cons n r ih=>simp[YA,ih]
noncomputable def zb7:Opn:=λxs S=>match xs with
 |[x]=>((zv S x).bind YA).map λns=>(.int ns.sum,S)
 |_=>none
theorem zgT:zaY K (zmt K) zb7:=by
 intro F j σ H ρ S S' xs z vs Q E1 hv h k
 unfold zb7 at h
 split at h
 ·rename_i x
  cases e:zv S x with
  |none=>rw[e] at h;cases h
  |some l=>
   rw[e] at h
   cases e2:YA l with
   |none=>simp[e2] at h
   |some ns=>
    simp[e2] at h
    obtain⟨rfl,rfl⟩:=h
    obtain⟨w,rfl,hx⟩:=hv.d1
    obtain⟨p,ws,rfl,h1,h2⟩:=E1.lstAt hx e
    refine⟨p,ns,rfl,?_,k _ _ _ Ext.refl E1 (.int _)⟩
    rw[<-UQ e2 h2]
    exact h1.sql
 ·cases h
noncomputable def zba (neg:Bool):Op2:=λx y S=>match x,y with
 | .int a,.int b=>some (.bl (neg !=decide (a=b)),S)
 | .str a,.str b=>some (.bl (neg !=decide (a=b)),S)
 | .bl a,.bl b=>some (.bl (neg !=decide (a=b)),S)
 | .non,.non=>some (.bl (neg !=true),S)
 | .int _,.str _=>some (.bl (neg !=false),S)
 | .str _,.int _=>some (.bl (neg !=false),S)
 |_,_=>none
theorem zgU:ZX K rEq (zba false):=by
 intro F j σ H ρ S S' x y z u v Q E1 hx hy h k
 cases hx<;>cases hy<;>simp only[zba,reduceCtorEq,Al,Ga,Bool.false_bne] at h<;>obtain⟨rfl,rfl⟩:=h<;>refine⟨rfl,k _ _ _ Ext.refl E1 ?_⟩<;>simp<;>exact .bl _
theorem zgV:ZX K rNe (zba true):=by
 intro F j σ H ρ S S' x y z u v Q E1 hx hy h k
 cases hx<;>cases hy<;>simp only[zba,reduceCtorEq,Al,Ga,Bool.true_bne] at h<;>obtain⟨rfl,rfl⟩:=h<;>refine⟨rfl,k _ _ _ Ext.refl E1 ?_⟩<;>simp<;>exact .bl _
noncomputable def wd (f:Xv->Option D):List Xv->Option (List D)
 |[]=>some []
 |x::r=>(f x).bind λd=>(wd f r).map (d:: ·)
noncomputable def xu (S:Sto):Nat->Xv->Option D
 |0,x=>match x with
  | .non=>some .non
  | .bl b=>some (.bl b)
  | .int i=>some (.int i)
  | .str s=>some (.str s)
  |_=>none
 |n+1,x=>match x with
  | .non=>some .non
  | .bl b=>some (.bl b)
  | .int i=>some (.int i)
  | .str s=>some (.str s)
  | .tup l=>(wd (xu S n) l).map .tup
  | .ct l=>(wd (xu S n) l).map .tup
  | .ref m=>(zv S (.ref m)).bind λl=>(wd (xu S n) l).map .lst
  | .lam _ _=>none
theorem UR {f:Xv->Option D} {n:Nat} (hf:∀x v d,Xis K j H x v->f x=some d->Is K H v d/\D.depth d<=n) {xs:List Xv} {vs:List V} {ds:List D} (h:zE K j H xs vs):wd f xs=some ds->IsL K H vs ds/\D.depths ds<=n:=
 h.ind (m:=λxs vs=>∀ds,wd f xs=some ds->IsL K H vs ds/\D.depths ds<=n) (λds e=>by cases e;exact⟨.nil,by simp[D.depths]⟩) (λ{x v r vs} h l ih ds e=>by
  unfold wd at e
  cases e1:f x with
  |none=>rw[e1] at e;cases e
  |some d=>
   rw[e1] at e
   cases e2:wd f r with
   |none=>simp[e2] at e
   |some es=>
    simp[e2] at e
    subst e
    obtain⟨a1,a2⟩:=hf _ _ _ h e1
    obtain⟨b1,b2⟩:=ih es e2
    exact⟨.cons a1 b1,by unfold D.depths;omega⟩) ds
theorem VW (E1:En K F j H σ ρ S):∀(n:Nat) (x:Xv) (v:V) (d:D),Xis K j H x v->xu S n x=some d->Is K H v d/\D.depth d<=n
 |0,x,v,d,h,e=>by
  cases h<;>simp only[xu,Al,reduceCtorEq] at e<;>subst e<;>refine⟨by constructor,by simp[D.depth]⟩
 |n+1,x,v,d,h,e=>by
  have ih:=VW E1 n
  cases h with
  |non=>simp only[xu,Al] at e;subst e;exact⟨.non,by simp[D.depth]⟩
  |bl b=>simp only[xu,Al] at e;subst e;exact⟨.bl b,by simp[D.depth]⟩
  |int b=>simp only[xu,Al] at e;subst e;exact⟨.int b,by simp[D.depth]⟩
  |str b=>simp only[xu,Al] at e;subst e;exact⟨.str b,by simp[D.depth]⟩
  |lam h l=>simp only[xu,reduceCtorEq] at e
  | @tup a vs l h1 h2=>
   simp only[xu] at e
   cases e2:wd (xu S n) l with
   |none=>rw[e2] at e;cases e
   |some ds=>
    rw[e2] at e
    cases e
    obtain⟨a1,a2⟩:=UR ih h2 e2
    exact⟨.tup (SqT.of h1) a1,by unfold D.depth;omega⟩
  | @ct a vs l h1 h2=>
   simp only[xu] at e
   cases e2:wd (xu S n) l with
   |none=>rw[e2] at e;cases e
   |some ds=>
    rw[e2] at e
    cases e
    obtain⟨a1,a2⟩:=UR ih h2 e2
    exact⟨.tup (h1 H) a1,by unfold D.depth;omega⟩
  | @ref m a h1=>
   simp only[xu] at e
   cases e1:zv S (.ref m) with
   |none=>rw[e1] at e;cases e
   |some l=>
    rw[e1] at e
    cases e2:wd (xu S n) l with
    |none=>simp[e2] at e
    |some ds=>
     simp[e2] at e
     subst e
     obtain⟨a',vs,ea,g1,g2⟩:=E1.lstAt (.ref h1) e1
     cases ea
     obtain⟨a1,a2⟩:=UR ih g2 e2
     exact⟨.lst g1.sql a1,by unfold D.depth;omega⟩
noncomputable def D.many:D->Bool
 | .tup _=>true
 | .lst _=>true
 |_=>false
noncomputable def zgW (c:String) (S:Sto):Xv->Option Bool
 | .non=>some false
 | .int _=>some (c=="int")
 | .bl _=>some (c=="bool"||c=="int")
 | .str _=>some (c=="str")
 | .tup _=>some (c=="tuple")
 | .ct _=>some (c=="tuple")
 | .ref n=>(zv S (.ref n)).map λ_=>c=="list"
 | .lam _ _=>none
structure zei (c:String):Prop where
 non:∀K,AU K (.type "NoneType") (.type c)=some false
 bl:∀K,AU K (.type "bool") (.type c)=some (c=="bool"||c=="int")
 int:∀K,AU K (.type "int") (.type c)=some (c=="int")
 str:∀K,AU K (.type "str") (.type c)=some (c=="str")
 tup:∀K,AU K (.type "tuple") (.type c)=some (c=="tuple")
 lst:∀K,AU K (.type "list") (.type c)=some (c=="list")
theorem zb8 (a b:String) (K:y3) (h1:(Value.type a==Value.type b)=false) (h:(fastBuiltinMro a).map (·.contains (.type b))=some false) (hm:BP b=true):AU K (.type a) (.type b)=some false:=zk1 h1 h hm rfl
theorem zej:zei "int":=⟨λK=>zb8 _ _ K ∅ (by decide+kernel) (by decide+kernel),λK=>zaS,λK=>zbY,λK=>zb8 _ _ K ∅ (by decide+kernel) (by decide+kernel),λK=>zb8 _ _ K ∅ (by decide+kernel) (by decide+kernel),λK=>zb8 _ _ K ∅ (by decide+kernel) (by decide+kernel)⟩
theorem zb9:zei "bool":=⟨λK=>zb8 _ _ K ∅ (by decide+kernel) (by decide+kernel),λK=>zbY,λK=>zaT,λK=>zb8 _ _ K ∅ (by decide+kernel) (by decide+kernel),λK=>zb8 _ _ K ∅ (by decide+kernel) (by decide+kernel),λK=>zb8 _ _ K ∅ (by decide+kernel) (by decide+kernel)⟩
noncomputable def zfn (c:String):Xv->Sto->Option (Xv×Sto):=λx S=>(zgW c S x).map λb=>(.bl b,S)
theorem ziX {c:String} (ok:zei c) (E1:En K F j H σ ρ S) {b:Bool} {Q:VK} (h:Xis K j H x v) (e:zgW c S x=some b) (k:Q (.bl b) H):ziL K [v,.ty c] H Q:=by
 cases h with
 |non=>cases e;exact⟨_,_,_,_,_,rfl,rfl,.of .non,ok.non K,k⟩
 |bl b=>cases e;exact⟨_,_,_,_,_,rfl,rfl,.of (.bl b),ok.bl K,k⟩
 |int i=>cases e;exact⟨_,_,_,_,_,rfl,rfl,.of (.int i),ok.int K,k⟩
 |str z=>cases e;exact⟨_,_,_,_,_,rfl,rfl,.of (.str z),ok.str K,k⟩
 |tup h l=>cases e;exact⟨_,_,_,_,_,rfl,rfl,.sqt (SqT.of h),ok.tup K,k⟩
 |ct h l=>cases e;exact⟨_,_,_,_,_,rfl,rfl,.sqt (h H),ok.tup K,k⟩
 |lam h l=>cases e
 | @ref n a h=>
  simp only[zgW] at e
  cases e1:zv S (.ref n) with
  |none=>rw[e1] at e;cases e
  |some l=>
   rw[e1] at e
   cases e
   obtain⟨a',vs,ea,g1,g2⟩:=E1.lstAt (.ref h) e1
   cases ea
   exact⟨_,_,_,_,_,rfl,rfl,.sql g1.sql,ok.lst K,k⟩
theorem zle {c:String} {t:TE} {m:TwE} (ok:zei c) (h:RE K E t m):RE K E (tCB (ziL K) (Yw t (Yw (tC (.ty c)) zbI))) (eUn (zfn c) m):=by
 intro F j σ H ρ S r Q En0 e k
 rcases zj e with⟨x,S1,e1,e⟩|⟨c,S1,e1,rfl⟩
 ·obtain⟨z,S3,e3,rfl⟩:=ZJ e
  unfold zfn at e3
  cases e4:zgW c S1 x with
  |none=>rw[e4] at e3;cases e3
  |some b=>
   rw[e4] at e3
   cases e3
   exact h En0 e1 λj1 H1 X1 E1 u hu=>ziX ok E1 hu e4 (k _ _ X1 E1 _ (.bl _))
 ·exact h En0 e1 k
noncomputable def xJ (xs:List Xv):List Xv:=xs.zipIdx.map λp=> .tup [.int (p.2:Int),p.1]
theorem zca {xs:List Xv} {i:Nat} {y:Xv} (h:(xJ xs)[i]? =some y):∃x,xs[i]? =some x/\y= .tup [.int (i:Int),x]:=by
 unfold xJ at h
 rw[y8,Dg] at h
 cases e:xs[i]? with
 |none=>rw[e] at h;cases h
 |some x=>
  rw[e] at h
  simp at h
  exact⟨x,rfl,h.symm⟩
theorem zan (xs:List Xv):(xJ xs).length=xs.length:=by simp[xJ]
def iEn (m:TwE):TwI:=λρ S=>rb (m ρ S) λx S1=>(zv S1 x).map λ_=> .ok (λS=>(zv S x).map xJ) S1
theorem zni {p:Addr} {H':Hp} {i:Int} {y:Xv} {w:V} (Sm:Zc H H') (hp:H' p=some (.tup [.int i,w])) (h:Xis K j H y w):Xis K j H' (.tup [.int i,y]) (.ref p):=
 .tup hp (.cons (.int i) (.one (h.mono (Ext.same Sm))))
theorem ziY {t:TE} {m:TwE} (h:RE K E t m):RI K E (zka K (Yw t zbI)) (iEn m):=by
 intro F j σ H ρ S r R En0 e k
 rcases zj e with⟨x,S1,e1,e⟩|⟨c,S1,e1,rfl⟩
 ·cases el:zv S1 x with
  |none=>rw[el] at e;cases e
  |some l=>
   rw[el] at e
   cases e
   refine h En0 e1 λj1 H1 X1 E1 u hu=> ?_
   obtain⟨a,vs,rfl,h1,_⟩:=E1.lstAt hu el
   refine⟨a,rfl,⟨vs,h1.sql⟩,k _ _ X1 E1 _ ?_⟩
   intro F2 j2 H2 σ2 ρ2 S2 xs i X2 E2 e2
   dsimp only at e2
   cases ft:zv S2 x with
   |none=>rw[ft] at e2;cases e2
   |some l2=>
    rw[ft] at e2
    cases e2
    obtain⟨a',ws,ea,g1,g2⟩:=E2.lstAt (hu.mono X2) ft
    cases ea
    refine⟨λy ey=> ?_,λhle=>⟨ws,g1.sql,by rw[g2.len];rw[zan] at hle;omega⟩⟩
    obtain⟨y',ey',rfl⟩:=zca ey
    obtain⟨w,f1,f2⟩:=g2.get ey'
    refine⟨⟨ws,w,g1.sql,f1⟩,?_⟩
    rintro v' H' ⟨p,w',rfl,hp,rfl,hx⟩
    have:=hx ws g1.sql
    rw[f1] at this
    cases this
    exact⟨yl hp,zni (yl hp) zm f2⟩
 ·exact h En0 e1 k
noncomputable def iRv (m:TwE):TwI:=λρ S=>rb (m ρ S) λx S1=>(zv S1 x).map λl=> .ok (λS=>(zv S x).bind λl2=>if l2.length=l.length then some l2.reverse else none) S1
theorem ziZ {t:TE} {m:TwE} (h:RE K E t m):RI K E (zmw K (Yw t zbI)) (iRv m):=by
 intro F j σ H ρ S r R En0 e k
 rcases zj e with⟨x,S1,e1,e⟩|⟨c,S1,e1,rfl⟩
 ·cases el:zv S1 x with
  |none=>rw[el] at e;cases e
  |some l=>
   rw[el] at e
   cases e
   refine h En0 e1 λj1 H1 X1 E1 u hu=> ?_
   obtain⟨a,vs,rfl,h1,mO⟩:=E1.lstAt hu el
   refine⟨a,vs,rfl,h1.sql,k _ _ X1 E1 _ ?_⟩
   intro F2 j2 H2 σ2 ρ2 S2 xs i X2 E2 e2
   dsimp only at e2
   cases ft:zv S2 x with
   |none=>rw[ft] at e2;cases e2
   |some l2=>
    rw[ft] at e2
    dsimp only[Dm] at e2
    split at e2
    ·rename_i hl
     cases e2
     obtain⟨a',ws,ea,g1,g2⟩:=E2.lstAt (hu.mono X2) ft
     cases ea
     have n1:=mO.len
     have n2:=g2.len
     refine⟨λy ey=> ?_,λhle=> ?_⟩
     ·have hi:i<l2.length:=by
       have:=(y4.1 ey).1
       simpa using this
      rw[EB hi] at ey
      obtain⟨w,f1,f2⟩:=g2.get ey
      refine⟨⟨⋯,ws,g1.sql,⋯⟩,?_⟩
      rintro v' H' ⟨rfl,hx⟩
      have:=hx ws g1.sql
      rw[show vs.length-1-i=l2.length-1-i by omega,f1] at this
      cases this
      exact⟨Zc.refl _,f2⟩
     ·show i=vs.length
      simp at hle
      omega
    ·cases e2
 ·exact h En0 e1 k
end
end L2
namespace L2
open PySem PySem.Spec PyProof.Rows
noncomputable def Ws:Xv->Option Key
 | .int i=>some (.inl i)
 | .str z=>some (.inr z)
 |_=>none
noncomputable def xT (S:Sto):Xv->Option (Nat×List (Key×Xv))
 | .ref n=>match S[n]? with
  |some (.dk kvs)=>some (n,kvs)
  |_=>none
 |_=>none
noncomputable def zfo (S:Sto):Xv->Option (Nat×List (Key×Xv))
 | .ref n=>match S[n]? with
  |some (.dk kvs)=>some (n,kvs)
  |some (.fdk kvs)=>some (n,kvs)
  |_=>none
 |_=>none
noncomputable def wY {κ:Type} [DecidableEq κ] (kvs:List (κ×Xv)) (k:κ):Option Xv:=(kvs.find? λkv=>decide (kv.1=k)).map (·.2)
noncomputable def zfp {κ:Type} [DecidableEq κ] (kvs:List (κ×Xv)) (k:κ) (x:Xv):List (κ×Xv):=
 if (kvs.any λkv=>decide (kv.1=k))=true then kvs.map (λkv=>if kv.1=k then (kv.1,x) else kv) else kvs++[(k,x)]
section
variable {K:y3} {E:XK} {F:Fm} {j:List Addr} {H:Hp} {σ:St} {ρ:Rho} {S:Sto} {x:Xv} {v:V} {κ:Type}
theorem Wt {k:Key} (h:Xis K j H x v) (e:Ws x=some k):v=kV k:=by
 cases h<;>simp only[Ws,Al,reduceCtorEq] at e<;>subst e<;>rfl
theorem ZM {n:Nat} {kvs:List (Key×Xv)} (h:xT S x=some (n,kvs)):x= .ref n/\S[n]? =some (.dk kvs):=by
 cases x<;>simp only[xT,reduceCtorEq] at h
 split at h
 ·cases h;exact⟨rfl,by assumption⟩
 ·cases h
theorem En.dk {n:Nat} {kvs:List (Key×Xv)} (E1:En K F j H σ ρ S) (hx:Xis K j H x v) (h:xT S x=some (n,kvs)):∃a ks,v= .ref a/\j[n]? =some a/\H a=some (.dK ks)/\KX K j H kvs ks:=by
 obtain⟨rfl,hs⟩:=ZM h
 obtain⟨a,rfl,hj⟩:=hx.ref_inv
 obtain⟨ks,e1,e2⟩:=E1.cel _ _ _ hs hj
 exact⟨a,ks,rfl,hj,e1,e2⟩
theorem zi0 {p:Nat×List (Key×Xv)} (h:xT S x=some p):zfo S x=some p:=by
 obtain⟨n,kvs⟩:=p
 obtain⟨rfl,e⟩:=ZM h
 unfold zfo
 dsimp only
 rw[e]
theorem En.dr {n:Nat} {kvs:List (Key×Xv)} (E1:En K F j H σ ρ S) (hx:Xis K j H x v) (h:zfo S x=some (n,kvs)):∃a ks,v= .ref a/\j[n]? =some a/\Rd H a (.dK ks)/\KX K j H kvs ks:=by
 cases x<;>simp only[zfo,reduceCtorEq] at h
 obtain⟨a,rfl,hj⟩:=hx.ref_inv
 split at h
 ·rename_i hs
  cases h
  obtain⟨ks,e1,e2⟩:=E1.cel _ _ _ hs hj
  exact⟨a,ks,rfl,hj,.inl e1,e2⟩
 ·rename_i hs
  cases h
  obtain⟨o,ks,e1,e2⟩:=E1.cel _ _ _ hs hj
  exact⟨a,ks,rfl,hj,.inr ⟨o,e1⟩,e2⟩
 ·cases h
theorem VL.r {a:Addr} {kvs:List (Key×V)} {k:Key} (e:Rd H a (.dK kvs)):VL H a (kV k) (vV kvs k):= .inl ⟨kvs,k,e,rfl,rfl⟩
theorem KX.len {kvs:List (κ×Xv)} {ks:List (κ×V)} (h:KX K j H kvs ks):ks.length=kvs.length:=by
 induction h with
 |nil=>exact rfl
 |cons h _ ih=>exact congrArg (· +1) ih
theorem KX.keys {kvs:List (κ×Xv)} {ks:List (κ×V)} (h:KX K j H kvs ks):ks.map (·.1)=kvs.map (·.1):=by
 induction h with
 |nil=>exact rfl
 |cons h _ ih=>exact by rw[A6,A6,ih]
theorem KX.val [DecidableEq κ] {k:κ} {kvs:List (κ×Xv)} {ks:List (κ×V)} (h:KX K j H kvs ks):(∀y,wY kvs k=some y->∃w,vV ks k=some w/\Xis K j H y w)/\(wY kvs k=none->vV ks k=none):=by
 induction h with
 |nil=>exact⟨λ_ e=>by simp[wY] at e,λ_=>rfl⟩
 | @cons k1 y1 w1 r rs h l ih=>
  obtain⟨i1,i2⟩:=ih
  by_cases e:k1=k
  ·subst e
   refine⟨λy ey=> ?_,λey=> ?_⟩
   ·simp[wY] at ey
    subst ey
    exact⟨w1,by simp[vV],h⟩
   ·simp[wY] at ey
  ·have e1:wY ((k1,y1)::r) k=wY r k:=by simp[wY,AZ,e]
   have e2:vV ((k1,w1)::rs) k=vV rs k:=by simp[vV,AZ,e]
   rw[e1,e2]
   exact⟨i1,i2⟩
theorem KX.append {kvs r:List (κ×Xv)} {ks rs:List (κ×V)} (h:KX K j H kvs ks) (g:KX K j H r rs):KX K j H (kvs++r) (ks++rs):=by
 induction h with
 |nil=>exact g
 |cons h _ ih=>exact .cons h ih
theorem KX.any {f:κ->Bool} {kvs:List (κ×Xv)} {ks:List (κ×V)} (h:KX K j H kvs ks):(ks.any λp=>f p.1)=kvs.any λp=>f p.1:=by
 induction h with
 |nil=>rfl
 |cons h _ ih=>rw[CZ,CZ,ih]
theorem KX.put [DecidableEq κ] {k:κ} (hx:Xis K j H x v) {kvs:List (κ×Xv)} {ks:List (κ×V)} (h:KX K j H kvs ks):KX K j H (zfp kvs k x) (WW ks k v):=by
 unfold zfp WW
 rw[h.any (f:=λa=>decide (a=k))]
 split
 ·rename_i hc
  clear hc
  induction h with
  |nil=>exact .nil
  | @cons k1 y w r rs h l ih=>
   rw[A6,A6]
   by_cases e:k1=k
   ·rw[if_pos e,if_pos e];exact .cons hx ih
   ·rw[if_neg e,if_neg e];exact .cons h ih
 ·exact h.append (.cons hx .nil)
theorem En.wdk {n:Nat} {kvs kvs':List (Key×Xv)} {ws:List (Key×V)} {a:Addr} (E1:En K F j H σ ρ S) (h:xT S x=some (n,kvs)) (hj:j[n]? =some a) (hw:KX K j H kvs' ws):En K F j (upd H a (.dK ws)) σ ρ (S.set n (.dk kvs'))/\Ext j H j (upd H a (.dK ws)):=
 E1.write (ZM h).2 rfl hj rfl λX=>⟨ws,zm,hw.mono X⟩
noncomputable def zbb:TwE:=λ_ S=>some (.ok (.ref S.length) (S++[.dk []]))
theorem zi1:RE K E zgh zbb:=by
 intro F j σ H ρ S r Q En0 e k p hp
 cases e
 have X:Ext j H (j++[p]) (upd H p (.dK [])):=⟨λn a e=>by rw[y9 (y4.1 e).1];exact e,xF.same (yl hp)⟩
 obtain⟨E1,_⟩:=En0.cell (o:= .dK []) (c:= .dk []) hp ⟨[],zm,.nil⟩
 exact k _ _ X E1 _ (.ref (by rw[<-En0.jl];simp))
def zek (d k:TwE):TwE:=λρ S=>rb (d ρ S) λx S1=>rb (k ρ S1) λy S2=>match zfo S2 x,Ws y with
 |some (_,kvs),some key=>(wY kvs key).map λz=> .ok z S2
 |_,_=>none
theorem zi2 {td ty:TE} {d k:TwE} (hd:RE K E td d) (hk:RE K E ty k):RE K E (zj7 td ty) (zek d k):=by
 intro F j σ H ρ S r Q En0 e kk
 rcases zj e with⟨x,S1,e1,e⟩|⟨c,S1,e1,rfl⟩
 ·refine hd En0 e1 λj1 H1 X1 E1 u hu=> ?_
  rcases zj e with⟨y,S2,e2,e⟩|⟨c,S2,e2,rfl⟩
  ·refine hk E1 e2 λj2 H2 X2 E2 w hw=> ?_
   split at e
   ·rename_i n kvs key ed ek
    cases ev:wY kvs key with
    |none=>rw[ev] at e;cases e
    |some z=>
     rw[ev] at e
     cases e
     obtain⟨a,ks,rfl,hj,f1,f2⟩:=E2.dr (hu.mono X2) ed
     obtain⟨z',g1,g2⟩:=f2.val.1 _ ev
     refine⟨a,z',rfl,?_,kk _ _ (X1.trans X2) E2 _ g2⟩
     rw[Wt hw ek,<-g1]
     exact VL.r f1
   ·cases e
  ·exact hk E1 e2 (PX.mono kk X1)
 ·exact hd En0 e1 kk
theorem zi3 {a:Addr} {ks:List (Key×V)} {kvs:List (Key×Xv)} {key:Key} (f1:H a=some (.dK ks)) (f2:KX K j H kvs ks):∃o,VL H a (kV key) o/\o.isSome=(wY kvs key).isSome/\∀z zd,Xis K j H z zd->Xis K j H ((wY kvs key).getD z) (o.getD zd):=by
 refine⟨_,VL.k f1,?_,λz zd hz=> ?_⟩
 ·cases ev:wY kvs key with
  |none=>rw[f2.val.2 ev];rfl
  |some y=>obtain⟨w,g1,_⟩:=f2.val.1 _ ev;rw[g1];rfl
 ·cases ev:wY kvs key with
  |none=>rw[f2.val.2 ev];exact hz
  |some y=>obtain⟨w,g1,g2⟩:=f2.val.1 _ ev;rw[g1];exact g2
def US (d k z:TwE):TwE:=λρ S=>rb (d ρ S) λx S1=>(xT S1 x).bind λ_=>rb (k ρ S1) λy S2=>rb (z ρ S2) λw S3=>match xT S3 x,Ws y with
 |some (_,kvs),some key=>some (.ok ((wY kvs key).getD w) S3)
 |_,_=>none
theorem zgX {td ty tx:TE} {d k z:TwE} (hd:RE K E td d) (hk:RE K E ty k) (hz:RE K E tx z):RE K E (zgi td ty tx) (US d k z):=by
 intro F j σ H ρ S r Q En0 e kk
 rcases zj e with⟨x,S1,e1,e⟩|⟨c,S1,e1,rfl⟩
 ·refine hd En0 e1 λj1 H1 X1 E1 u hu=> ?_
  cases fh:xT S1 x with
  |none=>rw[fh] at e;cases e
  |some p0=>
   rw[fh] at e
   obtain⟨n0,il⟩:=p0
   obtain⟨a,jk,rfl,lG,f0,_⟩:=E1.dk hu fh
   refine⟨a,rfl,.inl ⟨jk,.inl f0⟩,?_⟩
   rcases zj e with⟨y,S2,e2,e⟩|⟨c,S2,e2,rfl⟩
   ·refine hk E1 e2 λj2 H2 X2 E2 w hw=> ?_
    rcases zj e with⟨q,S3,e3,e⟩|⟨c,S3,e3,rfl⟩
    ·refine hz E2 e3 λj3 H3 X3 E3 wq hq=> ?_
     split at e
     ·rename_i n kvs key ed ek
      cases e
      obtain⟨a',ks,ea,hj,f1,f2⟩:=E3.dk (hu.mono (X2.trans X3)) ed
      cases ea
      obtain⟨o,g1,_,g3⟩:=zi3 (key:=key) f1 f2
      exact⟨o,by rw[Wt hw ek];exact g1,kk _ _ (X1.trans (X2.trans X3)) E3 _ (g3 _ _ hq)⟩
     ·cases e
    ·exact hz E2 e3 (PX.mono kk (X1.trans X2))
   ·exact hk E1 e2 (PX.mono kk X1)
 ·exact hd En0 e1 kk
def WZ (d k v:TwE):TwS:=λρ S=>sb (v ρ S) λz S1=>sb (d ρ S1) λx S2=>sb (k ρ S2) λy S3=>match xT S3 x,Ws y with
 |some (n,kvs),some key=>if kvs.length<sizeLine then some (.nx ρ (S3.set n (.dk (zfp kvs key z)))) else none
 |_,_=>none
theorem zi4 {td ty tv:TE} {d k v:TwE} (hd:RE K E td d) (hk:RE K E ty k) (hv:RE K E tv v):RS K E (zj8 td ty tv) (WZ d k v):=by
 intro F j D' σ H ρ S fl E0 e kk
 rcases xj e with⟨z,S1,e1,e⟩|⟨c,S1,e1,rfl⟩
 ·refine hv E0 e1 λj1 H1 X1 E1 wz rN=> ?_
  rcases xj e with⟨x,S2,e2,e⟩|⟨c,S2,e2,rfl⟩
  ·refine hd E1 e2 λj2 H2 X2 E2 u hu=> ?_
   rcases xj e with⟨y,S3,e3,e⟩|⟨c,S3,e3,rfl⟩
   ·refine hk E2 e3 λj3 H3 X3 E3 w hw=> ?_
    split at e
    ·rename_i n kvs key ed ek
     split at e
     ·rename_i hl
      cases e
      obtain⟨a,ks,rfl,hj,f1,f2⟩:=E3.dk (hu.mono X3) ed
      obtain⟨E4,X4⟩:=E3.wdk ed hj (f2.put (k:=key) (rN.mono (X2.trans X3)))
      refine⟨a,_,rfl,?_,kk _ _ _ (X1.trans (X2.trans (X3.trans X4))) E4⟩
      rw[Wt hw ek]
      exact zge.k f1 (by rw[f2.len];exact hl)
     ·cases e
    ·cases e
   ·exact hk E2 e3 (PX.mono kk (X1.trans X2))
  ·exact hd E1 e2 (PX.mono kk X1)
 ·exact hv E0 e1 kk
noncomputable def zcb:Opn:=λxs S=>match xs with
 |[x]=>(xT S x).map λp=>(.int p.2.length,S)
 |_=>none
theorem zi5:zaY K (λxs H Q=>∃a kvs,xs=[V.ref a]/\H a=some (.dK kvs)/\Q (.int kvs.length) H) zcb:=by
 intro F j σ H ρ S S' xs z vs Q E1 hv h k
 unfold zcb at h
 split at h
 ·rename_i x
  cases e:xT S x with
  |none=>rw[e] at h;cases h
  |some p=>
   obtain⟨n,kvs⟩:=p
   rw[e] at h
   cases h
   obtain⟨w,rfl,hx⟩:=hv.d1
   obtain⟨a,ks,rfl,hj,h1,h2⟩:=E1.dk hx e
   exact⟨a,ks,rfl,h1,k _ _ _ Ext.refl E1 (by rw[h2.len];exact .int _)⟩
 ·cases h
theorem znj {a:Addr} {ks:List (Key×V)} (h:Rd H a (.dK ks)):tyV K "dict" (.ref a) H:= .inr (.inr (.inl ⟨rfl,.inl ⟨ks,h⟩⟩))
theorem tyD {a:Addr} {ks:List (Key×V)} (h:H a=some (.dK ks)):tyV K "dict" (.ref a) H:=znj (.inl h)
end
open PySem.Builtin.Int (intBits)
def W {α:Type} (r:Option (Rs α)) (P:α->Sto->Prop):Prop:=∃a S,r=some (.ok a S)/\P a S
def WO (r:Option (Xv×Sto)) (P:Xv->Sto->Prop):Prop:=∃a S,r=some (a,S)/\P a S
def WS (r:Option Fl) (N:Rho->Sto->Prop) (R:Xv->Sto->Prop):Prop:=(∃ρ S,r=some (.nx ρ S)/\N ρ S)\/∃x S,r=some (.rt x S)/\R x S
section
variable {ρ:Rho} {S S':Sto} {d x y:Xv} {a b m o:TwE} {c:TwT} {s t:TwS} {i k:Nat} {P:Xv->Sto->Prop} {PB:Bool->Sto->Prop} {PL:List Xv->Sto->Prop} {PO:Option Int->Sto->Prop} {N:Rho->Sto->Prop} {R:Xv->Sto->Prop}
theorem W.of {α:Type} {r:Option (Rs α)} {a:α} {P:α->Sto->Prop} (e:r=some (.ok a S)) (h:P a S):W r P:=⟨a,S,e,h⟩
theorem WO.of {r:Option (Xv×Sto)} (e:r=some (x,S)) (h:P x S):WO r P:=⟨x,S,e,h⟩
theorem W.imp {α:Type} {r:Option (Rs α)} {P Q:α->Sto->Prop} (h:W r P) (k:∀a S,P a S->Q a S):W r Q:=by
 obtain⟨a,S,e,h⟩:=h
 exact⟨a,S,e,k _ _ h⟩
theorem WS.nx {r:Option Fl} (e:r=some (.nx ρ S)) (h:N ρ S):WS r N R:= .inl ⟨ρ,S,e,h⟩
theorem WS.rt {r:Option Fl} (e:r=some (.rt x S)) (h:R x S):WS r N R:= .inr ⟨x,S,e,h⟩
theorem W.bind {α β:Type} {r:Option (Rs α)} {f:α->Sto->Option (Rs β)} {P:β->Sto->Prop} (h:W r λa S=>W (f a S) P):W (rb r f) P:=by
 obtain⟨a,S,rfl,h⟩:=h
 exact h
theorem WS.bind {α:Type} {r:Option (Rs α)} {f:α->Sto->Option Fl} (h:W r λa S=>WS (f a S) N R):WS (sb r f) N R:=by
 obtain⟨a,S,rfl,h⟩:=h
 exact h
theorem W.okP {r:Option (Xv×Sto)} (h:WO r P):W (okP r) P:=by
 obtain⟨a,S,rfl,h⟩:=h
 exact⟨a,S,rfl,h⟩
theorem zlf (h:ρ[i]? =some (some d)) (k:P d S):W (za i ρ S) P:= .of (by unfold za;rw[h]) k
theorem znk (k:P d S):W (eC d ρ S) P:= .of rfl k
theorem Ze {f:Op2} (h:W (a ρ S) λx S1=>W (b ρ S1) λy S2=>WO (f x y S2) P):W (eOp f a b ρ S) P:=W.bind (h.imp λ_ _ h=>W.bind (h.imp λ_ _ h=>W.okP h))
theorem zmI {f:Xv->Sto->Option (Xv×Sto)} (h:W (a ρ S) λx S1=>WO (f x S1) P):W (eUn f a ρ S) P:=W.bind (h.imp λ_ _ h=>W.okP h)
theorem zkh (h:W (a ρ S) λx S1=>∃v,x= .bl v/\PB v S1):W (bE a ρ S) PB:=W.bind (h.imp λx S1 h=>by obtain⟨v,rfl,k⟩:=h;exact .of rfl k)
theorem zmJ (h:W (c ρ S) λv S1=>P (.bl v) S1):W (eB c ρ S) P:=W.bind (h.imp λ_ _ k=> .of rfl k)
theorem zlg (h:W (c ρ S) λv S1=>PB (!v) S1):W (zdb c ρ S) PB:=W.bind (h.imp λ_ _ k=> .of rfl k)
theorem zgY {c2:TwT} (h:W (c ρ S) λv S1=>(v=true->W (c2 ρ S1) PB)/\(v=false->PB false S1)):W (ziP c c2 ρ S) PB:=W.bind (h.imp λv S1 k=>by
 cases v with
 |true=>rw[if_pos rfl];exact k.1 rfl
 |false=>exact .of rfl (k.2 rfl))
theorem zel {c2:TwT} (h:W (c ρ S) λv S1=>(v=true->PB true S1)/\(v=false->W (c2 ρ S1) PB)):W (bOr c c2 ρ S) PB:=W.bind (h.imp λv S1 k=>by
 cases v with
 |true=>exact .of rfl (k.1 rfl)
 |false=>rw[if_neg (by simp)];exact k.2 rfl)
theorem zi6 (h:W (a ρ S) λx S1=>∃v,x= .bl v/\(v=true->W (b ρ S1) P)/\(v=false->P (.bl false) S1)):W (zk4 a b ρ S) P:=W.bind ((zkh h).imp λv S1 k=>by
 cases v with
 |true=>rw[if_pos rfl];exact k.1 rfl
 |false=>exact .of rfl (k.2 rfl))
theorem zdh (h:W (c ρ S) λv S1=>(v=true->W (a ρ S1) P)/\(v=false->W (b ρ S1) P)):W (eIf c a b ρ S) P:=W.bind (h.imp λv S1 k=>by
 cases v with
 |true=>rw[if_pos rfl];exact k.1 rfl
 |false=>rw[if_neg (by simp)];exact k.2 rfl)
theorem zdi (k:PL [] S):W (evL [] ρ S) PL:= .of rfl k
theorem wL {ms:List TwE} (h:W (m ρ S) λd S1=>W (evL ms ρ S1) λds S2=>PL (d::ds) S2):W (evL (m::ms) ρ S) PL:=W.bind (h.imp λ_ _ h=>W.bind (h.imp λ_ _ k=> .of rfl k))
theorem zgZ {ms:List TwE} (h:W (evL ms ρ S) λds S1=>P (.tup ds) S1):W (ZK ms ρ S) P:=W.bind (h.imp λ_ _ k=> .of rfl k)
theorem zlh {ms:List TwE} (h:W (evL ms ρ S) λds S1=>P (.ref S1.length) (S1++[.lst ds])):W (VP ms ρ S) P:=W.bind (h.imp λ_ _ k=> .of rfl k)
theorem zem {f:Opn} {ms:List TwE} (h:W (evL ms ρ S) λds S1=>WO (f ds S1) P):W (eFn f ms ρ S) P:=W.bind (h.imp λ_ _ h=>W.okP h)
theorem VX {tw:TwF} {ms:List TwE} (h:W (evL ms ρ S) λds S1=>W (tw ds S1) P):W (zH tw ms ρ S) P:=W.bind h
theorem zli (k:PO none S):W (oNo ρ S) PO:= .of rfl k
theorem zg0 (h:W (m ρ S) λx S1=>∃k,x= .int k/\PO (some k) S1):W (zak m ρ S) PO:=W.bind (h.imp λx S1 h=>by obtain⟨v,rfl,k⟩:=h;exact .of rfl k)
theorem zmK {f:Xv->Option Int->Option Int->Sto->Option (Xv×Sto)} {lo hi:TwO} (h:W (m ρ S) λx S1=>W (lo ρ S1) λu S2=>W (hi ρ S2) λv S3=>WO (f x u v S3) P):W (eSl f m lo hi ρ S) P:=
 W.bind (h.imp λ_ _ h=>W.bind (h.imp λ_ _ h=>W.bind (h.imp λ_ _ h=>W.okP h)))
theorem Yp {f:OpM} {ms:List TwE} (h:W (o ρ S) λx S1=>(∃l,zv S1 x=some l)/\W (evL ms ρ S1) λys S2=>WO (f x ys S2) P):W (eMt f o ms ρ S) P:=W.bind (h.imp λx S1 h=>by
 obtain⟨⟨l,e⟩,h⟩:=h
 rw[e,A1]
 exact W.bind (h.imp λ_ _ h=>W.okP h))
theorem zg1 (k:P (.ref S.length) (S++[.dk []])):W (zbb ρ S) P:= .of rfl k
theorem zg2 (h:W (a ρ S) λx S1=>W (b ρ S1) λy S2=>∃n kvs k z,zfo S2 x=some (n,kvs)/\Ws y=some k/\wY kvs k=some z/\P z S2):W (zek a b ρ S) P:=
 W.bind (h.imp λ_ _ h=>W.bind (h.imp λ_ _ h=>by obtain⟨n,kvs,k,z,e1,e2,e3,q⟩:=h;rw[e1,e2];dsimp only;rw[e3];exact .of rfl q))
theorem zi7 (h:W (a ρ S) λx S1=>W (b ρ S1) λy S2=>∃n kvs k z,xT S2 x=some (n,kvs)/\Ws y=some k/\wY kvs k=some z/\P z S2):W (zek a b ρ S) P:=zg2 (h.imp λ_ _ h=>h.imp λ_ _ ⟨n,kvs,k,z,e,r⟩=>⟨n,kvs,k,z,zi0 e,r⟩)
theorem zcc {z:TwE} (h:W (a ρ S) λx S1=>(∃p,xT S1 x=some p)/\W (b ρ S1) λy S2=>W (z ρ S2) λw S3=>∃n kvs k,xT S3 x=some (n,kvs)/\Ws y=some k/\P ((wY kvs k).getD w) S3):W (US a b z ρ S) P:=
 W.bind (h.imp λx S1 h=>by
  obtain⟨⟨p,e0⟩,h⟩:=h
  rw[e0,A1]
  exact W.bind (h.imp λ_ _ h=>W.bind (h.imp λ_ _ h=>by obtain⟨n,kvs,k,e1,e2,q⟩:=h;rw[e1,e2];exact .of rfl q)))
theorem zbc (h:W (m ρ S) λz S1=>W (a ρ S1) λx S2=>W (b ρ S2) λy S3=>∃n kvs k,xT S3 x=some (n,kvs)/\Ws y=some k/\kvs.length<sizeLine/\N ρ (S3.set n (.dk (zfp kvs k z)))):WS (WZ a b m ρ S) N R:=
 WS.bind (h.imp λ_ _ h=>WS.bind (h.imp λ_ _ h=>WS.bind (h.imp λ_ _ h=>by obtain⟨n,kvs,k,e1,e2,e3,q⟩:=h;rw[e1,e2];dsimp only;rw[if_pos e3];exact .nx rfl q)))
theorem zR (h:WS (s ρ S) (λρ1 S1=>WS (t ρ1 S1) N R) R):WS (zl s t ρ S) N R:=by
 unfold zl
 rcases h with⟨ρ1,S1,e,h⟩|⟨x,S1,e,h⟩
 ·rw[e];exact h
 ·rw[e];exact .rt rfl h
theorem yx (h:N ρ S):WS (yt ρ S) N R:= .nx rfl h
theorem yW (h:W (m ρ S) λd S1=>N (ρ.set i (some d)) S1):WS (zr m (gN i) ρ S) N R:=WS.bind (h.imp λ_ _ k=> .nx rfl k)
theorem zcd (h:W (m ρ S) λd S1=>W (a ρ S1) λx S2=>W (b ρ S2) λy S3=>∃n l q j,Wp S3 x=some (n,l)/\y= .int q/\ixN l.length q=some j/\N ρ (S3.set n (.lst (l.set j d)))):WS (zr m (za0 a b) ρ S) N R:=
 WS.bind (h.imp λd S1 h=>WS.bind (W.bind (h.imp λx S2 h=>W.bind (h.imp λy S3 h=>by
  obtain⟨n,l,q,j,e1,rfl,e2,k⟩:=h
  rw[e1]
  dsimp only
  rw[e2]
  exact .of rfl (.nx rfl k)))))
theorem vX (h:W (m ρ S) λ_ S1=>N ρ S1):WS (vR m ρ S) N R:=WS.bind (h.imp λ_ _ k=> .nx rfl k)
theorem YB (h:W (m ρ S) λd S1=>R d S1):WS (yB m ρ S) N R:=WS.bind (h.imp λ_ _ k=> .rt rfl k)
theorem yG (h:W (c ρ S) λv S1=>(v=true->WS (s ρ S1) N R)/\(v=false->WS (t ρ S1) N R)):WS (sIf c s t ρ S) N R:=WS.bind (h.imp λv S1 k=>by
 cases v with
 |true=>rw[if_pos rfl];exact k.1 rfl
 |false=>rw[if_neg (by simp)];exact k.2 rfl)
theorem zg3 {ms:List TwE} (h:W (evL ms ρ S) λl S1=>∃x y,l=[x,y]/\N ((ρ.set i (some x)).set k (some y)) S1):WS (ziV i k ms ρ S) N R:=WS.bind (h.imp λl S1 h=>by
 obtain⟨x,y,rfl,q⟩:=h
 exact .nx rfl q)
theorem YC {r:Option Fl} (I:Rho->Sto->Prop) (h:WS r I R) (k:∀ρ S,I ρ S->N ρ S):WS r N R:=by
 rcases h with⟨ρ,S,e,h⟩|h
 ·exact .inl ⟨ρ,S,e,k ρ S h⟩
 ·exact .inr h
theorem zg4 {n:Nat} (h:WS (Yz c s n ρ S) N R):WS (sWh n c s ρ S) N R:=h
theorem Xp {n:Nat} (h:W (c ρ S) λv S1=>(v=true->WS (s ρ S1) (λρ2 S2=>WS (Yz c s n ρ2 S2) N R) R)/\(v=false->N ρ S1)):WS (Yz c s (n+1) ρ S) N R:=by
 unfold Yz
 refine WS.bind (h.imp λv S1 k=> ?_)
 cases v with
 |true=>
  rw[if_pos rfl]
  rcases k.1 rfl with⟨ρ2,S2,e2,h⟩|⟨x,S2,e2,h⟩
  ·rw[e2];exact h
  ·rw[e2];exact .rt rfl h
 |false=>exact .nx rfl (k.2 rfl)
theorem xK {n:TwI} {g:TwG} (h:W (n ρ S) λget S1=>∃xs,get S1=some xs/\WS (XI get g s (xs.length+1) 0 ρ S1) N R):WS (ZL n g s ρ S) N R:=WS.bind (h.imp λget S1 h=>by
 obtain⟨xs,e,h⟩:=h
 rw[e,A1]
 exact h)
theorem yN {get:Sto->Option (List Xv)} {g:TwG} {xs:List Xv} (J:Nat->Rho->Sto->Prop) (hg:∀i ρ S,i<=xs.length->J i ρ S->get S=some xs)
  (h:∀(i:Nat) (x:Xv) ρ S,xs[i]? =some x->J i ρ S->W (g x ρ S) λρ1 S1=>WS (s ρ1 S1) (λρ2 S2=>J (i+1) ρ2 S2) R) (h0:J 0 ρ S) (k:∀ρ S,J xs.length ρ S->N ρ S):WS (XI get g s (xs.length+1) 0 ρ S) N R:=by
 have aux:∀(n i:Nat) (ρ:Rho) (S:Sto),i+n=xs.length->J i ρ S->WS (XI get g s (n+1) i ρ S) N R:=by
  intro n
  induction n with
  |zero=>
   intro i ρ S e hj
   unfold XI
   rw[hg i ρ S ⋯ hj,A1,Aq ⋯]
   dsimp only
   rw[if_pos ⋯]
   exact .nx rfl (k ρ S (by rw[show xs.length=i by omega];exact hj))
  |succ n ih=>
   intro i ρ S e hj
   unfold XI
   have hi:i<xs.length:=by omega
   rw[hg i ρ S ⋯ hj,A1,y6 hi]
   refine WS.bind ((h i _ ρ S (y6 hi) hj).imp λρ1 S1 h1=> ?_)
   rcases h1 with⟨ρ2,S2,e2,h2⟩|⟨x,S2,e2,h2⟩
   ·rw[e2];exact ih (i+1) ρ2 S2 ⋯ h2
   ·rw[e2];exact .rt rfl h2
 exact aux xs.length 0 ρ S ⋯ h0
theorem vS (h:W (m ρ S) λx S1=>∃l,zv S1 x=some l/\Q' (λS=>zv S x) S1):W (iL m ρ S) Q':=W.bind (h.imp λx S1 h=>by
 obtain⟨l,e,k⟩:=h
 rw[e]
 exact .of rfl k)
theorem zdj {Q':(Sto->Option (List Xv))->Sto->Prop} (h:W (m ρ S) λx S1=>∃l,zv S1 x=some l/\Q' (λS=>(zv S x).map xJ) S1):W (iEn m ρ S) Q':=W.bind (h.imp λx S1 h=>by
 obtain⟨l,e,k⟩:=h
 rw[e]
 exact .of rfl k)
theorem UT {Q':(Sto->Option (List Xv))->Sto->Prop} (h:W (m ρ S) λx S1=>∃k:Int,x= .int k/\(-(2^62)<=k/\k<2^62)/\Q' (λ_=>some (yC 0 k.toNat)) S1):W (iR1 m ρ S) Q':=W.bind (h.imp λx S1 h=>by
 obtain⟨k,rfl,hk,q⟩:=h
 dsimp only
 rw[if_pos hk]
 exact .of rfl q)
theorem ZN {lo:Int} {n i:Nat} {x:Xv} (h:(yC lo n)[i]? =some x):i<n/\x= .int (lo+i):=by
 unfold yC at h
 rw[y8] at h
 have hi:i<n:=by
  apply BR
  intro hn
  rw[Aq (by simp;omega)] at h
  cases h
 rw[B7 hi] at h
 cases h
 exact⟨hi,rfl⟩
theorem xL {lo:Int} {n:Nat}:(yC lo n).length=n:=by simp[yC]
theorem yO {cap:List (Option Nat)} {n:TwI} {g:TwG} (h:W (n ρ S) λget S1=>∃xs,get S1=some xs/\W (wJ get g c m (za5 cap ρ) (xs.length+1) 0 [] S1) P):W (xy cap n g c m ρ S) P:=W.bind (h.imp λget S1 h=>by
 obtain⟨xs,e,h⟩:=h
 rw[e,A1]
 exact h)
theorem yu {get:Sto->Option (List Xv)} {g:TwG} {ρc:Rho} {xs:List Xv} (hl:xs.length<=sizeLine) (J:Nat->List Xv->Sto->Prop) (hg:∀i es S,i<=xs.length->J i es S->get S=some xs)
  (h:∀(i:Nat) (x:Xv) es S,xs[i]? =some x->es.length=i->J i es S->W (g x ρc S) λρ1 S1=>W (c ρ1 S1) λb S2=>b=true/\W (m ρ1 S2) λy S3=>J (i+1) (es++[y]) S3) (h0:J 0 [] S)
  (k:∀es S,es.length=xs.length->J xs.length es S->P (.ref S.length) (S++[.lst es])):W (wJ get g c m ρc (xs.length+1) 0 [] S) P:=by
 have aux:∀(n i:Nat) (es:List Xv) (S:Sto),i+n=xs.length->es.length=i->J i es S->W (wJ get g c m ρc (n+1) i es S) P:=by
  intro n
  induction n with
  |zero=>
   intro i es S e el hj
   unfold wJ
   rw[hg i es S ⋯ hj,A1,Aq ⋯]
   dsimp only
   rw[if_pos ⋯]
   exact .of rfl (k es S ⋯ (by rw[show xs.length=i by omega];exact hj))
  |succ n ih=>
   intro i es S e el hj
   unfold wJ
   have hi:i<xs.length:=by omega
   rw[hg i es S ⋯ hj,A1,y6 hi]
   obtain⟨ρ1,S1,e1,b,S2,e2,rfl,y,S3,e3,q⟩:=h i _ es S (y6 hi) el hj
   dsimp only[rn]
   rw[e1]
   dsimp only[rn]
   rw[e2]
   dsimp only[rn]
   rw[if_pos rfl,e3]
   dsimp only[rn]
   rw[if_pos ⋯]
   exact ih (i+1) (es++[y]) S3 ⋯ (by simp[el]) q
 exact aux xs.length 0 [] S ⋯ rfl h0
theorem zi8 (k:PB true S):W (xH ρ S) PB:= .of rfl k
theorem zlj {n k:Nat} {xs:List Xv} {ρ0:Rho} (hn:xs.length=n) (h0:xs.map some++z9 k none=ρ0) (h:WS (s ρ0 S) (λ_ S1=>P .non S1) P):W (yd n k s xs S) P:=by
 unfold yd
 rw[if_pos hn,h0]
 rcases h with⟨ρ,S1,e,h⟩|⟨x,S1,e,h⟩
 ·rw[e];exact .of rfl h
 ·rw[e];exact .of rfl h
variable {p q:Int}
theorem zlk (k:P (.int (p+q)) S):WO (xB (.int p) (.int q) S) P:= .of rfl k
theorem zll (k:P (.int (p-q)) S):WO (Ya (.int p) (.int q) S) P:= .of rfl k
theorem zlm (k:P (.int (-p)) S):WO (WY (.int p) S) P:= .of rfl k
theorem zmL (k:P (.bl (decide (p<q))) S):WO (dLt (.int p) (.int q) S) P:= .of rfl k
theorem zmM (k:P (.bl (decide (q<p))) S):WO (dGt (.int p) (.int q) S) P:= .of rfl k
theorem zln (k:P (.bl (decide (p=q))) S):WO (za6 (.int p) (.int q) S) P:= .of rfl k
theorem zlo (k:P (.bl (!decide (p=q))) S):WO (UK (.int p) (.int q) S) P:= .of rfl k
theorem yX (h:0<q) (k:P (.int (p % q)) S):WO (wX (.int p) (.int q) S) P:= .of (by unfold wX xIC;exact if_pos (by simpa using h)) k
theorem zi9 (h:intBits p+intBits q<=134217728) (k:P (.int (p*q)) S):WO (yk (.int p) (.int q) S) P:= .of (by unfold yk xIC;exact if_pos (by simpa using h)) k
theorem zlp (h:(-(2^64)<p/\p<2^64)\/(-(2^64)<q/\q<2^64)) (k:P (.int (p*q)) S):WO (UJ (.int p) (.int q) S) P:= .of (by unfold UJ xIC;exact if_pos (decide_eq_true h)) k
theorem zlq (h:0<=q/\q<=1000000/\p.natAbs<2^64) (k:P (.int (p^q.toNat)) S):WO (zfk (.int p) (.int q) S) P:= .of (by unfold zfk xIC;exact if_pos (decide_eq_true h)) k
theorem zen (h:0<q/\q<1073741824) (k:P (.int (p / q)) S):WO (Vz (.int p) (.int q) S) P:= .of (by unfold Vz xIC;exact if_pos (decide_eq_true h)) k
theorem YD (h:q≠0/\intBits q<=9000) (k:P (.int (p.fdiv q)) S):WO (wK (.int p) (.int q) S) P:= .of (by unfold wK xIC;exact if_pos (decide_eq_true h)) k
theorem Zf {l:List Xv} (h:zv S x=some l) (k:P (.int l.length) S):WO (XS [x] S) P:= .of (by
 unfold XS Wo
 dsimp only
 have:x.tupOf=none:=by cases x<;>first|rfl|cases h
 rw[this]
 dsimp only
 rw[h]
 rfl) k
theorem wM {l:List Xv} {z:Xv} (h:zv S x=some l) (e:atI l p=some z) (k:P z S):WO (vH x (.int p) S) P:= .of (by unfold vH;rw[h];dsimp only;rw[e];rfl) k
theorem vf {l:List Xv} {z:Xv} (h:x.tupOf=some l) (e:atI l p=some z) (k:P z S):WO (xY x (.int p) S) P:= .of (by unfold xY;rw[h];dsimp only;rw[e];rfl) k
theorem zki {β:Type} {x:β} {l:List β}:atI (x::l) 0=some x:=by
 unfold atI ixN
 rw[if_pos (show (0:Int)<=0 by decide),if_pos (by simp only[Ah];omega)]
 rfl
theorem zmN {β:Type} {x y:β} {l:List β}:atI (x::y::l) 1=some y:=by
 unfold atI ixN
 rw[if_pos (show (0:Int)<=1 by decide),if_pos (by simp only[Ah];omega)]
 rfl
theorem zlr {l:List Xv} (k:P x S):WO (xY (.tup (x::l)) (.int 0) S) P:=vf rfl zki k
theorem zls {l:List Xv} (k:P y S):WO (xY (.tup (x::y::l)) (.int 1) S) P:=vf rfl zmN k
theorem Zt {β:Type} {l:List β} {k:Int} {z:β} (h0:0<=k) (h:l[k.toNat]? =some z):atI l k=some z:=by
 have hk:=(y4.1 h).1
 unfold atI ixN
 rw[if_pos h0,if_pos ⋯]
 exact h
theorem yY {n:Nat} {l:List Xv} (h:Wp S x=some (n,l)) (hz:l.length<sizeLine) (k:P .non (S.set n (.lst (l++[y])))):WO (yw x [y] S) P:= .of (by unfold yw;rw[h];dsimp only;rw[if_pos hz]) k
theorem zbd {l:List Xv} {lo hi:Option Int} (h:zv S x=some l) (k:P (.ref S.length) (S++[.lst (zb1 l lo hi)])):WO (Tt x lo hi S) P:= .of (by unfold Tt;rw[h];rfl) k
theorem zja {l:List Xv} (h:zv S x=some l) (k:P (.ref S.length) (S++[.lst l])):WO (zb6 [x] S) P:= .of (by
 unfold zb6 Wo
 dsimp only
 have:x.tupOf=none:=by cases x<;>first|rfl|cases h
 rw[this]
 dsimp only
 rw[h]
 rfl) k
theorem zg5 {c:String} {v:Bool} (h:zgW c S x=some v) (k:P (.bl v) S):WO (zfn c x S) P:= .of (by unfold zfn;rw[h];rfl) k
end
theorem xk {S:Sto} {n:Nat} {l:List Xv} (h:S[n]? =some (.lst l)):Wp S (.ref n)=some (n,l):=by simp[Wp,h]
theorem zb {S:Sto} {n:Nat} {l:List Xv} (h:S[n]? =some (.lst l)):zv S (.ref n)=some l:=by simp[zv,h]
theorem yP {S:Sto} {n:Nat} {l:List (Key×Xv)} (h:S[n]? =some (.dk l)):xT S (.ref n)=some (n,l):=by simp[xT,h]
end L2
namespace L2
open PySem PySem.Spec PyProof.Rows PySem.Calls
section
variable {X:Cx}
end
section
variable {K:y3} {E:XK}
end
section
variable {K:y3} {E:XK}
noncomputable def ZO (xs ys:List Xv):List Xv:=(xs.zip ys).map λp=> .tup [p.1,p.2]
theorem Zl {xs ys:List Xv} {i:Nat} {z:Xv} (h:(ZO xs ys)[i]? =some z):∃x y,xs[i]? =some x/\ys[i]? =some y/\z= .tup [x,y]:=by
 unfold ZO at h
 rw[y8] at h
 cases e:(xs.zip ys)[i]? with
 |none=>rw[e] at h;cases h
 |some p=>
  rw[e] at h
  cases h
  have:=Ba.1 e
  exact⟨p.1,p.2,this.1,this.2,rfl⟩
theorem vC (xs ys:List Xv):(ZO xs ys).length=min xs.length ys.length:=by simp[ZO]
def Tu (m n:TwE):TwI:=λρ S=>rb (m ρ S) λx S1=>rb (n ρ S1) λy S2=>match zv S2 x,zv S2 y with
 |some _,some _=>some (.ok (λS=>match zv S x,zv S y with
  |some l,some k=>some (ZO l k)
  |_,_=>none) S2)
 |_,_=>none
theorem zdk {ta tb:TE} {m n:TwE} (ha:RE K E ta m) (hb:RE K E tb n):RI K E (zkb K (Yw ta (Yw tb zbI))) (Tu m n):=by
 intro F j σ H ρ S r R En0 e k
 rcases zj e with⟨x,S1,e1,e⟩|⟨c,S1,e1,rfl⟩
 ·refine ha En0 e1 λj1 H1 X1 E1 u hu=> ?_
  rcases zj e with⟨y,S2,e2,e⟩|⟨c,S2,e2,rfl⟩
  ·cases el:zv S2 x with
   |none=>rw[el] at e;cases e
   |some l=>
    cases em:zv S2 y with
    |none=>rw[el,em] at e;cases e
    |some l'=>
     rw[el,em] at e
     cases e
     refine hb E1 e2 λj2 H2 X2 E2 v hv=> ?_
     have pP:=hu.mono X2
     obtain⟨a,vs,rfl,h1,_⟩:=E2.lstAt pP el
     obtain⟨b,ws,rfl,h2,_⟩:=E2.lstAt hv em
     refine⟨a,b,rfl,⟨vs,h1.sql⟩,⟨ws,h2.sql⟩,k _ _ (X1.trans X2) E2 _ ?_⟩
     intro F3 j3 H3 σ3 ρ3 S3 xs i X3 E3 e3
     dsimp only at e3
     cases ft:zv S3 x with
     |none=>rw[ft] at e3;cases e3
     |some p1=>
      cases oE:zv S3 y with
      |none=>rw[ft,oE] at e3;cases e3
      |some p2=>
       rw[ft,oE] at e3
       cases e3
       obtain⟨a',vs',ea,g1,g2⟩:=E3.lstAt (pP.mono X3) ft
       cases ea
       obtain⟨b',ws',eb,g3,g4⟩:=E3.lstAt (hv.mono X3) oE
       cases eb
       refine⟨λz ez=> ?_,λhle=>⟨vs',ws',g1.sql,g3.sql,by rw[g2.len,g4.len];rw[vC] at hle;omega⟩⟩
       obtain⟨z1,z2,ud,uc,rfl⟩:=Zl ez
       obtain⟨w1,f1,f2⟩:=g2.get ud
       obtain⟨w2,f3,f4⟩:=g4.get uc
       refine⟨⟨vs',ws',w1,w2,g1.sql,g3.sql,f1,f3⟩,?_⟩
       rintro v' H' ⟨p,u',w',rfl,hp,rfl,hx,hy⟩
       have q1:=hx vs' g1.sql
       have q2:=hy ws' g3.sql
       rw[f1] at q1
       rw[f3] at q2
       cases q1;cases q2
       exact⟨yl hp,.tup zm (.cons (f2.mono (Ext.same (yl hp))) (.one (f4.mono (Ext.same (yl hp)))))⟩
  ·exact hb E1 e2 (PX.mono k X1)
 ·exact ha En0 e1 k
theorem Xq {ρ:Rho} {S:Sto} {m n:TwE} {Q':(Sto->Option (List Xv))->Sto->Prop} (h:W (m ρ S) λx S1=>W (n ρ S1) λy S2=>(∃l,zv S2 x=some l)/\(∃k,zv S2 y=some k)/\Q' (λS=>match zv S x,zv S y with
  |some l,some k=>some (ZO l k)
  |_,_=>none) S2):W (Tu m n ρ S) Q':=W.bind (h.imp λx S1 h=>W.bind (h.imp λy S2 h=>by
 obtain⟨⟨l,e1⟩,⟨k,e2⟩,q⟩:=h
 rw[e1,e2]
 exact .of rfl q))
theorem wj {S:Sto} {x y:Xv} {l k:List Xv} (h1:zv S x=some l) (h2:zv S y=some k):(match zv S x,zv S y with
  |some l,some k=>some (ZO l k)
  |_,_=>none)=some (ZO l k):=by rw[h1,h2]
end
noncomputable def XD (f:D->D->Option Bool):List D->List D->Option Bool
 |a::l,b::m=>(f a b).bind λx=>(XD f l m).map (x&& ·)
 |_,_=>some true
theorem Xr {f:D->D->Option Bool}:∀{l m:List D} {b:Bool},XD f l m=some b->∃e:Nat->Bool,(∀(j:Nat) a c,l[j]? =some a->m[j]? =some c->f a c=some (e j))/\b=(Bt (min l.length m.length)).all e
 |[],m,b,h=>by
  unfold XD at h
  cases h
  exact⟨λ_=>true,λj a c ha=>by simp at ha,by simp⟩
 |a::l,[],b,h=>by
  unfold XD at h
  cases h
  exact⟨λ_=>true,λj a c ha hc=>by simp at hc,by simp⟩
 |a::l,c::m,b,h=>by
  unfold XD at h
  cases e1:f a c with
  |none=>rw[e1] at h;cases h
  |some x=>
   rw[e1,A1] at h
   cases e2:XD f l m with
   |none=>rw[e2] at h;cases h
   |some y=>
    rw[e2] at h
    cases h
    obtain⟨e,k,rfl⟩:=Xr e2
    refine⟨λj=>match j with
     |0=>x
     |j+1=>e j,λj p q hp hq=> ?_,?_⟩
    ·cases j with
     |zero=>simp at hp hq;subst hp hq;exact e1
     |succ j=>exact k j p q (by simpa using hp) (by simpa using hq)
    ·rw[Ah,Ah,Nat.succ_min_succ,Ek,List.all_cons,List.all_map]
     rfl
noncomputable def eqG:Nat->D->D->Option Bool
 |0,d,e=>match d,e with
  | .non,.non=>some true
  | .bl a,.bl b=>some (a==b)
  | .int a,.int b=>some (a==b)
  | .str a,.str b=>some (a==b)
  |_,_=>none
 |n+1,d,e=>match d,e with
  | .non,.non=>some true
  | .bl a,.bl b=>some (a==b)
  | .int a,.int b=>some (a==b)
  | .str a,.str b=>some (a==b)
  | .tup l,.tup m=>(XD (eqG n) l m).map (· &&(l.length==m.length))
  | .lst l,.lst m=>if l.length=m.length then XD (eqG n) l m else some false
  |_,_=>none
section
variable {X:Cx} {pins:List (Addr×Obj)} {σ:St} {H:Hp} {s:Shared}
theorem zfq {n:Nat} {e:Nat->Bool} (h:∀j,j<n->e j=true):(Bt n).all e=true:=D0.2 λj hj=>h j (BX.1 hj)
theorem zg6 (I:Inv X pins σ H s):∀(n:Nat) {d e:D} {x:V} {b:Bool},eqG n d e=some b->Is X.K H x d->Is X.K H x e->b=true:=by
 intro n
 induction n with
 |zero=>
  intro d e x b h hx hy
  unfold eqG at h
  split at h
  ·cases h;rfl
  ·rw[hx.bl_inv] at hy;cases hy;cases h;simp
  ·rw[hx.int_inv] at hy;cases hy;cases h;simp
  ·rw[hx.str_inv] at hy;cases hy;cases h;simp
  ·cases h
 |succ n ih=>
  intro d e x b h hx hy
  unfold eqG at h
  have items:∀{xs:List V} {l m:List D} {b:Bool},XD (eqG n) l m=some b->IsL X.K H xs l->IsL X.K H xs m->b=true:=λ{xs l m b} ha hl hm=>by
   obtain⟨e,k,rfl⟩:=Xr ha
   refine zfq λj hj=> ?_
   have h1:j<l.length:=by omega
   have h2:j<m.length:=by omega
   obtain⟨x,dP,dO⟩:=hl.get (y6 h1)
   obtain⟨y,lx,cU⟩:=hm.get (y6 h2)
   rw[dP] at lx
   cases lx
   exact ih (k j _ _ (y6 h1) (y6 h2)) dO cU
  split at h
  ·cases h;rfl
  ·rw[hx.bl_inv] at hy;cases hy;cases h;simp
  ·rw[hx.int_inv] at hy;cases hy;cases h;simp
  ·rw[hx.str_inv] at hy;cases hy;cases h;simp
  ·rename_i l m
   cases ha:XD (eqG n) l m with
   |none=>rw[ha] at h;cases h
   |some b'=>
    rw[ha] at h
    cases h
    obtain⟨a,xs,rfl,h1,h2⟩:=hx.tup_inv
    obtain⟨a',ys,e,g1,g2⟩:=hy.tup_inv
    cases e
    obtain rfl:=I.tuple_inj h1 g1
    rw[items ha h2 g2]
    have e3:=h2.len;have e4:=g2.len
    simp;omega
  ·rename_i l m
   obtain⟨a,xs,rfl,h1,h2⟩:=hx.lst_inv
   obtain⟨a',ys,e,g1,g2⟩:=hy.lst_inv
   cases e
   obtain rfl:=I.list_inj h1 g1
   have e3:=h2.len;have e4:=g2.len
   rw[if_pos ⋯] at h
   exact items h h2 g2
  ·cases h
theorem Xs {A:Around} {xs ys:List V} {ae bS:List Value} {l m:List D} {e:Nat->Bool} (rx:zI xs ae) (ry:zI ys bS) (hx:IsL X.K H xs l) (hy:IsL X.K H ys m)
  (k:∀{x y:V} {u v:Value} {d d':D} {j:Nat},l[j]? =some d->m[j]? =some d'->Is X.K H x d->Is X.K H y d'->zD x u->zD y v->SeqAt.EqAt A.in1 s u v (e j)):
  ∀j (h1:j<ae.toArray.size) (h2:j<bS.toArray.size),SeqAt.EqAt A.in1 s ae.toArray[j] bS.toArray[j] (e j):=by
 intro j h1 h2
 have e1:j<xs.length:=by rw[rx.length];simpa using h1
 have e2:j<ys.length:=by rw[ry.length];simpa using h2
 have el:j<l.length:=by rw[<-hx.len];exact e1
 have em:j<m.length:=by rw[<-hy.len];exact e2
 obtain⟨x,dP,dO⟩:=hx.get (i:=j) (d:=l[j]) (y6 el)
 obtain⟨y,lx,cU⟩:=hy.get (i:=j) (d:=m[j]) (y6 em)
 obtain⟨u,hu,ru⟩:=rx.get dP
 obtain⟨v,hv,rv⟩:=ry.get lx
 have g1:ae.toArray[j]=u:=by
  have:ae[j]? =some ae[j]:=y6 (by simpa using h1)
  rw[hu] at this
  simpa using (AW this).symm
 have g2:bS.toArray[j]=v:=by
  have:bS[j]? =some bS[j]:=y6 (by simpa using h2)
  rw[hv] at this
  simpa using (AW this).symm
 rw[g1,g2]
 exact k (y6 el) (y6 em) dO cU ru rv
theorem zce (I:Inv X pins σ H s):∀(n:Nat) {A:Around} {d d':D} {x y:V} {u v:Value} {b:Bool},eqG n d d'=some b->A.units+n<cLine->Is X.K H x d->Is X.K H y d'->zD x u->zD y v->SeqAt.EqAt A s u v b:=by
 intro n
 induction n with
 |zero=>
  intro A d d' x y u v b h hu hx hy ru rv
  unfold eqG at h
  split at h
  ·cases h;rw[hx.non_inv] at ru;rw[hy.non_inv] at rv;cases ru;cases rv;exact SeqAt.EqAt.same _
  ·cases h;rw[hx.bl_inv] at ru;rw[hy.bl_inv] at rv;cases ru;cases rv;exact SeqAt.EqAt.bool_bool _ _
  ·cases h;rw[hx.int_inv] at ru;rw[hy.int_inv] at rv;obtain⟨t,rfl⟩:=ru;obtain⟨t',rfl⟩:=rv;exact SeqAt.EqAt.int_int _ _ _ _
  ·cases h;rw[hx.str_inv] at ru;rw[hy.str_inv] at rv;obtain⟨t,rfl⟩:=ru;obtain⟨t',rfl⟩:=rv;exact SeqAt.EqAt.str_str _ _ _ _
  ·cases h
 |succ n ih=>
  intro A d d' x y u v b h hu hx hy ru rv
  have gS:=λ(e:x=y)=>zg6 I (n+1) h hx (e ▸ hy)
  unfold eqG at h
  split at h
  ·cases h;rw[hx.non_inv] at ru;rw[hy.non_inv] at rv;cases ru;cases rv;exact SeqAt.EqAt.same _
  ·cases h;rw[hx.bl_inv] at ru;rw[hy.bl_inv] at rv;cases ru;cases rv;exact SeqAt.EqAt.bool_bool _ _
  ·cases h;rw[hx.int_inv] at ru;rw[hy.int_inv] at rv;obtain⟨t,rfl⟩:=ru;obtain⟨t',rfl⟩:=rv;exact SeqAt.EqAt.int_int _ _ _ _
  ·cases h;rw[hx.str_inv] at ru;rw[hy.str_inv] at rv;obtain⟨t,rfl⟩:=ru;obtain⟨t',rfl⟩:=rv;exact SeqAt.EqAt.str_str _ _ _ _
  ·rename_i l m
   cases ha:XD (eqG n) l m with
   |none=>rw[ha] at h;cases h
   |some b'=>
    rw[ha] at h
    cases h
    obtain⟨e,k,rfl⟩:=Xr ha
    obtain⟨a,xs,rfl,h1,h2⟩:=hx.tup_inv
    obtain⟨a',ys,rfl,g1,g2⟩:=hy.tup_inv
    cases ru;cases rv
    by_cases fq:a=a'
    ·subst fq;rw[gS rfl];exact SeqAt.EqAt.same _
    ·obtain⟨ae,r1,p1,_⟩:=I.tuple h1
     obtain⟨bS,r2,p2,_⟩:=I.tuple g1
     refine SeqAt.EqAt.of_refs fq ?_
     have:=SeqAt.RcAt.tuples (A:=A) (e:=e) p1 p2 ⋯ (Xs r1 r2 h2 g2 λhi hj hx hy ru rv=>ih (A:=A.in1) (k _ _ _ hi hj) (by show A.units+1+n<cLine;omega) hx hy ru rv)
     have s1:ae.toArray.size=l.length:=by have e1:=r1.length;have e3:=h2.len;simp;omega
     have s2:bS.toArray.size=m.length:=by have e1:=r2.length;have e3:=g2.len;simp;omega
     rwa [s1,s2] at this
  ·rename_i l m
   obtain⟨a,xs,rfl,h1,h2⟩:=hx.lst_inv
   obtain⟨a',ys,rfl,g1,g2⟩:=hy.lst_inv
   cases ru;cases rv
   by_cases fq:a=a'
   ·subst fq;rw[gS rfl];exact SeqAt.EqAt.same _
   ·obtain⟨ae,r1,p1,_⟩:=I.list h1
    obtain⟨bS,r2,p2,_⟩:=I.list g1
    have s1:ae.toArray.size=l.length:=by have e1:=r1.length;have e3:=h2.len;simp;omega
    have s2:bS.toArray.size=m.length:=by have e1:=r2.length;have e3:=g2.len;simp;omega
    refine SeqAt.EqAt.of_refs fq ?_
    split at h
    ·rename_i kn
     obtain⟨e,k,rfl⟩:=Xr h
     have:=SeqAt.RcAt.lists (A:=A) (e:=e) p1.isList p2.isList ⋯ ⋯ (Xs r1 r2 h2 g2 λhi hj hx hy ru rv=>ih (A:=A.in1) (k _ _ _ hi hj) (by show A.units+1+n<cLine;omega) hx hy ru rv)
     rw[s1] at this
     rwa [show min l.length m.length=l.length by omega]
    ·rename_i kn
     cases h
     exact SeqAt.RcAt.lists_lengths p1.isList p2.isList (by rw[s1,s2];simpa using kn) ⋯
  ·cases h
def zmO (K:y3) (neg:Bool):R2:=λx y H Q=>∃(d e:D) (b:Bool),(∃l m,(d= .tup l/\e= .tup m)\/(d= .lst l/\e= .lst m))/\Is K H x d/\Is K H y e/\eqG 40 d e=some b/\Q (.bl (neg !=b)) H
theorem zlt {k:Nat} {K:y3} (hr:xo k X.A) (hK:X.K=K:=by rfl):OpR X (compareOp .NotEq) (zmO K true):=by
 subst hK
 intro pins s σ H x y v u Q I rx ry h
 obtain⟨d,e,b,⟨l,m,hd⟩,hx,hy,hb,q⟩:=h
 have hu:X.A.units+41<cLine:=Az ⋯ hr.units
 rw[show (true !=b)= !b by cases b<;>rfl] at q
 unfold eqG at hb
 rcases hd with⟨rfl,rfl⟩|⟨rfl,rfl⟩
 ·dsimp only at hb
  cases ha:XD (eqG 39) l m with
  |none=>rw[ha] at hb;cases hb
  |some b'=>
   rw[ha] at hb
   cases hb
   obtain⟨e,k,rfl⟩:=Xr ha
   obtain⟨a,xs,rfl,h1,h2⟩:=hx.tup_inv
   obtain⟨a',ys,rfl,g1,g2⟩:=hy.tup_inv
   cases rx;cases ry
   obtain⟨ae,r1,p1,_⟩:=I.tuple h1
   obtain⟨bS,r2,p2,_⟩:=I.tuple g1
   have s1:ae.toArray.size=l.length:=by have e1:=r1.length;have e3:=h2.len;simp;omega
   have s2:bS.toArray.size=m.length:=by have e1:=r2.length;have e3:=g2.len;simp;omega
   refine SeqAt.RcNeAt.tuples (e:=e) p1 p2 ⋯ (Xs r1 r2 h2 g2 λhi hj hx hy ru rv=>zce I 39 (A:=X.A.in1) (k _ _ _ hi hj) (by show X.A.units+1+39<cLine;omega) hx hy ru rv) _ _ _ _ ?_
   rw[s1,s2]
   exact⟨.bl _,H,I,rfl,q⟩
 ·dsimp only at hb
  obtain⟨a,xs,rfl,h1,h2⟩:=hx.lst_inv
  obtain⟨a',ys,rfl,g1,g2⟩:=hy.lst_inv
  cases rx;cases ry
  obtain⟨ae,r1,p1,_⟩:=I.list h1
  obtain⟨bS,r2,p2,_⟩:=I.list g1
  have s1:ae.toArray.size=l.length:=by have e1:=r1.length;have e3:=h2.len;simp;omega
  have s2:bS.toArray.size=m.length:=by have e1:=r2.length;have e3:=g2.len;simp;omega
  split at hb
  ·rename_i kn
   obtain⟨e,k,rfl⟩:=Xr hb
   refine SeqAt.RcNeAt.lists (e:=e) p1.isList p2.isList ⋯ ⋯ (Xs r1 r2 h2 g2 λhi hj hx hy ru rv=>zce I 39 (A:=X.A.in1) (k _ _ _ hi hj) (by show X.A.units+1+39<cLine;omega) hx hy ru rv) _ _ _ _ ?_
   rw[show min l.length m.length=l.length by omega] at q
   rw[s1]
   exact⟨.bl _,H,I,rfl,q⟩
  ·rename_i kn
   cases hb
   refine SeqAt.RcNeAt.lists_lengths p1.isList p2.isList (by rw[s1,s2];simpa using kn) ⋯ _ _ _ _ ?_
   exact⟨.bl true,H,I,rfl,q⟩
end
end L2
namespace L2
open PySem PySem.Spec PyProof.Rows PySem.Calls PySem.W
section
variable {cmp:Nat->Nat->(Bool->Shared->Prop)->Shared->Prop} {r:Nat->Int} {n:Nat} {s:Shared}
noncomputable def Kr (r:Nat->Int) (p:Array Nat) (i:Nat):Int:=r (p.getD i 0)
theorem YE {p q:Array Nat} {i j:Nat} (h:p[i]? =q[j]?):Kr r p i=Kr r q j:=by
 unfold Kr
 rw[Ds,Ds,h]
def PmN (n:Nat) (p:Array Nat):Prop:=p.Perm (Gq (Bt n))
theorem PmN.size {p:Array Nat} (h:PmN n p):p.size=n:=by
 have:=Array.Perm.size_eq h
 simpa using this
theorem PmN.lt {p:Array Nat} (h:PmN n p) {i:Nat} (hi:i<n):p.getD i 0<n:=by
 have hs:=h.size
 have fR:i<p.size:=by omega
 have e:p.getD i 0=p[i]:=by simp[FY,fR]
 rw[e]
 have:=(Array.Perm.mem_iff h).1 (Array.getElem_mem fR)
 simpa using this
theorem PmN.ne {p:Array Nat} (h:PmN n p) {i j:Nat} (hi:i<n) (hj:j<n) (fQ:i≠j):p.getD i 0≠p.getD j 0:=by
 have hs:=h.size
 have fR:i<p.size:=by omega
 have fm:j<p.size:=by omega
 have nd:p.toList.Nodup:=by
  have:=Array.Perm.toList h
  exact (this.nodup_iff).2 (by simpa using List.nodup_range)
 rw[show p.getD i 0=p.toList[i]'(by simpa using fR) by simp[FY,fR],show p.getD j 0=p.toList[j]'(by simpa using fm) by simp[FY,fm]]
 intro z
 have nd:=List.pairwise_iff_getElem.1 nd
 rcases Nat.lt_or_gt_of_ne fQ with h1|h1
 ·exact nd i j (by simpa using fR) (by simpa using fm) h1 z
 ·exact nd j i (by simpa using fm) (by simpa using fR) h1 z.symm
theorem PmN.rev {p:Array Nat} (h:PmN n p) (i j:Nat):PmN n (kas_rev p i j):=(mirror_perm _ _ _ _).trans h
theorem PmN.bub {p:Array Nat} (h:PmN n p) (k d:Nat):PmN n (bubble p k d):=(bubble_perm _ _ _).trans h
theorem zdl {p:Array Nat} {i j:Nat} (hj:j<=p.size) (k:Nat):Kr r (kas_rev p i j) k=if i<=k/\k<j then Kr r p (i+j-1-k) else Kr r p k:=by
 have e:=getElem?_mirror_all (xs:=p) (i:=i) hj k
 unfold kas_rev
 by_cases h1:i<=k/\k<j
 ·rw[if_pos h1] at e ⊢;exact YE e
 ·rw[if_neg h1] at e ⊢;exact YE e
theorem zlu {p:Array Nat} {src d:Nat} (hs:src<p.size) (hd:d<=src) (k:Nat):Kr r (bubble p src d) k=if k=src-d then Kr r p src else if src-d<k/\k<=src then Kr r p (k-1) else Kr r p k:=by
 have e:=getElem?_bubble hs d hd k
 by_cases h1:k=src-d
 ·rw[if_pos h1] at e ⊢;exact YE e
 ·rw[if_neg h1] at e ⊢
  by_cases h2:src-d<k/\k<=src
  ·rw[if_pos h2] at e ⊢;exact YE e
  ·rw[if_neg h2] at e ⊢;exact YE e
theorem Va {p:Array Nat} {i j:Nat} (hj:j<=p.size) (he:∀k,i<=k->k<j->Kr r p k=Kr r p (j-1)) (k:Nat):Kr r (kas_rev p i j) k=Kr r p k:=by
 rw[zdl hj]
 split
 ·rename_i h
  rw[he _ ⋯ ⋯,he k h.1 h.2]
 ·rfl
theorem zdm (hc:∀i j C,i<n->j<n->i≠j->C (decide (r i<r j)) s->cmp i j C s) {p:Array Nat} (hp:PmN n p) {Q:Nat->Shared->Prop}:∀(f k:Nat),1<=k->k+f=n->
  (∀m,k<=m->m<=n->(∀i,k<=i->i<m->Kr r p (i-1)<=Kr r p i)->(m<n->Kr r p m<Kr r p (m-1))->Q m s)->(kas_asc p f k).kasWp cmp Q s
 |0,k,h1,hk,q=>q k (z5 _) ⋯ (λi a b=>by omega) (λz=>by omega)
 |f+1,k,h1,hk,q=>by
  unfold kas_asc
  refine hc _ _ _ (hp.lt ⋯) (hp.lt ⋯) (hp.ne ⋯ ⋯ ⋯) ?_
  by_cases h:Kr r p k<Kr r p (k-1)
  ·rw[show decide (r (p.getD k 0)<r (p.getD (k-1) 0))=true from decide_eq_true h];dsimp only;rw[if_pos rfl]
   exact q k (z5 _) ⋯ (λi a b=>by omega) (λ_=>h)
  ·rw[show decide (r (p.getD k 0)<r (p.getD (k-1) 0))=false from decide_eq_false h];dsimp only;rw[if_neg (by simp)]
   refine zdm hc hp f (k+1) ⋯ ⋯ λm a b c d=>q m ⋯ b (λi e g=> ?_) d
   by_cases hi:i=k
   ·subst hi;omega
   ·exact c i ⋯ g
theorem VY (hc:∀i j C,i<n->j<n->i≠j->C (decide (r i<r j)) s->cmp i j C s) {Q:Array Nat×Nat×Nat->Shared->Prop}:∀(f:Nat) (p:Array Nat) (k q:Nat),PmN n p->1<=k->k+f=n->(∀i,1<=i->i<k->Kr r p i<=Kr r p (i-1))->(∀i,k-(q+1)<=i->i<k->Kr r p i=Kr r p (k-1))->q+1<=k->
  (∀p' k' q',PmN n p'->1<=k'->k'<=n->(∀i,1<=i->i<k'->Kr r p' i<=Kr r p' (i-1))->(∀i,k'-(q'+1)<=i->i<k'->Kr r p' i=Kr r p' (k'-1))->q'+1<=k'->Q (p',k',q') s)->(kas_desc f p k q).kasWp cmp Q s
 |0,p,k,q,hp,h1,hk,hd,he,hq,h=>h p k q hp h1 ⋯ hd he hq
 |f+1,p,k,q,hp,h1,hk,hd,he,hq,h=>by
  unfold kas_desc
  refine hc _ _ _ (hp.lt ⋯) (hp.lt ⋯) (hp.ne ⋯ ⋯ ⋯) ?_
  by_cases h2:Kr r p k<Kr r p (k-1)
  ·rw[show decide (r (p.getD k 0)<r (p.getD (k-1) 0))=true from decide_eq_true h2];dsimp only;rw[if_pos rfl]
   split
   ·have hs:=hp.size
    have ek:=Va (r:=r) (p:=p) (i:=k-(q+1)) (j:=k) ⋯ he
    refine VY hc f _ (k+1) 0 (hp.rev _ _) ⋯ ⋯ (λi a b=> ?_) (λi a b=> ?_) ⋯ h
    ·rw[ek,ek]
     by_cases hi:i=k
     ·subst hi;omega
     ·exact hd i a ⋯
    ·have:i=k:=by omega
     subst this
     simp
   ·refine VY hc f _ (k+1) 0 hp ⋯ ⋯ (λi a b=> ?_) (λi a b=> ?_) ⋯ h
    ·by_cases hi:i=k
     ·subst hi;omega
     ·exact hd i a ⋯
    ·have:i=k:=by omega
     subst this
     simp
  ·rw[show decide (r (p.getD k 0)<r (p.getD (k-1) 0))=false from decide_eq_false h2];dsimp only;rw[if_neg (by simp)]
   refine hc _ _ _ (hp.lt ⋯) (hp.lt ⋯) (hp.ne ⋯ ⋯ ⋯) ?_
   by_cases h3:Kr r p (k-1)<Kr r p k
   ·rw[show decide (r (p.getD (k-1) 0)<r (p.getD k 0))=true from decide_eq_true h3];dsimp only;rw[if_pos rfl]
    exact h p k q hp h1 ⋯ hd he hq
   ·rw[show decide (r (p.getD (k-1) 0)<r (p.getD k 0))=false from decide_eq_false h3];dsimp only;rw[if_neg (by simp)]
    refine VY hc f _ (k+1) (q+1) hp ⋯ ⋯ (λi a b=> ?_) (λi a b=> ?_) ⋯ h
    ·by_cases hi:i=k
     ·subst hi;omega
     ·exact hd i a ⋯
    ·rw[show k+1-1=k by omega]
     by_cases hi:i=k
     ·rw[hi]
     ·have:=he i ⋯ ⋯
      omega
def Wu (r:Nat->Int) (p:Array Nat) (m:Nat):Prop:=∀i,1<=i->i<m->Kr r p (i-1)<=Kr r p i
theorem zcf (hc:∀i j C,i<n->j<n->i≠j->C (decide (r i<r j)) s->cmp i j C s) {Q:Nat×Array Nat->Shared->Prop} {p:Array Nat} {k:Nat} (hp:PmN n p) (h1:1<=k) (hk:k<=n) (hd:∀i,1<=i->i<k->Kr r p i<=Kr r p (i-1))
  (h:∀m p',PmN n p'->1<=m->m<=n->Wu r p' m->Q (m,p') s):(kas_tail3 k n p).kasWp cmp Q s:=by
 unfold kas_tail3
 rw[KasT.kasWp_bind]
 have hs:=hp.size
 refine zdm hc (hp.rev 0 k) _ k h1 ⋯ λm a b c _=> ?_
 refine h m _ (hp.rev 0 k) ⋯ b λi e g=> ?_
 by_cases hi:i<k
 ·rw[zdl ⋯,zdl ⋯,if_pos ⋯,if_pos ⋯]
  have:=hd (0+k-1-(i-1)) ⋯ ⋯
  rw[show 0+k-1-(i-1)-1=0+k-1-i by omega] at this
  exact this
 ·exact c i ⋯ g
theorem VA (hc:∀i j C,i<n->j<n->i≠j->C (decide (r i<r j)) s->cmp i j C s) {Q:Nat×Array Nat->Shared->Prop} {p:Array Nat} {k:Nat} (hp:PmN n p) (h1:1<=k) (hk:k<n) (hd:∀i,1<=i->i<k+1->Kr r p i<=Kr r p (i-1))
  (h:∀m p',PmN n p'->1<=m->m<=n->Wu r p' m->Q (m,p') s):(kas_descPart k n p).kasWp cmp Q s:=by
 unfold kas_descPart
 rw[KasT.kasWp_bind]
 have h0:∀i,k+1-(0+1)<=i->i<k+1->Kr r p i=Kr r p (k+1-1):=λi a b=>by
  have:i=k:=by omega
  subst this
  simp
 refine VY hc (n-(k+1)) p (k+1) 0 hp ⋯ ⋯ hd h0 ⋯ λp' k' q' a b c d e g=> ?_
 dsimp only
 have hs:=a.size
 split
 ·have ek:=Va (r:=r) (p:=p') (i:=k'-(q'+1)) (j:=k') ⋯ e
  exact zcf hc (a.rev _ _) b c (λi x y=>by rw[ek,ek];exact d i x y) h
 ·exact zcf hc a b c d h
theorem zeo {p:Array Nat} {m:Nat} (h:Wu r p m):∀(d i:Nat),i+d<m->Kr r p i<=Kr r p (i+d)
 |0,i,_=>El _
 |d+1,i,hd=>by
  have h1:=zeo h d i ⋯
  have h2:=h (i+d+1) ⋯ ⋯
  rw[show i+d+1-1=i+d by omega] at h2
  exact BM h1 h2
theorem zbe {p:Array Nat} {m i j:Nat} (h:Wu r p m) (fQ:i<=j) (hj:j<m):Kr r p i<=Kr r p j:=by
 have:=zeo h (j-i) i ⋯
 rwa [show i+(j-i)=j by omega] at this
theorem zg7 (hc:∀i j C,i<n->j<n->i≠j->C (decide (r i<r j)) s->cmp i j C s) {Q:Nat×Array Nat->Shared->Prop} {p:Array Nat} (hp:PmN n p) (h1:1<=n)
  (h:∀m p',PmN n p'->1<=m->m<=n->Wu r p' m->Q (m,p') s):(kas_count n p).kasWp cmp Q s:=by
 unfold kas_count
 rw[KasT.kasWp_bind]
 refine zdm hc hp _ 1 ⋯ ⋯ λm a b c d=> ?_
 have hs:=hp.size
 by_cases hm:m=n
 ·subst hm
  rw[if_pos (by simp)]
  exact h m p hp a b c
 ·rw[if_neg (by simpa using hm)]
  have hd:=d ⋯
  by_cases h2:m>1
  ·rw[if_pos h2]
   refine hc _ _ _ (hp.lt ⋯) (hp.lt ⋯) (hp.ne ⋯ ⋯ ⋯) ?_
   by_cases h3:Kr r p 0<Kr r p (m-1)
   ·rw[show decide (r (p.getD 0 0)<r (p.getD (m-1) 0))=true from decide_eq_true h3];dsimp only;rw[if_pos rfl]
    exact h m p hp a b c
   ·rw[show decide (r (p.getD 0 0)<r (p.getD (m-1) 0))=false from decide_eq_false h3];dsimp only;rw[if_neg (by simp)]
    have he:∀i,0<=i->i<m->Kr r p i=Kr r p (m-1):=λi _ hi=>by
     have e1:=zbe (r:=r) c (show 0<=i by omega) hi
     have e2:=zbe (r:=r) c (show i<=m-1 by omega) ⋯
     omega
    have ek:=Va (r:=r) (p:=p) (i:=0) (j:=m) ⋯ he
    refine VA hc (hp.rev _ _) ⋯ ⋯ (λi x y=> ?_) h
    rw[ek,ek]
    by_cases hi:i=m
    ·subst hi;omega
    ·rw[he i ⋯ ⋯,he (i-1) ⋯ ⋯]
     exact El _
  ·rw[if_neg h2]
   refine VA hc hp ⋯ ⋯ (λi x y=> ?_) h
   have:i=m:=by omega
   subst this
   omega
theorem UU (hc:∀i j C,i<n->j<n->i≠j->C (decide (r i<r j)) s->cmp i j C s) {Q:Nat->Shared->Prop} {p:Array Nat} {k:Nat} (hp:PmN n p) (hk:k<n) (ha:Wu r p k):∀(f lo hi:Nat),lo<=hi->hi<=k->hi-lo<=f->(∀i,i<lo->Kr r p i<=Kr r p k)->(∀i,hi<=i->i<k->Kr r p k<Kr r p i)->
  (∀l,l<=k->(∀i,i<l->Kr r p i<=Kr r p k)->(∀i,l<=i->i<k->Kr r p k<Kr r p i)->Q l s)->(kas_place p k f lo hi).kasWp cmp Q s
 |0,lo,hi,h1,h2,h3,hl,hh,q=>by
  have:lo=hi:=by omega
  subst this
  exact q lo h2 hl hh
 |f+1,lo,hi,h1,h2,h3,hl,hh,q=>by
  unfold kas_place
  split
  ·have:lo=hi:=by omega
   subst this
   exact q lo h2 hl hh
  ·rename_i cA
   have m1:lo<=(lo+hi) / 2:=by omega
   have m2:(lo+hi) / 2<hi:=by omega
   refine hc _ _ _ (hp.lt ⋯) (hp.lt ⋯) (hp.ne ⋯ ⋯ ⋯) ?_
   by_cases h4:Kr r p k<Kr r p ((lo+hi) / 2)
   ·rw[show decide (r (p.getD k 0)<r (p.getD ((lo+hi) / 2) 0))=true from decide_eq_true h4];dsimp only;rw[if_pos rfl]
    refine UU hc hp hk ha f lo _ m1 ⋯ ⋯ hl (λi a b=> ?_) q
    have:=zbe ha a b
    omega
   ·rw[show decide (r (p.getD k 0)<r (p.getD ((lo+hi) / 2) 0))=false from decide_eq_false h4];dsimp only;rw[if_neg (by simp)]
    refine UU hc hp hk ha f _ hi ⋯ h2 ⋯ (λi a=> ?_) hh q
    have:=zbe ha (show i<=(lo+hi) / 2 by omega) ⋯
    omega
theorem zg8 (hc:∀i j C,i<n->j<n->i≠j->C (decide (r i<r j)) s->cmp i j C s) {Q:Array Nat->Shared->Prop}:∀(f:Nat) (p:Array Nat) (k:Nat),PmN n p->k+f=n->Wu r p k->(∀p',PmN n p'->Wu r p' n->Q p' s)->(kas_bin f p k).kasWp cmp Q s
 |0,p,k,hp,hk,ha,h=>by
  have:k=n:=by omega
  subst this
  exact h p hp ha
 |f+1,p,k,hp,hk,ha,h=>by
  unfold kas_bin
  rw[KasT.kasWp_bind]
  have hs:=hp.size
  refine UU hc hp ⋯ ha k 0 k ⋯ (z5 _) ⋯ (λi a=>by omega) (λi a b=>by omega) λl a b c=> ?_
  refine zg8 hc f _ (k+1) (hp.bub _ _) ⋯ (λi x y=> ?_) h
  have e:=λj=>zlu (r:=r) (p:=p) (src:=k) (d:=k-l) ⋯ ⋯ j
  rw[e,e,show k-(k-l)=l by omega]
  by_cases h1:i-1=l
  ·rw[if_pos h1,if_neg ⋯,if_pos ⋯]
   have:=c (i-1) ⋯ ⋯
   omega
  ·rw[if_neg h1]
   by_cases h2:i=l
   ·rw[if_neg ⋯,if_pos h2]
    exact b (i-1) ⋯
   ·rw[if_neg h2]
    by_cases h3:l<i
    ·rw[if_pos (show l<i-1/\i-1<=k by omega),if_pos (show l<i/\i<=k by omega)]
     exact ha (i-1) ⋯ ⋯
    ·rw[if_neg ⋯,if_neg ⋯]
     exact ha i x ⋯
theorem zep (hc:∀i j C,i<n->j<n->i≠j->C (decide (r i<r j)) s->cmp i j C s) {Q:Array Nat->Shared->Prop} (h1:1<=n) (h:∀p,PmN n p->Wu r p n->Q p s):(kas_sort n).kasWp cmp Q s:=by
 unfold kas_sort
 rw[KasT.kasWp_bind]
 refine zg7 hc (FZ _) h1 λm p a b c d=> ?_
 dsimp only
 split
 ·rw[show max m 1=m by omega]
  exact zg8 hc _ p m a ⋯ d h
 ·have:m=n:=by omega
  subst this
  exact h p a d
end
section
variable {prog:Program} {w:World} {A:Around} {E:Value->Shared->Prop} {s:Shared}
end
open PySem.AutoSeq1 (wpAny_loadPart')
open PySem.MeetsSeq PySem.MeetsSeq2 PySem.MeetsSeq3
section
variable {prog:Program} {w:World} {A:Around} {E:Value->Shared->Prop} {s:Shared}
end
section
variable {X:Cx}
end
end L2
namespace L2
open PySem PySem.Spec PyProof.Rows PySem.Calls PySem.W
section
variable {X:Cx} {pins:List (Addr×Obj)} {σ:St} {H:Hp} {s:Shared} {a:Addr} {d:V} {u r:Value} {A:Around} {E:Value->Shared->Prop} {kvs:List (Key×V)} {k:Key}
end
section
variable {X:Cx} {o e f:Expr} {apos aR:Pos} {td ty tx:TE}
end
open PySem.AutoSeq1 (wpAny_loadPart')
section
variable {prog:Program} {w:World} {A:Around} {E:Value->Shared->Prop} {s:Shared}
end
section
variable {X:Cx}
end
end L2
namespace L2
open PySem PySem.Spec PyProof.Rows PySem.Calls PySem.W
theorem XE:entryFor table "dict_itemiterator.__iter__"=some Builtin.«dict_keyiterator.__iter__» :=
 entryFor_alias (id':="dict_keyiterator.__iter__") (by kernel_rfl) rfl (by decide+kernel) (by kernel_rfl)
section
variable {prog:Program} {w:World} {A:Around} {E:Value->Shared->Prop} {s:Shared}
theorem Tv {it d:Addr} {i n ep:Nat} {ok ov:Value} {Q:Value->Shared->Prop} (hit:IsItemIter s.heap it d i n ep ok ov) (h:Q (.ref it) s):wpAny (model prog w) A (pyIter (.ref it)) Q E s:=by
 have hT:s.TypeIs (.ref it) "dict_itemiterator":=⟨_,hit,rfl⟩
 refine wpAny_pyIter_slot hT F.slot_dict_itemiterator_iter (wpAny_call_entry F.slot_dict_itemiterator_iter hT XE ?_ (F.args_dict_itemiterator_iter_1 _))
 show wpAny _ _ (ret (.ref it)) _ _ s
 exact wpAny_pure ⟨_,rfl,"dict_itemiterator",_,hT,F.slot_dict_itemiterator_next.lookup,h⟩
end
noncomputable def Itm (a:Addr) (o:Obj) (kvs:List (Key×V)):It:=
 ⟨λi H=>H a=some (.frz o (.dK kvs))/\∃k v,kvs[i]? =some (k,v),λi H x H'=>∃p k v,x= .ref p/\H p=none/\H'=upd H p (.tup [kV k,v])/\kvs[i]? =some (k,v),λi H=>H a=some (.frz o (.dK kvs))/\kvs.length<=i⟩
theorem zdn:∀{kvs:List (Key×V)} {vs:List (Key×Value)} {i:Nat} {k:Key} {v:V},KV kvs vs->kvs[i]? =some (k,v)->∃u,vs[i]? =some (k,u)/\zD v u
 |_,_,i,k,v,.nil,h=>by simp at h
 |_,_,0,k,v,.cons h _,e=>by
  simp at e
  subst e
  obtain⟨e1,e2⟩:=h
  exact⟨_,by simp;exact Prod.ext e1.symm rfl,e2⟩
 |_,_,i+1,k,v,.cons _ l,e=>by
  obtain⟨u,e1,e2⟩:=zdn (i:=i) l (by simpa using e)
  exact⟨u,by simpa using e1,e2⟩
theorem zkj {P:Program} {w:World} {k:Key} {u:Value} (h:(zZ P w).is k u=true):zD (kV k) u:=by
 have h:Ul k u=true:=h
 rcases yy h with⟨i,t,rfl,rfl⟩|⟨x,t,rfl,rfl⟩
 ·exact⟨t,rfl⟩
 ·exact⟨t,rfl⟩
theorem VZ {X:Cx} {pins:List (Addr×Obj)} {σ:St} {H:Hp} {s:Shared} {a:Addr} {o:Obj} {kvs:List (Key×V)} {es:Array DictEntry} {ep:Nat} (I:Inv X pins σ H s) (h:H a=some (.frz o (.dK kvs))) (hd:o.data= .dict es ep):∃vs,KV kvs vs/\s.heap.DictAt (zZ X.prog X.w) a vs ep:=by
 obtain⟨hg,_,_,vs,rel,o',es',ep',e1,e2,e3,e4⟩:=(show yj X.prog X.w H s.heap a (.frz o (.dK kvs)) from I.hok a _ h)
 rw[hg] at e1
 cases e1
 rw[hd] at e3
 cases e3
 exact⟨vs,rel,o,es,hg,e2,hd,e4⟩
theorem zdo {P:Program} {w:World} {K:y3} {elts:List Expr} {k:Nat} {tp:Pos} (a it:Addr) (o:Obj) (kvs:List (Key×V)) {es:Array DictEntry} {ep:Nat} (hd:o.data= .dict es ep):
  zcU P w K (.Tuple elts k tp) (Itm a o kvs) [it] it (λi h=>∃ok ov,IsItemIter h it a i kvs.length ep ok ov) where
 mem:=by simp
 obj:=λi h st b hb=>by
  obtain⟨ok,ov,e⟩:=st
  have:b=it:=by simpa using hb
  subst this
  exact⟨_,e,λv z=>by cases z⟩
 keep:=λi h h' st k=>let ⟨ok,ov,e⟩:=st;⟨ok,ov,k it (by simp) _ e⟩
 item:=by
  intro X hP hw hK hc i pins s σ H E I hf st hg
  subst hP hw hK
  obtain⟨ha,ke,v,hx⟩:=hg
  obtain⟨ok,ov,hit⟩:=st
  obtain⟨vs,rel,hm⟩:=VZ I ha hd
  obtain⟨u,hu,ru⟩:=zdn rel hx
  have hl:=rel.length
  rw[hl] at hit
  refine wpAny_pyNext_items_item hit hm hu λkey h1 hk iH ht hz iT=>⟨_,rfl,?_⟩
  refine wpAny_letOwnedTupleGo_items (s:={s with heap:=h1}) iH λh2 jv cx=> ?_
  have cx:Heap.SameBut it h1 h2:=cx
  have mo:it<s.heap.objs.size:=Heap.lt_size hit
  have vv:zI [kV ke,v] [key,u]:= .cons (zkj hk) (.cons ru .nil)
  obtain⟨I2,fr,fb⟩:=Inv.turnedT (h':=h2) (t':=s.toks) (fp:=[it]) I vv (by show 2<=sizeLine;decide) (λb o hb eb=>by
   have hb:b≠it:=by simpa using hb
   exact (cx.2 b hb).trans (iT b o hb eb)) ((cx.2 _ (Av mo)).trans ht) hf (λb hb=>by
   have:b=it:=by simpa using hb
   subst this
   exact⟨_,hit⟩)
  exact⟨.ref s.heap.objs.size,_,I2,rfl,⟨_,ke,v,rfl,fr,rfl,hx⟩,⟨_,_,by rw[hl];exact jv⟩,fb⟩
 done:=by
  intro X hP hw hK hc i pins s σ H E I hf st hg
  subst hP hw hK
  obtain⟨ha,hx⟩:=hg
  obtain⟨ok,ov,hit⟩:=st
  obtain⟨vs,rel,hm⟩:=VZ I ha hd
  have hl:=rel.length
  rw[hl] at hit
  refine wpAny_pyNext_items_end (I.ok.hd hc) hit hm (Aq ⋯) λh' eb=>⟨rfl,Inv.turnedL (t':=s.toks) (fp:=[it]) I (λb o hb eo=> ?_) hf⟩
  exact eb b o (λz=>hb (by simp[z])) eo
 self:=λ_ _ _ _ _ st h=>let ⟨_,_,e⟩:=st;Tv e h
noncomputable def zcg (p a:Addr):HO:= .ext λh=>h.IsItemsView p a
section
variable {X:Cx}
def zg9:V->List V->Hp->VK->Prop:=λx vs H Q=>∃(a:Addr) (kvs:List (Key×V)),x= .ref a/\vs=[]/\H a=some (.dK kvs)/\∀p,H p=none->Q (.ref p) (upd H p (zcg p a))
theorem zch:MtR X "dict.items" zg9:=by
 intro pins s σ H x xs v us Q I rx r h
 obtain⟨a,kvs,rfl,rfl,ha,q⟩:=h
 cases rx
 cases r
 obtain⟨hz,lo,vs,rel,dd⟩:=zab I.hok ha
 have hn:(s.heap.push {cls:= .type "dict_items",data:= .fields #[.ref a]}).get? s.heap.objs.size=some {cls:= .type "dict_items",data:= .fields #[.ref a]}:=Heap.get?_push_size _ rfl
 refine call_meetsIn CQ dd.typeIs PySem.F.entry_dict_items (PySem.F.args_dict_items_1 _) (meets_dict_items (zZ X.prog X.w) a lo) ⟨⟨vs,dd⟩,?_⟩
 refine⟨.ref s.heap.objs.size,_,I.laid (t':=s.toks) (o:=zcg s.heap.objs.size a) (λ_ _ e=>Heap.get?_push_of_some _ e) (z5 _) ⟨⟨_,hn,rfl,rfl⟩,⟨_,hn⟩,λh1 h2 ⟨o,e1,e2⟩ e3=>⟨o,e3 _ e1,e2⟩⟩,rfl,q _ I.fresh⟩
def zha (t:TE):TI:=λσ H R=>t σ H λx H1=>∃(p a:Addr) (kvs:List (Key×V)),x= .ref p/\H1 p=some (zcg p a)/\H1 a=some (.dK kvs)/\∀o,R (Itm a o kvs) (upd H1 a (.frz o (.dK kvs)))
theorem zci {elts:List Expr} {k:Nat} {tp:Pos} {e:Expr} {t:TE} (he:PE X e t):PI X (.Tuple elts k tp) e (zha t):=by
 intro pins s σ H R I h
 refine thn (he pins s σ H _ I h) ?_
 rintro u s1 ⟨x,H1,I1,rx,p,a,kvs,ex,hp,ha,q⟩
 subst ex
 cases rx
 have hv:s1.heap.IsItemsView p a:=(show yj X.prog X.w H1 s1.heap p (zcg p a) from I1.hok p _ hp).1
 obtain⟨hz,lo,vs,rel,ob,es,ep,e1,e2,e3,e4⟩:=zab I1.hok ha
 have hl:=rel.length
 have I2:Inv X pins σ (upd H1 a (.frz ob (.dK kvs))) s1:=Wj (h':=s1.heap) (t':=s1.toks) I1 (by rw[ha];exact B8) ⟨rfl,λ_ _=>rfl⟩ ⟨ob,e1⟩ ⟨e1,hz,lo,vs,rel,ob,es,ep,e1,e2,e3,e4⟩
 refine wpAny_pyIter_items (knd:=zZ X.prog X.w) hv ⟨ob,es,e1,e2,e3,e4⟩ ?_
 have hi:(s1.heap.push {cls:= .type "dict_itemiterator",data:= .fields #[.none,.bool false,.ref a,.int 0 0,.int vs.length 0,.int ep 0,.none,.none]}).get? s1.heap.objs.size=some {cls:= .type "dict_itemiterator",data:= .fields #[.none,.bool false,.ref a,.int 0 0,.int vs.length 0,.int ep 0,.none,.none]}:=Heap.get?_push_size _ rfl
 have I3:=I2.kept (t':=s1.toks) (h':=s1.heap.push {cls:= .type "dict_itemiterator",data:= .fields #[.none,.bool false,.ref a,.int 0 0,.int vs.length 0,.int ep 0,.none,.none]}) (λb o e=>Heap.get?_push_of_some _ e)
 refine⟨s1.heap.objs.size,[s1.heap.objs.size],_,_,_,rfl,I3,zdo a s1.heap.objs.size ob kvs e3,⟨.none,.none,by rw[hl];exact hi⟩,λb hb=> ?_,q ob⟩
 have hb:s1.heap.objs.size<=b:=by
  have:b=s1.heap.objs.size:=by simpa using hb
  exact BK this.symm
 exact Inv.fpOk I2 hb (I2.hok.fresh hb)
end
open PySem.AutoSeq1 (wpAny_loadPart')
section
variable {prog:Program} {w:World} {A:Around} {E:Value->Shared->Prop} {s:Shared}
end
section
variable {X:Cx}
end
end L2
namespace L2
open PySem PySem.Spec PyProof.Rows PySem.Calls
mutual
inductive zhb (h:Heap):NK->Value->Prop where
 |int (i:Int) (t:Tok):zhb h (.int i) (.int i t)
 |str (x:Str) (t:Tok):zhb h (.str x) (.str x t)
 |tup {a:Addr} {o:Obj} {items:Array Value} {n:Nat} {l:List NK}:h.get? a=some o->o.cls= .type "tuple"->o.data= .seq items n->zeq h l items.toList->zhb h (.tup l) (.ref a)
inductive zeq (h:Heap):List NK->List Value->Prop where
 |nil:zeq h [] []
 |cons {k:NK} {v:Value} {ks:List NK} {vs:List Value}:zhb h k v->zeq h ks vs->zeq h (k::ks) (v::vs)
end
section
variable {h h':Heap}
end
section
variable {prog:Program} {w:World} {E:Value->Shared->Prop}
end
mutual
inductive NIs (K:y3) (H:Hp):V->NK->Prop where
 |int (i:Int):NIs K H (.int i) (.int i)
 |str (x:Str):NIs K H (.str x) (.str x)
 |tup {a:Addr} {vs:List V} {l:List NK}:SqT K H a vs->zjb K H vs l->NIs K H (.ref a) (.tup l)
inductive zjb (K:y3) (H:Hp):List V->List NK->Prop where
 |nil:zjb K H [] []
 |cons {v:V} {k:NK} {vs:List V} {ks:List NK}:NIs K H v k->zjb K H vs ks->zjb K H (v::vs) (k::ks)
end
section
variable {X:Cx} {pins:List (Addr×Obj)} {σ:St} {H:Hp} {s:Shared}
end
noncomputable abbrev PN:List (NK×Addr×V)->List (NK×Addr×Value)->Prop:=Paired λ(p:NK×Addr×V) (q:NK×Addr×Value)=>p.1=q.1/\p.2.1=q.2.1/\zD p.2.2 q.2.2
section
variable {X:Cx} {pins:List (Addr×Obj)} {σ:St} {H:Hp} {s:Shared} {a:Addr}
end
section
variable {X:Cx} {pins:List (Addr×Obj)} {σ:St} {H:Hp} {s:Shared} {a:Addr} {y v d:V} {u r:Value} {o:Option V} {A:Around} {E:Value->Shared->Prop}
end
section
variable {X:Cx} {o i e f value:Expr} {pos pos' jA apos aR:Pos} {td ty tv tx:TE} {K:y3} {r:Nat}
end
end L2
namespace L2
open PySem PySem.Spec PyProof.Rows PySem.Calls PySem.W
section
variable {prog:Program} {w:World} {A:Around} {E:Value->Shared->Prop} {s:Shared} {d it:Addr} {es:Array DictEntry} {ep i:Nat}
end
noncomputable def ltL:List Int->List Int->Bool
 |[],[]=>false
 |[],_::_=>true
 |_::_,[]=>false
 |a::x,b::y=>if a=b then ltL x y else decide (a<b)
section
variable {prog:Program} {w:World} {A:Around} {E:Value->Shared->Prop} {s:Shared}
end
section
variable {prog:Program} {w:World} {A:Around} {E:Value->Shared->Prop} {s:Shared} {T:String} {r d:Addr} {n:Nat} {P:Nat->Value->Prop} {OK:Heap->Prop} {Q:Value->Shared->Prop}
end
section
variable {X:Cx}
end
end L2
namespace L2
open PySem PySem.Spec PyProof.Rows PySem.Calls
open AutoSeq1 (wpAny_loadPart')
section
variable {prog:Program} {w:World} {A:Around} {E:Value->Shared->Prop} {s:Shared} {it t:Addr} {ae:Array Value}
end
section
variable {X:Cx}
end
end L2
namespace L2
open PySem PySem.Spec PyProof.Rows
section
variable {X:Cx}
end
end L2
namespace L2
open PySem PySem.Spec PyProof.Rows PySem.Calls PySem.W
section
variable {cmp:Nat->Nat->(Bool->Shared->Prop)->Shared->Prop} {r:Nat->Int} {n:Nat} {s:Shared}
end
section
variable {prog:Program} {w:World} {A:Around} {E:Value->Shared->Prop} {κ:SortKind} {it:Array Keyed} {s:Shared}
end
section
variable {X:Cx} {pins:List (Addr×Obj)} {σ:St} {H:Hp} {s:Shared} {h':Heap}
theorem Inv.adoptW {t':Nat} {D:Addr} {o:HO} (I:Inv X pins σ H s) (k:∀b u,b≠D->s.heap.get? b=some u->h'.get? b=some u) (hn:H D=none) (hL:D≠X.env.locals)
  (h1:X.s₀.heap.objs.size<=D) (h2:∀x c,X.env.cells.lookup x=some c->c≠D) (h3:∀p∈X.pn++pins,p.1≠D) (new:yj X.prog X.w (upd H D o) h' D o):Inv X pins σ (upd H D o) {s with heap:=h',toks:=t'}:=by
 have fi:∀b u,H b=some u->b≠D:=λb u e z=>by rw[z,hn] at e;cases e
 refine I.step (g':=s.gens) (d':=s.drawn) (ch:=[D]) (λb hb=> ?_) (λb o _ _ hc e _=>k b o (λz=>hc (by simp[z])) e) (λb o _ _ hc e _=>⟨o.slots,k b o (λz=>hc (by simp[z])) e⟩) (λb _ hc _ n=>by rw[zh (λz=>hc (by simp[z]))];exact n)
  (λb o hc e=>⟨o,k b o (λz=>hc (by simp[z])) e⟩) (λb _ e=>by rw[zh (fi b _ e)];exact e) (λb _ _ e=>by rw[zh (fi b _ e)];exact e) (λb ps e=>⟨#[],by rw[zh (fi b _ e),e];simp⟩) (λm hm=> ?_) (λb u e=> ?_) I.bare
 ·have e:b=D:=by simpa using hb
  subst e
  exact⟨.inr h1,hL,h2,h3⟩
 ·obtain⟨o,es,ep,ho,r⟩:=hm
  exact⟨o,es,ep,k _ o (AQ hL) ho,r⟩
 ·by_cases hb:b=D
  ·subst hb;rw[zm] at e;cases e;exact new
  ·rw[zh hb] at e
   refine (I.hok b u e).stay (λc v hc q=>k c v ?_ q) (λc q=>by rw[zh (fi c _ q)];exact q) λc xs q=>by rw[zh (fi c _ q)];exact q
   rcases hc with z|z
   ·rw[z];exact hb
   ·exact fi c _ z
theorem zdp:∀{xs:List V} {us:List Value} {i:Nat} {u:Value},zI xs us->us[i]? =some u->∃x,xs[i]? =some x/\zD x u
 |_,_,i,_,.nil,e=>by simp at e
 |_,_,0,_,.cons r _,e=>by cases e;exact⟨_,rfl,r⟩
 |_,_,i+1,_,.cons _ l,e=>zdp (i:=i) l e
end
def zmP (is:List (List Int)):Prop:=(2<=is.length->∀l∈is,l≠[])/\∀i j,i<j->j<is.length->ltL (is.getD j []) (is.getD i [])=true
section
variable {X:Cx} {k:Nat} {f:Addr} {fd:FuncData} {ps:List Str} {sp:Sp} {pins:List (Addr×Obj)} {σ:St} {H:Hp} {s:Shared}
end
section
variable {X:Cx}
end
theorem zer:∀{xs:List V} {us:List Value},xs.length=us.length->(∀(i:Nat) x u,xs[i]? =some x->us[i]? =some u->zD x u)->zI xs us
 |[],[],_,_=> .nil
 |[],_::_,h,_=>by simp at h
 |_::_,[],h,_=>by simp at h
 |x::xs,u::us,h,k=> .cons (k 0 x u rfl rfl) (zer (by simpa using h) λi a b ha hb=>k (i+1) a b ha hb)
section
variable {X:Cx}
noncomputable def zcj (n:Nat):List V:=(Bt n).map λ(i:Nat)=>V.int (i:Int)
theorem zes:∀(x y:List Int),HT.ZH x y=ltL x y
 |[],[]=>rfl
 |[],_::_=>rfl
 |_::_,[]=>rfl
 |a::x,b::y=>by
  rw[HT.Uu,ltL,zes x y]
end
end L2
namespace L2
open PySem PySem.Spec PyProof.Rows
namespace Sm
noncomputable def inB (b j:Nat):Bool:=b.testBit j
noncomputable def plL (b:Nat):List Nat:=(Bt 8).filter (inB b)
noncomputable def pl (b:Nat):Array Nat:=(plL b).toArray
noncomputable def st (h:Int):Nat->Nat×Nat
 |0=>(SetTable.bits h % 8,SetTable.bits h)
 |n+1=>SetTable.leap 7 (st h n).1 (st h n).2
noncomputable def pos (h:Int) (n:Nat):Nat:=(st h n).1
noncomputable def mkP (s:Nat×Nat):SetTable.Probe:={j:=s.1,more:=0,i:=s.1,perturb:=s.2,dummy:=none}
structure Tb (t:SetTable) (b:Nat):Prop where
 mask:t.mask=7
 place:t.place=pl b
 x8:t.dummies= #[]
noncomputable def ix (b j:Nat):Nat:=((Bt j).filter (inB b)).length
inductive zkk (f:Nat->Int) (b:Nat) (x:Int) (n:Nat):SetTable.Met->Prop
 |empty (m:Nat):n<=m->inB b (pos x m)=false->(∀k,n<=k->k<m->inB b (pos x k)=true/\f (pos x k)≠x)->zkk f b x n (.empty (pos x m) none)
 |uq (m:Nat):n<=m->inB b (pos x m)=true->f (pos x m)=x->(∀k,n<=k->k<m->inB b (pos x k)=true/\f (pos x k)≠x)->zkk f b x n (.candidate (pos x m) (ix b (pos x m)) (mkP (st x (m+1))))
def zmQ (b:Nat) (f:Nat->Int):Prop:=∀j<8,inB b j=true->∃n,pos (f j) n=j/\∀m,m<n->inB b (pos (f j) m)=true
end Sm
end L2
namespace L2
open PySem PySem.Spec PyProof.Rows PySem.Calls PySem.W
section
variable {prog:Program} {w:World} {E:Value->Shared->Prop}
structure znp (w:World) (h:Heap) (a:Addr) (b:Nat) (f:Nat->Int×Value) (kf:Nat->NK) (o:Obj) (ep:Nat) (t:SetTable):Prop where
 get:h.get? a=some o
 ex:o.ExactSet
 data:o.data= .set ((Sm.pl b).map f) ep t
 tb:Sm.Tb t b
 plain:t.plain=true
 lt:b<256
 few:(Sm.plL b).length<=4
 chain:Sm.zmQ b λj=>(f j).1
 keys:∀j<8,Sm.inB b j=true->(f j).1=zfP w (kf j)/\(∃c,(f j).2= .ref c/\zhb h (kf j) (.ref c))/\zio (kf j)<=8
 inj:∀i<8,∀j<8,Sm.inB b i=true->Sm.inB b j=true->kf i=kf j->i=j
variable {a:Addr} {b:Nat} {f:Nat->Int×Value} {kf:Nat->NK} {o:Obj} {ep:Nat} {t:SetTable} {A:Around} {s:Shared}
end
section
variable {h h':Heap}
end
section
variable {prog:Program} {w:World} {E:Value->Shared->Prop}
variable {a:Addr} {b:Nat} {f:Nat->Int×Value} {kf:Nat->NK} {o:Obj} {ep:Nat} {t:SetTable} {A:Around} {s:Shared}
end
section
variable {h h':Heap}
end
section
variable {prog:Program} {w:World}
variable {A:Around} {R:Result->Shared->Prop} {I:Addr} {fp wr:List Addr} {G:Array GenState->Array GenState->Prop} {n:Nat} {P:Nat->Value->Prop} {St:Nat->Shared->Prop}
end
section
variable {prog:Program} {w:World} {A:Around} {E:Value->Shared->Prop} {s:Shared}
end
end L2
set_option maxHeartbeats 3200000
namespace L2
open PySem PySem.Spec PyProof.Rows PySem.Calls PySem.W
section
variable {prog:Program} {w:World} {A:Around} {E:Value->Shared->Prop} {s:Shared}
end
structure znq (h:Heap) (a:Addr) (b:Nat) (f:Nat->Int×Value) (o:Obj) (ep:Nat) (t:SetTable):Prop where
 get:h.get? a=some o
 ex:o.ExactSet
 data:o.data= .set ((Sm.pl b).map f) ep t
 tb:Sm.Tb t b
 plain:t.plain=true
 lt:b<256
 few:(Sm.plL b).length<=4
section
variable {prog:Program} {w:World} {A:Around} {E:Value->Shared->Prop} {s:Shared} {d it:Addr}
variable {b:Nat} {f:Nat->Int×Value} {o:Obj} {ep:Nat} {t:SetTable}
end
section
variable {prog:Program} {w:World} {A:Around} {E:Value->Shared->Prop} {s:Shared} {d it:Addr}
variable {b:Nat} {f:Nat->Int×Value} {o:Obj} {ep:Nat} {t:SetTable} {i:Nat}
end
mutual
noncomputable def cp:NK->NK->Bool
 | .int _,.int _=>true
 | .tup x,.tup y=>cpL x y
 |_,_=>false
noncomputable def cpL:List NK->List NK->Bool
 |a::x,b::y=>cp a b&&cpL x y
 |_,_=>true
end
section
open PySem.SeqAt
open PySem.AutoSeq1 (wpAny_loadPart')
open PySem.MeetsSeq PySem.MeetsSeq2 PySem.MeetsSeq3
variable {prog:Program} {w:World} {E:Value->Shared->Prop}
end
section
variable {prog:Program} {w:World} {A:Around} {E:Value->Shared->Prop} {s:Shared}
def zlv (b:Bool):NK->Prop
 | .tup (.tup _::_)=>b=false
 | .tup (.int _::_)=>b=true
 |_=>False
end
section
variable {prog:Program} {w:World} {A:Around} {E:Value->Shared->Prop} {s:Shared}
end
structure KOk (b:Bool) (ks:List NK):Prop where
 cmp:∀x∈ks,∀y∈ks,cp x y=true
 x9:∀k∈ks,zio k<=8
 fst:∀k∈ks,zlv b k
section
variable {X:Cx}
end
section
variable {X:Cx}
end
section
variable {prog:Program} {w:World} {A:Around} {E:Value->Shared->Prop} {s:Shared}
end
section
variable {X:Cx}
end
section
variable {X:Cx} {pins:List (Addr×Obj)} {σ:St} {H:Hp} {s:Shared}
end
section
variable {X:Cx}
end
section
variable {prog:Program} {w:World} {A:Around} {E:Value->Shared->Prop} {s:Shared}
end
section
variable {X:Cx} {pins:List (Addr×Obj)} {σ:St} {H H':Hp} {s:Shared} {h':Heap}
theorem zck {t':Nat} (I:Inv X pins σ H s) (k:∀b u,s.heap.get? b=some u->h'.get? b=some u) (old:Zc H H') (new:∀b u,H' b=some u->H b=some u\/s.heap.objs.size<=b) (ok:∀b u,H' b=some u->H b=none->yj X.prog X.w H' h' b u):
  Inv X pins σ H' {s with heap:=h',toks:=t'}:=by
 refine I.un ⟨λb u q _ _ _=>k b u q,λb u q _ _ _=>⟨u.slots,k b u q⟩,λb u q n _=> ?_,λb u q _=>⟨u,k b u q⟩,λb xs q=>old _ _ q,λb u xs q=>old _ _ q,λb ps q=>⟨#[],by rw[old _ _ q];simp⟩⟩ λb u q=> ?_
 ·cases e:H' b with
  |none=>rfl
  |some o=>
   rcases new b o e with z|z
   ·rw[n] at z;cases z
   ·exact absurd (A0 (Heap.lt_size q) z) (Bh _)
 ·cases e:H b with
  |none=>exact ok b u q e
  |some o=>
   have:=old b o e
   rw[q] at this
   cases this
   exact (I.hok b _ e).stay (λc v _ z=>k c v z) (λc z=>old c _ z) λc xs z=>old c _ z
end
section
variable {X:Cx}
inductive zdq (H:Hp):List Addr->List (Int×V)->Prop
 |nil:zdq H [] []
 |cons {p:Addr} {x:Int×V} {ps:List Addr} {xs:List (Int×V)}:H p=some (.tup [.int x.1,x.2])->zdq H ps xs->zdq H (p::ps) (x::xs)
end
section
variable {X:Cx}
end
open PySem.AutoSeq1 (wpAny_loadPart')
open PySem.MeetsSeq PySem.MeetsSeq2 PySem.MeetsSeq3
section
variable {prog:Program} {w:World} {E:Value->Shared->Prop}
end
section
variable {X:Cx}
end
end L2
namespace L2
open PySem PySem.Spec PyProof.Rows PySem.Calls
section
variable {X:Cx} {tg:Expr}
end
section
variable {prog:Program} {w:World} {A:Around} {I:Addr} {fp wr:List Addr} {G:Array GenState->Array GenState->Prop} {n:Nat} {P:Nat->Value->Prop} {St:Nat->Shared->Prop} {R:Result->Shared->Prop}
noncomputable abbrev znt (xs:Array Value) (c:Nat):Obj:={cls:= .type "list",dict:=none,data:= .seq xs c,slots:= #[]}
noncomputable abbrev znu (I S:Addr) (d:Value):Code:= .builtin "max.loop" ⟨[.ref I,.none,.ref S],[("default",d)]⟩
variable {E:Value->Shared->Prop} {s:Shared}
theorem zhc {id:String} {b:Builtin} {xs:List Value} {kw:List (Str×Value)} {Q:Value->Shared->Prop} (e1:builtinKind id=none) (e2:plainId id=true) (e3:entryFor table id=some b) (e4:argsOk id ⟨xs,kw⟩)
  (h:wpAny (model prog w) A.in1 (b ⟨xs,kw⟩) (λfin s'=>match fin with
   | .done f=>(match (Except.ok f:Result) with| .ok (.ret v)=>Q v s'| .ok _=>False| .error e=>E e s')
   | .again c'=>c'.quiet=true/\codeAny (model prog w) A c' (λr s'=>match r with| .ok (.ret v)=>Q v s'| .ok _=>False| .error e=>E e s') s') E s):wpAny (model prog w) A (call (.builtin id) xs kw) Q E s:=by
 refine wpAny_call (codeAny_call_builtin e2 e3 (by
  simp only[checkBuiltinCall,e1]
  cases hs:Manifest.signature? id with
  |none=>exact wpAny_pure h
  |some sig=>
   have e5:Bind.checkArgs id sig ⟨xs,kw⟩=pure ():=by simpa only[argsOk,hs] using e4
   simp only[e5]
   exact wpAny_pure h))
end
section
variable {X:Cx}
end
section
variable {prog:Program} {w:World} {A:Around} {E:Value->Shared->Prop} {s:Shared}
end
section
variable {X:Cx}
end
section
variable {prog:Program} {w:World} {A:Around} {E:Value->Shared->Prop} {h:Heap} {g:Array GenState} {d:Drawn} {t:Nat} {os:OsState} {a:Addr}
def zlw (h:Heap) (g:Array GenState) (d:Drawn) (os:OsState) (E:Value->Shared->Prop):Prop:=∀h' e tk',(∀b o,h.get? b=some o->h'.get? b=some o)->(∃o,h'.get? e=some o/\o.cls= .type "AttributeError")->E (.ref e) ⟨h',g,d,tk',os⟩
end
theorem zcl:entryFor table "dict.update.loop"=some Builtin.«dict.update.loop» :=entryFor_of_fast (by kernel_rfl)
theorem Wv:plainId "dict.update.loop"=true:=by decide+kernel
section
variable {prog:Program} {w:World} {A:Around} {I:Addr} {fp wr:List Addr} {G:Array GenState->Array GenState->Prop} {n:Nat} {P:Nat->Value->Prop} {St:Nat->Shared->Prop} {R:Result->Shared->Prop} {KK:Type} [DecidableEq KK] {knd:KeyKind prog w KK}
theorem zfr {kv:List (KK×Value)} {i:Nat} {k:KK} {v:Value} (nd:(kv.map (·.1)).Nodup) (h:kv[i]? =some (k,v)):stored (kv.take i) k v=kv.take (i+1):=by
 have hi:=(y4.1 h).1
 have e:=(y4.1 h).2
 unfold stored
 rw[if_neg,List.take_succ_eq_append_getElem hi,e]
 intro q
 rw[Cr] at q
 obtain⟨x,hx,hk⟩:=q
 obtain⟨m,hm,rfl⟩:=EE.1 hx
 rw[Am] at hm
 have hk:(kv.take i)[m].1=k:=of_decide_eq_true hk
 rw[Fv] at hk
 have h2:=(C0 (xs:=kv.map (·.1)) (i:=m) (j:=i) (h₀:=by rw[y7];omega) (h₁:=by rw[y7];omega) nd).1 (by rw[D1,D1,hk,e])
 omega
theorem zjc (W:WalksS prog w A.in1 I fp wr G n P St) (d:Addr) (nf:d∉fp) (h0:Heap) (old:∀b o,h0.get? b=some o->b∉d::wr) (kv:List (KK×Value)) (nd:(kv.map (·.1)).Nodup) (hn:kv.length=n) (qF:n<=sizeLine)
  (xu:∀i v,P i v->∃p key k x m,kv[i]? =some (k,x)/\v= .ref p/\knd.is k key=true/\∃o,h0.get? p=some o/\o.cls= .type "tuple"/\o.data= .seq #[key,x] m):
  ∀(q i:Nat) (s:Shared) (t:Tok),n-i=q->i<=n->St i s->(∀b o,h0.get? b=some o->s.heap.get? b=some o)->s.heap.DictOf knd d (kv.take i)->(∀s',Moved (d::wr) G s s'->s'.heap.DictOf knd d kv->R (.ok (.ret .none)) s')->
   codeAny (model prog w) A (.builtin "dict.update.loop" ⟨[.ref d,.ref I,.int i t,.none],[]⟩) R s:=by
 have nw:d∉wr:=λq=>nf (W.sub _ q)
 have up:∀b∈wr,b∈d::wr:=λb q=> .tail _ q
 have ns:∀{b:Addr},b∉d::wr->b≠d:=λq e=>q (e ▸ .head _)
 have stay:∀{s s':Shared} {l:List (KK×Value)},Moved wr G s s'->s.heap.DictOf knd d l->s'.heap.DictOf knd d l:=by
  rintro s s' l mv ⟨o,es,ep,ho,r⟩
  exact⟨o,es,ep,mv.heap d o nw ho,r⟩
 intro q
 induction q with
 |zero=>
  intro i s t hq hi st ho hD fin
  obtain rfl:i=n:=by omega
  refine codeAny_builtin zcl (by
   rw[Around.under_plainId Wv _]
   refine wpAny_bind (m:=pyNext (.ref I)) (W.done s _ _ st λs' mv=> ?_)
   refine wpAny_bind (m:=Builtin.Dict.addKeywords d []) (wpAny_pure (wpAny_pure (fin s' (mv.mono up) ?_)))
   have:=stay mv hD
   rwa [<-hn,Ar] at this)
 |succ q ih=>
  intro i s t hq hi st ho hD fin
  have lt:i<n:=by omega
  refine codeAny_builtin zcl (by
   rw[Around.under_plainId Wv _]
   refine wpAny_bind (m:=pyNext (.ref I)) (W.item i s _ _ lt st λv s' hv st' mv=> ?_)
   obtain⟨p,key,k,x,m,hk,rfl,lH,o,hp,hc,hd⟩:=xu i v hv
   have g6:∀b o,h0.get? b=some o->s'.heap.get? b=some o:=λb o e=>mv.heap b o (λz=>old b o e (up b z)) (ho b o e)
   have eE:=g6 _ _ hp
   have hT:s'.TypeIs (.ref p) "tuple":=⟨_,eE,hc⟩
   refine wpAny_bind (wpAny_holding (wpAny_bind (m:=tryCatch (Builtin.Dict.pairItems (.ref p)) _) (wpAny_tryCatch ?_)))
   unfold Builtin.Dict.pairItems
   refine wpAny_bind (wpAny_typeOf hT ?_)
   rw[if_pos ∅]
   refine wpAny_bind (wpAny_seqItems eE hd (wpAny_pure ?_))
   refine wpAny_holding (m:=dictSet d key x) (wpAny_dictSet_pairs lH (stay mv hD) (λh' qE sb=> ?_) (by rw[Am];omega))
   rw[zfr nd hk] at qE
   refine wpAny_pure ⟨plainId_quiet Wv _,ih (i+1) _ _ ⋯ lt (W.frame _ s' h' (s'.toks+1) st' (B5 _) λb hb ob e=>(sb.2 b λz=>nf (z ▸ hb)).trans e) (λb ob e=>(sb.2 b (ns (old b ob e))).trans (g6 b ob e)) qE λs'' qX tU=> ?_⟩
   exact fin s'' (Moved.trans W.gtrans ((mv.mono up).then_heap (B5 _) λb ob q e=>(sb.2 b (ns q)).trans e) qX) tU)
variable {E:Value->Shared->Prop} {s:Shared}
end
def PrT (H:Hp):V->Key×V->Prop:=λp q=>∃b,p= .ref b/\H b=some (.tup [kV q.1,q.2])
theorem zhd {P:Program} {w:World} {H:Hp} {h:Heap} (ok:HOk P w H h) {ps:List V} {kvs:List (Key×V)} (hp:Paired (PrT H) ps kvs):∀{ae:List Value},zI ps ae->∃kv:List (Key×Value),KV kvs kv/\kv.length=ae.length/\∀(i:Nat) v,ae[i]? =some v->
  ∃p key k x m,kv[i]? =some (k,x)/\v= .ref p/\(zZ P w).is k key=true/\∃o,h.get? p=some o/\o.cls= .type "tuple"/\o.data= .seq #[key,x] m:=by
 induction hp with
 |nil=>
  intro ae r
  cases r
  exact⟨[],.nil,rfl,λi v e=>by simp at e⟩
 | @cons p q ps kvs h1 _ ih=>
  intro ae r
  obtain⟨k,y⟩:=q
  cases r with
  |cons r1 r2=>
   obtain⟨kv,a1,a2,a3⟩:=ih r2
   obtain⟨b,rfl,hb⟩:=h1
   cases r1
   obtain⟨_,ae,rv,o,e,c,m,d,_⟩:=(show yj P w H h b (.tup _) from ok b _ hb)
   obtain⟨u1,u2,rfl,g1,g2⟩:=zd1 rv
   refine⟨(k,u2)::kv,.cons ⟨rfl,g2⟩ a1,by rw[Ah,Ah,a2],λi v e'=> ?_⟩
   cases i with
   |zero=>
    cases e'
    refine⟨b,u1,k,u2,m,rfl,rfl,?_,o,e,c,by simpa using d⟩
    cases k with
    |inl i=>obtain⟨t,rfl⟩:=g1;exact TJ i t
    |inr x=>obtain⟨t,rfl⟩:=g1;exact TK x t
   |succ i=>exact a3 i v (by simpa using e')
section
variable {X:Cx}
end
section
variable {prog:Program} {w:World} {A:Around} {I:Addr} {fp wr:List Addr} {G:Array GenState->Array GenState->Prop} {n:Nat} {P:Nat->Value->Prop} {St:Nat->Shared->Prop} {R:Result->Shared->Prop}
end
section
variable {prog:Program} {w:World} {A:Around} {E:Value->Shared->Prop} {s:Shared}
end
section
variable {X:Cx}
end
section
variable {K:y3} {E:XK}
noncomputable def Ua:D->D->Bool
 | .tup _,.tup _=>true
 | .lst _,.lst _=>true
 |_,_=>false
noncomputable def zfs (neg:Bool):Op2:=λx y S=>match xu S 40 x,xu S 40 y with
 |some d,some e=>if Ua d e then (eqG 40 d e).map λb=>(.bl (neg !=b),S) else none
 |_,_=>none
theorem zdr {d e:D} (h:Ua d e=true):∃l m,(d= .tup l/\e= .tup m)\/(d= .lst l/\e= .lst m):=by
 unfold Ua at h
 split at h
 ·exact⟨_,_,.inl ⟨rfl,rfl⟩⟩
 ·exact⟨_,_,.inr ⟨rfl,rfl⟩⟩
 ·cases h
theorem zhe {neg:Bool}:ZX K (zmO K neg) (zfs neg):=by
 intro F j σ H ρ S S' x y z u v Q E1 hx hy h k
 unfold zfs at h
 split at h
 ·rename_i d e e1 e2
  split at h
  ·rename_i hb
   cases hg:eqG 40 d e with
   |none=>rw[hg] at h;cases h
   |some b=>
    rw[hg] at h
    cases h
    exact⟨d,e,b,zdr hb,(VW E1 40 _ _ _ hx e1).1,(VW E1 40 _ _ _ hy e2).1,hg,k _ _ _ Ext.refl E1 (.bl _)⟩
  ·cases h
 ·cases h
end
section
variable {S:Sto} {x y:Xv} {P:Xv->Sto->Prop} {p q:Int}
theorem zlx {neg b:Bool} {d e:D} (h1:xu S 40 x=some d) (h2:xu S 40 y=some e) (hs:Ua d e=true) (hb:eqG 40 d e=some b) (k:P (.bl (neg !=b)) S):WO (zfs neg x y S) P:= .of (by unfold zfs;rw[h1,h2];dsimp only;rw[if_pos hs,hb];rfl) k
theorem zhf {ρc:Rho} {get:Sto->Option (List Xv)} {g:TwG} {c:TwT} {m:TwE} {xs:List Xv} (hl:xs.length<=sizeLine) (J:Nat->List Xv->Sto->Prop) (hg:∀i es S,i<=xs.length->J i es S->get S=some xs)
  (h:∀(i:Nat) (x:Xv) es S,xs[i]? =some x->es.length<=i->J i es S->W (g x ρc S) λρ1 S1=>W (c ρ1 S1) λb S2=>(b=true->W (m ρ1 S2) λy S3=>J (i+1) (es++[y]) S3)/\(b=false->J (i+1) es S2)) (h0:J 0 [] S)
  (k:∀es S,es.length<=xs.length->J xs.length es S->P (.ref S.length) (S++[.lst es])):W (wJ get g c m ρc (xs.length+1) 0 [] S) P:=by
 have aux:∀(n i:Nat) (es:List Xv) (S:Sto),i+n=xs.length->es.length<=i->J i es S->W (wJ get g c m ρc (n+1) i es S) P:=by
  intro n
  induction n with
  |zero=>
   intro i es S e el hj
   unfold wJ
   rw[hg i es S ⋯ hj,A1,Aq ⋯]
   dsimp only
   rw[if_pos ⋯]
   exact .of rfl (k es S ⋯ (by rw[show xs.length=i by omega];exact hj))
  |succ n ih=>
   intro i es S e el hj
   unfold wJ
   have hi:i<xs.length:=by omega
   rw[hg i es S ⋯ hj,A1,y6 hi]
   obtain⟨ρ1,S1,e1,b,S2,e2,t,f⟩:=h i _ es S (y6 hi) el hj
   dsimp only[rn]
   rw[e1]
   dsimp only[rn]
   rw[e2]
   dsimp only[rn]
   cases b with
   |true=>
    obtain⟨y,S3,e3,q⟩:=t rfl
    rw[if_pos rfl,e3]
    dsimp only[rn]
    rw[if_pos ⋯]
    exact ih (i+1) (es++[y]) S3 ⋯ (by simp;omega) q
   |false=>
    rw[if_neg (by simp)]
    exact ih (i+1) es S2 ⋯ ⋯ (f rfl)
 exact aux xs.length 0 [] S ⋯ (by simp) h0
end
section
variable {K:y3} {E:XK}
end
section
variable {K:y3} {E:XK}
end
noncomputable def kX:Key->Xv
 | .inl i=> .int i
 | .inr z=> .str z
noncomputable def UV (kvs:List (Key×Xv)):List Xv:=kvs.map λp=> .tup [kX p.1,p.2]
noncomputable def UW (n:Nat) (S:Sto):Option (List Xv):=match S[n]? with
 |some (.fdk kvs)=>some (UV kvs)
 |_=>none
noncomputable def iIt (m:TwE):TwI:=λρ S=>rb (m ρ S) λx S1=>(xT S1 x).map λp=> .ok (UW p.1) (S1.set p.1 (.fdk p.2))
section
variable {K:y3} {E:XK}
theorem zhg {j:List Addr} {H:Hp} {k:Key}:Xis K j H (kX k) (kV k):=by
 cases k
 ·exact .int _
 ·exact .str _
theorem KX.get {j:List Addr} {H:Hp} {kvs:List (Key×Xv)} {ks:List (Key×V)} {i:Nat} {k:Key} {x:Xv} (h:KX K j H kvs ks) (e:kvs[i]? =some (k,x)):∃v,ks[i]? =some (k,v)/\Xis K j H x v:=by
 induction h generalizing i with
 |nil=>simp at e
 |cons h _ ih=>
  cases i with
  |zero=>
   simp at e
   obtain⟨rfl,rfl⟩:=e
   exact⟨_,rfl,h⟩
  |succ i=>exact ih e
theorem UX {t:TE} {m:TwE} (h:RE K E t m):RI K E (zha (zkW K "dict" zg9 t)) (iIt m):=by
 intro F j σ H ρ S r R En0 e k
 rcases zj e with⟨x,S1,e1,e⟩|⟨c,S1,e1,rfl⟩
 ·cases e4:xT S1 x with
  |none=>rw[e4] at e;cases e
  |some p=>
   obtain⟨n,kvs⟩:=p
   rw[e4] at e
   cases e
   refine h En0 e1 λj1 H1 X1 E1 u hu=> ?_
   obtain⟨a,ks,rfl,hj,h1,h2⟩:=E1.dk hu e4
   have hs:=(ZM e4).2
   refine⟨tyD h1,a,ks,rfl,rfl,h1,λp hp=> ?_⟩
   obtain⟨E2,X2⟩:=E1.new (o:=zcg p a) hp
   have ne:a≠p:=wk h1 hp
   refine⟨p,a,ks,rfl,zm,by rw[zh ne];exact h1,λo=> ?_⟩
   obtain⟨E3,X3⟩:=E2.writeF (n:=n) (c':= .fdk kvs) (o:= .frz o (.dK ks)) hs rfl hj (λX=>⟨o,ks,zm,(h2.mono X2).mono X⟩)
   refine k _ _ (X1.trans (X2.trans X3)) E3 _ ?_
   intro F2 j2 H2 σ2 ρ2 S2 xs i X4 E4 e5
   unfold UW at e5
   split at e5
   ·rename_i mr ec
    cases e5
    have ha:H2 a=some (.frz o (.dK ks)):=X4.imm _ _ zm rfl
    obtain⟨o',ks',f1,f2⟩:=E4.cel n _ a ec (X4.pre n a hj)
    rw[ha] at f1
    cases f1
    refine⟨λy ey=> ?_,λhle=>⟨ha,by rw[f2.len];unfold UV at hle;rw[y7] at hle;omega⟩⟩
    unfold UV at ey
    rw[y8] at ey
    cases ep:mr[i]? with
    |none=>rw[ep] at ey;cases ey
    |some q=>
     obtain⟨kk,xx⟩:=q
     rw[ep] at ey
     cases ey
     obtain⟨v,g1,g2⟩:=f2.get ep
     refine⟨⟨ha,kk,v,g1⟩,?_⟩
     rintro v' H' ⟨q,k2,v2,rfl,hq,rfl,g3⟩
     rw[g1] at g3
     cases g3
     exact⟨yl hq,.tup zm (.cons zhg (.one (g2.mono (Ext.same (yl hq)))))⟩
   ·cases e5
 ·exact h En0 e1 k
end
theorem zhh {ρ:Rho} {S:Sto} {m:TwE} {Q':(Sto->Option (List Xv))->Sto->Prop} (h:W (m ρ S) λx S1=>∃n kvs,xT S1 x=some (n,kvs)/\Q' (UW n) (S1.set n (.fdk kvs))):W (iIt m ρ S) Q':=W.bind (h.imp λx S1 h=>by
 obtain⟨n,kvs,e,q⟩:=h
 rw[e]
 exact .of rfl q)
section
variable {K:y3} {E:XK} {F:Fm} {j:List Addr} {H:Hp} {σ:St} {ρ:Rho} {S:Sto} {x y z:Xv} {u v w:V}
end
section
variable {K:y3} {j:List Addr} {H:Hp}
end
section
variable {ρ:Rho} {S:Sto} {P:Xv->Sto->Prop} {N:Rho->Sto->Prop} {R:Xv->Sto->Prop} {a b m z:TwE} {x y:Xv}
end
noncomputable def zds (S:Sto) (x:Xv) (nm:Str):Option (Nat×List (Str×Xv)):=match x with
 | .ref n=>match S[n]? with
  |some (.ins nm' fs)=>if nm'=nm then some (n,fs) else none
  |_=>none
 |_=>none
theorem zao {S:Sto} {x:Xv} {nm:Str} {n:Nat} {fs:List (Str×Xv)} (h:zds S x nm=some (n,fs)):x= .ref n/\S[n]? =some (.ins nm fs):=by
 unfold zds at h
 split at h
 ·split at h
  ·split at h
   ·rename_i e1 e2
    cases h
    subst e2
    exact⟨rfl,e1⟩
   ·cases h
  ·cases h
 ·cases h
theorem zet {S:Sto} {nm:Str} {n:Nat} {fs:List (Str×Xv)} (h:S[n]? =some (.ins nm fs)):zds S (.ref n) nm=some (n,fs):=by
 unfold zds
 dsimp only
 rw[h]
 dsimp only
 rw[if_pos rfl]
noncomputable def zbf (f:Str) (v:Xv):List (Str×Xv)->List (Str×Xv)
 |[]=>[(f,v)]
 |(g,x)::r=>if g=f then (g,v)::r else (g,x)::zbf f v r
section
variable {K:y3} {E:XK} {F:Fm} {j:List Addr} {H:Hp} {σ:St} {ρ:Rho} {S:Sto} {x:Xv} {v:V} {nm f m:Str} {C:Addr}
theorem KX.look {fs:List (Str×Xv)} {vs:List (Str×V)} (h:KX K j H fs vs):(∀y,fs.lookup f=some y->∃w,vs.lookup f=some w/\Xis K j H y w)/\(fs.lookup f=none->vs.lookup f=none):=by
 induction h with
 |nil=>exact⟨(λ_ e=>by cases e),λ_=>rfl⟩
 | @cons g y1 w1 r rs h l ih=>
  obtain⟨i1,i2⟩:=ih
  rw[AY,AY]
  cases hb:(f==g) with
  |true=>exact⟨(λy e=>by cases e;exact⟨w1,rfl,h⟩),(λe=>by cases e)⟩
  |false=>exact⟨i1,i2⟩
theorem KX.putF (hx:Xis K j H x v) {fs:List (Str×Xv)} {vs:List (Str×V)} (h:KX K j H fs vs):KX K j H (zbf f x fs) (ZS f v vs):=by
 induction h with
 |nil=>exact .cons hx .nil
 | @cons g y1 w1 r rs h l ih=>
  unfold zbf L2.ZS
  by_cases e:g=f
  ·rw[if_pos e,if_pos e];exact .cons hx l
  ·rw[if_neg e,if_neg e];exact .cons h ih
theorem En.ins {n:Nat} {fs:List (Str×Xv)} (cO:A8 K mainGlobals nm=some (some (.ref C))) (E1:En K F j H σ ρ S) (hx:Xis K j H x v) (h:zds S x nm=some (n,fs)):∃a dx vs,v= .ref a/\j[n]? =some a/\H a=some (.ins C dx vs)/\KX K j H fs vs:=by
 obtain⟨rfl,hs⟩:=zao h
 obtain⟨a,rfl,hj⟩:=hx.ref_inv
 obtain⟨C',dx,vs,e0,e1,e2⟩:=E1.cel _ _ _ hs hj
 rw[cO] at e0
 cases e0
 exact⟨a,dx,vs,rfl,hj,e1,e2⟩
noncomputable def vT (nm f:Str) (o:TwE):TwE:=λρ S=>rb (o ρ S) λx S1=>(zds S1 x nm).bind λp=>(p.2.lookup f).map λy=> .ok y S1
theorem Xt {to:TE} {o:TwE} (cO:A8 K mainGlobals nm=some (some (.ref C))) (hc:Cls K C) (hn:wm K C f) (h:RE K E to o):RE K E (zmh K to f) (vT nm f o):=by
 intro F j σ H ρ S r Q En0 e k
 rcases zj e with⟨x,S1,e1,e⟩|⟨c,S1,e1,rfl⟩
 ·refine h En0 e1 λj1 H1 X1 E1 u hu=> ?_
  rw[An] at e
  obtain⟨⟨n,fs⟩,e2,e⟩:=e
  rw[z0] at e
  obtain⟨y,e3,rfl⟩:=e
  obtain⟨a,dx,vs,rfl,hj,f1,f2⟩:=E1.ins cO hu e2
  obtain⟨w,g1,g2⟩:=f2.look.1 y e3
  exact⟨a,C,dx,vs,w,rfl,f1,hc,hn,g1,k _ _ X1 E1 _ g2⟩
 ·exact h En0 e1 k
def Ww (nm f:Str) (o m:TwE):TwS:=λρ S=>sb (m ρ S) λy S1=>sb (o ρ S1) λx S2=>(zds S2 x nm).bind λp=>if p.2.length<1000 then some (.nx ρ (S2.set p.1 (.ins nm (zbf f y p.2)))) else none
theorem KX.len2 {fs:List (Str×Xv)} {vs:List (Str×V)} (h:KX K j H fs vs):vs.length=fs.length:=by
 induction h with
 |nil=>rfl
 |cons h _ ih=>exact congrArg (· +1) ih
theorem zeu {to tv:TE} {o m:TwE} (cO:A8 K mainGlobals nm=some (some (.ref C))) (hc:Cls K C) (hn:wm K C f) (ho:RE K E to o) (hv:RE K E tv m):RS K E (zmi K to tv f) (Ww nm f o m):=by
 intro F j D' σ H ρ S fl E0 e kk
 rcases xj e with⟨y,S1,e1,e⟩|⟨c,S1,e1,rfl⟩
 ·refine hv E0 e1 λj1 H1 X1 E1 wy rO=> ?_
  rcases xj e with⟨x,S2,e2,e⟩|⟨c,S2,e2,rfl⟩
  ·refine ho E1 e2 λj2 H2 X2 E2 u hu=> ?_
   rw[An] at e
   obtain⟨⟨n,fs⟩,e3,e⟩:=e
   dsimp only at e
   split at e
   ·rename_i hl
    cases e
    obtain⟨a,dx,vs,rfl,hj,f1,f2⟩:=E2.ins cO hu e3
    obtain⟨E4,X4⟩:=E2.write (o:= .ins C dx (L2.ZS f wy vs)) (c':= .ins nm (zbf f y fs)) (zao e3).2 rfl hj rfl λX=>⟨C,dx,_,cO,zm,(KX.putF (rO.mono X2) f2).mono X⟩
    exact⟨a,C,dx,vs,rfl,f1,hc,hn,by rw[f2.len2];exact hl,kk _ _ _ (X1.trans (X2.trans X4)) E4⟩
   ·cases e
  ·exact ho E1 e2 (PX.mono kk X1)
 ·exact hv E0 e1 kk
noncomputable def UY (nm:Str) (tw:TwF) (ms:List TwE):TwE:=λρ S=>rb (evL ms ρ S) λxs S1=>match tw (.ref S1.length::xs) (S1++[.ins nm []]) with
 |some (.ok .non S2)=>some (.ok (.ref S1.length) S2)
 |_=>none
theorem zcm {n:Nat} {tw:TwF} {ms:List TwE} {t:TA} (cO:A8 K mainGlobals nm=some (some (.ref C))) (h:RL K E t (evL ms)) (hn:ms.length+1=n:=by rfl):RE K E (zf5 C (sTw K n tw) [] E t) (UY nm tw ms):=by
 intro F j σ H ρ S r Q En0 e k
 rcases zj e with⟨xs,S1,e1,e⟩|⟨c,S1,e1,rfl⟩
 ·refine h En0 e1 λj1 H1 X1 E1 vs hv=> ?_
  intro x dx hx o8 cE
  rw[Bx]
  split at e
  ·rename_i S2 e2
   cases e
   have iw:upd H1 dx (.own x) x=none:=by rw[zh (λz=>cE z.symm)];exact hx
   obtain⟨E2,X2⟩:=E1.new (p:=dx) (o:= .own x) o8
   obtain⟨E3,X3⟩:=E2.cell (p:=x) (o:= .ins C dx []) (c:= .ins nm []) iw ⟨C,dx,[],cO,zm,.nil⟩
   have X23:=X2.trans X3
   have hr:Xis K (j1++[x]) (upd (upd H1 dx (.own x)) x (.ins C dx [])) (.ref S1.length) (.ref x):= .ref (by rw[<-E1.jl];simp)
   refine Xn E3 (.cons hr (hv.mono X23)) (by rw[Ah,hv.len,ZY e1,hn]) e2 λj' H' X E4 v hw=> ?_
   exact⟨hw.non_inv,k _ _ (X1.trans (X23.trans X)) E4 _ (hr.mono X)⟩
  ·cases e
 ·exact h En0 e1 k
end
section
variable {ρ:Rho} {S:Sto} {P:Xv->Sto->Prop} {N:Rho->Sto->Prop} {R:Xv->Sto->Prop} {o m:TwE} {ms:List TwE} {nm f:Str}
theorem vg (h:W (o ρ S) λx S1=>∃n fs y,x= .ref n/\S1[n]? =some (.ins nm fs)/\fs.lookup f=some y/\P y S1):W (vT nm f o ρ S) P:=
 W.bind (h.imp λ_ _ h=>by obtain⟨n,fs,y,rfl,e1,e2,q⟩:=h;rw[zet e1,A1,e2];exact .of rfl q)
theorem Yb (h:W (m ρ S) λy S1=>W (o ρ S1) λx S2=>∃n fs,x= .ref n/\S2[n]? =some (.ins nm fs)/\fs.length<1000/\N ρ (S2.set n (.ins nm (zbf f y fs)))):WS (Ww nm f o m ρ S) N R:=
 WS.bind (h.imp λ_ _ h=>WS.bind (h.imp λ_ _ h=>by obtain⟨n,fs,rfl,e1,e2,q⟩:=h;rw[zet e1,A1,if_pos e2];exact .nx rfl q))
theorem zev {tw:TwF} (h:W (evL ms ρ S) λxs S1=>W (tw (.ref S1.length::xs) (S1++[.ins nm []])) λv S2=>v= .non/\P (.ref S1.length) S2):W (UY nm tw ms ρ S) P:=
 W.bind (h.imp λxs S1 h=>by
  obtain⟨v,S2,e,rfl,q⟩:=h
  rw[e]
  exact .of rfl q)
end
theorem zew {K:y3} {X:Cx} (h:X.K=K:=by rfl):IxR X (rIx K):=h ▸ zkV
section
variable {K:y3} {E:XK} {j:List Addr} {H:Hp}
end
section
variable {K:y3} {E:XK} {F:Fm} {j:List Addr} {H:Hp} {σ:St} {ρ:Rho} {S:Sto} {x:Xv} {v:V} {c:Str} {C:Addr}
end
end L2
namespace L2
open PySem
section
variable {ρ:Rho} {S S':Sto} {x y:Xv} {a b m o:TwE} {c:TwT} {s t:TwS} {i k:Nat} {P:Xv->Sto->Prop} {PL:List Xv->Sto->Prop} {N:Rho->Sto->Prop} {R:Xv->Sto->Prop} {X:Str->Sto->Prop}
end
end L2
namespace L2
open PySem PySem.Spec PyProof.Rows PySem.Calls
section
variable {K:y3} {E:XK} {F:Fm} {j:List Addr} {H:Hp} {σ:St} {ρ:Rho} {S:Sto} {x:Xv} {v:V} {nm f:Str} {C:Addr}
theorem zcn {xs:List Xv} {vs:List V} (h:zE K j H xs vs):∀n:Nat,zE K j H (z9 n xs).flatten (z9 n vs).flatten
 |0=> .nil
 |n+1=>by
  rw[B1,B1,BD,BD]
  exact h.append (zcn h n)
end
structure znr (tw:TwF) (S:Sto) (l:List Xv) (is:List (List Int)):Prop where
 len:is.length=l.length
 key:∀(i:Nat) x,l[i]? =some x->∃k,tw [x] S=some (.ok k S)/\k.tupOf=some ((is.getD i []).map Xv.int)
 fall:zmP is
section
variable {K:y3} {E:XK} {j:List Addr} {H:Hp}
end
section
variable {K:y3} {E:XK} {F:Fm} {j:List Addr} {H:Hp} {σ:St} {ρ:Rho} {S:Sto}
noncomputable def zap (x:Xv):Option (List Int):=x.tupOf.bind YA
theorem zhi {x:Xv} {v:V} {ns:List Int} (h:Xis K j H x v) (e:zap x=some ns):∃a,v= .ref a/\SqT K H a (ns.map V.int):=by
 unfold zap at e
 cases et:x.tupOf with
 |none=>rw[et] at e;cases e
 |some l=>
  rw[et,A1] at e
  obtain⟨a,vs,rfl,h1,h2⟩:=h.tupO et
  rw[UQ e h2] at h1
  exact⟨a,rfl,h1⟩
end
section
variable {K:y3} {E:XK}
end
section
variable {K:y3} {E:XK}
end
section
variable {K:y3} {E:XK}
end
section
variable {S:Sto} {x y:Xv} {P:Xv->Sto->Prop}
end
section
variable {K:y3} {E:XK}
end
section
variable {K:y3} {E:XK}
end
section
variable {m:TwE} {ρ:Rho} {S:Sto}
end
section
variable {K:y3} {E:XK}
end
section
variable {S:Sto} {x:Xv} {P:Xv->Sto->Prop}
end
section
variable {X:Cx} {tg:Expr}
end
section
variable {K:y3} {E:XK}
end
section
variable {m:TwE} {ρ:Rho} {S:Sto}
end
end L2
namespace L2
open PySem PySem.Spec PyProof.Rows PyProof
open Builtin Builtin.Str
section
variable {X:Cx}
end
end L2
namespace L2
open PySem PySem.Spec PyProof.Rows PyProof
section
variable {X:Cx}
inductive PJ (X:Cx):List Expr->List TE->Prop where
 |nil:PJ X [] []
 |cons {e:Expr} {es:List Expr} {t:TE} {ts:List TE}:PE X e t->PJ X es ts->PJ X (e::es) (t::ts)
end
end L2
namespace L2
open PySem PySem.Spec PyProof.Rows
section
variable {K:y3} {E:XK} {F:Fm} {j:List Addr} {H:Hp} {σ:St} {ρ:Rho} {S:Sto}
inductive RJ (K:y3) (E:XK):List TE->List TwE->Prop where
 |nil:RJ K E [] []
 |cons {t:TE} {ts:List TE} {m:TwE} {ms:List TwE}:RE K E t m->RJ K E ts ms->RJ K E (t::ts) (m::ms)
end
section
variable {K:y3} {E:XK} {j:List Addr} {H:Hp}
end
section
variable {ρ:Rho} {S:Sto} {P:Xv->Sto->Prop} {o m:TwE} {x y:Xv}
end
inductive Sh (n:Nat):List D->Nat->Nat->Prop where
 |nil:Sh n [] 0 0
 |int {i:Int} {r:List D} {w e:Nat}:i.natAbs<2^n->Sh n r w e->Sh n (.int i::r) (n+1+w) e
 |str {z:Str} {r:List D} {w e:Nat}:z.length<=n->(z.cps.toList.all λc=>decide (c<16^8))=true->Sh n r w e->Sh n (.str z::r) (n+1+w) e
 |tup {l r:List D} {w e w' e':Nat}:Sh n l w e->Sh n r w' e'->Sh n (.tup l::r) (w+1+w') (max (e+1) e')
 |lst {l r:List D} {w e w' e':Nat}:Sh n l w e->Sh n r w' e'->Sh n (.lst l::r) (w+1+w') (max (e+1) e')
section
variable {X:Cx} {pins:List (Addr×Obj)} {σ:St} {H:Hp} {s:Shared}
theorem Sh.reads (I:Inv X pins σ H s) {n:Nat} {ds:List D} {w e:Nat} (h:Sh n ds w e):∀{vs:List V} {us:List Value},IsL X.K H vs ds->zI vs us->∃as,ReadsAll s.heap us (D.pys ds) as:=by
 induction h with
 |nil=>
  intro vs us h r
  cases h
  cases r
  exact⟨_,.nil⟩
 |int _ _ ih=>
  intro vs us h r
  cases h with
  |cons h l=>
   cases h
   cases r with
   |cons r1 r2=>
    obtain⟨t,rfl⟩:=r1
    obtain⟨as,ra⟩:=ih l r2
    exact⟨_,.cons (.int _ t) ra⟩
 |str _ _ _ ih=>
  intro vs us h r
  cases h with
  |cons h l=>
   cases h
   cases r with
   |cons r1 r2=>
    obtain⟨t,rfl⟩:=r1
    obtain⟨as,ra⟩:=ih l r2
    exact⟨_,.cons (.str _ t) ra⟩
 |tup _ _ iu iq=>
  intro vs us h r
  cases h with
  |cons h l=>
   cases h with
   | @tup a _ _ h2 l2=>
   cases r with
   |cons r1 r2=>
    cases r1
    obtain⟨ae,rv,⟨o,ho,hc,m,hd⟩,_⟩:=I.tuple h2
    obtain⟨as,ra⟩:=iu l2 rv
    obtain⟨bs,rb⟩:=iq l r2
    exact⟨_,.cons (.tuple ho hc hd (by simpa using ra)) rb⟩
 |lst _ _ iu iq=>
  intro vs us h r
  cases h with
  |cons h l=>
   cases h with
   | @lst a _ _ h2 l2=>
   cases r with
   |cons r1 r2=>
    cases r1
    obtain⟨ae,rv,⟨o,m,ho,hc,_,hd⟩,_⟩:=I.list h2
    obtain⟨as,ra⟩:=iu l2 rv
    obtain⟨bs,rb⟩:=iq l r2
    exact⟨_,.cons (.list ho hc hd (by simpa using ra)) rb⟩
end
theorem Sh.show {n:Nat} (h0:8<=n) (h1:n<=1900) {ds:List D} {w e:Nat} (h:Sh n ds w e):PyData.showableAll (D.pys ds)=true/\PyData.hasDictAll (D.pys ds)=false/\PyData.leavesShortAll (n+1) (D.pys ds)=true/\PyData.weightAll (D.pys ds)<=w/\PyData.depthAll (D.pys ds)<=e:=by
 induction h with
 |nil=>exact⟨rfl,rfl,rfl,Bi _,z5 _⟩
 | @int i r w e h _ ih=>
  obtain⟨a,b,c,d,f⟩:=ih
  have hl:i.natAbs.log2<n:=zc8 ⋯ h
  refine⟨?_,?_,?_,?_,?_⟩
  ·show (decide (i.natAbs.log2<1920)&&PyData.showableAll (D.pys r))=true
   rw[a,decide_eq_true ⋯];rfl
  ·exact b
  ·show (decide ((Str.ofString (toString i)).length<=n+1)&&PyData.leavesShortAll (n+1) (D.pys r))=true
   have:=int_text_length_le (k:=n) ⋯ hl
   rw[<-PySem.ofString_length] at this
   rw[c,decide_eq_true this];rfl
  ·show (if i==0 then 0 else i.natAbs.log2+1)+1+PyData.weightAll (D.pys r)<=n+1+w
   split<;>omega
  ·show max 0 (PyData.depthAll (D.pys r))<=e
   omega
 | @str z r w e h h2 _ ih=>
  obtain⟨a,b,c,d,f⟩:=ih
  refine⟨a,b,?_,?_,?_⟩
  ·show ((z.cps.toList.all λc=>decide (c<16^8))&&PyData.leavesShortAll (n+1) (D.pys r))=true
   rw[h2,c];rfl
  ·show z.cps.size+1+PyData.weightAll (D.pys r)<=n+1+w
   have:z.cps.size<=n:=h
   omega
  ·show max 0 (PyData.depthAll (D.pys r))<=e
   omega
 | @tup l r w e w' e' _ _ iu iq=>
  obtain⟨a,b,c,d,f⟩:=iu
  obtain⟨a2,b2,c2,d2,f2⟩:=iq
  refine⟨?_,?_,?_,?_,?_⟩
  ·show (PyData.showableAll (D.pys l)&&PyData.showableAll (D.pys r))=true
   rw[a,a2];rfl
  ·show (PyData.hasDictAll (D.pys l)||PyData.hasDictAll (D.pys r))=false
   rw[b,b2];rfl
  ·show (PyData.leavesShortAll (n+1) (D.pys l)&&PyData.leavesShortAll (n+1) (D.pys r))=true
   rw[c,c2];rfl
  ·show PyData.weightAll (D.pys l)+1+PyData.weightAll (D.pys r)<=_
   omega
  ·show max (PyData.depthAll (D.pys l)+1) (PyData.depthAll (D.pys r))<=_
   omega
 | @lst l r w e w' e' _ _ iu iq=>
  obtain⟨a,b,c,d,f⟩:=iu
  obtain⟨a2,b2,c2,d2,f2⟩:=iq
  refine⟨?_,?_,?_,?_,?_⟩
  ·show (PyData.showableAll (D.pys l)&&PyData.showableAll (D.pys r))=true
   rw[a,a2];rfl
  ·show (PyData.hasDictAll (D.pys l)||PyData.hasDictAll (D.pys r))=false
   rw[b,b2];rfl
  ·show (PyData.leavesShortAll (n+1) (D.pys l)&&PyData.leavesShortAll (n+1) (D.pys r))=true
   rw[c,c2];rfl
  ·show PyData.weightAll (D.pys l)+1+PyData.weightAll (D.pys r)<=_
   omega
  ·show max (PyData.depthAll (D.pys l)+1) (PyData.depthAll (D.pys r))<=_
   omega
structure zex (d:D):Prop where
 seq:∃l,d= .tup l\/d= .lst l
 sh:∃n w e,Sh n [d] w e/\8<=n/\n<=1900/\e<=100/\(n+3)*w+n+1<=16777216
section
variable {X:Cx}
def zhj (K:y3):List V->Hp->VK->Prop:=λxs H Q=>∃(x:V) (d:D),xs=[x]/\Is K H x d/\zex d/\Q (.str (D.py d).shown) H
theorem Yc {k:Nat} {K:y3} (hr:xo k X.A) (hK:X.K=K:=by rfl):ZD X (.builtin "repr") (zhj K):=by
 subst hK
 intro pins s σ H xs us Q I r h
 obtain⟨x,d,rfl,hi,⟨n4,n,w,e,sh,n0,n1,he,hz⟩,q⟩:=h
 obtain⟨u,rfl,ru⟩:=Yv r
 obtain⟨as,rd⟩:=sh.reads I (.cons hi .nil) (.cons ru .nil)
 obtain⟨as,rd⟩:∃as,Reads s.heap u (D.py d) as:=by
  cases rd with
  |cons r1 r2=>exact⟨_,r1⟩
 obtain⟨a,b,c,wt,f⟩:=sh.show n0 n1
 have a:((D.py d).showable&&true)=true:=a
 have b:((D.py d).hasDict||false)=false:=b
 have c:((D.py d).leavesShort (n+1)&&true)=true:=c
 have wt:(D.py d).weight+1+0<=w:=wt
 have f:max (D.py d).depth 0<=e:=f
 rw[Bool.and_true] at a c
 rw[EJ] at b
 have hd:isDisplay (D.py d)=true:=by
  obtain⟨l,z|z⟩:=n4<;>(subst z;rfl)
 obtain⟨p,rfl⟩:=isRef_of_reads rd hd
 have hlen:(D.py d).shown.length<=sizeLine:=by
  have h1:=PyData.shown_le (n+1) ⋯ (D.py d) c
  have h3:(n+1+2)*(D.py d).weight<=(n+3)*w:=Dk _ ⋯
  exact A2 h1 (by show _<=16777216;omega)
 have hu:=hr.un
 exact repr_of_reads' rd a (PyData.noDict_hsm b) hr.gd ⋯ (λ_ _ e=>e) (λh' u tk hk=>⟨.str _,H,I.kept (t':=tk) hk,⟨_,rfl⟩,q⟩) hlen
end
open Classical in
noncomputable def vI:Opn:=λxs S=>match xs with
 |[x]=>(xu S 100 x).bind λd=>if zex d then some (.str (D.py d).shown,S) else none
 |_=>none
theorem zco {K:y3}:zaY K (zhj K) vI:=by
 intro F j σ H ρ S S' xs z vs Q E1 hv h k
 unfold vI at h
 split at h
 ·rename_i x
  rw[An] at h
  obtain⟨d,h1,h2⟩:=h
  split at h2
  ·rename_i hn
   cases h2
   obtain⟨w,rfl,hx⟩:=hv.d1
   exact⟨w,d,rfl,(VW E1 100 x w d hx h1).1,hn,k _ _ _ Ext.refl E1 (.str _)⟩
  ·cases h2
 ·cases h
theorem Wx {P:Xv->Sto->Prop} {x:Xv} {S:Sto} {d:D} (h:xu S 100 x=some d) (hs:zex d) (k:P (.str (D.py d).shown) S):WO (vI [x] S) P:= .of (by unfold vI;dsimp only;rw[h,A1,if_pos hs]) k
section
variable {X:Cx} {K:y3}
end
end L2
namespace L2
open PySem PySem.Spec PyProof.Rows PyProof
section
variable {X:Cx} {K:y3} {E:XK}
end
end L2
namespace L2
open PySem PySem.Spec PyProof.Rows
theorem zaq {env:Env}:∀{ns:List (Str×NameKind)} {cs:List (Str×Addr)} {p:Str×Addr},p∈VN env ns cs->p∈cs\/(p.1,NameKind.free)∈ns
 |[],_,_,h=> .inl h
 |(n,k)::r,cs,p,h=>by
  unfold VN at h
  rcases zaq h with h|h
  ·by_cases hk:(k== .free)=true
   ·rw[if_pos hk] at h
    have sQ:k= .free:=by simpa using hk
    cases e:env.cells.lookup n with
    |none=>rw[e] at h;exact .inl h
    |some c=>
     rw[e] at h
     rcases Ak.mp h with rfl|h
     ·exact .inr (by rw[sQ];exact AV)
     ·exact .inl h
   ·rw[if_neg hk] at h;exact .inl h
  ·exact .inr (Aj _ h)
theorem zdt {pos:Pos} {a b:Int} {c cv:Value} (l:List Value) (h:TriplesOk l):codeAmong pos (l++[rawInt a,rawInt b,c])=some cv->codeAmong pos l=some cv\/cv=c:=by
 fun_induction TriplesOk l with
 |case1=>
  intro e
  simp only[FW,codeAmong,rawInt] at e
  split at e
  ·cases e;exact .inr rfl
  ·cases e
 |case2 a t b u x rest ih=>
  intro e
  simp only[D2,codeAmong] at e ⊢
  split at e
  ·rename_i hc;rw[if_pos hc];exact .inl e
  ·rename_i hc;rw[if_neg hc];exact ih h e
 |case3 l h1 h2=>exact h.elim
section
variable {X:Cx} {pins:List (Addr×Obj)} {σ:St} {H H':Hp} {s:Shared}
theorem Inv.freeze {x:Str} {c:Addr} (I:Inv X pins σ H s) (hx:X.env.cells.lookup x=some c) (hz:X.zn x=true) (hf:X.fn x=false):∃H' o,Inv X pins σ H' s/\Zc H H'/\H' c=some (.frz o (.own 0))/\s.heap.get? c=some o:=by
 obtain⟨v,o,ho,hd⟩:=I.cell x c hx
 rcases I.freeC x c hx with hn|⟨_,o',h'⟩
 ·have fq:=I.ok.cab x c (.inr hz) hx
  have ne:∀b u,H b=some u->b≠c:=λb u e z=>by rw[z,hn] at e;cases e
  refine⟨upd H c (.frz o (.own 0)),o,⟨I.ok,I.os,I.bare,⟨I.base.keep,I.base.slot,λb ob e n iw=> ?_,I.base.there,λb xs e=> ?_,λb ob u e=> ?_,λb ps e=> ?_⟩,I.loc,I.cell,?_,λy d e=> ?_,λp hp=> ?_,λb u e=> ?_,I.len⟩,yl hn,zm,ho⟩
  ·rw[zh (Ad (A0 (Heap.lt_size e) fq))]
   exact I.base.free b ob e n iw
  ·have:=I.base.tups b xs e
   rw[zh (ne b _ this)];exact this
  ·have:=I.base.frzs b ob u e
   rw[zh (ne b _ this)];exact this
  ·obtain⟨m,q⟩:=I.base.tbls b ps e
   exact⟨m,by rw[zh (ne b _ q)];exact q⟩
  ·rw[zh (AQ (I.cne x c hx))];exact I.free
  ·by_cases qu:d=c
   ·subst qu
    obtain rfl:=I.ok.inj y x d e hx
    exact .inr ⟨hf,o,zm⟩
   ·rw[zh qu];exact I.freeC y d e
  ·obtain⟨e,n,r1,r2,r3⟩:=I.pin p hp
   refine⟨e,?_,r1,r2,r3⟩
   rw[zh]
   ·exact n
   ·intro q;rw[q,ho] at e;cases e;exact r3 v hd
  ·by_cases hb:b=c
   ·subst hb;rw[zm] at e;cases e;exact⟨ho,o,ho⟩
   ·rw[zh hb] at e
    exact (I.hok b u e).stay (λ_ _ _ q=>q) (λd q=>by rw[zh (ne d _ q)];exact q) λd xs q=>by rw[zh (ne d _ q)];exact q
 ·exact⟨H,o',I,λ_ _ e=>e,h',(I.hok c _ h').1⟩
theorem Inv.freezeL (I:Inv X pins σ H s):∀(l:List (Str×Addr)),(∀p∈l,X.env.cells.lookup p.1=some p.2/\X.zn p.1=true/\X.fn p.1=false)->∃H',Inv X pins σ H' s/\Zc H H'/\∀p∈l,∃o,H' p.2=some (.frz o (.own 0))/\s.heap.get? p.2=some o
 |[],_=>⟨H,I,λ_ _ e=>e,λp hp=>nomatch hp⟩
 |p::r,h=>by
  obtain⟨H1,I1,S1,f1⟩:=I.freezeL r λq hq=>h q (Aj _ hq)
  obtain⟨a1,a2,a3⟩:=h p AV
  obtain⟨H2,o,I2,S2,e1,e2⟩:=I1.freeze a1 a2 a3
  refine⟨H2,I2,λb u e=>S2 b u (S1 b u e),λq hq=> ?_⟩
  rcases Ak.mp hq with rfl|hq
  ·exact⟨o,e1,e2⟩
  ·obtain⟨o',e3,e4⟩:=f1 q hq
   exact⟨o',S2 _ _ e3,e4⟩
theorem Inv.lamMade {P c f:Addr} {ps more:Array Value} {oc fo:Obj} {h':Heap} {t':Nat} (I:Inv X pins σ H s) (hP:H P=some (.tbl ps)) (hx:∀b o,b≠P->s.heap.get? b=some o->h'.get? b=some o)
  (qA:h'.get? P=some (Ca (ps++more))) (hc:s.heap.objs.size<=c) (lM:h'.get? c=some oc) (hf:s.heap.objs.size<=f) (ju:h'.get? f=some fo) (v5:c≠f):
  Inv X pins σ (upd (upd (upd H P (.tbl (ps++more))) c (.frz oc (.own 0))) f (.frz fo (.own 0))) {s with heap:=h',toks:=t'}:=by
 have lh:P<s.heap.objs.size:=(I.hok P _ hP).lt
 have gt:∀a b:Nat,a<s.heap.objs.size->s.heap.objs.size<=b->b≠a:=λa b h1 h2=>by omega
 have cP:c≠P:=gt P c lh hc
 have fP:f≠P:=gt P f lh hf
 have old:∀b,b<s.heap.objs.size->b≠P->upd (upd (upd H P (.tbl (ps++more))) c (.frz oc (.own 0))) f (.frz fo (.own 0)) b=H b:=λb hb hp=>by
  rw[zh (AQ (gt b f hb hf)),zh (AQ (gt b c hb hc)),zh hp]
 have jN:∀b u,H b=some u->b<s.heap.objs.size:=λb u e=>(I.hok b u e).lt
 have uy:upd (upd (upd H P (.tbl (ps++more))) c (.frz oc (.own 0))) f (.frz fo (.own 0)) P=some (.tbl (ps++more)):=by
  rw[zh (AQ fP),zh (AQ cP),zm]
 have nP:∀b,H b=none->b≠P:=λb n z=>by rw[z,hP] at n;cases n
 refine I.step (g':=s.gens) (d':=s.drawn) (ch:=[]) (λ_ z=>nomatch z) (λb o _ _ _ e n=>hx b o (nP b n) e) (λb o _ _ _ e n=>⟨o.slots,hx b o (nP b n) e⟩) (λb o _ e n=>by rw[old b (Heap.lt_size e) (nP b n)];exact n)
  (λb o _ e=> ?_) (λb xs e=> ?_) (λb o u e=> ?_) (λb qs e=> ?_) (λm hm=> ?_) (λb u e=> ?_) I.bare
 ·by_cases hb:b=P
  ·subst hb;exact⟨_,qA⟩
  ·exact⟨o,hx b o hb e⟩
 ·rw[old b (jN b _ e) (λz=>by rw[z,hP] at e;cases e)];exact e
 ·rw[old b (jN b _ e) (λz=>by rw[z,hP] at e;cases e)];exact e
 ·by_cases hb:b=P
  ·subst hb;rw[hP] at e;cases e;exact⟨more,uy⟩
  ·exact⟨#[],by rw[old b (jN b _ e) hb,e];simp⟩
 ·obtain⟨o,es,ep,ho,r⟩:=hm
  exact⟨o,es,ep,hx _ o (nP _ I.free) ho,r⟩
 ·by_cases h1:b=f
  ·subst h1;rw[zm] at e;cases e;exact⟨ju,fo,ju⟩
  ·rw[zh h1] at e
   by_cases h2:b=c
   ·subst h2;rw[zm] at e;cases e;exact⟨lM,oc,lM⟩
   ·rw[zh h2] at e
    by_cases h3:b=P
    ·subst h3;rw[zm] at e;cases e;exact qA
    ·rw[zh h3] at e
     refine (I.hok b u e).stay (λd o q r=>hx d o ?_ r) (λd q=> ?_) λd xs q=> ?_
     ·rcases q with q|q
      ·rw[q];exact h3
      ·intro z;rw[z,hP] at q;cases q
     ·rw[old d (jN d _ q) (λz=>by rw[z,hP] at q;cases q)];exact q
     ·rw[old d (jN d _ q) (λz=>by rw[z,hP] at q;cases q)];exact q
end
structure zly (X:Cx) (sc:Scope) (fr:List Str) (is:List Nat):Prop where
 blk:ZV X sc
 fre:∀(i:Nat) x,fr[i]? =some x->sc.names.lookup x=some .free/\∃k,is[i]? =some k/\X.N[k]? =some x
 all:∀y∈sc.names,y.2= .free->X.zn y.1=true/\X.fn y.1=false
def zlz (L:xf) (P:Addr) (is:List Nat):TE:=λσ H Q=>∃(ps:Array Value) (vs:List V),H P=some (.tbl ps)/\TriplesOk ps.toList/\(∀pos cv,codeAmong pos ps.toList=some cv->∃c,cv= .ref c/\ZI H L.q c)/\
 is.map (λi=>(σ[i]?).join)=vs.map some/\
 ∀f ps' H',Zc (upd H P (.tbl ps')) H'->TriplesOk ps'.toList->(∀pos cv,codeAmong pos ps'.toList=some cv->∃c,cv= .ref c/\ZI H' L.q c)->XH H' L f vs->Q (.ref f) H'
theorem zlA {X:Cx} {id:Nat} {par:Arguments} {body:Expr} {sc:Scope} {pos:Pos} {tn:XB} {fr:List Str} {is:List Nat} {c P:Addr} (S:zly X sc fr is) (hq:X.env.qual=tn.d++".<locals>.") (eS:X.env.code= .ref c) (hC:Cq X.K c P=true)
  (iX:defaultsOf par X.env=([],[]):=by rfl):PE X (.Lambda par body sc pos) (zlz ⟨id,par,body,sc,tn,fr⟩ P is):=by
 have hq:X.env.qual++"<lambda>"=tn.q:=by rw[hq];rfl
 generalize jr:tn.q=q at hq
 intro pins s σ H Q I hh
 obtain⟨ps,vs,hP,ht,hU,mO,k⟩:=hh
 simp only[xf.q,jr] at hU k
 have lT:s.heap.get? P=some (Ca ps):=I.hok P _ hP
 have hg:s.heap.Ns mainGlobals X.mg:=I.mod.glob.keeps I.bk
 have sY:mainGlobals≠P:=λz=>by
  obtain⟨o,es,ep,e,hd,_⟩:=hg
  rw[z,lT] at e;cases e;cases hd
 have C:PySem.W.CodeHd s.heap c P:=EY I.kIn hC
 have hb:s.heap.BuiltinsAt X.mg P:=by
  obtain⟨bm,ob,b1,b2,b3,b4,b5,b6⟩:=I.mod.bmn
  have b3:=I.bk _ _ b3
  refine⟨bm,ob,b1,b2,λz=> ?_,λz=> ?_,b3,b4,b5,b6⟩
  ·obtain⟨o,es,ep,e,hd,_⟩:=hg
   rw[z,e] at b3;cases b3;rw[hd] at b6;cases b6
  ·rw[z,lT] at b3;cases b3;cases b4
 have fin:∀(f c':Addr) (pm cB:Value) (ps':Array Value) (H1:Hp) (s1:Shared),Inv X pins σ H1 s1->Zc (upd H P (.tbl ps')) H1->TriplesOk ps'.toList->(∀pos cv,codeAmong pos ps'.toList=some cv->∃c,cv= .ref c/\ZI H1 q c)->
   H1 f=some (.frz (Bz "<lambda>" q par body sc (ZU sc X.env) pm c' cB) (.own 0))->ZI H1 q c'->EP X pins σ Q (.ref f) s1:=by
  intro f c' pm cB ps' H1 s1 I1 S1 t1 c1 hf dA
  have cl:∀p∈ZU sc X.env,X.env.cells.lookup p.1=some p.2/\X.zn p.1=true/\X.fn p.1=false:=λp hp=>by
   refine⟨UA (cs:=[]) (λp hp=>nomatch hp) p hp,?_⟩
   rcases zaq hp with z|z
   ·cases z
   ·exact S.all _ z rfl
  obtain⟨H2,I2,S2,f2⟩:=I1.freezeL (ZU sc X.env) cl
  refine⟨.ref f,H2,I2,rfl,k f ps' H2 (λb u e=>S2 b u (S1 b u e)) t1 (λp cv e=> ?_) ⟨ZU sc X.env,pm,cB,c',by rw[show xf.q ⟨id,par,body,sc,tn,fr⟩=q from jr];exact S2 _ _ hf,by rw[show xf.q ⟨id,par,body,sc,tn,fr⟩=q from jr];exact dA.mono (xF.same S2),λi x v e1 e2=> ?_,λx y a e1 e2=> ?_,λy hy e=> ?_,λx a e=> ?_⟩⟩
  ·obtain⟨d,e1,e2⟩:=c1 p cv e
   exact⟨d,e1,e2.mono (xF.same S2)⟩
  ·obtain⟨h1,n,h2,h3⟩:=S.fre i x e1
   have hm:(x,NameKind.free)∈sc.names:=AO h1
   have hs:σ[n]? =some (some v):=by
    have e:=congrArg (λl=>l[i]?) mO
    simp only[y8,h2,e2,BO,Al] at e
    cases q:σ[n]? with
    |none=>rw[q] at e;cases e
    |some z=>rw[q] at e;exact congrArg some e
   obtain⟨m,hn,hl⟩:=I2.loc
   have hk:=S.blk.free _ hm rfl
   obtain⟨u,r,l⟩:=hl n x v h3 hs (by rcases hk with k|k;exact .inr (.inl k);exact .inr (.inr k))
   rcases l with⟨k',_⟩|⟨_,a,ha,o,ho,hd⟩
   ·rcases hk with k''|k''
    ·rw[k'] at k'';cases k''
    ·rw[k'] at k'';cases k''
   ·have eT:(ZU sc X.env).lookup x=some a:=Wk hm ha
    obtain⟨o',e3,e4⟩:=f2 (x,a) (AO eT)
    rw[ho] at e4
    cases e4
    exact⟨a,o,u,eT,e3,hd,r⟩
  ·exact I1.ok.inj x y a (xq e1) (xq e2)
  ·obtain⟨a,ha⟩:=I1.ok.has y.1 (S.blk.free y hy e)
   exact⟨a,Wk (by rw[<-e];exact hy) ha⟩
  ·obtain⟨o,e3,e4⟩:=f2 (x,a) (AO e)
   obtain⟨u,o',e5,hd⟩:=I2.cell x a (xq e)
   rw[e4] at e5
   cases e5
   exact⟨o,u,e3,hd⟩
 refine PySem.W.kla_eval iX ?_
 rw[hq]
 cases og:codeAmong pos ps.toList with
 |none=>
  refine PySem.W.kla_makeFunction (I.closure S.blk) I.ok.glob hg eS C lT ht og sY hb λc' cB h' tk hx iV cA n9 mV=> ?_
  obtain⟨c₂,oc,fs,t,e2,lD,hd,hv⟩:=n9
  cases e2
  have I1:=I.lamMade (t':=tk) (h':=h'.push (Bz "<lambda>" q par body sc (ZU sc X.env) ((X.mg "__name__").getD .none) c' cB)) (fo:=Bz "<lambda>" q par body sc (ZU sc X.env) ((X.mg "__name__").getD .none) c' cB) (more:= #[rawInt pos.line,rawInt pos.col,.ref c']) hP (λb o dB e=>Heap.get?_push_of_some _ (hx b o dB e)) (Heap.get?_push_of_some _ mV) iV (Heap.get?_push_of_some _ lD) (A2 iV (Ag cA)) (Heap.get?_push_size _ rfl) (Ad cA)
  have lh:P<s.heap.objs.size:=(I.hok P _ hP).lt
  have S1:Zc (upd H P (.tbl (ps++ #[rawInt pos.line,rawInt pos.col,.ref c']))) (upd (upd (upd H P (.tbl (ps++ #[rawInt pos.line,rawInt pos.col,.ref c']))) c' (.frz oc (.own 0))) h'.objs.size (.frz (Bz "<lambda>" q par body sc (ZU sc X.env) ((X.mg "__name__").getD .none) c' cB) (.own 0))):=λb u e=>by
   have dB:b<s.heap.objs.size:=by
    by_cases dB:b=P
    ·rw[dB];exact lh
    ·rw[zh dB] at e;exact (I.hok b u e).lt
   rw[zh (Ad (A0 dB (A2 iV (Ag cA)))),zh (Ad (A0 dB iV))]
   exact e
  have jx:ZI (upd (upd (upd H P (.tbl (ps++ #[rawInt pos.line,rawInt pos.col,.ref c']))) c' (.frz oc (.own 0))) h'.objs.size (.frz (Bz "<lambda>" q par body sc (ZU sc X.env) ((X.mg "__name__").getD .none) c' cB) (.own 0))) q c':=⟨oc,fs,t,by rw[zh (Ad cA),zm],hd,hv⟩
  refine fin _ c' _ cB _ _ _ I1 S1 (by rw[EZ];exact TriplesOk_snoc _ _ _ _ ht) (λp cv e=> ?_) zm jx
  rw[EZ] at e
  rcases zdt ps.toList ht e with e|rfl
  ·obtain⟨d,e1,oc',fs',t',e2,r⟩:=hU p cv e
   refine⟨d,e1,oc',fs',t',S1 _ _ ?_,r⟩
   rw[zh (λz=>by rw[z,hP] at e2;cases e2)]
   exact e2
  ·exact⟨c',rfl,jx⟩
 |some cv=>
  obtain⟨c',rfl,jx⟩:=hU pos cv og
  refine PySem.W.kla_makeFunctionHit (I.closure S.blk) I.ok.glob hg eS C lT ht og hb λcB h' tk hk hsz=> ?_
  have qj:H h'.objs.size=none:=I.hok.fresh hsz
  have I1:=I.laid (t':=tk) (a:=h'.objs.size) (o:= .frz (Bz "<lambda>" q par body sc (ZU sc X.env) ((X.mg "__name__").getD .none) c' cB) (.own 0)) (λb o e=>Heap.get?_push_of_some _ (hk b o e)) hsz ⟨Heap.get?_push_size _ rfl,_,Heap.get?_push_size _ rfl⟩
  have S1:Zc H (upd H h'.objs.size (.frz (Bz "<lambda>" q par body sc (ZU sc X.env) ((X.mg "__name__").getD .none) c' cB) (.own 0))):=yl qj
  refine fin _ c' _ cB ps _ _ I1 (λb u e=>S1 b u ?_) ht (λp cv e=> ?_) zm (jx.mono (xF.same S1))
  ·by_cases dB:b=P
   ·subst dB;rw[zm] at e;cases e;exact hP
   ·rw[zh dB] at e;exact e
  ·obtain⟨d,e1,e2⟩:=hU p cv e
   exact⟨d,e1,e2.mono (xF.same S1)⟩
noncomputable def zar (P:Program) (w:World) (K:y3) (mg:Str->Option Value) (base:Heap) (N:List Str) (L:xf) (aG:List (Str×Addr)) (f c:Addr) (A:Around) (outer:List Env) (s:Shared) (H:Hp):Cx where
 prog:=P
 w:=w
 K:=K
 mg:=mg
 base:=base
 A:=A.deeper (DK L.q L.sc s.heap.objs.size f (.ref c) aG)
 N:=N
 s₀:=s
 H₀:=H
 env:=DK L.q L.sc s.heap.objs.size f (.ref c) aG
 outer:=outer
 stack:=DK L.q L.sc s.heap.objs.size f (.ref c) aG::outer
 ex:=[]
 calm:=true
 fn:=λ_=>false
 zn:=λ_=>false
 pn:=[]
 xe:=λ_ _=>False
structure zcp (ps fr:List Str) (sc:Scope):Prop where
 kind:sc.kind= .function
 co:sc.isCoroutine=false
 gen:sc.isGenerator=false
 nd:ps.Nodup
 par:∀x∈ps,sc.names.lookup x=some .local
 fre:∀x∈fr,sc.names.lookup x=some .free
 noc:∀y∈sc.names,y.2≠ .cell
theorem Wy {x:Str} {u:Value}:∀{l:List (Str×Value)},(l.map (·.1)).Nodup->(x,u)∈l->l.lookup x=some u
 |[],_,h=>by cases h
 |(y,v)::r,nd,h=>by
  rw[A6,B9] at nd
  rw[AY]
  rcases Ak.mp h with h'|h'
  ·cases h';simp
  ·have:x≠y:=by
    intro z
    subst z
    exact nd.1 (AA.mpr ⟨_,h',rfl⟩)
   rw[show (x==y)=false by simpa using this]
   exact Wy nd.2 h'
theorem zhk {ps:List Str} {us:List Value} {i:Nat} {x:Str} {u:Value} (nd:ps.Nodup) (hl:us.length=ps.length) (h1:ps[i]? =some x) (h2:us[i]? =some u):(ps.zip us).reverse.lookup x=some u:=by
 refine Wy ?_ (List.mem_reverse.mpr (z4 (i:=i) ?_))
 ·rw[List.map_reverse,(List.reverse_perm _).nodup_iff,List.map_fst_zip ⋯]
  exact nd
 ·rw[Ba]
  exact⟨h1,h2⟩
def CL (outer:List Env) (P:Program) (w:World) (H:Hp) (s:Shared) (Q:VK) (r:Result) (s':Shared):Prop:=match r with
 | .ok (.ret u)=>CE outer P w H s Q u s'
 |_=>False
theorem zjd {P:Program} {w:World} {K:y3} {mg:Str->Option Value} {base:Heap} {L:xf} {ps:List Str} {k:Nat} (S:zcp ps L.fr L.sc)
  (hb:∀(aG:List (Str×Addr)) (pm cB:Value) (c:Addr) (us:List Value),us.length=ps.length->bindArgs (G6 "<lambda>" L.q L.par L.body L.sc aG pm (.ref c) cB) ⟨us,[]⟩=pure (ps.zip us))
  {A:Around} {outer:List Env} {s:Shared} {H:Hp} {f:Addr} {vs as:List V} {us:List Value} {Q:VK} (hr:xo (k+1) A) (e0:WU P w K mg base A outer s H) (hL:XH H L f vs) (fJ:vs.length=L.fr.length) (r:zI as us) (hl:as.length=ps.length)
  (cQ:∀(aG:List (Str×Addr)) (c:Addr),xo k (zar P w K mg base (ps++L.fr) L aG f c A outer s H).A->∃t,PE (zar P w K mg base (ps++L.fr) L aG f c A outer s H) L.body t/\t ((as++vs).map some) H Q):
  codeAny (model P w) A (.call (.ref f) ⟨us,[]⟩) (CL outer P w H s Q) s:=by
 obtain⟨aG,pm,cB,c,h1,⟨oc,fs,t,iZ,dz,tI⟩,h3,h4,h5,h6⟩:=hL.ex
 have ju:=(e0.hok f _ h1).1
 have lM:=(e0.hok c _ iZ).1
 have lim:s.heap.NoLimit:=e0.mod.nolimit.keeps λb o e=>(e0.bs b o e).1
 have pO:us.length=ps.length:=by rw[<-r.length];exact hl
 refine PySem.W.kla_callFunE hr.depth ju rfl S.co S.gen rfl ⟨c,oc,fs,t,rfl,lM,dz,tI⟩ ?_
 rw[hb aG pm cB c us pO]
 refine wpAny_pure (wpAny_newFunctionEnv S.noc (λy hy=>S.par _ (C5 hy).1) (λh₁ cO fL=>⟨lim.fresh _ fL,?_⟩) S.kind)
 show codeAny _ _ (.expr L.body (DK L.q L.sc s.heap.objs.size f (.ref c) aG)) _ _
 have hk:∀b o,s.heap.get? b=some o->h₁.get? b=some o:=λb o e=>fL.extBut b o (Ad (Heap.lt_size e)) (Heap.get?_push_of_some _ e)
 have gf:∀b:Addr,b∉(zar P w K mg base (ps++L.fr) L aG f c A outer s H).ex:=λb z=>absurd (show b∈([]:List Addr) from z) (by simp)
 have I:Inv (zar P w K mg base (ps++L.fr) L aG f c A outer s H) [] ((as++vs).map some) H {s with heap:=h₁,toks:=s.toks+(ps.zip us).length}:=by
  refine⟨⟨e0.mod,S.kind,rfl,rfl,z5 _,λy z a e1 e2=>h4 y z a e1 e2,λy hy=> ?_,λy a z _=>(z.elim (λz=>Cp z) λz=>Cp z),λ_=>hr.hd,Around.frames_deeper e0.frames,.inr ⟨rfl,rfl⟩,λb z=>absurd z (gf b),e0.bs,e0.bsz,λb _ _=>gf b,λb z=>absurd z (gf b),e0.funs,e0.frf⟩,
   rfl,e0.bare,Un.kept hk,⟨_,cO,λi y v e1 e2 e3=> ?_⟩,λy a e=> ?_,e0.hok.fresh (z5 _),λy a e=> ?_,λp hp=>absurd (show p∈([]:List (Addr×Obj)) from hp) (by simp),e0.hok.kept hk,?_⟩
  ·have hy:L.sc.names.lookup y=some .cell\/L.sc.names.lookup y=some .free:=hy
   rcases hy with hy|hy
   ·exact absurd rfl (S.noc _ (AO hy))
   ·exact h5 _ (AO hy) rfl
  ·have e1:(ps++L.fr)[i]? =some y:=e1
   rw[y8,z0] at e2
   obtain⟨v',e2,um⟩:=e2
   cases um
   by_cases hi:i<ps.length
   ·rw[y9 hi] at e1
    rw[y9 ⋯] at e2
    obtain⟨u,hu,rv⟩:=r.get e2
    exact⟨u,rv,.inl ⟨S.par y (z4 e1),zhk S.nd pO e1 hu⟩⟩
   ·rw[z6 ⋯] at e1
    rw[z6 ⋯,hl] at e2
    obtain⟨a,o,u,g1,g2,g3,g4⟩:=h3 _ _ _ e1 e2
    exact⟨u,g4,.inr ⟨.inr (S.fre y (z4 e1)),a,g1,o,hk _ _ (e0.hok a _ g2).1,g3⟩⟩
  ·obtain⟨o,u,g2,g3⟩:=h6 y a e
   exact⟨u,o,hk _ _ (e0.hok a _ g2).1,g3⟩
  ·obtain⟨o,u,g2,g3⟩:=h6 y a e
   exact .inr ⟨rfl,o,g2⟩
  ·show _=(ps++L.fr).length
   rw[y7,A7,A7,hl,fJ]
 obtain⟨tt,ht,hq⟩:=cQ aG c (hr.deeper _)
 refine PySem.W.kla_codeExpr (wpAny_mono (ht [] _ _ H Q I hq) (λu s' hs=> ?_) λe s' z=>AF z)
 obtain⟨v,H',J,rv,q⟩:=hs
 exact⟨v,H',J.os,J.bare,J.base,J.hok,rv,q⟩
def zhl (P:Program) (w:World) (K:y3) (mg:Str->Option Value) (base:Heap) (k:Nat) (R:V->List V->Hp->VK->Prop):Prop:=
 ∀(A:Around) (outer:List Env) (s:Shared) (H:Hp) (f:Addr) (as:List V) (us:List Value) (Q:VK),xo k A->WU P w K mg base A outer s H->zI as us->R (.ref f) as H Q->codeAny (model P w) A (.call (.ref f) ⟨us,[]⟩) (CL outer P w H s Q) s
noncomputable def zdu (ρ:Rho):List Nat->Option (List Xv)
 |[]=>some []
 |i::r=>(ρ[i]?).join.bind λx=>(zdu ρ r).map (x:: ·)
noncomputable def zft (L:xf) (n:Nat) (is:List Nat):TwE:=λρ S=>match S[n]? with
 |some (.tab t)=> @ite _ (t=L.t) (CP _) ((zdu ρ is).map λxs=> .ok (.lam L xs) S) none
 |_=>none
noncomputable def XJ:List (xf×(List Xv->TwF))->xf->Option (List Xv->TwF)
 |[],_=>none
 |(M,t)::r,L=> @ite _ (M=L) (CP _) (some t) (XJ r L)
noncomputable def zfu (n m:Nat) (e:TwE):List Xv->TwF:=λaE xs S=>if xs.length=n/\aE.length=m then e ((xs++aE).map some) S else none
section
variable {K:y3} {E:XK} {F:Fm} {j:List Addr} {H H':Hp} {σ:St} {ρ:Rho} {S:Sto}
theorem zey {L:xf} {t:List Xv->TwF} {r:List (xf×(List Xv->TwF))}:XJ ((L,t)::r) L=some t:=by unfold XJ;exact if_pos rfl
theorem zcq {L:xf} {t:List Xv->TwF}:∀{fns:List (xf×(List Xv->TwF))},XJ fns L=some t->(L,t)∈fns
 |[],h=>by cases h
 |(M,u)::r,h=>by
  unfold XJ at h
  by_cases e:M=L
  ·rw[if_pos e] at h;cases h;rw[e];exact AV
  ·rw[if_neg e] at h;exact Aj _ (zcq h)
theorem En.writeS {n:Nat} {a:Addr} {c c':Ce} {o:HO} (E1:En K F j H σ ρ S) (hs:S[n]? =some c) (z:c.fz=false) (hj:j[n]? =some a) (Sm:Zc (upd H a o) H') (hc:Wn K j H' a c'):En K F j H' σ ρ (S.set n c')/\Ext j H j H':=by
 obtain⟨o0,h0,m0⟩:=(E1.cel n c a hs hj).mu z
 have S1:Zc H (upd H' a o0):=λb u e=>by
  by_cases hb:b=a
  ·subst hb;rw[zm];rw[h0] at e;exact e
  ·rw[zh hb];exact Sm b u (by rw[zh hb];exact e)
 have e2:upd (upd H' a o0) a o=H':=by
  funext b
  by_cases hb:b=a
  ·subst hb;rw[zm];exact (Sm b o zm).symm
  ·rw[zh hb,zh hb]
 have E2:=E1.heap S1
 obtain⟨E3,X3⟩:=E2.writeF (o:=o) (c':=c') hs z hj (λX=>by rw[e2];exact hc)
 rw[e2] at E3 X3
 exact⟨E3,(Ext.same S1).trans X3⟩
theorem zcr (E1:En K F j H σ ρ S):∀{is:List Nat} {xs:List Xv},zdu ρ is=some xs->∃vs,is.map (λi=>(σ[i]?).join)=vs.map some/\zE K j H xs vs
 |[],xs,h=>by cases h;exact⟨[],rfl,.nil⟩
 |i::r,xs,h=>by
  unfold zdu at h
  cases e:(ρ[i]?).join with
  |none=>rw[e] at h;cases h
  |some x=>
   rw[e] at h
   dsimp only[Dm] at h
   cases e2:zdu ρ r with
   |none=>rw[e2] at h;cases h
   |some ys=>
    rw[e2] at h
    cases h
    obtain⟨vs,h1,h2⟩:=zcr E1 e2
    have e':ρ[i]? =some (some x):=by
     cases q:ρ[i]? with
     |none=>rw[q] at e;cases e
     |some z=>rw[q] at e;exact congrArg some e
    obtain⟨v,h3,h4⟩:=E1.slot i x e'
    exact⟨v::vs,by simp[h3,h1],.cons h4 h2⟩
theorem zhm {L:xf} {n:Nat} {is:List Nat} {c P:Addr} (hP:XC K L.t=some (c,P)):RE K E (zlz L P is) (zft L n is):=by
 intro F j σ H ρ S r Q En0 e k
 unfold zft at e
 split at e
 ·rename_i t es
  by_cases ht:t=L.t
  ·rw[if_pos ht] at e
   subst ht
   cases e2:zdu ρ is with
   |none=>rw[e2] at e;cases e
   |some xs=>
    rw[e2] at e
    cases e
    have hn:n<j.length:=by rw[En0.jl];exact (y4.1 es).1
    have hj:j[n]? =some j[n]:=y6 hn
    obtain⟨ps,d,hH,htk,iA,hU⟩:=En0.cel n _ _ es hj
    rw[hP] at htk
    cases htk
    obtain⟨vs,h1,h2⟩:=zcr En0 e2
    refine⟨ps,vs,hH,iA,hU,h1,λf ps' H' Sm t' c' la=> ?_⟩
    obtain⟨E2,X2⟩:=En0.writeS (c':= .tab L.t) es rfl hj Sm ⟨ps',c,Sm _ _ zm,hP,t',c'⟩
    have iC:S.set n (.tab L.t)=S:=by
     apply Dz
     intro m
     rw[Af]
     split
     ·rename_i q
      subst q
      rw[if_pos (y4.1 es).1,es]
     ·rfl
    rw[iC] at E2
    exact k _ _ X2 E2 _ (.lam la (h2.mono X2))
  ·rw[if_neg ht] at e;cases e
 ·cases e
def zlB (K:y3) (fns:List (xf×(List Xv->TwF))):V->List V->Hp->VK->Prop:=λx as H Q=>∃(j:List Addr) (S S':Sto) (xs aE:List Xv) (L:xf) (tw:List Xv->TwF) (z:Xv),
 En K ⟨H,j,S⟩ j H (as.map some) (xs.map some) S/\Xis K j H (.lam L aE) x/\XJ fns L=some tw/\tw aE xs S=some (.ok z S')/\∀v j' H' σ ρ,En K ⟨H,j,S⟩ j' H' σ ρ S'->Xis K j' H' z v->Q v H'
def YF (P:Program) (w:World) (K:y3) (mg:Str->Option Value) (base:Heap) (k:Nat) (L:xf) (tw:List Xv->TwF):Prop:=∀(A:Around) (outer:List Env) (s:Shared) (H:Hp) (f:Addr) (vs as:List V) (us:List Value) (Q:VK) (j:List Addr) (S S':Sto) (xs aE:List Xv) (z:Xv),
 xo k A->WU P w K mg base A outer s H->XH H L f vs->zE K j H aE vs->zI as us->En K ⟨H,j,S⟩ j H (as.map some) (xs.map some) S->tw aE xs S=some (.ok z S')->
 (∀v j' H' σ ρ,En K ⟨H,j,S⟩ j' H' σ ρ S'->Xis K j' H' z v->Q v H')->codeAny (model P w) A (.call (.ref f) ⟨us,[]⟩) (CL outer P w H s Q) s
theorem YF.mono {P:Program} {w:World} {mg:Str->Option Value} {base:Heap} {i k:Nat} {L:xf} {tw:List Xv->TwF} (h:YF P w K mg base i L tw) (hk:i<=k):YF P w K mg base k L tw:=
 λA outer s H f vs as us Q j S S' xs aE z hr=>h A outer s H f vs as us Q j S S' xs aE z (hr.mono hk)
theorem zez {P:Program} {w:World} {mg:Str->Option Value} {base:Heap} {k:Nat} {fns:List (xf×(List Xv->TwF))} (h:∀p∈fns,YF P w K mg base k p.1 p.2):zhl P w K mg base k (zlB K fns):=by
 rintro A outer s H f as us Q hr e0 r ⟨j,S,S',xs,aE,L,tw,z,E1,hx,hp,ht,q⟩
 cases hx with
 |lam la l=>exact h (L,tw) (zcq hp) A outer s H f _ as us Q j S S' xs aE z hr e0 la l r E1 ht q
theorem zhn {P:Program} {w:World} {mg:Str->Option Value} {base:Heap} {k n mm:Nat} {L:xf} {ps:List Str} {m:TwE} (Sc:zcp ps L.fr L.sc) (hn:ps.length=n) (hm:L.fr.length=mm)
  (hb:∀(aG:List (Str×Addr)) (pm cB:Value) (c:Addr) (us:List Value),us.length=ps.length->bindArgs (G6 "<lambda>" L.q L.par L.body L.sc aG pm (.ref c) cB) ⟨us,[]⟩=pure (ps.zip us))
  (pU:∀(aG:List (Str×Addr)) (f c:Addr) (A:Around) (outer:List Env) (s:Shared) (H:Hp),xo k (zar P w K mg base (ps++L.fr) L aG f c A outer s H).A->∃t,PE (zar P w K mg base (ps++L.fr) L aG f c A outer s H) L.body t/\RE K E0 t m):
  YF P w K mg base (k+1) L (zfu n mm m):=by
 intro A outer s H f vs as us Q j S S' xs aE z hr e0 la l r E1 ht q
 unfold zfu at ht
 split at ht
 ·rename_i hl
  have oi:as.length=xs.length:=by have:=E1.len;simpa using this
  refine zjd Sc hb hr e0 la (by rw[l.len,hl.2,hm]) r (by rw[oi,hl.1,hn]) λaG c cY=> ?_
  obtain⟨t,h1,h2⟩:=pU aG f c A outer s H cY
  refine⟨t,h1,h2 (E1.slots (σ':=(as++vs).map some) (ρ':=(xs++aE).map some) (by simp[oi,l.len]) λi x e=> ?_) ht λj' H' X E' v hv=>q _ _ _ _ _ E' hv⟩
  rw[y8,z0] at e
  obtain⟨y,e,e'⟩:=e
  cases e'
  by_cases hi:i<xs.length
  ·rw[y9 hi] at e
   obtain⟨v,h3,h4⟩:=E1.slot i x (by rw[y8,e];rfl)
   rw[y8,z0] at h3
   obtain⟨v',h3,oy⟩:=h3
   cases oy
   exact⟨v,by rw[y8,y9 ⋯,h3];rfl,h4⟩
  ·rw[z6 ⋯] at e
   obtain⟨v,h3,h4⟩:=l.get e
   exact⟨v,by rw[y8,z6 ⋯,oi,h3];rfl,h4⟩
 ·cases ht
theorem zho {L:xf} {n:Nat} {is:List Nat} {xs:List Xv} {P:Xv->Sto->Prop} (h:S[n]? =some (.tab L.t)) (hc:zdu ρ is=some xs) (k:P (.lam L xs) S):W (zft L n is ρ S) P:= .of (by
 unfold zft
 rw[h]
 dsimp only
 rw[if_pos rfl,hc]
 rfl) k
theorem zeA {n m:Nat} {e:TwE} {aE xs:List Xv} {P:Xv->Sto->Prop} (h1:xs.length=n) (h2:aE.length=m) (k:W (e ((xs++aE).map some) S) P):W (zfu n m e aE xs S) P:=by
 unfold zfu
 rw[if_pos ⟨h1,h2⟩]
 exact k
end
noncomputable def noE:Expr:= .Name Str.empty ⟨0,0,0,0⟩
noncomputable def zmR (s:Stmt) (i:Nat):Stmt:=(wF s).getD i (.Pass ⟨0,0,0,0⟩)
noncomputable def zhp (e:Expr):Arguments:=match e with
 | .Lambda a _ _ _=>a
 |_=>{posonlyargs:=[],args:=[],vararg:=none,kwonlyargs:=[],kw_defaults:=[],kwarg:=none,defaults:=[]}
def zeB (e:Expr):Expr:=match e with
 | .Lambda _ b _ _=>b
 |_=>noE
noncomputable def zkl (e:Expr):Scope:=match e with
 | .Lambda _ _ s _=>s
 |_=>{kind:= .function,names:=[],isGenerator:=false,isCoroutine:=false}
theorem Wz {K:y3} {f c P:Addr} (h:zgC K f=some (c,P)):Cq K c P=true/\∀{oc:Value} {od:Option Addr} {fd:FuncData} {sl:Array (Option Value)},K.lookup f=some ⟨oc,od,.func fd,sl⟩->fd.code= .ref c:=by
 unfold zgC at h
 split at h
 ·rename_i w6 _ e1
  split at h
  ·rename_i c1 e2
   split at h
   ·split at h
    ·split at h
     ·rename_i hd
      cases h
      refine⟨hd,λe=> ?_⟩
      rw[e1] at e
      cases e
      exact e2
     ·cases h
    ·cases h
   ·cases h
  ·cases h
 ·cases h
noncomputable def UZ (fz:List Str) (CX:CXT) (P:Program) (w:World) (K:y3) (mg:Str->Option Value) (base:Heap) (N:List Str) (qual:Str) (scope:Scope) (f:Addr) (cd:Value) (A:Around) (outer:List Env) (s:Shared) (H:Hp) (E:XK):Cx:=
 {XA CX P w K mg base N qual scope f cd A outer s H E with fn:=λx=> !fz.contains x,zn:=λx=>fz.contains x}
theorem Inv.toZ {fz:List Str} {CX:CXT} {P:Program} {w:World} {K:y3} {mg:Str->Option Value} {base:Heap} {N:List Str} {qual:Str} {scope:Scope} {f:Addr} {cd:Value} {A:Around} {outer:List Env} {s s1:Shared} {H H1:Hp} {E:XK} {pins:List (Addr×Obj)} {σ:St}
  (I:Inv (XA CX P w K mg base N qual scope f cd A outer s H E) pins σ H1 s1):Inv (UZ fz CX P w K mg base N qual scope f cd A outer s H E) pins σ H1 s1:=
 ⟨⟨I.ok.mod,I.ok.kind,I.ok.glob,I.ok.blt,I.ok.above,I.ok.inj,I.ok.has,λx c _ e=>I.ok.cab x c (.inl rfl) e,I.ok.hd,I.ok.frames,I.ok.stk,I.ok.exf,I.ok.bs,I.ok.bsz,I.ok.noex,I.ok.exfs,I.ok.funs,I.ok.frf⟩,I.os,I.bare,I.base,I.loc,I.cell,I.free,
  λx c e=> .inl ((I.freeC x c e).elim (λz=>z) λz=>Cp (show true=false from z.1)),I.pin,I.hok,I.len⟩
noncomputable def zhq (osc sc:Scope) (N fz fr:List Str) (is:List Nat):Bool:=zgw osc sc&&fr.length==is.length&&(fr.zip is).all (λp=>sc.names.lookup p.1==some .free&&N[p.2]? ==some p.1)&&sc.names.all (λy=>y.2 != .free||fz.contains y.1)
theorem zeC {X:Cx} {osc sc:Scope} {N fz fr:List Str} {is:List Nat} (hs:X.env.scope=osc) (hN:X.N=N) (hf:X.fn=λx=> !fz.contains x) (hz:X.zn=λx=>fz.contains x) (h:zhq osc sc N fz fr is=true):zly X sc fr is:=by
 unfold zhq at h
 simp only[BI,D0,beq_iff_eq,bne_iff_ne,ne_eq,Ed] at h
 obtain⟨⟨⟨h1,h2⟩,h3⟩,h4⟩:=h
 refine⟨blk hs h1,λi x e=> ?_,λy hy e=> ?_⟩
 ·have hi:i<is.length:=by rw[<-h2];exact (y4.1 e).1
  have e2:is[i]? =some is[i]:=y6 hi
  obtain⟨g1,g2⟩:=h3 (x,is[i]) (z4 (i:=i) (by rw[Ba];exact⟨e,e2⟩))
  exact⟨g1,is[i],e2,by rw[hN];exact g2⟩
 ·have g:=(h4 y hy).resolve_left λz=>z e
  rw[hf,hz]
  exact⟨g,by dsimp only;rw[g];rfl⟩
theorem zeD {X:Cx} {L:xf} {e:Expr} {pos:Pos} {is:List Nat} {c P:Addr} (S:zly X L.sc L.fr is) (hq:X.env.qual=L.t.d++".<locals>.") (eS:X.env.code= .ref c) (hC:Cq X.K c P=true)
  (hL:e= .Lambda L.par L.body L.sc pos:=by rfl) (iX:defaultsOf L.par X.env=([],[]):=by rfl):PE X e (zlz L P is):=by
 rw[hL]
 exact zlA (id:=L.id) S hq eS hC iX
section
variable {P:Program} {w:World} {K:y3} {mg:Str->Option Value} {base:Heap} {k i:Nat}
theorem zcs:∀p∈([]:List (xf×(List Xv->TwF))),YF P w K mg base k p.1 p.2:=λp hp=>nomatch hp
theorem zas {L:xf} {tw:List Xv->TwF} {fns:List (xf×(List Xv->TwF))} (h:YF P w K mg base i L tw) (hk:i<=k) (r:∀p∈fns,YF P w K mg base k p.1 p.2):∀p∈(L,tw)::fns,YF P w K mg base k p.1 p.2:=λp hp=>by
 rcases Ak.mp hp with rfl|hp
 ·exact h.mono hk
 ·exact r p hp
end
section
variable {K:y3} {E:XK} {C:Addr} {nm m:Str} {ρ:Rho} {S:Sto}
end
noncomputable def YG (K:y3) (cI:List XB):List Addr:=cI.filterMap λt=>(XC K t).map (·.2)
noncomputable def zbg:List Addr->Bool
 |[]=>true
 |a::r=> !r.contains a&&zbg r
noncomputable def zat (K:y3) (ts:List Addr) (cI:List XB):Bool:=cI.all (λt=>match XC K t with
 |some (_,P)=>ts.contains P&&(K.lookup P).isNone
 |none=>false)&&zbg (YG K cI)
theorem zau:∀{l:List Addr},zbg l=true->l.Nodup
 |[],_=>EC
 |a::r,h=>by
  unfold zbg at h
  simp only[BI,Bool.not_eq_true',EF,decide_eq_false_iff_not] at h
  exact B9.mpr ⟨h.1,zau h.2⟩
structure zje (K:y3) (ts:List Addr) (cI:List XB) (bF:List Addr):Prop where
 at_:∀(i:Nat) t,cI[i]? =some t->∃c P,bF[i]? =some P/\XC K t=some (c,P)
 len:bF.length=cI.length
 nd:bF.Nodup
 sub:∀P∈bF,P∈ts/\K.lookup P=none/\∃t c,XC K t=some (c,P)
theorem zeE {K:y3} {ts:List Addr} {cI:List XB} (h:zat K ts cI=true):zje K ts cI (YG K cI):=by
 unfold zat at h
 rw[BI,D0] at h
 obtain⟨h1,h2⟩:=h
 have key:∀(l:List XB),(∀t∈l,t∈cI)->(∀(i:Nat) t,l[i]? =some t->∃c P,(YG K l)[i]? =some P/\XC K t=some (c,P))/\(YG K l).length=l.length/\∀P∈YG K l,P∈ts/\K.lookup P=none/\∃t c,XC K t=some (c,P):=by
  intro l
  induction l with
  |nil=>intro _;exact⟨λi t e=>by simp at e,rfl,λP hP=>by cases hP⟩
  |cons t r ih=>
   intro hs
   obtain⟨g1,g2,g3⟩:=ih λt ht=>hs t (Aj _ ht)
   have ht:=h1 t (hs t AV)
   cases e:XC K t with
   |none=>rw[e] at ht;cases ht
   |some p=>
    obtain⟨c,P⟩:=p
    rw[e] at ht
    simp only[BI,EF,decide_eq_true_eq,Option.isNone_iff_eq_none] at ht
    have e2:YG K (t::r)=P::YG K r:=by unfold YG;rw[C3,e];rfl
    rw[e2]
    refine⟨λi u eu=> ?_,by simp[g2],λQ hQ=> ?_⟩
    ·cases i with
     |zero=>simp at eu;subst eu;exact⟨c,P,rfl,e⟩
     |succ i=>
      obtain⟨c',P',a,b⟩:=g1 i u (by simpa using eu)
      exact⟨c',P',by simpa using a,b⟩
    ·rcases Ak.mp hQ with rfl|hQ
     ·exact⟨ht.1,ht.2,t,c,e⟩
     ·exact g3 Q hQ
 obtain⟨g1,g2,g3⟩:=key cI λ_ h=>h
 exact⟨g1,g2,zau h2,g3⟩
theorem zjf {K:y3} {t:XB} {c P:Addr} (h:XC K t=some (c,P)):Cq K c P=true:=by
 unfold XC at h
 rw[An] at h
 obtain⟨f,_,h⟩:=h
 exact (Wz h).1
structure zhr (bF:List Addr) (H:Hp):Prop where
 all:∀b,H b=none\/(∃o xs,H b=some (.frz o (.lst xs)))\/(b∈bF/\H b=some (.tbl #[]))
 tb:∀P∈bF,H P=some (.tbl #[])
def Ta (K:y3) (bF:List Addr):Sp:=λvs H Q _=>∃(a:Addr) (ns:List Int),vs=[V.ref a]/\zhr bF H/\SqX K H a (ns.map V.int)/\ns.length<=63/\∀H',Q (.bl true) H'
theorem zjg {P:Program} {w:World} {K:y3} {mg:Str->Option Value} {base:Heap} {CX:CXT} {k:Nat} {f:Addr} {fd:FuncData} {ps:List Str} {tw:TwF} {ts bF:List Addr} {cI:List XB} (Fn:ZF P w K mg base CX k f fd ps (sTw K 1 tw)) (hT:zje K ts cI bF)
  (h:∀ns:List Int,ns.length<=63->∃S,tw [.ref 0] (.frz (ns.map Xv.int)::cI.map .tab)=some (.ok (.bl true) S)):ZF P w K mg base CX k f fd ps (Ta K bF):=by
 refine Fn.imp ?_
 rintro vs H Q E ⟨a,ns,rfl,hO,hS,hl,q⟩
 obtain⟨S',e⟩:=h ns hl
 have hlen:(a::bF).length=(Ce.frz (ns.map Xv.int)::cI.map Ce.tab).length:=by simp[hT.len]
 refine⟨rfl,a::bF,.frz (ns.map Xv.int)::cI.map .tab,[.ref 0],_,?_,e,λv j' H' σ ρ E' hv=> ?_⟩
 ·refine⟨rfl,λi x e=> ?_,hlen,λn m b c d e1 e2 e3 e4 z1 z2=> ?_,λn c b e1 e2=> ?_,Ext.refl,λn c e=>⟨c,e,λz=>z,λ_=>rfl⟩,hlen,λb u e=> .inl e,λn b hn e=> ?_,λb e=>e⟩
  ·cases i with
   |zero=>simp at e;subst e;exact⟨_,rfl,.ref rfl⟩
   |succ i=>simp at e
  ·cases n with
   |zero=>simp at e3;subst e3;cases z1
   |succ n=>
    cases m with
    |zero=>simp at e4;subst e4;cases z2
    |succ m=>
     simp only[DU] at e1 e2
     obtain⟨h1,g1⟩:=y4.1 e1
     obtain⟨h2,g2⟩:=y4.1 e2
     rw[(C0 hT.nd).mp (g1.trans g2.symm)]
  ·cases n with
   |zero=>
    simp at e1 e2
    subst e1 e2
    refine⟨ns.map V.int,?_,zE.ints ns⟩
    rcases hS with (hS|⟨o,hS⟩)|hS
    ·rcases hO.all a with z|⟨o,xs,z⟩|⟨_,z⟩
     ·rw[z] at hS;cases hS
     ·rw[z] at hS;cases hS
     ·rw[z] at hS;cases hS
    ·exact .inl ⟨o,hS⟩
    ·exact .inr λH=> .inr hS
   |succ n=>
    simp only[DU,y8,z0] at e1 e2
    obtain⟨t,e1,rfl⟩:=e1
    obtain⟨c,P',g1,g2⟩:=hT.at_ n t e1
    rw[g1] at e2
    cases e2
    exact⟨#[],c,hO.tb _ (z4 g1),g2,trivial,λpos cv q=>by cases q⟩
  ·dsimp only at hn
   have:=(y4.1 e).1
   omega
 ·rw[hv.bl_inv]
  exact q H'
theorem zfv {P:Program} {w:World} {K:y3} {mg mb:Str->Option Value} {CX:CXT} {k:Nat} {fa a:Addr} {fd:FuncData} {x:Str} {sp:Sp} {s₁:Shared} {vs:List Value} {ns:List Int} {ts bF:List Addr} {cI:List XB}
  (KX:K.In s₁.heap) (hT:zje K ts cI bF) (dj:∀P∈ts,s₁.heap.get? P=some (Ca #[])) (cO:s₁.heap.Ns mainGlobals mg) (hb:s₁.heap.Ns builtinsNs mb) (hW:∀x:Str,x≠"__name__"->mb x=bootBuiltins x) (nJ:s₁.heap.NoLimit)
  (qy:∃bm ob,mg "__builtins__"=some (.ref bm)/\bm≠builtinsNs/\s₁.heap.get? bm=some ob/\ob.cls= .type "module"/\ob.dict=some builtinsNs/\ob.data= .plain) (pR:s₁.heap.NoSeer) (iA:P.given.tree=none) (hg:s₁.gens= #[])
  (ha:s₁.heap.get? a=some {cls:= .type "list",data:= .seq vs.toArray}) (hi:IntsAre vs ns) (hl:ns.length<=sizeLine) (hr:xo k callerA)
  (F:∀base:Heap,K.In base->base.Ns mainGlobals mg->ZF P w K mg base CX k fa fd [x] sp) (kG:∀(s:Shared) (u:Value),BindsTo s fd ⟨[u],[]⟩ [(x,u)])
  (f7:∀H:Hp,zhr bF H->SqX K H a (ns.map V.int)->sp [.ref a] H (λv _=>v= .bl true) λ_ _ _=>False)
  (ot:∀H e s',CX [] H s₁ (λ_ _ _=>False) e s'->False):
  codeAny (model P w) callerA (.call (.ref fa) ⟨[.ref a],[]⟩) (λr s'=>r= .ok (.ret (.bool true))/\OldK s₁.heap s'.heap/\s'.os=s₁.os/\AllBare s'.gens) s₁:=by
 have rv:=zac hi
 have mq:=hi.length
 have jB:∀P∈bF,s₁.heap.get? P=some (Ca #[]):=λP hP=>dj P (hT.sub P hP).1
 have core:∀H:Hp,zhr bF H->SqX K H a (ns.map V.int)->HOk P w H s₁.heap->(∀b,H b≠none->b=a\/b∈bF)->(H a≠none->K.lookup a=none)->
   codeAny (model P w) callerA (.call (.ref fa) ⟨[.ref a],[]⟩) (λr s'=>r= .ok (.ret (.bool true))/\OldK s₁.heap s'.heap/\s'.os=s₁.os/\AllBare s'.gens) s₁:=by
  intro H hO hS hok hA hK
  have cG:∀{b:Addr} {o:Obj},s₁.heap.get? b=some o->H b=none->(zaF s₁.heap H).get? b=some o:=λe n=>zfR e n
  have oX:∀{b:Addr} {o:Obj},s₁.heap.get? b=some o->o.cls≠ .type "list"->(o.cls≠ .none\/∀ps,o.data≠ .fields ps)->H b=none:=λ{b o} e d d'=>by
   cases q:H b with
   |none=>rfl
   |some u=>
    rcases hA b (by rw[q];simp) with rfl|hm
    ·rw[ha] at e;cases e
     exact absurd rfl d
    ·rw[jB b hm] at e;cases e
     rcases d' with d'|d'
     ·exact absurd rfl d'
     ·exact absurd rfl (d' _)
  have gf:∀{b:Addr} {o:Obj} {es:Array DictEntry} {ep:Nat},s₁.heap.get? b=some o->o.data= .dict es ep->H b=none:=λ{b o es ep} e d=>by
   cases q:H b with
   |none=>rfl
   |some u=>
    rcases hA b (by rw[q];simp) with rfl|hm
    ·rw[ha] at e;cases e
     have d':Data.seq vs.toArray _=Data.dict es ep:=d
     cases d'
    ·rw[jB b hm] at e;cases e
     cases d
  have gL:∀{b:Addr} {m:Str->Option Value},s₁.heap.Ns b m->(zaF s₁.heap H).Ns b m:=λ{b m} ⟨o,es,ep,e,d,r⟩=>⟨o,es,ep,cG e (gf e d),d,r⟩
  have qB:K.In (zaF s₁.heap H):=λb o e=>cG (KX b o e) (by
   cases q:H b with
   |none=>rfl
   |some u=>
    rcases hA b (by rw[q];simp) with rfl|hm
    ·rw[hK (by rw[q];simp)] at e;cases e
    ·rw[(hT.sub b hm).2.1] at e;cases e)
  have hM:Mod P K mg (zaF s₁.heap H):=⟨qB,gL cO,⟨mb,gL hb,hW⟩,let ⟨mc,h1,h2⟩:=nJ;⟨mc,gL h1,h2⟩,let ⟨bm,ob,b1,b2,b3,b4,b5,b6⟩:=qy;⟨bm,ob,b1,b2,cG b3 (oX b3 (by rw[b4];simp) (.inl (by rw[b4];simp))),b4,b5,b6⟩,let ⟨bm,ob,b1,b2,b3,b4,b5,b6⟩:=qy;let ⟨mc,c1,c2⟩:=pR.statics;let ⟨mm,m1,m2⟩:=pR.mods;⟨⟨mc,gL c1,c2⟩,⟨mm,gL m1,m2⟩,⟨mb,gL hb,hW⟩,⟨mg,bm,ob,gL cO,b1,cG b3 (oX b3 (by rw[b4];simp) (.inl (by rw[b4];simp))),b4,b5⟩⟩,iA⟩
  have e0:WU P w K mg (zaF s₁.heap H) callerA [] s₁ H:=⟨rfl,hM,λb o e=>ziq e,BK (zeZ _ _),trivial,λb hb=>absurd (show b∈([]:List Addr) from hb) (by simp),hok,.of_eq hg⟩
  refine codeAny_mono ((F _ qB (gL cO)).run callerA [] s₁ H ⟨[.ref a],[]⟩ [.ref a] [.ref a] _ _ hr e0 (kG s₁ (.ref a)) (.cons rfl .nil) (f7 H hO hS)) λr s' h=> ?_
  cases r with
  |error e=>exact (ot H e s' h).elim
  |ok fl=>
   cases fl with
   |next=>exact AF h
   |brk=>exact AF h
   |cont=>exact AF h
   |ret u=>
    obtain⟨v,H',os,bare,un,kh,r',q⟩:=h
    have q':v= .bl true:=q
    subst q'
    obtain rfl:u=Value.bool true:=r'
    have old:∀b o,s₁.heap.get? b=some o->b∉bF->s'.heap.get? b=some o:=λb o e nb=>by
     cases q:H b with
     |none=>exact un.keep b o e q (by intro z;exact absurd (show b∈([]:List Addr) from z) (by simp)) (by simp)
     |some u=>
      rcases hO.all b with z|⟨ob,xs,z⟩|⟨z,_⟩
      ·rw[q] at z;cases z
      ·have z2:=un.frzs b ob _ z
       obtain⟨e1,_⟩:=hok b _ z
       obtain⟨e2,_⟩:=kh b _ z2
       rw[e] at e1;cases e1
       exact e2
      ·exact absurd z nb
    refine⟨rfl,⟨λb o e=> ?_,λb o e=>un.there b o e (by simp)⟩,os,bare⟩
    by_cases hb:b∈bF
    ·obtain⟨_,_,t,c,ht⟩:=hT.sub b hb
     obtain⟨o2,qQ,_,_,_,_,_,_,_,c1,c2,c3,c4,_⟩:=EY KX (zjf ht)
     obtain⟨more,e1⟩:=un.tbls b _ (hO.tb b hb)
     have e2:=kh b _ e1
     have e3:=jB b hb
     rw[e] at e3
     cases e3
     exact .inr (.inl ⟨⟨c,o2,qQ,c1,c2,c3,c4⟩,rfl,#[],more,rfl,e2⟩)
    ·exact .inl (old b o e hb)
 have aT:a∉bF:=λhm=>by
  have e:=jB a hm
  rw[ha] at e
  cases e
 have tH:∀(H:Hp),(∀P∈bF,H P=some (.tbl #[]))->∀b∈bF,∀u,H b=some u->yj P w H s₁.heap b u:=λH h b hb u e=>by
  rw[h b hb] at e
  cases e
  exact jB b hb
 cases hk:K.lookup a with
 |some o=>
  have e:=KX a o hk
  rw[ha] at e
  cases e
  have nT:∀b,b∈bF->(if b∈bF then some (HO.tbl #[]) else none)=some (HO.tbl #[]):=λb h=>if_pos h
  refine core (λb=>if b∈bF then some (.tbl #[]) else none) ⟨λb=> ?_,λb h=>if_pos h⟩ (.inr ⟨vs.toArray,_,hk,by rw[A3,mq];exact hl,by simpa using rv⟩) (λb u z=> ?_) (λb z=> ?_) λz=>absurd (if_neg aT) z
  ·by_cases hb:b∈bF
   ·exact .inr (.inr ⟨hb,if_pos hb⟩)
   ·exact .inl (if_neg hb)
  ·by_cases hb:b∈bF
   ·exact tH (λb=>if b∈bF then some (.tbl #[]) else none) (λb h=>if_pos h) b hb u z
   ·have z':=(if_neg hb).symm.trans z
    cases z'
  ·by_cases hb:b∈bF
   ·exact .inr hb
   ·exact absurd (if_neg hb) z
 |none=>
  have h1:∀b,b∈bF->(if b=a then some (HO.frz {cls:= .type "list",data:= .seq vs.toArray} (.lst (ns.map V.int))) else if b∈bF then some (.tbl #[]) else none)=some (HO.tbl #[]):=λb h=>by
   have ne:b≠a:=λz=>aT (by rw[<-z];exact h)
   rw[if_neg ne,if_pos h]
  refine core (λb=>if b=a then some (.frz {cls:= .type "list",data:= .seq vs.toArray} (.lst (ns.map V.int))) else if b∈bF then some (.tbl #[]) else none) ⟨λb=> ?_,h1⟩ (.inl (.inr ⟨{cls:= .type "list",data:= .seq vs.toArray},if_pos rfl⟩)) (λb u z=> ?_) (λb z=> ?_) λ_=>hk
  ·by_cases hb:b=a
   ·exact .inr (.inl ⟨_,_,if_pos hb⟩)
   ·by_cases hm:b∈bF
    ·exact .inr (.inr ⟨hm,h1 b hm⟩)
    ·exact .inl ((if_neg hb).trans (if_neg hm))
  ·by_cases hb:b=a
   ·have z':=(if_pos hb).symm.trans z
    cases z'
    subst hb
    exact⟨ha,by rw[y7];exact hl,vs,_,rv,ha⟩
   ·by_cases hm:b∈bF
    ·exact tH _ h1 b hm u z
    ·have z':=((if_neg hb).trans (if_neg hm)).symm.trans z
     cases z'
  ·by_cases hb:b=a
   ·exact .inl hb
   ·by_cases hm:b∈bF
    ·exact .inr hm
    ·exact absurd ((if_neg hb).trans (if_neg hm)) z
theorem zhs {l:Ee} {n k:Nat} {q:Program} {loose:List Str} {XP:(Str->Option Value)->Heap->Prop} {YP:World->Heap->Prop} {d:DefRec} {K:Params->y3} {CX:World->CXT} {x:Str} {ts:List Addr} {cI:List XB}
  (hn:l.most=some n) (cX:n<=63) (kC:d.params.defaults=[]) (hr:xo k callerA)
  (hY:∀(w:World) (h:Heap),YP w h->(K w.params).In h/\∀P∈ts,h.get? P=some (Ca #[])) (hB:∀w:World,zat (K w.params) ts cI=true)
  (F:∀(w:World) (mg:Str->Option Value) (fa:Addr) (h:Heap),(K w.params).In h->h.Ns mainGlobals mg->mg d.name=some (.ref fa)->
   ∃fd:FuncData,(∀(s:Shared) (u:Value),BindsTo s fd ⟨[u],[]⟩ [(x,u)])/\
    ∀base:Heap,(K w.params).In base->base.Ns mainGlobals mg->ZF l.prog w (K w.params) mg base (CX w) k fa fd [x] (Ta (K w.params) (YG (K w.params) cI)))
  (ot:∀(w:World) (H:Hp) (s:Shared) (e:Value) (s':Shared),CX w [] H s (λ_ _ _=>False) e s'->False) (nU:importsNone q=true) (iA:l.prog.given.tree=none):
  Gb q loose XP YP l.row.toRowW d [] (λf vs=>FU f vs):=by
 refine Att.zbS hn kC λw s₀ s₁ mg mb fa o pm cd doc a vs ns G Y ho hd cF iP iJ hints hlen hg=> ?_
 obtain⟨KX,dj⟩:=hY w _ Y
 obtain⟨fd,hb,hF⟩:=F w mg fa _ KX G.T.g iP
 exact zfv KX (zeE (hB w)) dj G.T.g G.T.b G.T.builtins G.T.nolimit G.T.bmain (G.T.seer nU) iA hg iJ hints (A2 (A2 hlen cX) ∅) hr hF hb (λH hO hS=>⟨a,ns,rfl,hO,hS,A2 hlen cX,λ_=>rfl⟩) λH e s'=>ot w H s₁ e s'
end L2
namespace L2
open PySem PySem.Spec PyProof.Rows PySem.Calls PySem.W
section
variable {X:Cx}
end
end L2
namespace L2
open PySem PySem.Spec PyProof.Rows
section
variable {K:y3} {S:Sto} {x:Xv} {P:Xv->Sto->Prop}
end
open PySem.Builtin.Int (intBits)
end L2
namespace L2
open PySem PySem.Spec PyProof.Rows
def znl (s:Stmt):Expr:=match s with
 | .Assign _ e _=>e
 |_=>noE
theorem zht {K:y3} {m d:Str} {f:Addr} (h1:A8 K mainGlobals m=some (some (.ref f))) (h:(XC K ⟨none,m,d⟩).isSome=true):∃c P,zgC K f=some (c,P)/\XC K ⟨none,m,d⟩=some (c,P):=by
 obtain⟨⟨c,P⟩,e⟩:=Bg.1 h
 refine⟨c,P,?_,e⟩
 unfold XC zgB at e
 dsimp only at e
 rw[h1] at e
 exact e
def PSm (X Y:Cx) (st:List Stmt) (t:TS):Prop:=
 ∀(pins:List (Addr×Obj)) (s:Shared) (σ:St) (H:Hp) (D:Wg),Inv X pins σ H s->t D σ H->wpAny (model X.prog X.w) X.A (execs st X.env) (SP Y pins D) X.xe s
section
variable {fz:List Str} {CX:CXT} {P:Program} {w:World} {K:y3} {mg:Str->Option Value} {base:Heap} {N:List Str} {qual:Str} {scope:Scope} {f:Addr} {cd:Value} {A:Around} {outer:List Env} {s:Shared} {H:Hp} {E:XK} {st:Stmt} {rest:List Stmt} {t u:TS}
theorem zlC (h:PSs (UZ fz CX P w K mg base N qual scope f cd A outer s H E) rest t):PSm (XA CX P w K mg base N qual scope f cd A outer s H E) (UZ fz CX P w K mg base N qual scope f cd A outer s H E) rest t:=
 λpins s1 σ H1 D I q=>h pins s1 σ H1 D I.toZ q
theorem zct (h1:PS (XA CX P w K mg base N qual scope f cd A outer s H E) st t) (h2:PSm (XA CX P w K mg base N qual scope f cd A outer s H E) (UZ fz CX P w K mg base N qual scope f cd A outer s H E) rest u):PSm (XA CX P w K mg base N qual scope f cd A outer s H E) (UZ fz CX P w K mg base N qual scope f cd A outer s H E) (st::rest) (zkH t u):=by
 intro pins s1 σ H1 D I h
 refine wpAny_execs_cons (thn (h1 pins s1 σ H1 {D with nx:=u D} I h) λfl s2 q=> ?_)
 cases fl with
 |next=>
  obtain⟨σ',H',I',q⟩:=q
  exact h2 pins s2 σ' H' D I' q
 |ret v=>obtain⟨v',σ',H',I',q⟩:=q;exact⟨v',σ',H',I'.toZ,q⟩
 |brk=>obtain⟨σ',H',I',q⟩:=q;exact⟨σ',H',I'.toZ,q⟩
 |cont=>obtain⟨σ',H',I',q⟩:=q;exact⟨σ',H',I'.toZ,q⟩
end
theorem Fun.okZ2 {P:Program} {w:World} {K:y3} {mg:Str->Option Value} {base:Heap} {x qual:Str} {st:Stmt} {f c T:Addr} {fd:FuncData} {N ps:List Str} {k:Nat} {sp:Sp} {fz:List Str} (F:Fun K x qual st f fd) (hT:zgC K f=some (c,T)) (S:zy N ps (zg st)) (len:∀vs H Q E,sp vs H Q E->vs.length=ps.length)
  (cQ:∀(A:Around) (outer:List Env) (s:Shared) (H:Hp) (vs:List V) (Q:VK) (E:XK),xo k (A.deeper (envOfC qual (zg st) s.heap.objs.size f (.ref c)))->sp vs H Q E->
   ∃t,PSm (XA (CXE P w) P w K mg base N qual (zg st) f (.ref c) A outer s H E) (UZ fz (CXE P w) P w K mg base N qual (zg st) f (.ref c) A outer s H E) (wF st) t/\t {nx:=λ_ H'=>Q .non H',rt:=Q} (ZG N vs) H):ZF P w K mg base (CXE P w) (k+1) f fd ps sp:=by
 obtain⟨oc,od,kV,doc,pm,an,bt,ct,eY,rfl,lk,cF⟩:=F.ex
 have hc:bt= .ref c:=(Wz hT).2 lk
 subst hc
 refine⟨len,λA outer s H args us vs Q E hr e0 hb r f7=> ?_⟩
 have hl:=len _ _ _ _ f7
 have KX:K.In s.heap:=e0.mod.kin.keeps λb o e=>(e0.bs b o e).1
 have lim:s.heap.NoLimit:=e0.mod.nolimit.keeps λb o e=>(e0.bs b o e).1
 have fO:∀y∈ps.zip us,(zg st).names.lookup y.1=some .local\/((zg st).names.lookup y.1=some .cell/\((cellsFrom (s.heap.objs.size+1) (zg st).names []).lookup y.1).isSome=true):=λ⟨n,v⟩ hy=>by
  rcases S.par n (C5 hy).1 with q|q
  ·exact .inl q
  ·exact .inr ⟨q,CW _ _ _ (.inl q)⟩
 refine codeAny_call_function hr.depth (KX _ _ lk) rfl S.co S.gen rfl (F7 KX cF) (hb _ _ _ _ ?_)
 refine wpAny_newFunctionEnv_cells S.kind fO λenv he s1 x=> ?_
 subst he
 refine⟨lim.keeps x.toInCall.keep,codeAny_func ?_⟩
 obtain⟨t,ht,hq⟩:=cQ A outer s H vs Q E (hr.deeper _) f7
 refine wpAny_mono (ht [] s1 (ZG N vs) H _ (TV S hr.hd e0 hl r x) hq) (λfl s' hs=> ?_) λe s' hs=>hs
 have fin:∀{σ':St} {H':Hp} {v:V} {u:Value},Inv (UZ fz (CXE P w) P w K mg base N qual (zg st) f (.ref c) A outer s H E) [] σ' H' s'->zD v u->Q v H'->CE outer P w H s Q u s':=
  λ{σ' H' v u} J rv q=>⟨v,H',J.os,J.bare,J.base,J.hok,rv,q⟩
 cases fl with
 |ret u=>
  obtain⟨v,σ',H',J,rv,q⟩:=hs
  exact fin J rv q
 |next=>
  obtain⟨σ',H',J,q⟩:=hs
  exact fin (v:=V.non) (u:=Value.none) J rfl q
 |brk=>
  obtain⟨_,_,_,q⟩:=hs
  exact AF q
 |cont=>
  obtain⟨_,_,_,q⟩:=hs
  exact AF q
end L2
namespace L2
open PySem PySem.Spec PyProof.Rows PySem.Calls PySem.W
section
variable {X:Cx}
end
section
variable {K:y3} {E:XK}
end
end L2
namespace L2
open PySem PySem.Spec PyProof.Rows
section
variable {prog:Program} {w:World} {A:Around} {E:Value->Shared->Prop} {s:Shared}
noncomputable abbrev zM1 (h:Heap) (l1:Addr):Heap:=h.push {cls:= .type "tuple_iterator",data:= .fields #[.ref l1,.int 0 0]}
noncomputable abbrev zM2 (h:Heap) (l1 l2:Addr):Heap:=(zM1 h l1).push {cls:= .type "list_iterator",data:= .fields #[.ref l2,.int 0 0]}
noncomputable abbrev zM3 (h:Heap) (l1 l2:Addr):Heap:=(zM2 h l1 l2).push {cls:= .type "tuple",data:= .seq #[.ref h.objs.size,.ref (zM1 h l1).objs.size]}
noncomputable abbrev zM4 (h:Heap) (l1 l2:Addr):Heap:=(zM3 h l1 l2).push {cls:= .type "tuple",data:= .seq #[.none,.none]}
noncomputable abbrev zM5 (h:Heap) (l1 l2:Addr):Heap:=(zM4 h l1 l2).push {cls:= .type "zip",data:= .fields #[.none,.bool false,.bool false,.ref (zM2 h l1 l2).objs.size,.ref (zM3 h l1 l2).objs.size]}
end
section
variable {X:Cx}
end
section
variable {K:y3} {E:XK}
end
end L2
namespace L2
open PySem PySem.Spec PyProof.Rows PySem.Calls PySem.W
noncomputable def zcu {κ:Type} [DecidableEq κ] (kvs:List (κ×Xv)) (k:κ):List (κ×Xv):=kvs.filter λkv=>decide (kv.1≠k)
section
variable {K:y3} {E:XK} {j:List Addr} {H:Hp}
theorem KX.out {κ:Type} [DecidableEq κ] (k:κ) {kvs:List (κ×Xv)} {ks:List (κ×V)} (h:KX K j H kvs ks):KX K j H (zcu kvs k) (Vx ks k):=by
 unfold zcu Vx
 induction h with
 |nil=>exact .nil
 | @cons q x v r rs h1 _ ih=>
  rw[C1,C1]
  by_cases e:q=k
  ·rw[if_neg (by simp[e]),if_neg (by simp[e])]
   exact ih
  ·rw[if_pos (by simp[e]),if_pos (by simp[e])]
   exact .cons h1 ih
def zdv (d k:TwE):TwE:=λρ S=>rb (d ρ S) λx S1=>(xT S1 x).bind λ_=>rb (k ρ S1) λy S2=>match xT S2 x,Ws y with
 |some (n,kvs),some key=>(wY kvs key).map λv=> .ok v (S2.set n (.dk (zcu kvs key)))
 |_,_=>none
def zdw (d k z:TwE):TwE:=λρ S=>rb (d ρ S) λx S1=>(xT S1 x).bind λ_=>rb (k ρ S1) λy S2=>rb (z ρ S2) λw S3=>match xT S3 x,Ws y with
 |some (n,kvs),some key=>(match wY kvs key with
  |some v=>some (.ok v (S3.set n (.dk (zcu kvs key))))
  |none=>some (.ok w S3))
 |_,_=>none
theorem zhu {td ty:TE} {d k:TwE} (hd:RE K E td d) (hk:RE K E ty k):RE K E (zgj td ty) (zdv d k):=by
 intro F j σ H ρ S r Q En0 e kk
 rcases zj e with⟨x,S1,e1,e⟩|⟨c,S1,e1,rfl⟩
 ·refine hd En0 e1 λj1 H1 X1 E1 u hu=> ?_
  cases fh:xT S1 x with
  |none=>rw[fh] at e;cases e
  |some p0=>
   rw[fh] at e
   obtain⟨n0,il⟩:=p0
   obtain⟨a,jk,rfl,lG,f0,_⟩:=E1.dk hu fh
   refine⟨a,rfl,.inl ⟨jk,.inl f0⟩,?_⟩
   rcases zj e with⟨y,S2,e2,e⟩|⟨c,S2,e2,rfl⟩
   ·refine hk E1 e2 λj2 H2 X2 E2 w hw=> ?_
    split at e
    ·rename_i n kvs key ed ek
     obtain⟨a',ks,ea,hj,f1,f2⟩:=E2.dk (hu.mono X2) ed
     cases ea
     rw[z0] at e
     obtain⟨v,ev,rfl⟩:=e
     obtain⟨w1,g1,g2⟩:=f2.val.1 _ ev
     obtain⟨E4,X4⟩:=E2.wdk ed hj (f2.out key)
     exact⟨ks,key,w1,f1,Wt hw ek,g1,kk _ _ (X1.trans (X2.trans X4)) E4 _ (g2.mono X4)⟩
    ·cases e
   ·exact hk E1 e2 (PX.mono kk X1)
 ·exact hd En0 e1 kk
theorem zhv {td ty tx:TE} {d k z:TwE} (hd:RE K E td d) (hk:RE K E ty k) (hz:RE K E tx z):RE K E (zgk td ty tx) (zdw d k z):=by
 intro F j σ H ρ S r Q En0 e kk
 rcases zj e with⟨x,S1,e1,e⟩|⟨c,S1,e1,rfl⟩
 ·refine hd En0 e1 λj1 H1 X1 E1 u hu=> ?_
  cases fh:xT S1 x with
  |none=>rw[fh] at e;cases e
  |some p0=>
   rw[fh] at e
   obtain⟨n0,il⟩:=p0
   obtain⟨a,jk,rfl,lG,f0,_⟩:=E1.dk hu fh
   refine⟨a,rfl,.inl ⟨jk,.inl f0⟩,?_⟩
   rcases zj e with⟨y,S2,e2,e⟩|⟨c,S2,e2,rfl⟩
   ·refine hk E1 e2 λj2 H2 X2 E2 w hw=> ?_
    rcases zj e with⟨q,S3,e3,e⟩|⟨c,S3,e3,rfl⟩
    ·refine hz E2 e3 λj3 H3 X3 E3 wq hq=> ?_
     split at e
     ·rename_i n kvs key ed ek
      obtain⟨a',ks,ea,hj,f1,f2⟩:=E3.dk (hu.mono (X2.trans X3)) ed
      cases ea
      refine⟨ks,key,f1,Wt (hw.mono X3) ek,λv hv=> ?_,λhv=> ?_⟩
      ·cases ev:wY kvs key with
       |none=>rw[f2.val.2 ev] at hv;cases hv
       |some y1=>
        obtain⟨w1,g1,g2⟩:=f2.val.1 _ ev
        rw[g1] at hv
        cases hv
        rw[ev] at e
        cases e
        obtain⟨E4,X4⟩:=E3.wdk ed hj (f2.out key)
        exact kk _ _ (X1.trans (X2.trans (X3.trans X4))) E4 _ (g2.mono X4)
      ·cases ev:wY kvs key with
       |some y1=>
        obtain⟨w1,g1,g2⟩:=f2.val.1 _ ev
        rw[g1] at hv
        cases hv
       |none=>
        rw[ev] at e
        cases e
        exact kk _ _ (X1.trans (X2.trans X3)) E3 _ hq
     ·cases e
    ·exact hz E2 e3 (PX.mono kk (X1.trans X2))
   ·exact hk E1 e2 (PX.mono kk X1)
 ·exact hd En0 e1 kk
noncomputable def zav:Op2:=λx y S=>match zv S x,y with
 |some u,.int k=>if -(2^63)<=k/\k<2^63/\u.length*k.toNat<=sizeLine then some (.ref S.length,S++[.lst (z9 k.toNat u).flatten]) else none
 |_,_=>none
theorem zbh:ZX K (zkd K) zav:=by
 intro F j σ H ρ S S' x y z u v Q E1 hx hy h k
 unfold zav at h
 split at h
 ·rename_i us q eu
  split at h
  ·rename_i hz
   cases h
   obtain⟨a,vs,rfl,h1,h2⟩:=E1.lstAt hx eu
   refine⟨a,q,vs,rfl,hy.int_inv,h1,hz.1,hz.2.1,by rw[h2.len];exact hz.2.2,λp hp=> ?_⟩
   obtain⟨E2,X2,h3⟩:=E1.lst (zcn h2 q.toNat) hp
   exact k _ _ _ X2 E2 h3
  ·cases h
 ·cases h
end
section
variable {ρ:Rho} {S:Sto} {P:Xv->Sto->Prop} {a b z:TwE} {x:Xv}
theorem zhw (h:W (a ρ S) λx S1=>(∃p,xT S1 x=some p)/\W (b ρ S1) λy S2=>∃n kvs k v,xT S2 x=some (n,kvs)/\Ws y=some k/\wY kvs k=some v/\P v (S2.set n (.dk (zcu kvs k)))):W (zdv a b ρ S) P:=
 W.bind (h.imp λx S1 h=>by
  obtain⟨⟨p,e0⟩,h⟩:=h
  rw[e0,A1]
  refine W.bind (h.imp λ_ _ h=> ?_)
  obtain⟨n,kvs,k,v,e1,e2,e3,q1⟩:=h
  rw[e1,e2]
  dsimp only
  rw[e3]
  exact .of rfl q1)
theorem zhx (h:W (a ρ S) λx S1=>(∃p,xT S1 x=some p)/\W (b ρ S1) λy S2=>W (z ρ S2) λw S3=>∃n kvs k,xT S3 x=some (n,kvs)/\Ws y=some k/\(∀v,wY kvs k=some v->P v (S3.set n (.dk (zcu kvs k))))/\(wY kvs k=none->P w S3)):W (zdw a b z ρ S) P:=
 W.bind (h.imp λx S1 h=>by
  obtain⟨⟨p,e0⟩,h⟩:=h
  rw[e0,A1]
  refine W.bind (h.imp λ_ _ h=>W.bind (h.imp λ_ _ h=> ?_))
  obtain⟨n,kvs,k,e1,e2,q1,q2⟩:=h
  rw[e1,e2]
  dsimp only
  cases ev:wY kvs k with
  |some v=>exact .of rfl (q1 v ev)
  |none=>exact .of rfl (q2 ev))
theorem zeF {u:List Xv} {p:Int} (hx:zv S x=some u) (h:0<=p/\p<=1000000/\u.length*p.toNat<=sizeLine) (k:P (.ref S.length) (S++[.lst (z9 p.toNat u).flatten])):WO (zav x (.int p) S) P:= .of (by unfold zav;rw[hx];exact if_pos ⟨⋯,⋯,h.2.2⟩) k
end
end L2
namespace L2
open PySem PySem.Spec PyProof.Rows PySem.Calls
theorem zbi:typeLookup (.type "list") "keys"=pure none:=by rw[typeLookup_type,builtinLookup_eq_fast];kernel_rfl
theorem zdx:typeLookup (.type "list") "__getattr__"=pure none:=by rw[typeLookup_type,builtinLookup_eq_fast];kernel_rfl
section
variable {prog:Program} {w:World} {A:Around} {E:Value->Shared->Prop} {h:Heap} {g:Array GenState} {d:Drawn} {t:Nat} {os:OsState} {a:Addr}
theorem zcv {tk:Tok} {Q:Fin->Shared->Prop} {xs:Array Value} {n:Nat} {sl:Array (Option Value)} (hx:h.get? a=some ⟨.type "list",none,.seq xs n,sl⟩) (hh:A.handled=none) (hq:zlw h g d os E):
  wpAny (model prog w) A (Builtin.«object.__getattribute__» ⟨[.ref a,.str "keys" tk],[]⟩) Q E ⟨h,g,d,t,os⟩:=by
 have hT:(⟨h,g,d,t,os⟩:Shared).TypeIs (.ref a) "list":=⟨_,hx,rfl⟩
 have f4:=zbi
 repeat (any_goals (first|assumption|wp_step))
 refine wpAny_raiseAttrError hh (λh' tk' e q=> ?_) (by decide+kernel)
 obtain⟨q1,q2,o,vs,q3⟩:=q
 exact hq h' e tk' q1 ⟨_,q3,rfl⟩
theorem zdy {tk:Tok} {R:Result->Shared->Prop} {xs:Array Value} {n:Nat} {sl:Array (Option Value)} (hx:h.get? a=some ⟨.type "list",none,.seq xs n,sl⟩) (hh:A.handled=none) (hq:zlw h g d os λe s=>R (.error e) s):
  codeAny (model prog w) A (.call (.builtin "list.__getattribute__") ⟨[.ref a,.str "keys" tk],[]⟩) R ⟨h,g,d,t,os⟩:=
 codeAny_call_builtin F.slot_list_getattribute.plain F.entry_list_ga (F.slot_list_getattribute.check _ _ _ _ _ _ _ _ (show (⟨h,g,d,t,os⟩:Shared).TypeIs (.ref a) "list" from ⟨_,hx,rfl⟩) (F.args_list_getattribute_2 _ _) (zcv hx (by simpa using hh) hq))
theorem zhy {tk:Tok} {Q:Value->Shared->Prop} {xs:Array Value} {n:Nat} {sl:Array (Option Value)} (hx:h.get? a=some ⟨.type "list",none,.seq xs n,sl⟩) (hh:A.handled=none) (hq:zlw h g d os E):
  wpAny (model prog w) A (getAttrBy (.ref a) (.str "keys" tk) false) Q E ⟨h,g,d,t,os⟩:=by
 have hT:(⟨h,g,d,t,os⟩:Shared).TypeIs (.ref a) "list":=⟨_,hx,rfl⟩
 have f2:=F.slot_list_getattribute.lookup
 have f3:=F.slot_list_getattribute.bind (.ref a)
 have f5:=zdx
 repeat (any_goals (first|assumption|wp_step))
 refine zdy hx (by simpa using hh) λh' e tk' q1 q2=> ?_
 obtain⟨o,q2,q3⟩:=q2
 have hE:(⟨h',g,d,tk',os⟩:Shared).TypeIs (.ref e) "AttributeError":=⟨_,q2,q3⟩
 have f6:=sub_AttributeError
 have v8:(⟨h',g,d,tk',os⟩:Shared).TypeIs (.ref a) "list":=⟨_,q1 _ _ hx,rfl⟩
 repeat (any_goals (first|assumption|wp_step))
 exact hq h' e tk' q1 ⟨o,q2,q3⟩
theorem zdz {Q:Option Value->Shared->Prop} {xs:Array Value} {n:Nat} {sl:Array (Option Value)} (hx:h.get? a=some ⟨.type "list",none,.seq xs n,sl⟩) (hh:A.handled=none) (hq:∀h' tk',(∀b o,h.get? b=some o->h'.get? b=some o)->Q none ⟨h',g,d,tk',os⟩):
  wpAny (model prog w) A (getAttr? (.ref a) "keys") Q E ⟨h,g,d,t,os⟩:=by
 unfold getAttr? getAttrBy?
 have hT:(⟨h,g,d,t,os⟩:Shared).TypeIs (.ref a) "list":=⟨_,hx,rfl⟩
 refine wpAny_bind (wpAny_mkText (wpAny_bind (wpAny_attempt (zhy hx hh λh' e tk' q1 q2=> ?_))))
 obtain⟨o,q2,q3⟩:=q2
 have hE:(⟨h',g,d,tk',os⟩:Shared).TypeIs (.ref e) "AttributeError":=⟨_,q2,q3⟩
 have f6:=sub_AttributeError
 repeat (any_goals (first|assumption|wp_step))
 exact hq h' tk' q1
end
section
variable {prog:Program} {w:World} {A:Around} {I:Addr} {fp wr:List Addr} {G:Array GenState->Array GenState->Prop} {n:Nat} {P:Nat->Value->Prop} {St:Nat->Shared->Prop} {R:Result->Shared->Prop} {KK:Type} [DecidableEq KK] {knd:KeyKind prog w KK}
variable {E:Value->Shared->Prop} {s:Shared}
theorem zjh {a:Addr} {items:Array Value} {m:Nat} {sl:Array (Option Value)} {kv:List (KK×Value)} {Q:Value->Shared->Prop} (hh:A.handled=none) (hx:s.heap.get? a=some ⟨.type "list",none,.seq items m,sl⟩) (nd:(kv.map (·.1)).Nodup) (hn:kv.length=items.size) (qF:items.size<=sizeLine)
  (xu:∀(i:Nat) v,items[i]? =some v->∃p key k x m,kv[i]? =some (k,x)/\v= .ref p/\knd.is k key=true/\∃o,s.heap.get? p=some o/\o.cls= .type "tuple"/\o.data= .seq #[key,x] m)
  (h:∀s':Shared,s'.heap.DictOf knd s.heap.objs.size kv->(∀b o,s.heap.get? b=some o->s'.heap.get? b=some o)->s'.gens=s.gens->s'.drawn=s.drawn->s'.os=s.os->Q (.ref s.heap.objs.size) s'):
  wpAny (model prog w) A (call (.type "dict") [.ref a]) Q E s:=by
 refine callType_codes (Q₁:=λobj s₁=>obj= .ref s.heap.objs.size/\s₁={s with heap:=s.heap.push {cls:= .type "dict",data:= .dict #[]}}) F.kt_called_dict (F.kt_typeCall_dict_1 _) F.entry_dict_init (kt_code_dict_new _ ⟨rfl,rfl⟩) ?_
 rintro obj s₁ ⟨rfl,rfl⟩
 have du:(s.heap.push {cls:= .type "dict",data:= .dict #[]}).DictOf knd s.heap.objs.size []:=Heap.DictOf.new s.heap
 have dP:=Heap.get?_push_of_some (h:=s.heap) {cls:= .type "dict",data:= .dict #[]} hx
 have hT:Shared.TypeIs {s with heap:=s.heap.push {cls:= .type "dict",data:= .dict #[]}} (.ref a) "list":=⟨_,dP,rfl⟩
 refine⟨du.typeIs,F.args_dict_init_2 _ _,?_⟩
 unfold Builtin.«dict.__init__»
 refine wpAny_bind (by
  unfold Builtin.Dict.selfAndRest
  refine wpAny_bind (wpAny_notOrdered_dict du.typeIs (wpAny_pure (a:=(s.heap.objs.size,[Value.ref a])) ?_))
  show wpAny _ _ (Builtin.Dict.updateFrom "dict.__init__" s.heap.objs.size (.ref a) [] .none) _ _ _
  unfold Builtin.Dict.updateFrom
  refine wpAny_bind (wpAny_typeOf hT ?_)
  rw[if_pos ∅]
  refine wpAny_bind (zdz (g:=s.gens) (d:=s.drawn) (t:=s.toks) (os:=s.os) dP (by simpa using hh) λh' tk' kp=> ?_)
  rw[if_pos (by rfl)]
  refine wpAny_bind (wpAny_rule ?_)
  have dO:=kp _ _ dP
  refine wpAny_bind (wpAny_pyIter_list (items:=items) ⟨_,dO,rfl,m,rfl⟩ ?_)
  have lt:a<h'.objs.size:=Heap.lt_size dO
  have qZ:s.heap.objs.size<h'.objs.size:=by
   obtain⟨o,_,_,e,_⟩:=du
   exact Heap.lt_size (kp _ _ e)
  refine wpAny_pure ⟨plainId_quiet Wv _,?_⟩
  have old:∀b o,s.heap.get? b=some o->b≠s.heap.objs.size/\b≠h'.objs.size:=λb o e=>⟨Ad (Heap.lt_size e),Ad (Nat.lt_trans (Heap.lt_size e) qZ)⟩
  refine zjc (G:=λa b=>b=a) ((Walks.list (A:=A.in1.in1) (by simpa using hh) h'.objs.size a (Ad lt) items).toS) s.heap.objs.size (λz=> ?_) s.heap (λb o e z=> ?_) kv nd hn qF (λi v hv=>xu i v hv) _ 0 _ _ rfl (Bi _) ⟨⟨_,Heap.get?_push_size _ rfl,rfl,rfl⟩,⟨_,Heap.get?_push_of_some _ dO,rfl,m,rfl⟩⟩ (λb o e=> ?_) ?_ (λs' mv hD=> ?_)
  ·rcases (by simpa using z:s.heap.objs.size=h'.objs.size\/s.heap.objs.size=a) with z|z
   ·omega
   ·exact (old _ _ hx).1 z.symm
  ·rcases (by simpa using z:b=s.heap.objs.size\/b=h'.objs.size) with z|z
   ·exact (old _ _ e).1 z
   ·exact (old _ _ e).2 z
  ·exact Heap.get?_push_of_some _ (kp _ _ (Heap.get?_push_of_some _ e))
  ·rw[G7]
   obtain⟨o,es,ep,e,r⟩:=du
   exact⟨o,es,ep,Heap.get?_push_of_some _ (kp _ _ e),r⟩
  ·refine⟨rfl,h s' hD (λb o e=>mv.heap b o (λz=> ?_) (Heap.get?_push_of_some _ (kp _ _ (Heap.get?_push_of_some _ e)))) mv.gens mv.drawn mv.os⟩
   rcases (by simpa using z:b=s.heap.objs.size\/b=h'.objs.size) with z|z
   ·exact (old _ _ e).1 z
   ·exact (old _ _ e).2 z)
end
def zhz:List V->Hp->VK->Prop:=λxs H Q=>∃(a:Addr) (ps:List V) (kvs:List (Key×V)),xs=[.ref a]/\H a=some (.lst ps)/\Paired (PrT H) ps kvs/\(kvs.map (·.1)).Nodup/\∀l,H l=none->Q (.ref l) (upd H l (.dK kvs))
section
variable {X:Cx}
theorem zdA (hc:X.calm=true):ZD X (.type "dict") zhz:=by
 intro pins s σ H xs us Q I r h
 obtain⟨a,ps,kvs,rfl,ha,hp,nd,q⟩:=h
 obtain⟨u,rfl,ru⟩:=Yv r
 cases ru
 obtain⟨z,ae,m,rv,e⟩:=(show yj X.prog X.w H s.heap a (.lst ps) from I.hok a _ ha)
 obtain⟨kv,a1,a2,a3⟩:=zhd I.hok hp rv
 have bZ:kvs.length=ae.length:=by rw[<-hp.length,<-rv.length]
 have nd':(kv.map (·.1)).Nodup:=by rw[show kv.map (·.1)=kvs.map (·.1) from (KV.keys a1).symm];exact nd
 refine zjh (knd:=zZ X.prog X.w) (kv:=kv) (I.ok.hd hc) e nd' (by rw[A3];exact a2) (by rw[A3,<-rv.length];exact z) (λi v hv=>a3 i v (by simpa using hv)) λs' hD kp e1 e2 e3=> ?_
 have e':({s with heap:=s'.heap,toks:=s'.toks}:Shared)=s':=by
  cases s'
  simp only at e1 e2 e3
  subst e1 e2 e3
  rfl
 have I1:=I.laid (a:=s.heap.objs.size) (o:= .dK kvs) (t':=s'.toks) kp (z5 _) ⟨by rw[bZ,<-rv.length];exact z,beq_eq_false_iff_ne.mpr (Av I.big),kv,a1,hD⟩
 rw[e'] at I1
 exact⟨.ref _,_,I1,rfl,q _ (I.hok.fresh (z5 _))⟩
end
noncomputable def zdB:List Xv->Option (List (Key×Xv))
 |[]=>some []
 | .tup [.int n,y]::r=>(zdB r).map ((.inl n,y):: ·)
 |_=>none
theorem zji {K:y3} {j:List Addr} {H:Hp}:∀{xs:List Xv} {kvs:List (Key×Xv)} {vs:List V},zdB xs=some kvs->zE K j H xs vs->∃ks,KX K j H kvs ks/\Paired (PrT H) vs ks/\ks.map (·.1)=kvs.map (·.1):=by
 intro xs
 induction xs with
 |nil=>intro kvs vs e h;cases e;cases h;exact⟨[],.nil,.nil,rfl⟩
 |cons x r ih=>
  intro kvs vs e h
  unfold zdB at e
  split at e
  ·rename_i h0;cases h0
  ·rename_i n y r' h0
   cases h0
   rw[z0] at e
   obtain⟨ms,e1,rfl⟩:=e
   obtain⟨v,rs,rfl,h1,h2⟩:=h.cons_inv
   obtain⟨ks,g1,g2,g3⟩:=ih e1 h2
   obtain⟨a,us,rfl,f1,f2⟩:=h1.tup_inv
   obtain⟨u,w,rfl,q1,q2⟩:=f2.d2
   rw[q1.int_inv] at f1
   exact⟨(.inl n,w)::ks,.cons q2 g1,.cons ⟨a,rfl,f1⟩ g2,by rw[A6,A6,g3]⟩
  ·cases e
noncomputable def zbj:Opn:=λxs S=>match xs with
 |[x]=>(Wp S x).bind λl=>(zdB l.2).bind λkvs=>if (kvs.map (·.1)).Nodup then some (.ref S.length,S++[.dk kvs]) else none
 |_=>none
theorem zhA {K:y3}:zaY K zhz zbj:=by
 intro F j σ H ρ S S' xs z vs Q E1 hv h k
 unfold zbj at h
 split at h
 ·rename_i x
  rw[An] at h
  obtain⟨⟨n,l⟩,e1,h⟩:=h
  rw[An] at h
  obtain⟨kvs,e2,h⟩:=h
  split at h
  ·rename_i nd
   cases h
   obtain⟨w,rfl,hx⟩:=hv.d1
   obtain⟨a,ws,rfl,hj,f1,f2⟩:=E1.wl hx e1
   obtain⟨ks,g1,g2,g3⟩:=zji e2 f2
   refine⟨a,ws,ks,rfl,f1,g2,by rw[g3];exact nd,λp hp=> ?_⟩
   have X:Ext j H (j++[p]) (upd H p (.dK ks)):=⟨λn a e=>by rw[y9 (y4.1 e).1];exact e,xF.same (yl hp)⟩
   obtain⟨E2,X2⟩:=E1.cell (o:= .dK ks) (c:= .dk kvs) hp ⟨ks,zm,g1.mono X⟩
   exact k _ _ _ X2 E2 (.ref (by rw[<-E1.jl];simp))
  ·cases h
 ·cases h
theorem zhB {S:Sto} {P:Xv->Sto->Prop} {x:Xv} {n:Nat} {l:List Xv} {kvs:List (Key×Xv)} (hx:Wp S x=some (n,l)) (h:zdB l=some kvs) (nd:(kvs.map (·.1)).Nodup) (k:P (.ref S.length) (S++[.dk kvs])):WO (zbj [x] S) P:= .of (by
 show ((Wp S x).bind _)=_
 rw[hx,A1,h,A1,if_pos nd]) k
end L2
namespace L2
open PySem PySem.Spec PyProof.Rows PySem.Calls PySem.W
noncomputable def zjj {α:Type} (f:Nat->Nat->Bool):KasT α->α
 | .ret a=>a
 | .ask i j k=>zjj f (k (f i j))
theorem zjk {α:Type} {f:Nat->Nat->Bool} {n:Nat} {s:Shared} {cmp cmp':Nat->Nat->(Bool->Shared->Prop)->Shared->Prop} (hc:∀i j C,i<n->j<n->i≠j->C (f i j) s->cmp i j C s) (dA:∀i j C,cmp' i j C s->i<n/\j<n/\i≠j/\C (f i j) s) {Q:α->Shared->Prop} {R:α->Shared->Prop} (t:KasT α):t.kasWp cmp' R s->Q (zjj f t) s->t.kasWp cmp Q s:=by
 induction t with
 |ret a=>intro _ h;exact h
 |ask i j k ih=>
  intro h q
  obtain⟨h1,h2,h3,h4⟩:=dA i j _ h
  exact hc i j _ h1 h2 h3 (ih (f i j) h4 q)
theorem zjl {α:Type} {f:Nat->Nat->Bool} {s:Shared} {Q:α->Shared->Prop} (t:KasT α):t.kasWp (λi j C s=>C (f i j) s) Q s->Q (zjj f t) s:=by
 induction t with
 |ret a=>exact λh=>h
 |ask i j k ih=>exact λh=>ih (f i j) h
noncomputable def zfw (is:List Int):Array Nat:=if is.length<2 then Gq (Bt is.length) else zjj (λi j=>decide (is.getD i 0<is.getD j 0)) (kas_sort is.length)
noncomputable def Yr (is:List Int):List Nat:=(zfw is).toList
theorem zeG (is:List Int) (s:Shared):PmN is.length (zfw is):=by
 unfold zfw
 split
 ·exact FZ _
 ·exact zjl (Q:=λp _=>PmN is.length p) (s:=s) _ (zep (r:=λi=>is.getD i 0) (λi j C _ _ _ h=>h) ⋯ λp h _=>h)
theorem Xu (is:List Int) (s:Shared):(Yr is).Perm (Bt is.length):=by
 have:=zeG is s
 unfold PmN at this
 have h:=Array.perm_iff_toList_perm.1 this
 unfold Yr
 simpa using h
section
variable {prog:Program} {w:World} {A:Around} {E:Value->Shared->Prop} {s:Shared}
theorem zhC {is:List Int} (h2:2<=is.length) {cmp:Nat->Nat->(Bool->Shared->Prop)->Shared->Prop} (hc:∀i j C,i<is.length->j<is.length->i≠j->C (decide (is.getD i 0<is.getD j 0)) s->cmp i j C s):(kas_sort is.length).kasWp cmp (λp s'=>p=zfw is/\s'=s) s:=by
 refine zjk (f:=λi j=>decide (is.getD i 0<is.getD j 0)) (n:=is.length) (cmp':=λi j C s'=>i<is.length/\j<is.length/\i≠j/\C (decide (is.getD i 0<is.getD j 0)) s') hc (λi j C h=>h) _ (zep (Q:=λ_ _=>True) (r:=λi=>is.getD i 0) (λi j C a b c d=>⟨a,b,c,d⟩) ⋯ λ_ _ _=>B8) ⟨?_,rfl⟩
 unfold zfw
 rw[if_neg ⋯]
theorem zfx {vs:List Value} {is:List Int} (h:IntsAre vs is) (h2:2<=vs.length):(∀Q:SortKind->Shared->Prop,Q oneType' s->wpAny (model prog w) A (keyKind' vs.toArray) Q (λ_ _=>False) s)/\∀i j C,i<vs.length->j<vs.length->i≠j->C (decide (is.getD i 0<is.getD j 0)) s->kas_ask prog w A oneType' vs i j C s:=by
 have at_:∀{vs:List Value} {is:List Int},IntsAre vs is->∀i,i<vs.length->∃t,vs.getD i Value.none= .int (is.getD i 0) t:=λ{vs is} h=>by
  induction h with
  |nil=>intro i hi;simp at hi
  | @cons n t vs ns _ ih=>
   intro i hi
   cases i with
   |zero=>exact⟨_,rfl⟩
   |succ i=>exact ih i (by simpa using hi)
 refine⟨λQ q=> ?_,λi j C hi hj _ c=> ?_⟩
 ·rw[ksk_kind (keys:=vs.toArray) (by simpa using h) (by simpa using h2)]
  exact wpAny_pure q
 ·unfold kas_ask
  obtain⟨t,e⟩:=at_ h i hi
  obtain⟨u,g⟩:=at_ h j hj
  rw[e,g]
  exact kat_lt_int c
theorem Tw {R:List Value->Shared->Prop} {r:Addr} {a b c:Int} {t u v:Tok} {n:Nat} (hh:A.handled=none) (hr:IsRange s.heap r a b c t u v) (iB:Builtin.Range.small a b c=true) (hn:Builtin.Range.rangeSize a b c=n) (hlen:n<=2^24)
  (fin:∀(g:Heap) (k:Nat) (xs:Array Value),(∀b o,s.heap.get? b=some o->g.get? b=some o)->s.heap.objs.size<g.objs.size->ItemsOf (λi v=>∃t,v= .int (a+i*c) t) xs n->R xs.toList {s with heap:=g,toks:=k}):
  wpAny (model prog w) A (collect (.ref r)) R E s:=by
 unfold collect
 refine wpAny_bind (wpAny_runValue ?_)
 refine codeAny_builtin entry_proto_collect' ?_
 rw[Around.under_plainId PySem.F.plain_proto_collect _]
 refine wpAny_bind (m:=newList []) ?_
 refine wpAny_newObj_type ?_
 refine wpAny_pure ⟨plainId_quiet DV _,?_⟩
 refine codeAny_builtin entry_list_iadd' ?_
 rw[Around.under_plainId DV _]
 have at0:(s.heap.push {cls:= .type "list",data:= .seq ([]:List Value).toArray}).get? s.heap.objs.size=some {cls:= .type "list",data:= .seq #[]}:=Heap.get?_push_size _ rfl
 have step:=wpAny_extend_range (prog:=prog) (w:=w) (A:=A) (s:={s with heap:=s.heap.push {cls:= .type "list",data:= .seq ([]:List Value).toArray}})
  (R:=λ(q:Result) (s':Shared)=>∃(h':Heap) (tk:Nat) (acc':Array Value) (c':Nat),q= .ok (.ret (.ref s.heap.objs.size))/\s'={s with heap:=h',toks:=tk}/\
   (∀b o,s.heap.get? b=some o->h'.get? b=some o)/\h'.get? s.heap.objs.size=some {cls:= .type "list",dict:=none,data:= .seq acc' c',slots:= #[]}/\ItemsOf (λi v=>∃t,v= .int (a+i*c) t) acc' n)
  hh (Heap.get?_push_of_some _ hr) iB hn hlen s.heap.objs.size (.ref s.heap.objs.size) 0 at0
  (λh' tk acc' c' hk ja bT=>⟨h',tk,acc',c',rfl,rfl,λb o e=>hk b o (Ad (Heap.lt_size e)) (Heap.get?_push_of_some _ e),ja,bT⟩)
 refine wpAny_mono step (λf s' x=> ?_) λe s' x=> ?_
 ·cases f with
  |done f=>
   obtain⟨h',tk,acc',c',e,rfl,hk,ja,bT⟩:=x
   cases e
   show wpAny _ A (load s.heap.objs.size>>=_) _ _ _
   refine wpAny_bind (wpAny_load ja ?_)
   exact wpAny_pure (fin h' tk acc' hk (Heap.lt_size ja) bT)
  |again c₁=>
   refine⟨x.1,codeAny_mono x.2 λq s₂ y=> ?_⟩
   obtain⟨h',tk,acc',c',rfl,rfl,hk,ja,bT⟩:=y
   show wpAny _ A (load s.heap.objs.size>>=_) _ _ _
   refine wpAny_bind (wpAny_load ja ?_)
   exact wpAny_pure (fin h' tk acc' hk (Heap.lt_size ja) bT)
 ·obtain⟨_,_,_,_,e',_⟩:=x
  cases e'
end
theorem zjm {ks:List V} {us:List Value} (h:zI ks us):∀{is:List Int},ks=is.map V.int->IntsAre us is:=by
 induction h with
 |nil=>intro is e;rw[List.map_eq_nil_iff.1 e.symm];exact .nil
 | @cons x u xs us r _ ih=>
  intro is e
  cases is with
  |nil=>cases e
  |cons i is=>
   rw[A6] at e
   injection e with e1 e2
   subst e1
   obtain⟨t,rfl⟩:=r
   exact .cons i t (ih e2)
section
variable {X:Cx} {k:Nat} {f:Addr} {R:V->List V->Hp->VK->Prop} {pins:List (Addr×Obj)} {σ:St} {H:Hp} {s:Shared}
theorem zdC (F:zhl X.prog X.w X.K X.mg X.base k R) (hr:xo (k+1) X.A) (I:Inv X pins σ H s) {u:Value} {xs:List V} {Q:VK} (hz:xs.length<64)
  (col:∀{R:List Value->Shared->Prop} {E:Value->Shared->Prop},(∀(g:Heap) (tk:Nat) (ae:List Value),(∀b o,s.heap.get? b=some o->g.get? b=some o)->s.heap.objs.size<g.objs.size->zI xs ae->R ae {s with heap:=g,toks:=tk})->wpAny (model X.prog X.w) X.A.in1 (collect u) R E s)
  (J:Nat->List V->Hp->Prop) (j0:J 0 [] H) (turn:∀i x ks H2,xs[i]? =some x->ks.length=i->J i ks H2->R (.ref f) [x] H2 (λv H3=>J (i+1) (ks++[v]) H3))
  (fin:∀ks H2,ks.length=xs.length->J xs.length ks H2->∃is:List Int,ks=is.map V.int/\∀p,H2 p=none->Q (.ref p) (upd H2 p (.lst ((Yr is).map λi=>xs.getD i .non)))):
  wpAny (model X.prog X.w) X.A (call (.builtin "sorted") [u] [(Str.ofString "key",.ref f)]) (EP X pins σ Q) X.xe s:=by
 refine call_function_entry_kw kind_sorted plain_sorted entry_sorted (ksk_s1 _ _) ?_
 unfold Builtin.«sorted»
 refine wpAny_bind (m:=checkCount "sorted" 1 1 _) (wpAny_pure ?_)
 refine wpAny_bind (col λg tk ae kp cA hv=> ?_)
 have hlen:xs.length=ae.length:=hv.length
 have mI:ae.length<=sizeLine:=zk3 ⋯
 refine wpAny_bind (wpAny_newList ?_ mI)
 have gn:(g.push (seqObj "list" ae.toArray 0)).get? g.objs.size=some (seqObj "list" ae.toArray 0):=Heap.get?_push_size _ rfl
 have keep:∀b o,s.heap.get? b=some o->(g.push (seqObj "list" ae.toArray 0)).get? b=some o:=λb o q=>Heap.get?_push_of_some _ (kp b o q)
 show wpAny _ _ _ _ _ {s with heap:=g.push (seqObj "list" ae.toArray 0),toks:=tk}
 have lI:(g.push (seqObj "list" ae.toArray 0)).objs.size=g.objs.size+1:=by rw[size_push']
 generalize (g.push (seqObj "list" ae.toArray 0))=G at gn keep lI ⊢
 refine wpAny_bind (wpAny_holding (wpAny_call_entry_kw slot_list_sort ⟨_,gn,rfl⟩ entry_list_sort ?body (ksk_l1 _ _)))
 show wpAny (model X.prog X.w) X.A.in1.in1 (Builtin.«list.sort» ⟨[.ref g.objs.size],[(Str.ofString "key",.ref f)]⟩) _ _ _
 rw[ksk_t1]
 generalize hD:g.objs.size=D at gn lI cA ⊢
 obtain⟨e1,ny⟩:∃e1,(G.update D (Obj.mapSeq λ_=>(#[]:Array Value))).get? D=some (seqObj "list" #[] e1):=⟨_,get?_update_seq gn λ_=> #[]⟩
 have nO:((G.update D (Obj.mapSeq λ_=>(#[]:Array Value))).push (seqObj "tuple" ae.toArray 0)).objs.size=D+2:=by rw[size_push',Heap.size_update,lI]
 unfold ksk_tree
 refine wpAny_bind (listItems_at gn rfl ?_)
 refine wpAny_bind (listUpdate_at gn rfl ?_ (by rw[A3];exact mI) (Bi _))
 refine wpAny_bind (seqEpoch_at ny rfl ?_)
 refine wpAny_bind (wpAny_newTuple ?_ mI)
 refine wpAny_bind (wpAny_newList ?_ (Bi _))
 refine wpAny_holding ?_
 have gP:∀b o,s.heap.get? b=some o->(((G.update D (Obj.mapSeq λ_=>(#[]:Array Value))).push (seqObj "tuple" ae.toArray 0)).push (seqObj "list" #[] 0)).get? b=some o:=λb o q=>by
  have sH: @LT.lt Nat _ b s.heap.objs.size:=Heap.lt_size q
  refine Heap.get?_push_of_some _ (Heap.get?_push_of_some _ ?_)
  rw[Heap.get?_update_ne _ _ _ _ (Ad ⋯)]
  exact keep b o q
 have qO:(((G.update D (Obj.mapSeq λ_=>(#[]:Array Value))).push (seqObj "tuple" ae.toArray 0)).push (seqObj "list" #[] 0)).get? D=some (seqObj "list" #[] e1):=Heap.get?_push_of_some _ (Heap.get?_push_of_some _ ny)
 have atK:(((G.update D (Obj.mapSeq λ_=>(#[]:Array Value))).push (seqObj "tuple" ae.toArray 0)).push (seqObj "list" #[] 0)).get? (D+2)=some (seqObj "list" #[] 0):=by rw[<-nO];exact Heap.get?_push_size _ rfl
 show wpAny (model X.prog X.w) X.A.in1.in1 (ksk_rest D (.ref f) false ae.toArray e1 (.ref _)) _ _ {s with heap:=(((G.update D (Obj.mapSeq λ_=>(#[]:Array Value))).push (seqObj "tuple" ae.toArray 0)).push (seqObj "list" #[] 0)),toks:=tk}
 rw[nO]
 generalize (((G.update D (Obj.mapSeq λ_=>(#[]:Array Value))).push (seqObj "tuple" ae.toArray 0)).push (seqObj "list" #[] 0))=G3 at gP qO atK ⊢
 have I3:Inv X pins σ H {s with heap:=G3,toks:=tk}:=I.kept (t':=tk) gP
 clear keep lI nO ny gn
 have jH:∀b:Nat,s.heap.objs.size<=b->b≠X.env.locals/\b∉X.fs/\X.s₀.heap.objs.size<=b/\(∀x c,X.env.cells.lookup x=some c->c≠b)/\∀p∈X.pn++pins,p.1≠b:=λb hb=>by
  refine⟨λz=> ?_,I.nofs hb,A2 I.sz hb,λx c e z=> ?_,λp hp z=> ?_⟩
  ·have: @LT.lt Nat _ X.env.locals s.heap.objs.size:=I.lt
   rw[<-z] at this
   omega
  ·obtain⟨v,o,ho,_⟩:=I.cell x c e
   have: @LT.lt Nat _ c s.heap.objs.size:=Heap.lt_size ho
   rw[z] at this
   omega
  ·have: @LT.lt Nat _ p.1 s.heap.objs.size:=Heap.lt_size (I.pin p hp).1
   rw[z] at this
   omega
 have oD:=jH D ⋯
 have oK:=jH (D+2) ⋯
 generalize hK:D+2=kS at atK oK ⊢
 have qC:D≠kS:=by omega
 have nD:H D=none:=I.hok.fresh ⋯
 have nK:H kS=none:=I.hok.fresh ⋯
 unfold ksk_rest
 refine wpAny_bind (wpAny_rule ?_)
 first
  |rw[List.forIn_toArray]
  |(rw[<-CB];simp only[List.toList_toArray])
  |rw[<-CB]
 refine wpAny_bind (ksk_fold (λi s'=>∃(H':Hp) (kA:Array Value) (e:Nat) (ks:List V),Inv X (pins++[(D,seqObj "list" #[] e1),(kS,seqObj "list" kA e)]) σ H' s'/\zI ks kA.toList/\ks.length=i/\J i ks H') ae 0 _ ?init ?step ?done)
 case init=>
  refine⟨H,#[],0,[],I3.pins_of λp hp=> ?_,.nil,rfl,j0⟩
  rcases Aa.1 hp with hp|hp
  ·exact I3.pin p (Ac _ hp)
  rcases Ak.1 hp with rfl|hp
  ·exact⟨qO,nD,oD.1,oD.2.1,λv z=>by cases z⟩
  ·rw[A4.1 hp]
   exact⟨atK,nK,oK.1,oK.2.1,λv z=>by cases z⟩
 case step=>
  rintro j u s' hu ⟨H',kA,e,ks,I',hk,bZ,hj⟩
  rw[Cb] at bZ hj ⊢
  obtain⟨x,hx,rx⟩:=zdp hv hu
  have gZ:j<ae.length:=(y4.1 hu).1
  have f7:=turn j x ks H' hx bZ hj
  refine wpAny_bind (wpAny_attempt (wpAny_mono (Q:=EP X (pins++[(D,seqObj "list" #[] e1),(kS,seqObj "list" kA e)]) σ (λv H3=>J (j+1) (ks++[v]) H3)) (E:=λ_ _=>False) (wpAny_call (codeAny_mono (F X.A.in1.in1 X.stack s' H' f [x] [u] _ (⟨hr.hd,by have:=hr.dp;show X.A.depth+3*k+5<_;omega,by have:=hr.un;show X.A.units+1+1+16*k+200<_;omega,hr.gd⟩:xo k X.A.in1.in1) I'.env0.in1.in1 (.cons rx .nil) f7) λr s2 hq=> ?_)) (λv s2 he=> ?_) λ_ _ z=>z.elim))
  ·cases r with
   |error e=>exact AF hq
   |ok fl=>
    cases fl with
    |ret u=>exact I'.after hq
    |next=>exact AF hq
    |brk=>exact AF hq
    |cont=>exact AF hq
  obtain⟨kv,H3,I4,r4,q4⟩:=he
  dsimp only
  have pK:=I4.pin (kS,seqObj "list" kA e) (by simp)
  have pD:=I4.pin (D,seqObj "list" #[] e1) (by simp)
  have kq:ks.length=kA.size:=by
   have:=hk.length
   rwa [BH] at this
  refine wpAny_bind (listUpdate_at pK.1 rfl ?_ ⋯ (A2 (BK (G0 ..)) ⋯))
  have s1:=Heap.SameBut.update s2.heap kS (Obj.mapSeq (·.push v))
  obtain⟨c2,dz⟩:∃c2,(s2.heap.update kS (Obj.mapSeq (·.push v))).get? kS=some (seqObj "list" (kA.push v) c2):=⟨_,get?_update_seq pK.1 (·.push v)⟩
  have I5:Inv X pins σ H3 s2:=I4.pins_of λp hp=>I4.pin p (by simp[hp])
  have I6:Inv X pins σ H3 {s2 with heap:=s2.heap.update kS (Obj.mapSeq (·.push v))}:=I5.turned (t':=s2.toks) (λb o hb q=>(s1.2 b hb).trans q) pK.2.1 oK.1 (.inr oK.2.2.1) oK.2.2.2.1 oK.2.2.2.2
  refine wpAny_pure ⟨rfl,H3,kA.push v,c2,ks++[kv],I6.pins_of λp hp=> ?_,by
   rw[Array.toList_push]
   exact hk.append (.cons r4 .nil),by simp[bZ],q4⟩
  rcases Aa.1 hp with hp|hp
  ·exact I6.pin p (Ac _ hp)
  rcases Ak.1 hp with rfl|hp
  ·exact⟨(s1.2 D qC).trans pD.1,pD.2.1,oD.1,oD.2.1,λv z=>by cases z⟩
  ·rw[A4.1 hp]
   exact⟨dz,pK.2.1,oK.1,oK.2.1,λv z=>by cases z⟩
 case done=>
  rintro s' ⟨H',kA,e,ks,I',hk,bZ,hj⟩
  rw[Cb] at bZ hj
  have pK:=I'.pin (kS,seqObj "list" kA e) (by simp)
  have pD:=I'.pin (D,seqObj "list" #[] e1) (by simp)
  have I5:Inv X pins σ H' s':=I'.pins_of λp hp=>I'.pin p (by simp[hp])
  have kq:kA.toList.length=ae.length:=by rw[<-hk.length];omega
  rw[<-hlen] at hj
  obtain⟨is,lH,q⟩:=fin ks H' ⋯ hj
  have dy:is.length=ae.length:=by rw[<-y7 (f:=V.int),<-lH];omega
  have hints:IntsAre kA.toList is:=zjm hk lH
  have pm:=zeG is s'
  have iI:∀i∈Yr is,i<ae.length:=λi hi=>by
   rw[<-dy]
   exact BX.1 ((Xu is s').mem_iff.1 hi)
  have mP:zI ((Yr is).map λi=>xs.getD i .non) ((Yr is).map λi=>ae.getD i Value.none):=by
   generalize Yr is=l at iI
   induction l with
   |nil=>exact .nil
   |cons i l ih=>
    refine .cons ?_ (ih λi hi=>iI i (.tail _ hi))
    have hi:=iI i (.head _)
    obtain⟨x,h1,h2⟩:=zdp hv (y6 hi)
    show zD (xs.getD i .non) (ae.getD i Value.none)
    rw[z8,z8,h1,y6 hi]
    exact h2
  refine wpAny_bind (listItems_at pK.1 rfl ?_)
  generalize ho:((Yr is).map λi=>ae.getD i Value.none)=outs at mP
  have su:outs.length=ae.length:=by
   rw[<-ho,y7,(Xu is s').length_eq,Fw,dy]
  have tail:∀(st:SortSt),(arrOf st).map (·.2)=outs.toArray->(arrOf st).size=ae.length->failedOf st=none->wpAny (model X.prog X.w) X.A.in1.in1 (ksk_tail D false e1 (.ref kS) st) (λfin s2=>∃v,fin= .done (.ret v)/\wpAny (model X.prog X.w) X.A.in1 (ret (.ref D)) (λfin s3=>∃v,fin= .done (.ret v)/\EP X pins σ Q v s3) X.xe s2) X.xe s':=by
   intro st iH q8 qk
   have s1:=Heap.SameBut.update s'.heap kS (Obj.mapSeq λ_=>(#[]:Array Value))
   have mh:(s'.heap.update kS (Obj.mapSeq λ_=>(#[]:Array Value))).get? D=some (seqObj "list" #[] e1):=(s1.2 D qC).trans pD.1
   have s2:=Heap.SameBut.update (s'.heap.update kS (Obj.mapSeq λ_=>(#[]:Array Value))) D (Obj.mapSeq λ_=>outs.toArray)
   obtain⟨c2,dz⟩:∃c2,((s'.heap.update kS (Obj.mapSeq λ_=>(#[]:Array Value))).update D (Obj.mapSeq λ_=>outs.toArray)).get? D=some (seqObj "list" outs.toArray c2):=⟨_,get?_update_seq mh λ_=>outs.toArray⟩
   unfold ksk_tail
   dsimp only
   refine wpAny_bind (listUpdate_at pK.1 rfl ?_ (by rw[BH] at kq;omega) (Bi _))
   refine wpAny_bind (wpAny_letGo ?_)
   refine wpAny_bind (seqEpoch_at mh rfl ?_)
   rw[iH,qk]
   simp only[CD,if_false]
   refine wpAny_bind (listUpdate_at mh rfl ?_ (Bi _) (by rw[A3];omega))
   simp only[bne_self_eq_false,CD,if_false]
   refine wpAny_pure ⟨_,rfl,wpAny_pure ⟨_,rfl,?_⟩⟩
   have I6:Inv X pins σ H' {s' with heap:=s'.heap.update kS (Obj.mapSeq λ_=>(#[]:Array Value))}:=I5.turned (t':=s'.toks) (λb o hb q=>(s1.2 b hb).trans q) pK.2.1 oK.1 (.inr oK.2.2.1) oK.2.2.2.1 oK.2.2.2.2
   refine⟨.ref D,_,I6.adoptW (t':=s'.toks) (o:= .lst ((Yr is).map λi=>xs.getD i .non)) (λb o hb q=>(s2.2 b hb).trans q) pD.2.1 oD.1 oD.2.2.1 oD.2.2.2.1 oD.2.2.2.2 ⟨by rw[mP.length];omega,outs,c2,mP,dz⟩,rfl,q D pD.2.1⟩
  unfold ksk_end
  simp only[CD,if_false]
  by_cases h2:ae.toArray.size<2
  ·rw[if_pos h2,if_pos h2]
   refine wpAny_bind (wpAny_pure ?_)
   rw[StateT.run_pure]
   refine wpAny_bind (wpAny_pure ?_)
   dsimp only
   rw[A3] at h2
   refine tail (SortSt.mk' general' (kA.zip ae.toArray) #[] 7 none) ?_ ?_ rfl
   ·show (kA.zip ae.toArray).map (·.2)=_
    apply Array.toList_inj.1
    rw[Array.toList_map,ksk_zip,List.map_snd_zip ⋯,<-ho]
    unfold Yr zfw
    rw[if_pos ⋯,dy]
    cases ae with
    |nil=>rfl
    |cons v r=>
     cases r with
     |nil=>rfl
     |cons _ _=>simp at h2;omega
   ·show (kA.zip ae.toArray).size=_
    rw[Array.size_zip,A3,<-BH,kq,DL]
  ·rw[if_neg h2,if_neg h2]
   rw[A3] at h2
   obtain⟨kd,ask⟩:=zfx (prog:=X.prog) (w:=X.w) (A:=X.A.in1.in1) (s:=s') hints ⋯
   have ea:kA.toList.toArray=kA:=by simp
   rw[ea] at kd
   refine wpAny_bind (wpAny_mono (kd (λk s2=>oneType'=k/\s'=s2) ⟨rfl,rfl⟩) ?_ λ_ _ z=>z.elim)
   rintro _ _ ⟨rfl,rfl⟩
   have tree:=zhC (s:=s') (is:=is) (cmp:=kas_ask X.prog X.w X.A.in1.in1 oneType' kA.toList) ⋯ λi j C a b c d=>ask i j C ⋯ ⋯ c d
   rw[dy] at tree
   refine wpAny_bind (wpAny_mono (kat_run (ks:=kA.toList) (vs:=ae) (Q:=λst' s2=>(arrOf st').map (·.2)=outs.toArray/\(arrOf st').size=ae.length/\failedOf st'=none/\s'=s2) kq ⋯ ⋯ (λp' st' s2 hp x y z=> ?_) tree) ?_ λ_ _ z=>z)
   ·obtain⟨rfl,rfl⟩:=z
    refine⟨?_,by rw[x,Array.size_map,hp],y,rfl⟩
    rw[kat_snds kq x,<-ho]
    rfl
   ·rintro⟨⟨⟩,st'⟩ _ ⟨a,b,c,rfl⟩
    exact tail st' a b c
end
def zeH (R:V->List V->Hp->VK->Prop) (te tl:TE):TE:=λσ H Q=>te σ H λx H1=>∃n:Int,x= .int n/\0<=n/\n<64/\tl σ H1 λy H2=>∃f,y= .ref f/\∃J:Nat->List V->Hp->Prop,J 0 [] H2/\
 (∀(i:Nat) ks H3,i<n.toNat->ks.length=i->J i ks H3->R (.ref f) [.int i] H3 (λv H4=>J (i+1) (ks++[v]) H4))/\
 ∀ks H3,ks.length=n.toNat->J n.toNat ks H3->∃is:List Int,ks=is.map V.int/\∀p,H3 p=none->Q (.ref p) (upd H3 p (.lst ((Yr is).map λi:Nat=>V.int (i:Int))))
section
variable {X:Cx} {k:Nat} {R:V->List V->Hp->VK->Prop}
theorem zfy {e l:Expr} {te tl:TE} {pp p2 kp pos cy:Pos} (F:zhl X.prog X.w X.K X.mg X.base k R) (hr:xo (k+1) X.A) (hc:X.calm=true) (hg:Gl X "sorted") (hm:X.mg "sorted"=none) (nW:Gl X "range") (js:X.mg "range"=none) (ha:PE X e te) (hl:PE X l tl)
  (jv:starEach [e] X.env=[(false,eval e X.env)]:=by rfl) (he:backTo pos (starEach [.Call (.Name "range" p2) [e] [] cy] X.env)=(false,eval (.Call (.Name "range" p2) [e] [] cy) X.env)::backTo pos (starEach [] X.env):=by rfl) (fc:(backTo pos (starEach [.Call (.Name "range" p2) [e] [] cy] X.env)).any (·.1)=false:=by rfl):
  PE X (.Call (.Name "sorted" pp) [.Call (.Name "range" p2) [e] [] cy] [⟨some "key",l,kp⟩] pos) (zeH R te tl):=by
 intro pins s σ H Q I h
 refine wpAny_Call_Name_kw (va I hg hm boot_sorted ?_ ∅ ∅)
 refine callWith_kw ?_ he fc rfl rfl
 rw[he]
 show wpAny _ _ (spliced ((false,eval (.Call (.Name "range" p2) [e] [] cy) X.env)::backTo pos [])) _ _ s
 refine Calls.spliced_cons ?_
 refine wpAny_Call_Name_kw (va I nW js boot_range ?_ ∅ ∅)
 refine AB ?_ jv rfl
 refine thn (wg ha ze jv cy pins s σ H (λvs H1=>∃n:Int,vs=[.int n]/\0<=n/\n<64/\tl σ H1 λy H2=>∃f,y= .ref f/\∃J:Nat->List V->Hp->Prop,J 0 [] H2/\
   (∀(i:Nat) ks H3,i<n.toNat->ks.length=i->J i ks H3->R (.ref f) [.int i] H3 (λv H4=>J (i+1) (ks++[v]) H4))/\
   ∀ks H3,ks.length=n.toNat->J n.toNat ks H3->∃is:List Int,ks=is.map V.int/\∀p,H3 p=none->Q (.ref p) (upd H3 p (.lst ((Yr is).map λi:Nat=>V.int (i:Int))))) I ?_) λus s1 ⟨vs,H1,I1,r1,q1⟩=> ?_
 ·have h:te σ H _:=h
  show te σ H λx H1=>∃n:Int,[x]=[V.int n]/\_
  simpa only[G1,and_true] using h
 obtain⟨n,rfl,h0,h1,q⟩:=q1
 obtain⟨u,rfl,t,rfl⟩:=Yv r1
 refine call_range_1 ?_
 refine Calls.spliced_nil ?_
 have uT:IsRange (s1.heap.push {cls:= .type "range",data:= .fields #[.int 0 s1.toks,.int n t,.int 1 (s1.toks+1)]}) s1.heap.objs.size 0 n 1 s1.toks t (s1.toks+1):=IsRange.new ..
 have sO:∀b o,s1.heap.get? b=some o->(s1.heap.push {cls:= .type "range",data:= .fields #[.int 0 s1.toks,.int n t,.int 1 (s1.toks+1)]}).get? b=some o:=λb o e=>Heap.get?_push_of_some _ e
 obtain⟨f1,f2,f3,f4,f5,f6⟩:=Inv.fpOk I1 (z5 _) (I1.hok.fresh (z5 _))
 have I2:Inv X (pins++[(s1.heap.objs.size,{cls:= .type "range",data:= .fields #[.int 0 s1.toks,.int n t,.int 1 (s1.toks+1)]})]) σ H1 {s1 with heap:=s1.heap.push {cls:= .type "range",data:= .fields #[.int 0 s1.toks,.int n t,.int 1 (s1.toks+1)]},toks:=s1.toks+2}:=by
  have I0:Inv X pins σ H1 {s1 with heap:=s1.heap.push {cls:= .type "range",data:= .fields #[.int 0 s1.toks,.int n t,.int 1 (s1.toks+1)]},toks:=s1.toks+2}:=I1.kept sO
  refine I0.pins_of λp hp=> ?_
  rcases Aa.1 hp with hp|hp
  ·exact I0.pin p (Ac _ hp)
  ·rw[A4.1 hp]
   exact⟨Heap.get?_push_size _ rfl,f1,f2,f3,λv z=>by cases z⟩
 show wpAny _ _ (evalAll [(do let v <-eval l X.env;standAt pos;pure v)]) _ _ _
 refine wpAny_evalAll_cons (wpAny_bind (thn (hl _ _ σ H1 _ I2 q) ?_))
 rintro u s2 ⟨y,H2,I3,ry,f,ef,J,j0,turn,fin⟩
 refine wpAny_bind (wpAny_standAt (wpAny_pure ?_))
 refine wpAny_evalAll_nil ?_
 subst ef
 obtain rfl:u=Value.ref f:=ry
 have pr:=(I3.pin _ (Ac _ (Ac _ (A4.2 rfl)))).1
 have I4:Inv X pins σ H2 s2:=I3.pins_of λp hp=>I3.pin p (by simp[hp])
 have hn:Builtin.Range.rangeSize 0 n 1=n.toNat:=by rw[rangeSize_one];split<;>omega
 have rK:(zcj n.toNat).length=n.toNat:=by simp[zcj]
 refine zdC (xs:=zcj n.toNat) F hr I4 ⋯ (λ{R E} h=>Tw (A:=X.A.in1) (I4.ok.hd hc) pr (small_one ∅ ∅ ⋯ ⋯) hn (A2 ⋯ (show 1000000<=2^24 by decide)) λg tk xs kp lt bT=>h g tk xs.toList kp lt ?_) J j0 (λi x ks H3 hx hk hj=> ?_) λks H3 hk hj=> ?_
 ·obtain⟨a1,a2⟩:=bT
  refine zer (by simp[zcj,a1]) λi v u ei eu=> ?_
  unfold zcj at ei
  rw[y8] at ei
  have hi:i<n.toNat:=by
   have:=(y4.1 eu).1
   simpa [a1] using this
  rw[B7 hi] at ei
  cases ei
  obtain⟨t,rfl⟩:=a2 i u (by simpa using eu)
  exact⟨t,by congr 1;omega⟩
 ·unfold zcj at hx
  rw[y8] at hx
  have hi:i<n.toNat:=by
   apply BR
   intro z
   rw[Aq (by simp;omega)] at hx
   cases hx
  rw[B7 hi] at hx
  cases hx
  exact turn i ks H3 hi hk hj
 ·rw[rK] at hk hj
  obtain⟨is,e1,e2⟩:=fin ks H3 hk hj
  refine⟨is,e1,λp hp=> ?_⟩
  have dy:is.length=n.toNat:=by rw[<-hk,e1,y7]
  rw[show ((Yr is).map λi=>(zcj n.toNat).getD i .non)=(Yr is).map λi:Nat=>V.int (i:Int) from C4 λi hi=>by
   have hi:=BX.1 ((Xu is s2).mem_iff.1 hi)
   rw[dy] at hi
   unfold zcj
   rw[z8,y8,B7 hi]
   rfl]
  exact e2 p hp
end
noncomputable def Tc (tw:TwF):Nat->Nat->Sto->Option (List Int×Sto)
 |0,_,S=>some ([],S)
 |n+1,i,S=>match tw [.int i] S with
  |some (.ok (.int k) S1)=>(Tc tw n (i+1) S1).map λp=>(k::p.1,p.2)
  |_=>none
noncomputable def zbk (fns:List (xf×(List Xv->TwF))) (e l:TwE):TwE:=λρ S=>rb (e ρ S) λx S1=>match x with
 | .int n=>if 0<=n/\n<64 then rb (l ρ S1) λy S2=>(match y with
  | .lam L aE=>(XJ fns L).bind λtw=>(Tc (tw aE) n.toNat 0 S2).map λp=> .ok (.ref p.2.length) (p.2++[.lst ((Yr p.1).map λi:Nat=> .int (i:Int))])
  |_=>none) else none
 |_=>none
section
variable {K:y3} {E:XK}
theorem zhD {j:List Addr} {H:Hp}:∀l:List Nat,zE K j H (l.map λi:Nat=>Xv.int (i:Int)) (l.map λi:Nat=>V.int (i:Int)):=by
 intro l
 induction l with
 |nil=>exact .nil
 |cons a r ih=>exact .cons (.int _) ih
theorem zfz {fns:List (xf×(List Xv->TwF))} {te tl:TE} {e l:TwE} (he:RE K E te e) (hl:RE K E tl l):RE K E (zeH (zlB K fns) te tl) (zbk fns e l):=by
 intro F j σ H ρ S r Q En0 e0 k
 rcases zj e0 with⟨x,S1,e1,e0⟩|⟨c,S1,e1,rfl⟩
 ·refine he En0 e1 λj1 H1 X1 E1 u hu=> ?_
  split at e0
  ·rename_i n
   split at e0
   ·rename_i hn
    refine⟨n,hu.int_inv,hn.1,hn.2,?_⟩
    rcases zj e0 with⟨y,S2,e2,e0⟩|⟨c,S2,e2,rfl⟩
    ·refine hl E1 e2 λj2 H2 X2 E2 v hv=> ?_
     split at e0
     ·rename_i L aE
      rw[An] at e0
      obtain⟨tw,hp,e0⟩:=e0
      rw[z0] at e0
      obtain⟨⟨is,S3⟩,h3,rfl⟩:=e0
      obtain⟨f,rfl⟩:∃f,v= .ref f:=by cases hv with|lam _ _=>exact⟨_,rfl⟩
      refine⟨f,rfl,λi ks H3=>∃(j3:List Addr) (S':Sto) (dn rest:List Int),Ext j2 H2 j3 H3/\En K F j3 H3 σ ρ S'/\i<=n.toNat/\Tc (tw aE) (n.toNat-i) i S'=some (rest,S3)/\ks=dn.map V.int/\dn++rest=is,⟨j2,S2,[],is,Ext.refl,E2,Bi _,h3,rfl,rfl⟩,?_,?_⟩
      ·rintro i ks H3 hi hk ⟨j3,S',dn,rest,X3,E3,_,bZ,rfl,hd⟩
       rw[show n.toNat-i=(n.toNat-(i+1))+1 by omega] at bZ
       unfold Tc at bZ
       split at bZ
       ·rename_i kk S4 e4
        rw[z0] at bZ
        obtain⟨⟨r2,S5⟩,h5,h6⟩:=bZ
        cases h6
        have jV:zE K j3 H3 [.int (i:Int)] [.int (i:Int)]:= .one (.int _)
        obtain⟨l1,s1⟩:=XR jV
        refine⟨j3,S',S4,[.int i],aE,L,tw,.int kk,E3.enter l1 s1,hv.mono X3,hp,e4,λv j' H' σ' ρ' Ex hz=> ?_⟩
        obtain⟨E4,X4⟩:=E3.leave Ex
        rw[hz.int_inv]
        exact⟨j',S4,dn++[kk],r2,X3.trans X4,E4,hi,h5,by simp,by rw[<-hd];simp⟩
       ·cases bZ
      ·rintro ks H3 hk ⟨j3,S',dn,rest,X3,E3,_,bZ,rfl,hd⟩
       rw[AG] at bZ
       cases bZ
       rw[Bx] at hd
       subst hd
       refine⟨dn,rfl,λp hp=> ?_⟩
       obtain⟨E5,X5,h5⟩:=E3.lst (zhD (Yr dn)) hp
       exact k _ _ (X1.trans (X2.trans (X3.trans X5))) E5 _ h5
     ·cases e0
    ·exact hl E1 e2 (PX.mono k X1)
   ·cases e0
  ·cases e0
 ·exact he En0 e1 k
end
section
variable {ρ:Rho} {S:Sto} {P:Xv->Sto->Prop} {e l:TwE}
theorem zdD {tw:TwF} {g:Nat->Int}:∀(n i:Nat),(∀j,i<=j->j<i+n->tw [.int j] S=some (.ok (.int (g j)) S))->Tc tw n i S=some ((List.range' i n).map g,S):=by
 intro n
 induction n with
 |zero=>intro i _;rfl
 |succ n ih=>
  intro i h
  unfold Tc
  rw[h i (z5 _) ⋯]
  dsimp only
  rw[ih (i+1) λj h1 h2=>h j ⋯ ⋯]
  rfl
theorem zfA {fns:List (xf×(List Xv->TwF))} (h:W (e ρ S) λx S1=>∃n:Int,x= .int n/\(0<=n/\n<64)/\W (l ρ S1) λy S2=>∃L aE tw is S3,y= .lam L aE/\XJ fns L=some tw/\Tc (tw aE) n.toNat 0 S2=some (is,S3)/\P (.ref S3.length) (S3++[.lst ((Yr is).map λi:Nat=> .int (i:Int))])):W (zbk fns e l ρ S) P:=by
 refine W.bind (h.imp λx S1 h=> ?_)
 obtain⟨n,rfl,hn,h⟩:=h
 dsimp only
 rw[if_pos hn]
 refine W.bind (h.imp λy S2 h=> ?_)
 obtain⟨L,aE,tw,is,S3,rfl,h1,h2,q⟩:=h
 dsimp only
 rw[h1,A1,h2]
 exact .of rfl q
end
theorem WA:(toString "min"++toString ".loop":String)="min.loop":=by decide
theorem zhE (a v:Value):argsOk "min" ⟨[a],[(Str.ofString "key",v)]⟩:=by unfold argsOk;kernel_rfl
section
variable {X:Cx} {pins:List (Addr×Obj)} {σ:St} {H:Hp} {s:Shared} {a:Addr}
theorem Inv.thaw {jG:List (Addr×Obj)} {σ0:St} {H0:Hp} {s0:Shared} {ks kvs:List (Key×V)} {o:Obj} (I0:Inv X jG σ0 H0 s0) (h0:H0 a=some (.dK ks)) (I:Inv X pins σ H s) (h:H a=some (.frz o (.dK kvs))):Inv X pins σ (upd H a (.dK kvs)) s:=by
 have ne:∀b u,H b=some u->(∀o ks,u≠ .frz o (.dK ks))->b≠a:=λb u e n z=>by
  subst z
  rw[h] at e
  cases e
  exact n _ _ rfl
 have nn:∀b,H b=none->b≠a:=λb e z=>by rw[z,h] at e;cases e
 refine⟨I.ok,I.os,I.bare,⟨I.base.keep,I.base.slot,λb ob e n hx=> ?_,I.base.there,λb xs e=> ?_,λb ob u e=> ?_,λb ps e=> ?_⟩,I.loc,I.cell,?_,λx c e=> ?_,λp hp=> ?_,λb u e=> ?_,I.len⟩
 ·have q:=I.base.free b ob e n hx
  rw[zh (nn b q)];exact q
 ·have q:=I.base.tups b xs e
  rw[zh (ne b _ q λ_ _ z=>by cases z)];exact q
 ·have q:=I.base.frzs b ob u e
  rw[zh (λz=>by subst z;rw[I0.base.frzs _ ob u e] at h0;cases h0)];exact q
 ·obtain⟨m,q⟩:=I.base.tbls b ps e
  exact⟨m,by rw[zh (ne b _ q λ_ _ z=>by cases z)];exact q⟩
 ·rw[zh (nn _ I.free)];exact I.free
 ·rcases I.freeC x c e with q|⟨f,ob,q⟩
  ·exact .inl (by rw[zh (nn c q)];exact q)
  ·exact .inr ⟨f,ob,by rw[zh (ne c _ q λ_ _ z=>by cases z)];exact q⟩
 ·obtain⟨e,n,r⟩:=I.pin p hp
  exact⟨e,by rw[zh (nn _ n)];exact n,r⟩
 ·by_cases hb:b=a
  ·subst hb
   rw[zm] at e
   cases e
   exact (I.hok b _ h).2
  ·rw[zh hb] at e
   exact (I.hok b u e).stay (λ_ _ _ q=>q) (λd q=>by rw[zh (ne d _ q λ_ _ z=>by cases z)];exact q) λd xs q=>by rw[zh (ne d _ q λ_ _ z=>by cases z)];exact q
noncomputable def yH (is:List (List Int)) (n:Nat):Nat:=argBest (λi j=>ltL (is.getD i []) (is.getD j [])) n
theorem Ub (f:Nat->Nat->Bool):∀n,argBest f n<=n:=by
 intro n
 induction n with
 |zero=>exact z5 _
 |succ n ih=>
  show (if f (n+1) (argBest f n) then n+1 else argBest f n)<=n+1
  split<;>omega
theorem zdE {f g:Nat->Nat->Bool}:∀n,(∀i j,i<=n->j<=n->f i j=g i j)->argBest f n=argBest g n:=by
 intro n
 induction n with
 |zero=>intro _;rfl
 |succ n ih=>
  intro h
  show (if f (n+1) (argBest f n) then n+1 else argBest f n)=(if g (n+1) (argBest g n) then n+1 else argBest g n)
  rw[ih λi j a b=>h i j ⋯ ⋯,h _ _ (z5 _) (Nat.le_succ_of_le (Ub g n))]
theorem zfB {is:List (List Int)} {l:List Int} {n:Nat} (h:n<is.length):yH (is++[l]) n=yH is n:=by
 unfold yH
 refine zdE n λi j a b=> ?_
 have e:∀i,i<=n->(is++[l]).getD i []=is.getD i []:=λi hi=>by
  rw[z8,y9 ⋯,z8]
 rw[e i a,e j b]
variable {k:Nat} {f:Addr} {R:V->List V->Hp->VK->Prop} {kvs:List (Key×V)} {ob:Obj} {es:Array DictEntry} {ep:Nat} {it S:Addr} {Q:VK} {J:Nat->List V->List (List Int)->Hp->Prop}
noncomputable abbrev YH (xs:Array Value) (c:Nat):Obj:={cls:= .type "list",dict:=none,data:= .seq xs c,slots:= #[]}
theorem zhF (F:zhl X.prog X.w X.K X.mg X.base k R) (hr:xo (k+1) X.A) (hc:X.calm=true) (hd:ob.data= .dict es ep) (hS:S≠it) (fS:∀H,H S=none->WR X pins H S) (fI:∀H,H it=none->WR X pins H it) (hn:0<kvs.length)
  (rd:∀i ks is H,J i ks is H->H a=some (.frz ob (.dK kvs))/\is.length=i/\ks.length=i/\∀(m:Nat) v,ks[m]? =some v->∃b,v= .ref b/\SqT X.K H b ((is.getD m []).map V.int))
  (turn:∀(i:Nat) ks is H2 key v,kvs[i]? =some (key,v)->J i ks is H2->R (.ref f) [kV key] H2 (λv H3=>∃l,J (i+1) (ks++[v]) (is++[l]) H3)) {Rr:Result->Shared->Prop}
  (fin:∀ks is H2 s2 u,J kvs.length ks is H2->Inv X pins σ H2 s2->(∀key v,kvs[yH is (kvs.length-1)]? =some (key,v)->zD (kV key) u)->Rr (.ok (.ret u)) s2):
  ∀(q i:Nat) (H1:Hp) (s1:Shared) (ks:List V) (is:List (List Int)) (io:Obj) (xs:Array Value) (c:Nat),kvs.length-i=q->i<=kvs.length->Inv X (pins++[(it,io),(S,YH xs c)]) σ H1 s1->s1.heap.IsKeyIter it a i kvs.length ep->J i ks is H1->
   ((i=0/\xs= #[])\/(0<i/\∃u v key x kv,xs= #[u,v]/\kvs[yH is (i-1)]? =some (key,x)/\zD (kV key) u/\ks[yH is (i-1)]? =some kv/\zD kv v))->
   codeAny (model X.prog X.w) X.A (.builtin "min.loop" ⟨[.ref it,.ref f,.ref S],[]⟩) Rr s1:=by
 intro q
 induction q with
 |zero=>
  intro i H1 s1 ks is io xs c hq hi I1 hit hj old
  obtain rfl:i=kvs.length:=by omega
  obtain⟨ha,dy,bZ,_⟩:=rd _ _ _ _ hj
  have pS:=(I1.pin (S,YH xs c) (by simp)).1
  have I0:Inv X pins σ H1 s1:=I1.pins_of λp hp=>I1.pin p (by simp[hp])
  have nI:=(I1.pin (it,io) (by simp)).2.1
  have nS:=(I1.pin (S,YH xs c) (by simp)).2.1
  obtain⟨vs,rel,hm⟩:=VZ I0 ha hd
  have hl:=rel.length
  rw[hl] at hit
  rcases old with⟨z,_⟩|⟨_,u,v,key,x,kv,rfl,hk,ru,_,_⟩
  ·omega
  refine codeAny_builtin Em (by
   rw[Around.under_plainId Bq _]
   refine wpAny_bind (m:=seqItems? (.ref S)) (wpAny_seqItems pS rfl (wpAny_bind (m:=tryCatch (pyNext (.ref it)) _) (wpAny_tryCatch (wpAny_pyNext_dict_end (I0.ok.hd hc) hit hm (Aq ⋯) λh' eb=> ?_))))
   have qU:h'.get? S=some (YH #[u,v] c):=eb S _ hS pS
   have I2:Inv X pins σ H1 {s1 with heap:=h'}:=Inv.turnedL (t':=s1.toks) (fp:=[it]) I0 (λb o hb eo=>eb b o (λz=>hb (by simp[z])) eo) λb hb=>by
    rw[A4.1 hb];exact fI H1 nI
   refine wpAny_bind (m:=updateSeq S (λ_=> #[])) (wpAny_updateSeq qU rfl (wpAny_bind (wpAny_letGo (wpAny_pure ?_))))
   refine fin ks is H1 _ u hj (Inv.turnedL (t':=s1.toks) (fp:=[S]) I2 (λb o hb eo=>(Heap.get?_update_other _ _ λz=>hb (by simp[z])).trans eo) λb hb=>by
    rw[A4.1 hb];exact fS H1 nS) λkey' v' e=> ?_
   rw[hk] at e
   cases e
   exact ru)
 |succ q ih=>
  intro i H1 s1 ks is io xs c hq hi I1 hit hj old
  obtain⟨ha,dy,bZ,uY⟩:=rd _ _ _ _ hj
  have pS:=(I1.pin (S,YH xs c) (by simp)).1
  have I0:Inv X pins σ H1 s1:=I1.pins_of λp hp=>I1.pin p (by simp[hp])
  have nI:=(I1.pin (it,io) (by simp)).2.1
  have nS:=(I1.pin (S,YH xs c) (by simp)).2.1
  obtain⟨vs,rel,hm⟩:=VZ I0 ha hd
  have hl:=rel.length
  have lt:i<kvs.length:=by omega
  obtain⟨key,x,hx⟩:∃key x,kvs[i]? =some (key,x):=⟨_,_,y6 lt⟩
  obtain⟨ux,hu,uE⟩:=zdn rel hx
  rw[hl] at hit
  refine codeAny_builtin Em (by
   rw[Around.under_plainId Bq _]
   refine wpAny_bind (m:=seqItems? (.ref S)) (wpAny_seqItems pS rfl (wpAny_bind (m:=tryCatch (pyNext (.ref it)) _) (wpAny_tryCatch (wpAny_pyNext_dict_item hit hm hu λitem h1 gY gw jq=> ?_))))
   rw[<-hl] at gw
   have qV:h1.get? S=some (YH xs c):=(jq.2 S hS).trans pS
   have I2:Inv X pins σ H1 {s1 with heap:=h1}:=Inv.turnedL (t':=s1.toks) (fp:=[it]) I0 (λb o hb eo=>(jq.2 b (by simpa using hb)).trans eo) λb hb=>by
    rw[A4.1 hb];exact fI H1 nI
   obtain⟨gR,nR,kL,gI⟩:=id gw
   have I3:Inv X (pins++[(it,gR),(S,YH xs c)]) σ H1 {s1 with heap:=h1}:=I2.pins_of λp hp=>by
    rcases Aa.1 hp with hp|hp
    ·exact I2.pin p (Ac _ hp)
    rcases Ak.1 hp with rfl|hp
    ·exact⟨nR,nI,(fI H1 nI).2.1,(fI H1 nI).2.2.1,λv z=>by rw[gI] at z;cases z⟩
    ·rw[A4.1 hp]
     exact⟨qV,nS,(fS H1 nS).2.1,(fS H1 nS).2.2.1,λv z=>by cases z⟩
   have rk:zD (kV key) item:=zkj gY
   have f7:=turn i ks is H1 key x hx hj
   refine wpAny_bind (m:=tryCatch (holding [item] (call (.ref f) [item])) _) (wpAny_tryCatch (wpAny_holding (wpAny_mono (Q:=EP X (pins++[(it,gR),(S,YH xs c)]) σ (λv H3=>∃l,J (i+1) (ks++[v]) (is++[l]) H3)) (E:=λ_ _=>False) (wpAny_call (codeAny_mono (F X.A.in1 X.stack _ H1 f [kV key] [item] _ (⟨hr.hd,by have:=hr.dp;show X.A.depth+3*k+5<_;omega,by have:=hr.un;show X.A.units+1+16*k+200<_;omega,hr.gd⟩:xo k X.A.in1) I3.env0.in1 (.cons rk .nil) f7) λr s2 hq=> ?_)) (λv s2 he=> ?_) λ_ _ z=>z.elim)))
   ·cases r with
    |error e=>exact AF hq
    |ok fl=>
     cases fl with
     |ret u=>exact I3.after hq
     |next=>exact AF hq
     |brk=>exact AF hq
     |cont=>exact AF hq
   obtain⟨kv,H3,I4,r4,l,qg⟩:=he
   obtain⟨v7,sV,sP,ky⟩:=rd _ _ _ _ qg
   have kY:=(I4.pin (S,YH xs c) (by simp)).1
   have m7:=(I4.pin (it,gR) (by simp)).1
   have ml:=(I4.pin (it,gR) (by simp)).2.1
   have lg:=(I4.pin (S,YH xs c) (by simp)).2.1
   have sU:s2.heap.IsKeyIter it a (i+1) kvs.length ep:=⟨gR,m7,kL,gI⟩
   have I5:Inv X pins σ H3 s2:=I4.pins_of λp hp=>I4.pin p (by simp[hp])
   have go:∀(s3:Shared) (xs':Array Value) (c':Nat),Inv X pins σ H3 s3->s3.heap.get? it=some gR->s3.heap.get? S=some (YH xs' c')->(∃u v key x kv',xs'= #[u,v]/\kvs[yH (is++[l]) i]? =some (key,x)/\zD (kV key) u/\(ks++[kv])[yH (is++[l]) i]? =some kv'/\zD kv' v)->
     codeAny (model X.prog X.w) X.A (.builtin "min.loop" ⟨[.ref it,.ref f,.ref S],[]⟩) Rr s3:=λs3 xs' c' I6 qi tQ hb=>by
    refine ih (i+1) H3 s3 (ks++[kv]) (is++[l]) gR xs' c' ⋯ lt (I6.pins_of λp hp=> ?_) ⟨gR,qi,kL,gI⟩ qg (.inr ⟨⋯,hb⟩)
    rcases Aa.1 hp with hp|hp
    ·exact I6.pin p (Ac _ hp)
    rcases Ak.1 hp with rfl|hp
    ·exact⟨qi,ml,(fI H3 ml).2.1,(fI H3 ml).2.2.1,λv z=>by rw[gI] at z;cases z⟩
    ·rw[A4.1 hp]
     exact⟨tQ,lg,(fS H3 lg).2.1,(fS H3 lg).2.2.1,λv z=>by cases z⟩
   have put:∀(hb:yH (is++[l]) i=i),codeAny (model X.prog X.w) X.A (.builtin "min.loop" ⟨[.ref it,.ref f,.ref S],[]⟩) Rr {s2 with heap:=s2.heap.update S (Obj.mapSeq λ_=> #[item,v])}:=λhb=>by
    obtain⟨c2,dz⟩:∃c2,(s2.heap.update S (Obj.mapSeq λ_=> #[item,v])).get? S=some (YH #[item,v] c2):=⟨_,Heap.get?_update_self _ kY rfl⟩
    refine go _ #[item,v] c2 (Inv.turnedL (t':=s2.toks) (fp:=[S]) I5 (λb o hb eo=>(Heap.get?_update_other _ _ λz=>hb (by simp[z])).trans eo) λb hb=>by
     rw[A4.1 hb];exact fS H3 lg) ((Heap.get?_update_other _ _ hS).trans m7) dz ⟨item,v,key,x,kv,rfl,by rw[hb];exact hx,rk,by rw[hb,z6 ⋯,bZ,AG];rfl,r4⟩
   rcases old with⟨rfl,rfl⟩|⟨h0,u0,v0,mw,x0,rj,rfl,tM,qT,ku,qS⟩
   ·refine wpAny_bind (m:=updateSeq S (λ_=> #[item,v])) (wpAny_updateSeq kY rfl (by
     rw[WA]
     exact wpAny_pure ⟨plainId_quiet Bq _,put rfl⟩))
   ·have j7:yH (is++[l]) (i-1)=yH is (i-1):=zfB ⋯
    have sI:yH is (i-1)<=i-1:=Ub _ _
    have g0:(is++[l]).getD (yH is (i-1)) []=is.getD (yH is (i-1)) []:=by
     rw[z8,y9 ⋯,z8]
    have gi:(is++[l]).getD i []=l:=by
     rw[z8,z6 ⋯,dy,AG];rfl
    have dm:yH (is++[l]) i=if ltL l (is.getD (yH is (i-1)) [])=true then i else yH is (i-1):=by
     have hb:∀g:Nat->Nat->Bool,argBest g ((i-1)+1)=if g ((i-1)+1) (argBest g (i-1))=true then (i-1)+1 else argBest g (i-1):=λg=>rfl
     have:=hb λi j=>ltL ((is++[l]).getD i []) ((is++[l]).getD j [])
     rw[show i-1+1=i by omega] at this
     unfold yH at j7 g0 ⊢
     rw[this,j7,g0,gi]
    obtain⟨b1,uj,oP⟩:=ky i kv (by rw[z6 ⋯,bZ,AG];rfl)
    obtain⟨b0,uk,oQ⟩:=ky (yH is (i-1)) rj (by rw[y9 ⋯];exact ku)
    rw[gi] at oP
    rw[g0] at oQ
    subst uj
    subst uk
    obtain rfl:v=Value.ref b1:=r4
    obtain rfl:v0=Value.ref b0:=qS
    obtain⟨t1,w1,p1,_⟩:=I5.tuple oP
    obtain⟨t0,w0,p0,_⟩:=I5.tuple oQ
    refine wpAny_bind (m:=tryCatch (holding [item,Value.ref b1] (richCompare .Lt (.ref b1) (.ref b0)>>=_)) _) (wpAny_tryCatch (wpAny_holding (wpAny_bind ?_)))
    refine HT.zc1 (A:=X.A.in1) p1 p0 (Ux w1) (Ux w0) (by have:=hr.un;show X.A.units+1<_;omega) ?_
    refine wpAny_bind (wpAny_holding (wpAny_truthy_bool (wpAny_bind (wpAny_letGo (wpAny_pure ?_)))))
    rw[zes]
    cases kE:ltL l (is.getD (yH is (i-1)) []) with
    |true=>
     rw[if_pos rfl]
     rw[kE,if_pos rfl] at dm
     refine wpAny_bind (wpAny_updateSeq kY rfl (wpAny_bind (wpAny_letGo (by
      rw[WA]
      exact wpAny_pure ⟨plainId_quiet Bq _,put dm⟩))))
    |false=>
     rw[if_neg ∅]
     rw[kE,if_neg ∅] at dm
     refine wpAny_bind (wpAny_letGo (by
      rw[WA]
      refine wpAny_pure ⟨plainId_quiet Bq _,go s2 _ c I5 m7 kY ⟨u0,.ref b0,mw,x0,.ref b0,rfl,by rw[dm];exact tM,qT,by rw[dm,y9 ⋯];exact ku,rfl⟩⟩)))
def zkm (K:y3) (R:V->List V->Hp->VK->Prop) (td tl:TE):TE:=λσ H Q=>td σ H λx H1=>∃a,x= .ref a/\tl σ H1 λy H2=>∃f kvs,y= .ref f/\H2 a=some (.dK kvs)/\0<kvs.length/\∀o,∃J:Nat->List V->List (List Int)->Hp->Prop,J 0 [] [] (upd H2 a (.frz o (.dK kvs)))/\
 (∀i ks is H,J i ks is H->H a=some (.frz o (.dK kvs))/\is.length=i/\ks.length=i/\∀(m:Nat) v,ks[m]? =some v->∃b,v= .ref b/\SqT K H b ((is.getD m []).map V.int))/\
 (∀(i:Nat) ks is H2 key v,kvs[i]? =some (key,v)->J i ks is H2->R (.ref f) [kV key] H2 (λv H3=>∃l,J (i+1) (ks++[v]) (is++[l]) H3))/\
 ∀ks is H3 key v,J kvs.length ks is H3->kvs[yH is (kvs.length-1)]? =some (key,v)->Q (kV key) (upd H3 a (.dK kvs))
theorem zjn {K:y3} {e l:Expr} {te tl:TE} {pp kp pos:Pos} (F:zhl X.prog X.w X.K X.mg X.base k R) (hr:xo (k+1) X.A) (hc:X.calm=true) (hg:Gl X "min") (hm:X.mg "min"=none) (ha:PE X e te) (hl:PE X l tl) (hK:X.K=K:=by rfl)
  (tm:starEach [e] X.env=[(false,eval e X.env)]:=by rfl) (he:backTo pos (starEach [e] X.env)=(false,eval e X.env)::backTo pos (starEach [] X.env):=by rfl) (fc:(backTo pos (starEach [e] X.env)).any (·.1)=false:=by rfl):
  PE X (.Call (.Name "min" pp) [e] [⟨some "key",l,kp⟩] pos) (zkm K R te tl):=by
 subst hK
 intro pins s σ H Q I h
 refine wpAny_Call_Name_kw (va I hg hm boot_min ?_ ∅ ∅)
 refine callWith_kw (thn (wg ha ze tm pos pins s σ H (λvs H1=>∃a,vs=[.ref a]/\tl σ H1 λy H2=>∃f kvs,y= .ref f/\H2 a=some (.dK kvs)/\0<kvs.length/\∀o,∃J:Nat->List V->List (List Int)->Hp->Prop,J 0 [] [] (upd H2 a (.frz o (.dK kvs)))/\
   (∀i ks is H,J i ks is H->H a=some (.frz o (.dK kvs))/\is.length=i/\ks.length=i/\∀(m:Nat) v,ks[m]? =some v->∃b,v= .ref b/\SqT X.K H b ((is.getD m []).map V.int))/\
   (∀(i:Nat) ks is H2 key v,kvs[i]? =some (key,v)->J i ks is H2->R (.ref f) [kV key] H2 (λv H3=>∃l,J (i+1) (ks++[v]) (is++[l]) H3))/\
   ∀ks is H3 key v,J kvs.length ks is H3->kvs[yH is (kvs.length-1)]? =some (key,v)->Q (kV key) (upd H3 a (.dK kvs))) I ?_) ?_) he fc rfl rfl
 ·have h:te σ H _:=h
  show te σ H λx H1=>∃a,[x]=[V.ref a]/\_
  simpa only[G1,and_true] using h
 rintro us s1 ⟨vs,H1,I1,r1,a,rfl,q⟩
 obtain⟨u,rfl,ru⟩:=Yv r1
 cases ru
 show wpAny _ _ (evalAll [(do let v <-eval l X.env;standAt pos;pure v)]) _ _ _
 refine wpAny_evalAll_cons (wpAny_bind (thn (hl _ _ σ H1 _ I1 q) ?_))
 rintro u s2 ⟨y,H2,I2,ry,f,kvs,ef,oj,hn,q2⟩
 refine wpAny_bind (wpAny_standAt (wpAny_pure ?_))
 refine wpAny_evalAll_nil ?_
 subst ef
 obtain rfl:u=Value.ref f:=ry
 obtain⟨hz,lo,vs,rel,ob,es,ep,e1,e2,e3,e4⟩:=zab I2.hok oj
 obtain⟨J,j0,rd,turn,fin⟩:=q2 ob
 have sG:=rel.length
 have I3:Inv X pins σ (upd H2 a (.frz ob (.dK kvs))) s2:=Wj (h':=s2.heap) (t':=s2.toks) I2 (by rw[oj];exact B8) ⟨rfl,λ_ _=>rfl⟩ ⟨ob,e1⟩ ⟨e1,hz,lo,vs,rel,ob,es,ep,e1,e2,e3,e4⟩
 refine zhc PySem.F.kind_min PySem.F.plain_min PySem.F.entry_min (zhE _ _) (wpAny_bind (m:=Builtin.Builtins.bindParams "min" ["key","default"] 0 ⟨[],[(Str.ofString "key",.ref f)]⟩) (wpAny_of_eq (a:=[some (.ref f),none]) rfl (wpAny_bind (wpAny_pure (wpAny_bind (wpAny_pyIter_dict (knd:=zZ X.prog X.w) (A:=X.A.in1) lo ⟨ob,es,e1,e2,e3,e4⟩ ?_))))))
 have hi:(s2.heap.push {cls:= .type "dict_keyiterator",data:= .fields #[.ref a,.int 0 0,.int vs.length 0,.int ep 0]}).get? s2.heap.objs.size=some {cls:= .type "dict_keyiterator",data:= .fields #[.ref a,.int 0 0,.int vs.length 0,.int ep 0]}:=Heap.get?_push_size _ rfl
 have mJ:(s2.heap.push {cls:= .type "dict_keyiterator",data:= .fields #[.ref a,.int 0 0,.int vs.length 0,.int ep 0]}).objs.size=s2.heap.objs.size+1:=Heap.size_push ..
 refine wpAny_bind (wpAny_newObj_type ?_)
 rw[WA]
 refine wpAny_pure ⟨plainId_quiet Bq _,?_⟩
 show codeAny (model X.prog X.w) X.A (.builtin "min.loop" ⟨[.ref s2.heap.objs.size,.ref f,.ref (s2.heap.push {cls:= .type "dict_keyiterator",data:= .fields #[.ref a,.int 0 0,.int vs.length 0,.int ep 0]}).objs.size],[]⟩) _ _
 rw[mJ]
 have kp:∀b o,s2.heap.get? b=some o->((s2.heap.push {cls:= .type "dict_keyiterator",data:= .fields #[.ref a,.int 0 0,.int vs.length 0,.int ep 0]}).push (YH #[] 0)).get? b=some o:=λb o e=>Heap.get?_push_of_some _ (Heap.get?_push_of_some _ e)
 have I4:=I3.kept (t':=s2.toks) (h':=(s2.heap.push {cls:= .type "dict_keyiterator",data:= .fields #[.ref a,.int 0 0,.int vs.length 0,.int ep 0]}).push (YH #[] 0)) kp
 have fp:∀b,s2.heap.objs.size<=b->∀H',H' b=none->WR X pins H' b:=λb hb H' hn=>Inv.fpOk I2 hb hn
 have n1:upd H2 a (.frz ob (.dK kvs)) s2.heap.objs.size=none:=I3.hok.fresh (z5 _)
 have n2:upd H2 a (.frz ob (.dK kvs)) (s2.heap.objs.size+1)=none:=I3.hok.fresh (B5 _)
 have at2:((s2.heap.push {cls:= .type "dict_keyiterator",data:= .fields #[.ref a,.int 0 0,.int vs.length 0,.int ep 0]}).push (YH #[] 0)).get? (s2.heap.objs.size+1)=some (YH #[] 0):=by rw[<-mJ];exact Heap.get?_push_size _ rfl
 refine zhF (a:=a) (kvs:=kvs) (es:=es) (J:=J) F hr hc e3 (DJ _) (fp _ (B5 _)) (fp _ (z5 _)) hn rd turn (λks is H5 s5 u hj I5 hb=> ?_) _ 0 _ _ [] [] {cls:= .type "dict_keyiterator",data:= .fields #[.ref a,.int 0 0,.int vs.length 0,.int ep 0]} _ 0 rfl (Bi _) (I4.pins_of λp hp=> ?_) ⟨_,Heap.get?_push_of_some _ hi,rfl,by rw[sG];rfl⟩ j0 (.inl ⟨rfl,rfl⟩)
 ·have j7:yH is (kvs.length-1)<kvs.length:=by
   have:=Ub (λi j=>ltL (is.getD i []) (is.getD j [])) (kvs.length-1)
   unfold yH
   omega
  have e:=y6 j7
  exact⟨_,_,I2.thaw oj I5 (rd _ _ _ _ hj).1,hb _ _ e,fin ks is H5 _ _ hj e⟩
 ·rcases Aa.1 hp with hp|hp
  ·exact I4.pin p (Ac _ hp)
  rcases Ak.1 hp with rfl|hp
  ·exact⟨Heap.get?_push_of_some _ hi,n1,(fp _ (z5 _) _ n1).2.1,(fp _ (z5 _) _ n1).2.2.1,λv z=>by cases z⟩
  ·rw[A4.1 hp]
   exact⟨at2,n2,(fp _ (B5 _) _ n2).2.1,(fp _ (B5 _) _ n2).2.2.1,λv z=>by cases z⟩
end
def VB (H H':Hp):Prop:=∀b u,H b=some u->(∀o ks,u≠ .frz o (.dK ks))->H' b=some u
section
variable {K:y3} {j:List Addr} {H H':Hp} {x:Xv} {v:V}
theorem ZI.keepD {q:Str} {c:Addr} (k:VB H H') (h:ZI H q c):ZI H' q c:=by
 obtain⟨oc,fs,t,e,r⟩:=h
 exact⟨oc,fs,t,k _ _ e (λ_ _ z=>by cases z),r⟩
theorem XH.keepD {L:xf} {f:Addr} {vs:List V} (k:VB H H') (h:XH H L f vs):XH H' L f vs:=by
 obtain⟨aG,pm,cB,c,h1,h2,h3,h4,h5,h6⟩:=h.ex
 refine⟨aG,pm,cB,c,k _ _ h1 (λ_ _ z=>by cases z),h2.keepD k,λi x v e1 e2=> ?_,h4,h5,λx a e=> ?_⟩
 ·obtain⟨a,o,u,e3,e4,r⟩:=h3 i x v e1 e2
  exact⟨a,o,u,e3,k _ _ e4 (λ_ _ z=>by cases z),r⟩
 ·obtain⟨o,u,e3,r⟩:=h6 x a e
  exact⟨o,u,k _ _ e3 (λ_ _ z=>by cases z),r⟩
theorem Xis.keepD (k:VB H H') (h:Xis K j H x v):Xis K j H' x v:=
 Xis.rec (motive_1:=λx v _=>Xis K j H' x v) (motive_2:=λxs vs _=>zE K j H' xs vs) .non .bl .int .str (λh _ l=> .tup (k _ _ h λ_ _ z=>by cases z) l) (λh _ l=> .ct h l) (λh=> .ref h) (λh _ l=> .lam (h.keepD k) l) .nil (λ_ _ h l=> .cons h l) h
theorem zE.keepD {xs:List Xv} {vs:List V} (k:VB H H') (h:zE K j H xs vs):zE K j H' xs vs:=h.ind (m:=zE K j H') .nil λa _ c=> .cons (a.keepD k) c
theorem KX.keepD {κ:Type} {xs:List (κ×Xv)} {vs:List (κ×V)} (k:VB H H') (h:KX K j H xs vs):KX K j H' xs vs:=by
 induction h with
 |nil=>exact .nil
 |cons h _ ih=>exact .cons (h.keepD k) ih
theorem NX.keepD {xs:List (NK×Xv×Xv)} {vs:List (NK×Addr×V)} (k:VB H H') (h:NX K j H xs vs):NX K j H' xs vs:=by
 induction h with
 |nil=>exact .nil
 |cons e h1 h2 _ ih=>exact .cons e (h1.keepD k) (h2.keepD k) ih
theorem Wn.keepD {a:Addr} {c:Ce} (k:VB H H') (e0:H' a=H a) (h:Wn K j H a c):Wn K j H' a c:=by
 cases c with
 |lst l=>obtain⟨_,e,l⟩:=h;exact⟨_,e0.trans e,l.keepD k⟩
 |frz l=>
  obtain⟨_,e,l⟩:=h
  rcases e with⟨o,e⟩|e
  ·exact⟨_,.inl ⟨o,e0.trans e⟩,l.keepD k⟩
  ·exact⟨_,.inr e,l.keepD k⟩
 |dk l=>obtain⟨_,e,l⟩:=h;exact⟨_,e0.trans e,l.keepD k⟩
 |dt l=>obtain⟨_,e,l⟩:=h;exact⟨_,e0.trans e,l.keepD k⟩
 |ins n l=>obtain⟨_,_,_,n,e,l⟩:=h;exact⟨_,_,_,n,e0.trans e,l.keepD k⟩
 |fdk l=>obtain⟨_,_,e,l⟩:=h;exact⟨_,_,e0.trans e,l.keepD k⟩
 |dn l=>obtain⟨_,e,l⟩:=h;exact⟨_,e0.trans e,l.keepD k⟩
 |fdn l=>obtain⟨_,_,e,l⟩:=h;exact⟨_,_,e0.trans e,l.keepD k⟩
 |exc c=>obtain⟨C,n,e⟩:=h;exact⟨C,n,e0.trans e⟩
 |tab t=>
  obtain⟨ps,d,e,x,t,r⟩:=h
  refine⟨ps,d,e0.trans e,x,t,λpos cv q=> ?_⟩
  obtain⟨c,e1,e2⟩:=r pos cv q
  exact⟨c,e1,e2.keepD k⟩
end
section
variable {K:y3} {F:Fm} {j j':List Addr} {H H':Hp} {σ σ':St} {ρ ρ':Rho} {S S':Sto} {a:Addr} {n:Nat} {o:Obj} {kvs:List (Key×Xv)} {ks:List (Key×V)}
theorem En.thaw (E0:En K F j H σ ρ S) (hs:S[n]? =some (.dk kvs)) (hj:j[n]? =some a) (h0:H a=some (.dK ks)) (X:En K ⟨upd H a (.frz o (.dK ks)),j,S.set n (.fdk kvs)⟩ j' H' σ' ρ' S') (hn:S'[n]? =some (.fdk kvs)):En K F j' (upd H' a (.dK ks)) σ ρ (S'.set n (.dk kvs))/\Ext j H j' (upd H' a (.dK ks)):=by
 have hf:H' a=some (.frz o (.dK ks)):=X.ext.imm _ _ zm rfl
 have fm:j'[n]? =some a:=X.ext.pre n a hj
 have kd:VB H' (upd H' a (.dK ks)):=λb u e z=>by
  rw[zh]
  ·exact e
  ·intro q;subst q;rw[hf] at e;cases e;exact z _ _ rfl
 have r6:n<S.length:=(y4.1 hs).1
 have sf:∀{m:Nat},m≠n->(S.set n (.fdk kvs))[m]? =S[m]? :=λ{m} q=>by rw[Af,if_neg (λz=>q z.symm)]
 have imm:∀b u,H b=some u->u.mu=false->upd H' a (.dK ks) b=some u:=λb u e m=>by
  have hb:b≠a:=λz=>by subst z;rw[h0] at e;cases e;cases m
  rw[zh hb]
  exact X.ext.imm b u (by show upd H a (.frz o (.dK ks)) b=some u;rw[zh hb];exact e) m
 have ex:Ext j H j' (upd H' a (.dK ks)):=⟨X.ext.pre,imm⟩
 have md:∀(m:Nat) l,m≠n->j'[m]? =some a->S'[m]? ≠some (.fdk l):=λm l hm e ec=>by
  by_cases hl:m<j.length
  ·have e1:j[m]? =some j[m]:=y6 hl
   have e2:=X.ext.pre m _ e1
   rw[e] at e2
   injection e2 with e2
   rw[<-e2] at e1
   have gu:m<S.length:=by rw[<-E0.jl];exact hl
   have es:S[m]? =some S[m]:=y6 gu
   generalize S[m]=cm at es
   have hc:=E0.cel m _ a es e1
   obtain⟨c2,f1,f2,f3⟩:=X.old m cm (show (S.set n (.fdk kvs))[m]? =some cm by rw[sf hm,es])
   rw[ec] at f1
   cases f1
   cases cm with
   |frz l=>cases f3 rfl
   |dk l=>exact hm (E0.inj m n a _ _ e1 hj es hs rfl rfl)
   |lst l=>obtain⟨_,q,_⟩:=hc;rw[h0] at q;cases q
   |dt l=>obtain⟨_,q,_⟩:=hc;rw[h0] at q;cases q
   |ins n l=>obtain⟨_,_,_,_,q,_⟩:=hc;rw[h0] at q;cases q
   |dn l=>obtain⟨_,q,_⟩:=hc;rw[h0] at q;cases q
   |fdk l=>obtain⟨_,_,q,_⟩:=hc;rw[h0] at q;cases q
   |fdn l=>obtain⟨_,_,q,_⟩:=hc;rw[h0] at q;cases q
   |exc c=>obtain⟨C,_,q⟩:=hc;rw[h0] at q;cases q
   |tab t=>obtain⟨_,_,q,_⟩:=hc;rw[h0] at q;cases q
  ·have:=X.fresh m a (by show j.length<=m;omega) e
   have q:upd H a (.frz o (.dK ks)) a=none:=this
   rw[zm] at q
   cases q
 have hk:∃ks',H' a=some (.frz o (.dK ks'))/\KX K j' H' kvs ks':=by
  obtain⟨o',ks',q1,q2⟩:=X.cel n _ a hn fm
  rw[hf] at q1
  cases q1
  exact⟨ks,hf,q2⟩
 obtain⟨ks',qq,sN⟩:=hk
 rw[hf] at qq
 cases qq
 have sat:∀{m:Nat} {d:Ce},(S'.set n (.dk kvs))[m]? =some d->(m=n/\d= .dk kvs)\/(m≠n/\S'[m]? =some d):=λ{m d} e=>by
  rw[Af] at e
  split at e
  ·rename_i q
   split at e
   ·cases e;exact .inl ⟨q.symm,rfl⟩
   ·cases e
  ·rename_i q
   exact .inr ⟨λr=>q r.symm,e⟩
 have ic:∀(m:Nat) c,j'[m]? =some a->S'[m]? =some c->c.fz=false->False:=λm c e1 e2 z=>by
  obtain⟨u,e,m⟩:=(X.cel m c a e2 e1).mu z
  rw[hf] at e
  cases e
  cases m
 refine⟨⟨E0.len,λi x e=> ?_,by simp[X.jl],λm1 m2 b c1 c2 e1 e2 e3 e4 z1 z2=> ?_,λm d b e1 e2=> ?_,E0.ext.trans ex,λm c e=> ?_,E0.l0,λb u e=> ?_,λm b hm e=> ?_,λb e=> ?_⟩,ex⟩
 ·obtain⟨v,e1,e2⟩:=E0.slot i x e
  exact⟨v,e1,e2.mono ex⟩
 ·rcases sat e3 with⟨rfl,rfl⟩|⟨q1,g3⟩
  ·rw[fm] at e1
   cases e1
   rcases sat e4 with⟨rfl,_⟩|⟨q2,e4⟩
   ·rfl
   ·exact (ic m2 c2 e2 e4 z2).elim
  ·rcases sat e4 with⟨r2,_⟩|⟨q2,g4⟩
   ·rw[r2,fm] at e2
    cases e2
    exact (ic m1 c1 e1 g3 z1).elim
   ·exact X.inj m1 m2 b c1 c2 e1 e2 g3 g4 z1 z2
 ·rcases sat e1 with⟨rfl,rfl⟩|⟨q,e1⟩
  ·rw[fm] at e2
   cases e2
   exact⟨ks,zm,sN.keepD kd⟩
  ·have hc:=X.cel m d b e1 e2
   by_cases hb:b=a
   ·subst hb
    cases d with
    |frz l=>
     obtain⟨vs,q|q,l⟩:=hc
     ·obtain⟨o',q⟩:=q;rw[hf] at q;cases q
     ·exact⟨vs,.inr q,l.keepD kd⟩
    |fdk l=>exact (md m l q e2 e1).elim
    |fdn l=>obtain⟨_,_,q,_⟩:=hc;rw[hf] at q;cases q
    |exc c=>obtain⟨C,_,q⟩:=hc;rw[hf] at q;cases q
    |_=>exact (ic m _ e2 e1 rfl).elim
   ·exact hc.keepD kd (zh hb)
 ·obtain⟨c1,e1,e2,e3⟩:=E0.old m c e
  by_cases q:m=n
  ·subst q
   rw[hs] at e1
   cases e1
   refine⟨.dk kvs,by rw[Af,if_pos rfl,if_pos (y4.1 hn).1],λ_=>e2 rfl,λy=> ?_⟩
   rw[e2 rfl] at y
   cases y
  ·obtain⟨c2,f1,f2,f3⟩:=X.old m c1 (show (S.set n (.fdk kvs))[m]? =some c1 by rw[sf q,e1])
   refine⟨c2,by rw[Af,if_neg (λz=>q z.symm)];exact f1,λz=>e2 (f2 z),λz=> ?_⟩
   obtain rfl:=e3 z
   exact f3 z
 ·rcases E0.keep b u e with h1|h1
  ·by_cases hb:b=a
   ·subst hb
    rw[h0] at h1
    cases h1
    exact .inl zm
   ·rcases X.keep b u (show upd H a (.frz o (.dK ks)) b=some u by rw[zh hb];exact h1) with h2|⟨m,c,h2,h3,h4⟩
    ·exact .inl (by rw[zh hb];exact h2)
    ·have h2:j[m]? =some b:=h2
     have h3:(S.set n (.fdk kvs))[m]? =some c:=h3
     have sC:m≠n:=λz=>by
      subst z
      rw[Af,if_pos rfl,if_pos r6] at h3
      cases h3
      cases h4
     rw[sf sC] at h3
     by_cases hl:m<F.j0.length
     ·have e1:F.j0[m]? =some F.j0[m]:=y6 hl
      have e2:=E0.ext.pre m _ e1
      rw[h2] at e2
      injection e2 with e2
      rw[<-e2] at e1
      have cX:m<F.S0.length:=by rw[<-E0.l0];exact hl
      obtain⟨c1,f1,f2,_⟩:=E0.old m _ (y6 cX)
      rw[h3] at f1
      cases f1
      exact .inr ⟨m,_,e1,y6 cX,f2 h4⟩
     ·rw[E0.fresh m b ⋯ h2] at e
      cases e
  ·exact .inr h1
 ·by_cases hl:m<j.length
  ·have e1:j[m]? =some j[m]:=y6 hl
   have e2:=X.ext.pre m _ e1
   rw[e] at e2
   injection e2 with e2
   rw[<-e2] at e1
   exact E0.fresh m _ hm e1
  ·have q:upd H a (.frz o (.dK ks)) b=none:=X.fresh m b (by show j.length<=m;omega) e
   refine E0.dom b ?_
   by_cases hb:b=a
   ·subst hb;rw[zm] at q;cases q
   ·rw[zh hb] at q;exact q
 ·by_cases hb:b=a
  ·subst hb;rw[zm] at e;cases e
  ·rw[zh hb] at e
   have q:upd H a (.frz o (.dK ks)) b=none:=X.dom b e
   rw[zh hb] at q
   exact E0.dom b q
end
noncomputable def VC (tw:TwF):List (Key×Xv)->Sto->Option (List (List Int)×Sto)
 |[],S=>some ([],S)
 |p::r,S=>match tw [kX p.1] S with
  |some (.ok x S1)=>(zap x).bind λl=>(VC tw r S1).map λq=>(l::q.1,q.2)
  |_=>none
noncomputable def zhG (fns:List (xf×(List Xv->TwF))) (d l:TwE):TwE:=λρ S=>rb (d ρ S) λx S1=>(xT S1 x).bind λ_=>rb (l ρ S1) λy S2=>match y,xT S2 x with
 | .lam L aE,some (n,kvs)=>(XJ fns L).bind λtw=>(VC (tw aE) kvs (S2.set n (.fdk kvs))).bind λp=>(kvs[yH p.1 (kvs.length-1)]?).map λq=> .ok (kX q.1) (p.2.set n (.dk kvs))
 |_,_=>none
section
variable {K:y3} {E:XK}
theorem zjo {fns:List (xf×(List Xv->TwF))} {td tl:TE} {d l:TwE} (hd:RE K E td d) (hl:RE K E tl l):RE K E (zkm K (zlB K fns) td tl) (zhG fns d l):=by
 intro F j σ H ρ S r Q En0 e0 k
 rcases zj e0 with⟨x,S1,e1,e0⟩|⟨c,S1,e1,rfl⟩
 ·refine hd En0 e1 λj1 H1 X1 E1 u hu=> ?_
  rw[An] at e0
  obtain⟨⟨n0,il⟩,fh,e0⟩:=e0
  obtain⟨a,jk,rfl,_,_,_⟩:=E1.dk hu fh
  refine⟨a,rfl,?_⟩
  rcases zj e0 with⟨y,S2,e2,e0⟩|⟨c,S2,e2,rfl⟩
  ·refine hl E1 e2 λj2 H2 X2 E2 v hv=> ?_
   split at e0
   ·rename_i L aE n kvs e4
    rw[An] at e0
    obtain⟨tw,hp,e0⟩:=e0
    rw[An] at e0
    obtain⟨⟨is,S3⟩,h3,e0⟩:=e0
    rw[z0] at e0
    obtain⟨⟨key,kx⟩,h4,rfl⟩:=e0
    obtain⟨f,rfl⟩:∃f,v= .ref f:=by cases hv with|lam _ _=>exact⟨_,rfl⟩
    obtain⟨a',ks,ea,hj,h5,h6⟩:=E2.dk (hu.mono X2) e4
    cases ea
    have hs:=(ZM e4).2
    have bZ:=h6.len
    refine⟨f,ks,rfl,h5,by rw[bZ];have:=(y4.1 h4).1;dsimp only at this;omega,λo=> ?_⟩
    obtain⟨E2f,X2f⟩:=E2.writeF (n:=n) (c':= .fdk kvs) (o:= .frz o (.dK ks)) hs rfl hj (λX=>⟨o,ks,zm,h6.mono X⟩)
    refine⟨λi kk im H3=>∃(j3:List Addr) (S':Sto) (ys:List Xv) (rest:List (List Int)),En K ⟨upd H2 a (.frz o (.dK ks)),j2,S2.set n (.fdk kvs)⟩ j3 H3 σ ρ S'/\zE K j3 H3 ys kk/\ys.map zap=im.map some/\im.length=i/\VC (tw aE) (kvs.drop i) S'=some (rest,S3)/\im++rest=is,
     ⟨j2,S2.set n (.fdk kvs),[],is,E2f.enter E2f.len E2f.slot,.nil,rfl,rfl,h3,rfl⟩,?_,?_,?_⟩
    ·rintro i kk im H3 ⟨j3,S',ys,rest,E3,hy,jT,dy,_,_⟩
     have pJ:ys.length=im.length:=by rw[<-y7 (f:=zap),jT,y7]
     refine⟨E3.ext.imm _ _ zm rfl,dy,by rw[hy.len,pJ,dy],λm w hw=> ?_⟩
     obtain⟨z,ez,hz⟩:=hy.getV hw
     have hm:m<im.length:=by rw[<-pJ];exact (y4.1 ez).1
     have:=congrArg (λl=>l[m]?) jT
     simp only[y8,ez,BO,y6 hm,Al] at this
     have:=zhi hz this
     rwa [show im[m]=im.getD m [] by rw[z8,y6 hm];rfl] at this
    ·rintro i kk im H3 key' v' hx ⟨j3,S',ys,rest,E3,hy,jT,dy,eR,hd⟩
     have hi:i<kvs.length:=by rw[<-bZ];exact (y4.1 hx).1
     have iT:(kvs[i]).1=key':=by
      have:=congrArg (λl=>l[i]?) h6.keys
      simp only[y8,hx,y6 hi,BO,Al] at this
      exact this.symm
     rw[Cw hi] at eR
     unfold VC at eR
     split at eR
     ·rename_i z S4 e5
      rw[An] at eR
      obtain⟨li,sJ,eR⟩:=eR
      rw[z0] at eR
      obtain⟨⟨r2,S5⟩,h7,h8⟩:=eR
      cases h8
      rw[iT] at e5
      have jV:zE K j3 H3 [kX key'] [kV key']:= .one zhg
      obtain⟨l1,s1⟩:=XR jV
      have Xf:Ext j2 H2 j3 H3:=by
       refine⟨E3.ext.pre,λb u e m=>E3.ext.imm b u ?_ m⟩
       show upd H2 a (.frz o (.dK ks)) b=some u
       rw[zh (λq=>by subst q;rw[h5] at e;cases e;cases m)]
       exact e
      refine⟨j3,S',S4,[kX key'],aE,L,tw,z,E3.enter l1 s1,hv.mono Xf,hp,e5,λw j' H' σ' ρ' Ex hz=> ?_⟩
      obtain⟨E4,X4⟩:=E3.leave Ex
      exact⟨li,j',S4,ys++[z],r2,E4,(hy.mono X4).append (.one hz),by simp[jT,sJ],by simp[dy],h7,by rw[<-hd];simp⟩
     ·cases eR
    ·rintro kk im H3 key' v' ⟨j3,S',ys,rest,E3,hy,jT,dy,eR,hd⟩ hb
     rw[bZ,List.drop_length] at eR
     cases eR
     rw[Bx] at hd
     subst hd
     rw[bZ] at hb
     have iT:key=key':=by
      have:=congrArg (λl=>l[yH im (kvs.length-1)]?) h6.keys
      simp only[y8,hb] at this
      rw[h4] at this
      simp only[BO,Al] at this
      exact this.symm
     subst iT
     have hn:S3[n]? =some (.fdk kvs):=by
      obtain⟨c',f1,_,f3⟩:=E3.old n (.fdk kvs) (by show (S2.set n (.fdk kvs))[n]? =some _;rw[Af,if_pos rfl,if_pos (y4.1 hs).1])
      rw[f3 rfl] at f1
      exact f1
     obtain⟨E5,X5⟩:=E2.thaw hs hj h5 E3 hn
     exact k _ _ (X1.trans (X2.trans X5)) E5 _ zhg
   ·cases e0
  ·exact hl E1 e2 (PX.mono k X1)
 ·exact hd En0 e1 k
end
section
variable {ρ:Rho} {S:Sto} {P:Xv->Sto->Prop} {d l:TwE}
theorem zdF {tw:TwF} {g:Key->List Int}:∀(kvs:List (Key×Xv)),(∀p∈kvs,∃x,tw [kX p.1] S=some (.ok x S)/\zap x=some (g p.1))->VC tw kvs S=some (kvs.map λp=>g p.1,S):=by
 intro kvs
 induction kvs with
 |nil=>intro _;rfl
 |cons p r ih=>
  intro h
  obtain⟨x,h1,h2⟩:=h p (.head _)
  unfold VC
  rw[h1]
  dsimp only
  rw[h2,A1,ih λq hq=>h q (.tail _ hq)]
  rfl
theorem zjp {fns:List (xf×(List Xv->TwF))} (h:W (d ρ S) λx S1=>(∃p,xT S1 x=some p)/\W (l ρ S1) λy S2=>∃L aE tw n kvs is S3 q,y= .lam L aE/\XJ fns L=some tw/\xT S2 x=some (n,kvs)/\VC (tw aE) kvs (S2.set n (.fdk kvs))=some (is,S3)/\kvs[yH is (kvs.length-1)]? =some q/\P (kX q.1) (S3.set n (.dk kvs))):W (zhG fns d l ρ S) P:=by
 refine W.bind (h.imp λx S1 h=> ?_)
 obtain⟨⟨p,e0⟩,h⟩:=h
 rw[e0,A1]
 refine W.bind (h.imp λy S2 h=> ?_)
 obtain⟨L,aE,tw,n,kvs,is,S3,q,rfl,h1,h2,h3,h4,k⟩:=h
 rw[h2]
 dsimp only
 rw[h1,A1,h3,A1,h4]
 exact .of rfl k
end
noncomputable abbrev zcw (T0:Addr) (f:Bool) (TI TO:Addr):Obj:={cls:= .type "zip",dict:=none,data:= .fields #[rawInt T0,.bool f,.bool false,.ref TI,.ref TO],slots:= #[]}
section
variable {prog:Program} {w:World} {A:Around} {E:Value->Shared->Prop} {s:Shared} {z TI TO i1 i2 l1 l2 T0:Addr} {f:Bool} {k1 k2:Nat} {xs ys:Array Value} {x y:Value} {o:Obj}
theorem zeI {Q:Bool->Shared->Prop} (hz:s.heap.get? z=some (zcw T0 f TI TO)) (ha:s.heap.get? T0=some o)
  (h:∀h',h'.get? z=some (zcw T0 true TI TO)->Heap.SameBut z s.heap h'->Q false {s with heap:=h'}):wpAny (model prog w) A (Builtin.SmallTypes.ownedTupleIsFree (.ref z)) Q E s:=by
 unfold Builtin.SmallTypes.ownedTupleIsFree
 refine wpAny_bind (wpAny_field hz rfl (x:=rawInt T0) rfl ?_)
 show wpAny _ _ (loadIfAlive (T0:Int).toNat>>=_) _ _ _
 rw[Ae]
 refine wpAny_bind (kdx_alive ha ?_)
 show wpAny _ _ (field (.ref z) 1>>=_) _ _ _
 refine wpAny_bind (wpAny_field hz rfl (x:= .bool f) rfl ?_)
 cases f with
 |true=>
  rw[if_neg ∅]
  exact wpAny_pure (h s.heap hz ⟨rfl,λ_ _=>rfl⟩)
 |false=>
  rw[if_pos ∅]
  refine wpAny_bind (wpAny_setField_rec hz (by simp) λh₁ hz₁ hs₁=> ?_)
  exact wpAny_pure (h h₁ hz₁ hs₁)
theorem zjq {Q:Value->Shared->Prop} (D:ZipApart z TI TO i1 i2 l1 l2) (hz:s.heap.get? z=some (zcw T0 f TI TO)) (ha:s.heap.get? T0=some o) (cT:IsPair s.heap TI (.ref i1) (.ref i2))
  (h1:s.heap.IsListIter i1 l1 k1) (h2:s.heap.IsListIter i2 l2 k2) (hl1:s.heap.IsList l1 xs) (hl2:s.heap.IsList l2 ys) (hx:xs[k1]? =some x) (hy:ys[k2]? =some y)
  (hQ:∀h',h'.get? z=some (zcw T0 true TI TO)->h'.IsListIter i1 l1 (k1+1)->h'.IsListIter i2 l2 (k2+1)->IsPair h' s.heap.objs.size x y->h'.objs.size=s.heap.objs.size+1->
   (∀c o,c≠z->c≠i1->c≠i2->s.heap.get? c=some o->h'.get? c=some o)->Q (.ref s.heap.objs.size) {s with heap:=h'}):
  wpAny (model prog w) A (Builtin.«zip.__next__» ⟨[.ref z],[]⟩) (λfin s'=>∃v,fin= .done (.ret v)/\Q v s') E s:=by
 show wpAny _ _ (field (.ref z) 2>>=_) _ _ _
 refine wpAny_bind (wpAny_field hz rfl (x:= .bool false) rfl ?_)
 show wpAny _ _ (field (.ref z) 3>>=_) _ _ _
 refine wpAny_bind (wpAny_field hz rfl (x:= .ref TI) rfl ?_)
 refine wpAny_bind (wpAny_seqItems cT rfl ?_)
 show wpAny _ _ (Builtin.SmallTypes.ownedTupleIsFree (.ref z)>>=_) _ _ _
 refine wpAny_bind (zeI hz ha λh₁ hz₁ hs₁=> ?_)
 rw[if_neg ∅]
 refine wpAny_bind ?_
 rw[<-CB]
 simp only[Eb,G8]
 refine wpAny_bind (wpAny_bind (wpAny_holding ?_))
 show wpAny _ _ (Builtin.SmallTypes.nextOf (.ref i1)>>=_) _ _ _
 refine wpAny_bind (wpAny_nextOf_list_item (h1.extBut hs₁.extBut D.i1z) (hl1.extBut hs₁.extBut D.l1z) hx λh₂ h1₂ hs₂=>wpAny_pure (wpAny_pure ?_))
 refine wpAny_bind (wpAny_bind (wpAny_holding ?_))
 show wpAny _ _ (Builtin.SmallTypes.nextOf (.ref i2)>>=_) _ _ _
 refine wpAny_bind (wpAny_nextOf_list_item ((h2.extBut hs₁.extBut D.i2z).extBut hs₂.extBut D.i12.symm) ((hl2.extBut hs₁.extBut D.l2z).extBut hs₂.extBut D.l2i1) hy λh₃ h2₃ hs₃=>wpAny_pure ?_)
 refine wpAny_pure (wpAny_pure ?_)
 refine wpAny_bind (wpAny_newTuple (items:=[x,y]) ?_ (show 2<=sizeLine by decide))
 have hsz:h₃.objs.size=s.heap.objs.size:=by rw[hs₃.1,hs₂.1,hs₁.1]
 have hz₃:h₃.get? z=some (zcw T0 true TI TO):=hs₃.extBut _ _ D.i2z.symm (hs₂.extBut _ _ D.i1z.symm hz₁)
 have h1₃:h₃.IsListIter i1 l1 (k1+1):=h1₂.extBut hs₃.extBut D.i12
 refine wpAny_pure ⟨_,rfl,?_⟩
 show Q (.ref h₃.objs.size) {s with heap:=h₃.push {cls:= .type "tuple",data:= .seq #[x,y]}}
 have hT:IsPair (h₃.push {cls:= .type "tuple",data:= .seq #[x,y]}) h₃.objs.size x y:=Heap.get?_push_size _ rfl
 rw[hsz] at hT ⊢
 exact hQ _ (Heap.get?_push_of_some _ hz₃) (h1₃.at λo e=>Heap.get?_push_of_some _ e) (h2₃.at λo e=>Heap.get?_push_of_some _ e) hT (by rw[Heap.size_push,hsz]) λc o c1 c3 c4 e=>
  Heap.get?_push_of_some _ (hs₃.extBut _ _ c4 (hs₂.extBut _ _ c3 (hs₁.extBut _ _ c1 e)))
theorem zlD {Q:Fin->Shared->Prop} (hh:A.handled=none) (D:ZipApart z TI TO i1 i2 l1 l2) (hz:s.heap.get? z=some (zcw T0 f TI TO)) (ha:s.heap.get? T0=some o) (cT:IsPair s.heap TI (.ref i1) (.ref i2))
  (h1:s.heap.IsListIter i1 l1 k1) (h2:s.heap.IsListIter i2 l2 k2) (hl1:s.heap.IsList l1 xs) (hl2:s.heap.IsList l2 ys) (gx:xs[k1]? =none\/ys[k2]? =none)
  (hE:∀h' e,(∀c o,c≠z->c≠i1->c≠i2->s.heap.get? c=some o->h'.get? c=some o)->(∃o,h'.get? e=some o/\o.cls= .type "StopIteration")->E (.ref e) {s with heap:=h'}):
  wpAny (model prog w) A (Builtin.«zip.__next__» ⟨[.ref z],[]⟩) Q E s:=by
 show wpAny _ _ (field (.ref z) 2>>=_) _ _ _
 refine wpAny_bind (wpAny_field hz rfl (x:= .bool false) rfl ?_)
 show wpAny _ _ (field (.ref z) 3>>=_) _ _ _
 refine wpAny_bind (wpAny_field hz rfl (x:= .ref TI) rfl ?_)
 refine wpAny_bind (wpAny_seqItems cT rfl ?_)
 show wpAny _ _ (Builtin.SmallTypes.ownedTupleIsFree (.ref z)>>=_) _ _ _
 refine wpAny_bind (zeI hz ha λh₁ hz₁ hs₁=> ?_)
 rw[if_neg ∅]
 refine wpAny_bind ?_
 rw[<-CB]
 simp only[Eb,G8]
 refine wpAny_bind (wpAny_bind (wpAny_holding ?_))
 show wpAny _ _ (Builtin.SmallTypes.nextOf (.ref i1)>>=_) _ _ _
 cases hx:xs[k1]? with
 |none=>
  refine wpAny_bind (wpAny_nextOf_list_end hh (h1.extBut hs₁.extBut D.i1z) (hl1.extBut hs₁.extBut D.l1z) hx λh₂ e hs₂ he=> ?_)
  exact hE h₂ e (λc o c1 c3 _ x=>hs₂ _ _ c3 (hs₁.extBut _ _ c1 x)) he
 |some x=>
  have hy:ys[k2]? =none:=by rcases gx with h|h;rw[hx] at h;cases h;exact h
  refine wpAny_bind (wpAny_nextOf_list_item (h1.extBut hs₁.extBut D.i1z) (hl1.extBut hs₁.extBut D.l1z) hx λh₂ h1₂ hs₂=>wpAny_pure (wpAny_pure ?_))
  refine wpAny_bind (wpAny_bind (wpAny_holding ?_))
  show wpAny _ _ (Builtin.SmallTypes.nextOf (.ref i2)>>=_) _ _ _
  refine wpAny_bind (wpAny_nextOf_list_end hh ((h2.extBut hs₁.extBut D.i2z).extBut hs₂.extBut D.i12.symm) ((hl2.extBut hs₁.extBut D.l2z).extBut hs₂.extBut D.l2i1) hy λh₃ e hs₃ he=> ?_)
  exact hE h₃ e (λc o c1 c3 c4 x=>hs₃ _ _ c4 (hs₂.extBut _ _ c3 (hs₁.extBut _ _ c1 x))) he
structure zbl (h:Heap) (B z TI TO i1 i2 l1 l2:Addr) (xs ys:Array Value) (i:Nat) (ts:List Addr):Prop where
 ti:IsPair h TI (.ref i1) (.ref i2)
 h1:h.IsListIter i1 l1 i
 h2:h.IsListIter i2 l2 i
 hl1:h.IsList l1 xs
 hl2:h.IsList l2 ys
 zz:(i=0/\IsZip h z TI TO .none/\∃a b,IsPair h TO a b)\/∃T0 f o,h.get? z=some (zcw T0 f TI TO)/\h.get? T0=some o/\B<=T0
 len:ts.length=i
 ps:∀(m:Nat) t,ts[m]? =some t->B<=t/\∃x y,xs[m]? =some x/\ys[m]? =some y/\IsPair h t x y
 nd:ts.Pairwise (· < ·)
theorem zbl.keep {h h':Heap} {B:Addr} {i:Nat} {ts:List Addr} (st:zbl h B z TI TO i1 i2 l1 l2 xs ys i ts) {S:Addr} (hS:S<B) (n1:S≠z/\S≠TI/\S≠TO/\S≠i1/\S≠i2/\S≠l1/\S≠l2) (k:∀b o,b≠S->h.get? b=some o->h'.get? b=some o):zbl h' B z TI TO i1 i2 l1 l2 xs ys i ts:=by
 obtain⟨a1,a2,a3,a4,a5,a6,a7⟩:=n1
 refine⟨k _ _ a2.symm st.ti,st.h1.at λo e=>k _ o a4.symm e,st.h2.at λo e=>k _ o a5.symm e,st.hl1.at λo e=>k _ o a6.symm e,st.hl2.at λo e=>k _ o a7.symm e,?_,st.len,λm t e=> ?_,st.nd⟩
 ·rcases st.zz with⟨e,z1,a,b,z2⟩|⟨T0,f,o,z1,z2,z3⟩
  ·exact .inl ⟨e,k _ _ a1.symm z1,a,b,k _ _ a3.symm z2⟩
  ·exact .inr ⟨T0,f,o,k _ _ a1.symm z1,k _ _ (λq=>by subst q;exact absurd hS (FI z3)) z2,z3⟩
 ·obtain⟨b,x,y,e1,e2,e3⟩:=st.ps m t e
  exact⟨b,x,y,e1,e2,k _ _ (λq=>by subst q;exact absurd hS (FI b)) e3⟩
end
section
variable {prog:Program} {w:World} {A:Around} {E:Value->Shared->Prop} {s:Shared} {z TI TO i1 i2 l1 l2 B:Addr} {xs ys:Array Value}
theorem zjr {i:Nat} {ts:List Addr} {x y:Value} {Q:Option Value->Shared->Prop} (D:ZipApart z TI TO i1 i2 l1 l2) (hB:z<B/\TI<B/\TO<B/\i1<B/\i2<B/\l1<B/\l2<B) (st:zbl s.heap B z TI TO i1 i2 l1 l2 xs ys i ts) (hx:xs[i]? =some x) (hy:ys[i]? =some y) (hs:B<=s.heap.objs.size)
  (cA:∀t∈ts,t<s.heap.objs.size)
  (hQ:∀h',zbl h' B z TI TO i1 i2 l1 l2 xs ys (i+1) (ts++[s.heap.objs.size])->h'.objs.size=s.heap.objs.size+1->(∀c o,c≠z->c≠TO->c≠i1->c≠i2->s.heap.get? c=some o->h'.get? c=some o)->Q (some (.ref s.heap.objs.size)) {s with heap:=h'}):
  wpAny (model prog w) A (pyNext (.ref z)) Q E s:=by
 obtain⟨b1,b2,b3,b4,b5,b6,b7⟩:=hB
 have fin:∀h',(∃T0 f o,h'.get? z=some (zcw T0 f TI TO)/\h'.get? T0=some o/\B<=T0)->h'.IsListIter i1 l1 (i+1)->h'.IsListIter i2 l2 (i+1)->IsPair h' s.heap.objs.size x y->(∀c o,c≠z->c≠TO->c≠i1->c≠i2->s.heap.get? c=some o->h'.get? c=some o)->zbl h' B z TI TO i1 i2 l1 l2 xs ys (i+1) (ts++[s.heap.objs.size]):=λh' hz h1 h2 hp hk=>by
  refine⟨hk _ _ D.TIz D.TITO D.TIi1 D.TIi2 st.ti,h1,h2,st.hl1.at λo e=>hk _ o D.l1z D.l1TO D.l1i1 D.l1i2 e,st.hl2.at λo e=>hk _ o D.l2z D.l2TO D.l2i1 D.l2i2 e,.inr hz,by simp[st.len],λm t e=> ?_,?_⟩
  ·by_cases hm:m<ts.length
   ·rw[y9 hm] at e
    obtain⟨b,x,y,e1,e2,e3⟩:=st.ps m t e
    exact⟨b,x,y,e1,e2,hk _ _ (Av (A0 b1 b)) (Av (A0 b3 b)) (Av (A0 b4 b)) (Av (A0 b5 b)) e3⟩
   ·rw[z6 ⋯] at e
    have:m=i:=by
     have:=(y4.1 e).1
     simp at this
     have:=st.len
     omega
    subst this
    rw[st.len,AG] at e
    cases e
    exact⟨hs,x,y,hx,hy,hp⟩
  ·rw[List.pairwise_append]
   exact⟨st.nd,List.pairwise_singleton _ _,λa ha b hb=>by rw[A4.1 hb];exact cA a ha⟩
 rcases st.zz with⟨rfl,hz,a,b,cV⟩|⟨T0,f,o,hz,ha,lP⟩
 ·refine wpAny_pyNext_zip_item D hz st.ti cV st.h1 st.h2 st.hl1 st.hl2 hx hy λh' a1 a2 a3 a4 a5 a6 hk=>hQ h' (fin h' ⟨_,false,_,a1,a5,hs⟩ a3 a4 a5 hk) a6 hk
 ·have hT:s.TypeIs (.ref z) "zip":=⟨_,hz,rfl⟩
  unfold pyNext
  refine wpAny_bind (wpAny_attempt (wpAny_callSpecial?_slot (name:=Str.ofString "__next__") hT Cd
   (wpAny_call_entry Cd hT Eo
    (zjq D hz ha st.ti st.h1 st.h2 st.hl1 st.hl2 hx hy λh' a1 a3 a4 a5 a6 hk=>wpAny_pure ?_) (DW _))))
  have nQ:∀c o,c≠z->c≠TO->c≠i1->c≠i2->s.heap.get? c=some o->h'.get? c=some o:=λc o c1 _ c3 c4 e=>hk c o c1 c3 c4 e
  exact hQ h' (fin h' ⟨T0,true,o,a1,hk _ _ (Av (A0 b1 lP)) (Av (A0 b4 lP)) (Av (A0 b5 lP)) ha,lP⟩ a3 a4 a5 nQ) a6 nQ
theorem zjs {i:Nat} {ts:List Addr} {Q:Option Value->Shared->Prop} (hh:A.handled=none) (D:ZipApart z TI TO i1 i2 l1 l2) (st:zbl s.heap B z TI TO i1 i2 l1 l2 xs ys i ts) (gx:xs[i]? =none\/ys[i]? =none)
  (hQ:∀h',(∀c o,c≠z->c≠TO->c≠i1->c≠i2->s.heap.get? c=some o->h'.get? c=some o)->Q none {s with heap:=h'}):wpAny (model prog w) A (pyNext (.ref z)) Q E s:=by
 rcases st.zz with⟨rfl,hz,a,b,cV⟩|⟨T0,f,o,hz,ha,hT⟩
 ·exact wpAny_pyNext_zip_end hh D hz st.ti cV st.h1 st.h2 st.hl1 st.hl2 gx hQ
 ·have hT:s.TypeIs (.ref z) "zip":=⟨_,hz,rfl⟩
  unfold pyNext
  refine wpAny_bind (wpAny_attempt (wpAny_callSpecial?_slot (name:=Str.ofString "__next__") hT Cd
   (wpAny_call_entry Cd hT Eo (zlD hh D hz ha st.ti st.h1 st.h2 st.hl1 st.hl2 gx λh' e hk he=> ?_) (DW _))))
  obtain⟨o,ho,hc⟩:=he
  refine wpAny_bind (wpAny_isInstance (T:="StopIteration") (b:=true) ⟨o,ho,hc⟩ isSubtype_stop ?_)
  exact wpAny_pure (hQ _ λc o c1 _ c3 c4 e=>hk c o c1 c3 c4 e)
end
theorem zfC:typeLookup (.type "zip") "__len__"=pure none:=by rw[typeLookup_type,builtinLookup_eq_fast];kernel_rfl
theorem zdG:typeLookup (.type "zip") "__length_hint__"=pure none:=by rw[typeLookup_type,builtinLookup_eq_fast];kernel_rfl
noncomputable abbrev zqL (ts:List Addr) (c:Nat):Obj:={cls:= .type "list",dict:=none,data:= .seq (ts.map Value.ref).toArray c,slots:= #[]}
section
variable {prog:Program} {w:World} {A:Around} {E:Value->Shared->Prop} {z TI TO i1 i2 l1 l2 B S:Addr} {xs ys:Array Value} {R:Result->Shared->Prop} {res:Value}
theorem zjt (hh:A.handled=none) (D:ZipApart z TI TO i1 i2 l1 l2) (hB:z<B/\TI<B/\TO<B/\i1<B/\i2<B/\l1<B/\l2<B) (hS:S<B) (nS:S≠z/\S≠TI/\S≠TO/\S≠i1/\S≠i2/\S≠l1/\S≠l2) (he:xs.size=ys.size) (hz:xs.size<=sizeLine):
  ∀(q i:Nat) (s:Shared) (ts:List Addr) (c:Nat),xs.size-i=q->i<=xs.size->zbl s.heap B z TI TO i1 i2 l1 l2 xs ys i ts->B<=s.heap.objs.size->(∀t∈ts,t<s.heap.objs.size)->s.heap.get? S=some (zqL ts c)->
   (∀(h':Heap) (ts':List Addr) (c':Nat),ts'.length=xs.size->(∀(m:Nat) t,ts'[m]? =some t->B<=t/\∃x y,xs[m]? =some x/\ys[m]? =some y/\IsPair h' t x y)->ts'.Pairwise (· < ·)->h'.get? S=some (zqL ts' c')->(∀b o,b≠S->b≠z->b≠TO->b≠i1->b≠i2->s.heap.get? b=some o->h'.get? b=some o)->R (.ok (.ret res)) {s with heap:=h'})->
   codeAny (model prog w) A (.builtin "list.extend.loop" ⟨[.ref S,.ref z,res],[]⟩) R s:=by
 obtain⟨b1,b2,b3,b4,b5,b6,b7⟩:=hB
 have up:∀{t a:Addr},a<B->B<=t->t≠a:=λh1 h2=>Av (A0 h1 h2)
 intro q
 induction q with
 |zero=>
  intro i s ts c hq hi st hs cA hl fin
  obtain rfl:i=xs.size:=by omega
  refine codeAny_builtin DA ?_
  rw[Around.under_plainId BU _]
  show wpAny _ A.in1 (pyNext (.ref z)>>=_) _ _ s
  refine wpAny_bind (zjs hh D st (.inl (Array.getElem?_eq_none (z5 _))) λh' hk=> ?_)
  refine wpAny_pure (fin h' ts c st.len (λm t e=> ?_) st.nd (hk _ _ nS.1 nS.2.2.1 nS.2.2.2.1 nS.2.2.2.2.1 hl) λb o _ c1 c2 c3 c4 e=>hk b o c1 c2 c3 c4 e)
  obtain⟨h1,x,y,h2,h3,h4⟩:=st.ps m t e
  exact⟨h1,x,y,h2,h3,hk _ _ (up b1 h1) (up b3 h1) (up b4 h1) (up b5 h1) h4⟩
 |succ q ih=>
  intro i s ts c hq hi st hs cA hl fin
  have qh:i<xs.size:=by omega
  refine codeAny_builtin DA ?_
  rw[Around.under_plainId BU _]
  show wpAny _ A.in1 (pyNext (.ref z)>>=_) _ _ s
  refine wpAny_bind (zjr D ⟨b1,b2,b3,b4,b5,b6,b7⟩ st (DB qh) (DB ⋯) hs cA λh' st' mK hk=> ?_)
  have fk:=hk _ _ nS.1 nS.2.2.1 nS.2.2.2.1 nS.2.2.2.2.1 hl
  show wpAny _ A.in1 (updateSeq S (·.push (.ref s.heap.objs.size))>>=_) _ _ _
  refine wpAny_bind ?_
  have hsz:((ts.map Value.ref).toArray).size=i:=by simp[st.len]
  refine wpAny_updateSeq fk rfl (wpAny_pure ⟨plainId_quiet BU _,?_⟩) (by rw[hsz];omega) (by show ((ts.map Value.ref).toArray.push _).size<=sizeLine+1;rw[G0,hsz];omega)
  have dW:∀b o,b≠S->h'.get? b=some o->(h'.update S (Obj.mapSeq (·.push (Value.ref s.heap.objs.size)))).get? b=some o:=λb o hb e=>(Heap.get?_update_other _ _ (AQ hb)).trans e
  have hl2:∃c2,(h'.update S (Obj.mapSeq (·.push (Value.ref s.heap.objs.size)))).get? S=some (zqL (ts++[s.heap.objs.size]) c2):=by
   obtain⟨c2,e2⟩:∃c2,(h'.update S (Obj.mapSeq (·.push (Value.ref s.heap.objs.size)))).get? S=some (seqObj "list" ((ts.map Value.ref).toArray.push (Value.ref s.heap.objs.size)) c2):=⟨_,get?_update_seq fk (·.push (Value.ref s.heap.objs.size))⟩
   exact⟨c2,by rw[e2];simp[zqL]⟩
  obtain⟨c2,hl2⟩:=hl2
  have pI:(h'.update S (Obj.mapSeq (·.push (Value.ref s.heap.objs.size)))).objs.size=s.heap.objs.size+1:=by rw[Heap.size_update,mK]
  refine ih (i+1) _ (ts++[s.heap.objs.size]) c2 ⋯ qh (st'.keep hS nS dW) (A2 hs (by show _<=EG _;rw[pI];exact B5 _)) (λt ht=> ?_) hl2 λu6 ts' c' f1 f2 f3 f4 f5=>fin u6 ts' c' f1 f2 f3 f4 λb o c0 c1 c2 c3 c4 e=>f5 b o c0 c1 c2 c3 c4 (dW b o c0 (hk b o c1 c2 c3 c4 e))
  show t<EG _
  rw[pI]
  rcases Aa.1 ht with ht|ht
  ·exact B2 (cA t ht)
  ·rw[A4.1 ht];exact Bf _
theorem zfD {s:Shared} (hh:A.handled=none) (D:ZipApart z TI TO i1 i2 l1 l2) (hB:z<B/\TI<B/\TO<B/\i1<B/\i2<B/\l1<B/\l2<B) (hS:S<B) (nS:S≠z/\S≠TI/\S≠TO/\S≠i1/\S≠i2/\S≠l1/\S≠l2) (he:xs.size=ys.size) (hz:xs.size<=sizeLine)
  (st:zbl s.heap B z TI TO i1 i2 l1 l2 xs ys 0 []) (hs:B<=s.heap.objs.size) (c₀:Nat) (hl:s.heap.get? S=some {cls:= .type "list",data:= .seq #[] c₀}) (fY:IsZip s.heap z TI TO .none)
  (fin:∀(h':Heap) (ts':List Addr) (c':Nat),ts'.length=xs.size->(∀(m:Nat) t,ts'[m]? =some t->B<=t/\∃x y,xs[m]? =some x/\ys[m]? =some y/\IsPair h' t x y)->ts'.Pairwise (· < ·)->h'.get? S=some (zqL ts' c')->(∀b o,b≠S->b≠z->b≠TO->b≠i1->b≠i2->s.heap.get? b=some o->h'.get? b=some o)->R (.ok (.ret res)) {s with heap:=h'}):
  wpAny (model prog w) A.in1 (Builtin.List.listExtendWith (.ref S) (.ref z) res)
   (λfin s'=>match fin with| .done f=>R (.ok f) s'| .again c'=>c'.quiet=true/\codeAny (model prog w) A c' R s') (λe s'=>R (.error e) s') s:=by
 have hT:s.TypeIs (.ref z) "zip":=⟨_,fY,rfl⟩
 unfold Builtin.List.listExtendWith
 refine wpAny_bind (wpAny_typeOf hT ?_)
 have h1:Builtin.List.listSameRef (.ref S) (.ref z)=false:=by simp[Builtin.List.listSameRef,nS.1]
 have h2:(Value.type "zip"==Value.type "list")=false:=by decide
 have h3:(Value.type "zip"==Value.type "tuple")=false:=by decide
 simp only[h1,h2,h3,EJ,CD,if_false]
 refine wpAny_bind (wpAny_pyIter_zip fY ?_)
 refine wpAny_bind (wpAny_holding ?_)
 unfold Builtin.List.listLengthHint
 refine wpAny_bind (wpAny_specialOf hT zfC ?_)
 show wpAny _ A.in1 (specialOf (Value.ref z) (Str.ofString "__length_hint__")>>=_) _ _ _
 refine wpAny_bind (wpAny_specialOf hT zdG ?_)
 refine wpAny_pure ?_
 show wpAny _ A.in1 (rule "list.extend.makes-room">>=λ_=>Builtin.List.listTouch (.ref S)>>=λ_=>
  again (.builtin "list.extend.loop" ⟨[.ref S,.ref z,res],[]⟩)) _ _ _
 refine wpAny_bind (wpAny_rule ?_)
 refine wpAny_bind ?_
 show wpAny _ A.in1 (updateSeq S (·.push .none)>>=λ_=>updateSeq S (·.pop)) _ _ _
 refine wpAny_bind (wpAny_updateSeq hl rfl ?_)
 have lQ:=Heap.get?_update_self (Obj.mapSeq (·.push Value.none)) hl rfl
 refine wpAny_updateSeq (hz:=by seq_fits) lQ rfl ?_
 have tO:=Heap.get?_update_self (Obj.mapSeq (·.pop)) lQ rfl
 have dW:∀b o,b≠S->s.heap.get? b=some o->((s.heap.update S (Obj.mapSeq (·.push Value.none))).update S (Obj.mapSeq (·.pop))).get? b=some o:=
  λb o hb e=>(Heap.get?_update_other _ _ (AQ hb)).trans ((Heap.get?_update_other _ _ (AQ hb)).trans e)
 refine wpAny_pure ⟨plainId_quiet BU _,?_⟩
 refine zjt hh D hB hS nS he hz _ 0 _ [] _ rfl (Bi _) (st.keep hS nS dW) (by show B<=EG _;rw[Heap.size_update,Heap.size_update];exact hs) (λt ht=>nomatch ht) tO λh' ts' c' f1 f2 f3 f4 f5=>fin h' ts' c' f1 f2 f3 f4 λb o c0 c1 c2 c3 c4 e=>f5 b o c0 c1 c2 c3 c4 (dW b o c0 e)
theorem zju {s:Shared} {Q:Value->Shared->Prop} (hh:A.handled=none) (D:ZipApart z TI TO i1 i2 l1 l2) (hB:z<s.heap.objs.size/\TI<s.heap.objs.size/\TO<s.heap.objs.size/\i1<s.heap.objs.size/\i2<s.heap.objs.size/\l1<s.heap.objs.size/\l2<s.heap.objs.size) (he:xs.size=ys.size) (hz:xs.size<=sizeLine)
  (fY:IsZip s.heap z TI TO .none) (cT:IsPair s.heap TI (.ref i1) (.ref i2)) {a b:Value} (cV:IsPair s.heap TO a b) (h1:s.heap.IsListIter i1 l1 0) (h2:s.heap.IsListIter i2 l2 0) (hl1:s.heap.IsList l1 xs) (hl2:s.heap.IsList l2 ys)
  (fin:∀(h':Heap) (ts:List Addr) (c:Nat),ts.length=xs.size->(∀(m:Nat) t,ts[m]? =some t->s.heap.objs.size<t/\∃x y,xs[m]? =some x/\ys[m]? =some y/\IsPair h' t x y)->ts.Pairwise (· < ·)->h'.get? s.heap.objs.size=some (zqL ts c)->(∀b o,b≠z->b≠TO->b≠i1->b≠i2->s.heap.get? b=some o->h'.get? b=some o)->Q (.ref s.heap.objs.size) {s with heap:=h'}):
  wpAny (model prog w) A (call (.type "list") [.ref z]) Q E s:=by
 refine callType_codes (Q₁:=λobj s₁=>obj= .ref s.heap.objs.size/\s₁={s with heap:=s.heap.push {cls:= .type "list",data:= .seq #[]}}) PySem.F.called_list (PySem.F.typeCall_list_1 _) PySem.F.entry_list_init
  (code_list_new _ ⟨rfl,rfl⟩) λobj s₁ h₁=> ?_
 obtain⟨rfl,rfl⟩:=h₁
 obtain⟨b1,b2,b3,b4,b5,b6,b7⟩:=hB
 have hS:(s.heap.push {cls:= .type "list",data:= .seq #[]}).get? s.heap.objs.size=some {cls:= .type "list",data:= .seq #[]}:=Heap.get?_push_size _ rfl
 have hsz:(s.heap.push {cls:= .type "list",data:= .seq #[]}).objs.size=s.heap.objs.size+1:=Heap.size_push ..
 refine⟨⟨_,hS,rfl⟩,PySem.F.args_list_init_2 _ _,?_⟩
 show wpAny _ A.in1.in1 (do let old <-Builtin.List.listItems (.ref s.heap.objs.size);Builtin.List.listUpdate (.ref s.heap.objs.size) (λ_=> #[]);letGo old.toList.reverse;Builtin.List.listExtendWith (.ref s.heap.objs.size) (.ref z) .none) _ _ _
 refine wpAny_bind ?_
 unfold Builtin.List.listItems
 refine wpAny_bind (wpAny_seqItems hS rfl (wpAny_pure ?_))
 show wpAny _ A.in1.in1 (updateSeq s.heap.objs.size (λ_=> #[])>>=λ_=>letGo (#[]:Array Value).toList.reverse>>=λ_=>Builtin.List.listExtendWith (.ref s.heap.objs.size) (.ref z) .none) _ _ _
 refine wpAny_bind (wpAny_updateSeq hS rfl ?_)
 have lQ:=Heap.get?_update_self (Obj.mapSeq (λ_=>(#[]:Array Value))) hS rfl
 have dW:∀b o,s.heap.get? b=some o->((s.heap.push {cls:= .type "list",data:= .seq #[]}).update s.heap.objs.size (Obj.mapSeq (λ_=>(#[]:Array Value)))).get? b=some o:=
  λb o e=>(Heap.get?_update_other _ _ (Av (Heap.lt_size e))).trans (Heap.get?_push_of_some _ e)
 refine wpAny_bind (wpAny_letGo ?_)
 refine zfD (B:=s.heap.objs.size+1) hh D ⟨B2 b1,B2 b2,B2 b3,B2 b4,B2 b5,B2 b6,B2 b7⟩ (Bf _) ⟨Av b1,Av b2,Av b3,Av b4,Av b5,Av b6,Av b7⟩ he hz
  ⟨dW _ _ cT,h1.at λo e=>dW _ o e,h2.at λo e=>dW _ o e,hl1.at λo e=>dW _ o e,hl2.at λo e=>dW _ o e,.inl ⟨rfl,dW _ _ fY,a,b,dW _ _ cV⟩,rfl,λm t e=>by simp at e,Ft⟩ (by show _<=EG _;rw[Heap.size_update,hsz];exact z5 _) _ lQ (dW _ _ fY) λh' ts' c' f1 f2 f3 f4 f5=>⟨rfl,fin h' ts' c' f1 f2 f3 f4 λb o c1 c2 c3 c4 e=>f5 b o (Ad (Heap.lt_size e)) c1 c2 c3 c4 (dW b o e)⟩
end
noncomputable def Tz (H:Hp) (as:List Addr) (cW:List (V×V)):Hp:=λb=>match (as.zip cW).find? λx=>decide (x.1=b) with
 |some x=>some (.tup [x.2.1,x.2.2])
 |none=>H b
theorem zeJ {H:Hp} {as:List Addr} {cW:List (V×V)} (nd:as.Nodup) {j:Nat} {a:Addr} {x y:V} (h1:as[j]? =some a) (h2:cW[j]? =some (x,y)):Tz H as cW a=some (.tup [x,y]):=by
 have:(as.zip cW).find? (λx=>decide (x.1=a))=some (a,x,y):=by
  induction as generalizing j cW with
  |nil=>simp at h1
  |cons b as ih=>
   cases cW with
   |nil=>simp at h2
   |cons q cW=>
    rw[Cz,AZ]
    cases j with
    |zero=>simp at h1 h2;subst h1 h2;simp
    |succ j=>
     have h1:as[j]? =some a:=by simpa using h1
     have cE:b≠a:=λe=>(B9.1 nd).1 (e ▸ z4 h1)
     simp only[decide_eq_false cE]
     exact ih (B9.1 nd).2 h1 (by simpa using h2)
 unfold Tz
 rw[this]
theorem YI {H:Hp} {as:List Addr} {cW:List (V×V)} {b:Addr} (h:b∉as):Tz H as cW b=H b:=by
 have:(as.zip cW).find? (λx=>decide (x.1=b))=none:=Fc.2 λx hx=>by
  obtain⟨x1,x2⟩:=x
  have:=(C5 hx).1
  simp
  exact λe=>h (e ▸ this)
 unfold Tz
 rw[this]
theorem zhH {H:Hp} {as:List Addr} {cW:List (V×V)} {b:Addr} {u:HO} (nd:as.Nodup) (hl:as.length=cW.length) (h:Tz H as cW b=some u) (hb:b∈as):∃(j:Nat) (x y:V),as[j]? =some b/\cW[j]? =some (x,y)/\u= .tup [x,y]:=by
 obtain⟨j,hj⟩:=AH hb
 have gv:j<cW.length:=by rw[<-hl];exact (y4.1 hj).1
 obtain⟨⟨x,y⟩,e⟩:∃p,cW[j]? =some p:=⟨_,y6 gv⟩
 rw[zeJ nd hj e] at h
 cases h
 exact⟨j,x,y,hj,e,rfl⟩
def zhI (H:Hp) (ps:List Addr) (cW:List (V×V)):Prop:=ps.length=cW.length/\∀(m:Nat) p x y,ps[m]? =some p->cW[m]? =some (x,y)->H p=some (.tup [x,y])
def zhJ (K:y3) (ta:TA):TE:=λσ H Q=>ta σ H λvs H1=>∃a b xs ys,vs=[.ref a,.ref b]/\SqL K H1 a xs/\SqL K H1 b ys/\xs.length=ys.length/\∀H2 ps l,Zc H1 H2->zhI H2 ps (xs.zip ys)->H2 l=none->Q (.ref l) (upd H2 l (.lst (ps.map V.ref)))
section
variable {X:Cx}
theorem zhK {K:y3} {l m:Expr} {ta:TA} {p p2 pos cy:Pos} (hc:X.calm=true) (hg:Gl X "list") (hm:X.mg "list"=none) (nW:Gl X "zip") (js:X.mg "zip"=none) (ha:PA X [l,m] ta) (hK:X.K=K:=by rfl)
  (hs:starEach [l,m] X.env=[(false,eval l X.env),(false,eval m X.env)]:=by rfl) (cx:starEach [m] X.env=[(false,eval m X.env)]:=by rfl) (he:starEach [.Call (.Name "zip" p2) [l,m] [] cy] X.env=[(false,eval (.Call (.Name "zip" p2) [l,m] [] cy) X.env)]:=by rfl):
  PE X (.Call (.Name "list" p) [.Call (.Name "zip" p2) [l,m] [] cy] [] pos) (zhJ K ta):=by
 subst hK
 intro pins s σ H Q I h
 refine wpAny_Call_Name_kw (va I hg hm boot_list ?_ ∅ ∅)
 refine AB ?_ he rfl
 rw[he]
 show wpAny _ _ (spliced ((false,eval (.Call (.Name "zip" p2) [l,m] [] cy) X.env)::backTo pos [])) _ _ s
 refine Calls.spliced_cons ?_
 refine wpAny_Call_Name_kw (va I nW js Boot.«zip» ?_ ∅ ∅)
 refine AB (thn (ha cy pins s σ H _ I h) λus s1 ⟨vs,H1,I1,r1,q1⟩=> ?_) (by rw[hs,cx]) (by rw[cx];rfl)
 obtain⟨a,b,xs,ys,rfl,hq,cj,hlen,q⟩:=q1
 obtain⟨u,u',rfl,ru,ru'⟩:=zd1 r1
 cases ru
 cases ru'
 obtain⟨ae,rv,pl,hz⟩:=I1.list hq
 obtain⟨its',rv',pl',mK⟩:=I1.list cj
 have jP:a<s1.heap.objs.size:=by obtain⟨o,n,e,_⟩:=id pl;exact Heap.lt_size e
 have jO:b<s1.heap.objs.size:=by obtain⟨o,n,e,_⟩:=id pl';exact Heap.lt_size e
 refine call_zip_2 pl.isList pl'.isList λh' rG cT cV h1 h2 hsz hk=> ?_
 refine Calls.spliced_nil ?_
 have hl:=rv.length
 have fk:=rv'.length
 have big:∀{c:Nat},c<s1.heap.objs.size->∀d:Nat,c≠s1.heap.objs.size+d:=λh d=>Ad (A0 h (C2 _ _))
 have lo:∀d:Nat,d<5->s1.heap.objs.size+d<h'.objs.size:=λd hd=>by rw[hsz];exact Nat.add_lt_add_left hd _
 have D:ZipApart (s1.heap.objs.size+4) (s1.heap.objs.size+2) (s1.heap.objs.size+3) s1.heap.objs.size (s1.heap.objs.size+1) a b:=⟨by simp,by simp,by simp,by simp,by simp,by simp,by simp,by simp,by simp,by simp,big jP _,big jP _,big jP 0,big jP _,big jO _,big jO _,big jO 0,big jO _⟩
 refine zju (s:={s1 with heap:=h'}) (I1.ok.hd hc) D ⟨lo 4 ∅,lo 2 ∅,lo 3 ∅,lo 0 ∅,lo 1 ∅,by show a<h'.objs.size;rw[hsz];exact A0 jP (C2 _ _),by show b<h'.objs.size;rw[hsz];exact A0 jO (C2 _ _)⟩ (by rw[A3,A3];omega) (by rw[A3,<-hl];exact hz) rG cT cV h1 h2 (pl.isList.at λo e=>hk _ o e) (pl'.isList.at λo e=>hk _ o e) λg ts c f1 f2 f3 f4 f5=> ?_
 have nd:ts.Nodup:=f3.imp λh e=>absurd h (by rw[e];exact Bh _)
 have nF:ts.length=(xs.zip ys).length:=by rw[f1,A3,Ef,<-hlen,DL,hl]
 have kp:∀b o,s1.heap.get? b=some o->g.get? b=some o:=λb o e=>f5 b o (big (Heap.lt_size e) 4) (big (Heap.lt_size e) 3) (big (Heap.lt_size e) 0) (big (Heap.lt_size e) 1) (hk b o e)
 have iU:∀t∈ts,s1.heap.objs.size<=t/\t≠h'.objs.size:=λt ht=>by
  obtain⟨m,hm⟩:=AH ht
  have e:h'.objs.size<t:=(f2 m t hm).1
  refine⟨?_,Av e⟩
  rw[hsz] at e
  exact Ag (Az (C2 _ _) e)
 have pr:∀(m:Nat) t x y,ts[m]? =some t->(xs.zip ys)[m]? =some (x,y)->∃u v,zD x u/\zD y v/\IsPair g t u v:=λm t x y e1 e2=>by
  obtain⟨_,u,v,g1,g2,g3⟩:=f2 m t e1
  rw[Ba] at e2
  obtain⟨u',hu,ru⟩:=rv.get e2.1
  obtain⟨v',hv,qR⟩:=rv'.get e2.2
  have g1:ae[m]? =some u:=by simpa using g1
  have g2:its'[m]? =some v:=by simpa using g2
  rw[g1] at hu
  rw[g2] at hv
  cases hu
  cases hv
  exact⟨u,v,ru,qR,g3⟩
 have old:Zc H1 (Tz H1 ts (xs.zip ys)):=λb u e=>by
  rw[YI]
  ·exact e
  ·intro hb
   have:=(I1.hok b u e).lt
   exact absurd (A0 this (iU b hb).1) (Bh _)
 have I2:Inv X pins σ (Tz H1 ts (xs.zip ys)) {s1 with heap:=g,toks:=s1.toks}:=by
  refine zck I1 kp old (λb u e=> ?_) λb u e n=> ?_
  ·by_cases hb:b∈ts
   ·exact .inr (iU b hb).1
   ·rw[YI hb] at e;exact .inl e
  ·by_cases hb:b∈ts
   ·obtain⟨j,x,y,e1,e2,rfl⟩:=zhH nd nF e hb
    obtain⟨u,v,ru,rv,g3⟩:=pr j b x y e1 e2
    exact⟨by show 2<=sizeLine;decide,[u,v],.cons ru (.cons rv .nil),_,g3,rfl,_,rfl,rfl⟩
   ·rw[YI hb,n] at e;cases e
 have hD:h'.objs.size∉ts:=λhb=>(iU _ hb).2 rfl
 have nD:Tz H1 ts (xs.zip ys) h'.objs.size=none:=by
  rw[YI hD]
  exact I1.hok.fresh (by rw[hsz];exact C2 _ _)
 have tz:zhI (Tz H1 ts (xs.zip ys)) ts (xs.zip ys):=⟨nF,λm p x y e1 e2=>zeJ nd e1 e2⟩
 have I3:Inv X pins σ (upd (Tz H1 ts (xs.zip ys)) h'.objs.size (.lst (ts.map V.ref))) {s1 with heap:=g,toks:=s1.toks}:=by
  refine zck I1 kp (λb u e=> ?_) (λb u e=> ?_) λb u e n=> ?_
  ·rw[zh]
   ·exact old b u e
   ·intro z;subst z;rw[old _ u e] at nD;cases nD
  ·by_cases hb:b=h'.objs.size
   ·right;rw[hb,hsz];exact C2 _ _
   ·rw[zh hb] at e
    by_cases hb:b∈ts
    ·exact .inr (iU b hb).1
    ·rw[YI hb] at e;exact .inl e
  ·by_cases hb:b=h'.objs.size
   ·subst hb
    rw[zm] at e
    cases e
    refine⟨by rw[y7,f1,A3,<-hl];exact hz,ts.map Value.ref,c,?_,f4⟩
    clear f1 f2 f3 f4 f5 nd nF iU pr old I2 hD nD tz
    induction ts with
    |nil=>exact .nil
    |cons t r ih=>exact .cons rfl ih
   ·rw[zh hb] at e
    have:=I2.hok b u e
    refine this.stay (λ_ _ _ q=>q) (λd q=> ?_) λd xs q=> ?_
    ·rw[zh (λz=>by subst z;rw[nD] at q;cases q)];exact q
    ·rw[zh (λz=>by subst z;rw[nD] at q;cases q)];exact q
 exact⟨.ref _,_,I3,rfl,q _ ts _ old tz nD⟩
end
noncomputable def TB (xs ys:List Xv):List Xv:=(xs.zip ys).map λp=> .tup [p.1,p.2]
def zdH (ms:List TwE):TwE:=λρ S=>rb (evL ms ρ S) λxs S1=>match xs with
 |[x,y]=>(zv S1 x).bind λus=>(zv S1 y).bind λvs=>if us.length=vs.length then some (.ok (.ref S1.length) (S1++[.lst (TB us vs)])) else none
 |_=>none
section
variable {K:y3} {E:XK}
theorem zjv {j:List Addr} {H:Hp} {ps:List Addr} {us vs:List Xv} {xs ys:List V} (h1:zE K j H us xs) (h2:zE K j H vs ys) (t:zhI H ps (xs.zip ys)):zE K j H (TB us vs) (ps.map V.ref):=by
 induction us generalizing vs xs ys ps with
 |nil=>
  obtain rfl:=h1.nil_inv
  obtain⟨t,_⟩:=t
  have:ps=[]:=by cases ps with|nil=>rfl|cons _ _=>simp at t
  subst this
  exact .nil
 |cons u us ih=>
  obtain⟨x,xr,rfl,a1,a2⟩:=h1.cons_inv
  cases vs with
  |nil=>
   obtain rfl:=h2.nil_inv
   obtain⟨t,_⟩:=t
   have:ps=[]:=by cases ps with|nil=>rfl|cons _ _=>simp at t
   subst this
   exact .nil
  |cons v vs=>
   obtain⟨y,yr,rfl,b1,b2⟩:=h2.cons_inv
   obtain⟨t1,t2⟩:=t
   cases ps with
   |nil=>simp at t1
   |cons p ps=>
    rw[Cz] at t1 t2
    refine .cons (.tup (t2 0 p x y rfl rfl) (.cons a1 (.one b1))) (ih a2 b2 ⟨by simpa using t1,λm q x y e1 e2=>t2 (m+1) q x y (by simpa using e1) (by simpa using e2)⟩)
theorem zhL {t:TA} {ms:List TwE} (h:RL K E t (evL ms)):RE K E (zhJ K t) (zdH ms):=by
 intro F j σ H ρ S r Q En0 e k
 rcases zj e with⟨xs,S1,e1,e⟩|⟨c,S1,e1,rfl⟩
 ·refine h En0 e1 λj1 H1 X1 E1 vs hv=> ?_
  split at e
  ·rename_i x y
   rw[An] at e
   obtain⟨us,e2,e⟩:=e
   rw[An] at e
   obtain⟨ws,e3,e⟩:=e
   split at e
   ·rename_i hl
    cases e
    obtain⟨p,q,rfl,hp,hq⟩:=hv.d2
    obtain⟨a,as,rfl,f1,f2⟩:=E1.lstAt hp e2
    obtain⟨b,bs,rfl,g1,g2⟩:=E1.lstAt hq e3
    refine⟨a,b,as,bs,rfl,f1.sql,g1.sql,by rw[f2.len,g2.len,hl],λH2 ps l sm tz hn=> ?_⟩
    have X2:Ext j1 H1 j1 H2:=Ext.same sm
    obtain⟨E3,X3,h3⟩:=(E1.heap sm).lst (zjv (f2.mono X2) (g2.mono X2) tz) hn
    exact k _ _ (X1.trans (X2.trans X3)) E3 _ h3
   ·cases e
  ·cases e
 ·exact h En0 e1 k
end
theorem zhM {ρ:Rho} {S:Sto} {P:Xv->Sto->Prop} {ms:List TwE} (h:W (evL ms ρ S) λxs S1=>∃x y us vs,xs=[x,y]/\zv S1 x=some us/\zv S1 y=some vs/\us.length=vs.length/\P (.ref S1.length) (S1++[.lst (TB us vs)])):W (zdH ms ρ S) P:=by
 refine W.bind (h.imp λxs S1 h=> ?_)
 obtain⟨x,y,us,vs,rfl,h1,h2,h3,q⟩:=h
 dsimp only
 rw[h1,A1,h2,A1,if_pos h3]
 exact .of rfl q
end L2
namespace L2
open PySem PySem.Spec PyProof.Rows
def zmS (s:Stmt):Expr:=match s with
 | .For _ e _ _ _=>e
 |_=>noE
noncomputable def zmT (s:Stmt) (i:Nat):Stmt:=match s with
 | .For _ _ b _ _=>b.getD i (.Pass ⟨0,0,0,0⟩)
 | .If _ b _ _=>b.getD i (.Pass ⟨0,0,0,0⟩)
 |_=> .Pass ⟨0,0,0,0⟩
def kwE (e:Expr):Expr:=match e with
 | .Call _ _ (⟨_,l,_⟩::_) _=>l
 |_=>noE
theorem zfE {K:y3} {E E':XK} {C:Addr} {nm:Str} {n:Nat} {tw:TwF} {ms:List TwE} {t:TA} (cO:A8 K mainGlobals nm=some (some (.ref C))) (h:RL K E t (evL ms)) (hn:ms.length+1=n:=by rfl):RE K E (zf5 C (sTw K n tw) [] E' t) (UY nm tw ms):=by
 intro F j σ H ρ S r Q En0 e k
 rcases zj e with⟨xs,S1,e1,e⟩|⟨c,S1,e1,rfl⟩
 ·refine h En0 e1 λj1 H1 X1 E1 vs hv=> ?_
  intro x dx hx o8 cE
  rw[Bx]
  split at e
  ·rename_i S2 e2
   cases e
   have iw:upd H1 dx (.own x) x=none:=by rw[zh (λz=>cE z.symm)];exact hx
   obtain⟨E2,X2⟩:=E1.new (p:=dx) (o:= .own x) o8
   obtain⟨E3,X3⟩:=E2.cell (p:=x) (o:= .ins C dx []) (c:= .ins nm []) iw ⟨C,dx,[],cO,zm,.nil⟩
   have X23:=X2.trans X3
   have hr:Xis K (j1++[x]) (upd (upd H1 dx (.own x)) x (.ins C dx [])) (.ref S1.length) (.ref x):= .ref (by rw[<-E1.jl];simp)
   refine Xn E3 (.cons hr (hv.mono X23)) (by rw[Ah,hv.len,ZY e1,hn]) e2 λj' H' X E4 v hw=> ?_
   exact⟨hw.non_inv,k _ _ (X1.trans (X23.trans X)) E4 _ (hr.mono X)⟩
  ·cases e
 ·exact h En0 e1 k
end L2
namespace Mth
open PySem.Builtin.Int (intBits)
theorem zjw {i j:Int} {m k:Nat} (h1:intBits i<=m) (h2:intBits j<=m) (h:m+1<=k:=by decide):intBits (i+j)<=k:=A2 (PySem.intBits_add_le h1 h2) (by rw[Nat.max_self];exact h)
theorem zjx {i j:Int} {m k:Nat} (h1:intBits i<=m) (h2:intBits j<=m) (h:m+1<=k:=by decide):intBits (i-j)<=k:=A2 (PySem.intBits_sub_le h1 h2) (by rw[Nat.max_self];exact h)
end Mth
namespace Prf
open PySem PySem.Spec PyProof.Rows L2
open PySem.Builtin.Int (intBits)
set_option maxHeartbeats 4000000
local macro_rules | `(tactic| walk_at "sc") => `(tactic| exact ⟨rfl, rfl, rfl, by decide +kernel, rfl, by decide +kernel, by decide +kernel⟩)
structure Fi (K:y3) (mg:Str->Option Value) (nm:Str) (st:Stmt) (ps:List Str) where
 a:Addr
 fd:FuncData
 F:Fun K nm nm st a fd
 m:mg nm=some (.ref a)
 b:Wh K fd ps []
structure Mi (K:y3) (g:Addr) (nm qn:Str) (st:Stmt) (ps:List Str) where
 a:Addr
 fd:FuncData
 F:Fun K nm qn st a fd
 b:Wh K fd ps []
 mt:znf K g nm a
def LoN (K:y3) (x qual:Str) (st:Stmt) (f:Addr):Prop:=∃fd,Fun K x qual st f fd
def FL (K:y3) (nm:Str) (st:Stmt):Prop:=∃f,A8 K mainGlobals nm=some (some (.ref f))/\LoN K nm nm st f
def ML (K:y3) (g:Addr) (nm qn:Str) (st:Stmt):Prop:=∃f,A9 K (.ref g) nm=some (some (.ref f))/\DG K (.ref f)=true/\LoN K nm qn st f
theorem zmU {K:y3} {x:Str} {st:Stmt} {f:Addr} {oc:Value} {od an:Option Addr} {eY:Array (Option Value)} {kV doc pm bt ct:Value} (a:A8 K mainGlobals x=some (some (.ref f)))
  (l:K.lookup f=some ⟨oc,od,.func (BL x x (ZT st) (wF st) (zg st) .none kV doc pm an bt ct),eY⟩) (c:CN K bt x=true) (k:Bu K (.ref f)=true):FL K x st:=⟨f,a,_,zgn l c k⟩
theorem zmV {K:y3} {g:Addr} {x qn:Str} {st:Stmt} {f:Addr} {oc:Value} {od an:Option Addr} {eY:Array (Option Value)} {kV doc pm bt ct:Value} (a:A9 K (.ref g) x=some (some (.ref f))) (i:DG K (.ref f)=true)
  (l:K.lookup f=some ⟨oc,od,.func (BL x qn (ZT st) (wF st) (zg st) .none kV doc pm an bt ct),eY⟩) (c:CN K bt qn=true) (k:Bu K (.ref f)=true):ML K g x qn st:=⟨f,a,i,_,zgn l c k⟩
def BA (x qual:Str) (st:Stmt) (ps:List Str):Prop:=∀(kV doc pm:Value) (an:Option Addr) (bt ct:Value) (us:List Value),us.length=ps.length->bindArgs (BL x qual (ZT st) (wF st) (zg st) .none kV doc pm an bt ct) ⟨us,[]⟩=pure (ps.zip us)
noncomputable def FL.to {K:y3} {h:Heap} {mg:Str->Option Value} {x:Str} {st:Stmt} {ps:List Str} (H:FL K x st) (X:K.In h) (G:h.Ns mainGlobals mg) (B:BA x x st ps):Fi K mg x st ps:=
 ⟨H.choose,H.choose_spec.2.choose,H.choose_spec.2.choose_spec,Bj X G H.choose_spec.1,H.choose_spec.2.choose_spec.binds B⟩
noncomputable def ML.to {K:y3} {g:Addr} {x qn:Str} {st:Stmt} {ps:List Str} (H:ML K g x qn st) (B:BA x qn st ps):Mi K g x qn st ps:=
 ⟨H.choose,H.choose_spec.2.2.choose,H.choose_spec.2.2.choose_spec,H.choose_spec.2.2.choose_spec.binds B,⟨H.choose_spec.1,H.choose_spec.2.1,H.choose_spec.2.2.choose_spec.kp⟩⟩
theorem at0 {P:List Value->Prop} (h:P []):∀us:List Value,us.length=0->P us
 |[],_=>h
theorem at_ {P:List Value->Prop} {n:Nat} (h:∀(a:Value) (us:List Value),us.length=n->P (a::us)):∀us:List Value,us.length=n+1->P us
 |a::us,e=>h a us (Nat.succ.inj e)
theorem zlE {K:y3} {mg:Str->Option Value} {st:Stmt} {x:Str} {fa:Addr} (f:Fi K mg "law" st [x]) (hK:∀s:Shared,K.In s.heap->True) (h:mg "law"=some (.ref fa)):fa=f.a:=by
 have e:=h.symm.trans f.m
 injection e with e
 injection e
def zmW:TS:=λ_ _ _=>False
theorem Uc {X:Cx} {st:Stmt}:PS X st zmW:=λ_ _ _ _ _ _ h=>AF h
section
variable {P:Program} {w:World} {K:y3} {mg:Str->Option Value} {base:Heap}
theorem okS {x qual:Str} {st:Stmt} {f:Addr} {fd:FuncData} {N ps:List Str} {k n m:Nat} {b:TwS} (F:Fun K x qual st f fd) (S:zy N ps (zg st)) (hp:ps.length=n) (hN:N.length=n+m)
  (h:∀{bt:Value} {A:Around} {outer:List Env} {s:Shared} {H:Hp} {E:XK},xo k (A.deeper (envOfC qual (zg st) s.heap.objs.size f bt))->∃t,PSs (XA (CXE P w) P w K mg base N qual (zg st) f bt A outer s H E) (wF st) t/\RS K E t b):
  ZF P w K mg base (CXE P w) (k+1) f fd ps (sTw K n (yd n m b)):=
 F.okE S (λ_ _ _ _ h=>h.1.trans hp.symm) λ_ _ _ _ _ _ _ _ hr h'=>let ⟨t,a,r⟩:=h hr;⟨t,a,zkg hN r h'⟩
variable (P w) (base)
noncomputable abbrev Fi.Ok {nm:Str} {st:Stmt} {ps:List Str} (f:Fi K mg nm st ps) (r n:Nat) (tw:TwF):Prop:=ZF P w K mg base (CXE P w) r f.a f.fd ps (sTw K n tw)
variable (mg)
noncomputable abbrev Mi.Ok {g:Addr} {nm qn:Str} {st:Stmt} {ps:List Str} (f:Mi K g nm qn st ps) (r n:Nat) (tw:TwF):Prop:=ZF P w K mg base (CXE P w) r f.a f.fd ps (sTw K n tw)
end
section
variable {P:Program} {w:World} {K:y3} {mg:Str->Option Value} {base:Heap} {fu:Nat}
noncomputable def top (i:Nat):Stmt:=PySem.Challenge.pw_lots_k06_one_answer_known.main.body.getD i (.Pass ⟨0,0,0,0⟩)
abbrev vh:Stmt:=top 1
abbrev Yd:Stmt:=top 2
abbrev wN:Stmt:=top 3
abbrev vi:Stmt:=top 4
abbrev xm:Stmt:=top 5
abbrev vJ:Stmt:=zd8 (top 7) 0
abbrev vK:Stmt:=top 8
abbrev XT:Stmt:=top 9
abbrev vL:Stmt:=top 10
abbrev xM:Stmt:=top 11
abbrev yn:Stmt:=top 12
abbrev XU:Stmt:=top 19
abbrev Zu:Stmt:=top 20
abbrev Td:Stmt:=top 21
abbrev XV:Stmt:=top 22
abbrev xZ:Stmt:=zd8 (top 24) 0
abbrev vM:Stmt:=top 25
abbrev Zm:Stmt:=top 26
abbrev Zn:Stmt:=top 27
abbrev vY:Stmt:=top 28
abbrev WB:Stmt:=top 29
abbrev XW:Stmt:=top 30
abbrev Zg:Stmt:=top 32
abbrev YJ:Stmt:=top 35
abbrev YK:Stmt:=top 36
abbrev wO:Stmt:=top 40
abbrev YL:Stmt:=top 45
abbrev YM:Stmt:=top 46
abbrev Zv:Stmt:=top 47
abbrev vN:Stmt:=top 48
abbrev XX:Stmt:=top 49
abbrev xz:Stmt:=top 50
abbrev yQ:Stmt:=top 51
abbrev zaw:Stmt:=top 52
theorem zC:zy ["number","modulus","bound","before","rest","factor_before","factor","quotient","lower","farther"] ["number","modulus","bound"] (zg vh):=by walk_at "sc"
theorem XL:zy ["number","modulus","found"] ["number","modulus"] (zg Yd):=by walk_at "sc"
theorem Zh:zy ["number","modulus","bound","found"] ["number","modulus","bound"] (zg wN):=by walk_at "sc"
theorem Zo:zy ["number","modulus","rest"] ["number","modulus"] (zg vi):=by walk_at "sc"
theorem zK:zy ["numbers","modulus","bound","tops","bottom","number","top","found"] ["numbers","modulus","bound"] (zg xm):=by walk_at "sc"
theorem Vb:zy ["self","row","column","inverse","factors","parts"] ["self","row","column","inverse","factors","parts"] (zg vJ):=by walk_at "sc"
theorem yZ:zy ["rows","counts","row","column","number"] ["rows"] (zg vK):=by walk_at "sc"
theorem xN:zy ["entries","steps","modulus","factors","place","step","factor","column","number"] ["entries","steps","modulus"] (zg XT):=by walk_at "sc"
theorem xU:zy ["entries","modulus","left","column","number"] ["entries","modulus"] (zg vL):=by walk_at "sc"
theorem yz:zy ["rows","modulus","counts","steps","place","entries","factors","left","column","inverse","parts"] ["rows","modulus"] (zg xM):=by walk_at "sc"
theorem zF:zy ["steps","lasts","many","modulus","values","step","last","taken","numbers","value"] ["steps","lasts","many","modulus"] (zg yn):=by walk_at "sc"
theorem zcx:zy ["thing"] ["thing"] (zg XU):=by walk_at "sc"
theorem xa:zy ["one","other","rest"] ["one","other"] (zg Zu):=by walk_at "sc"
theorem Vc:zy ["top","bottom","part"] ["top","bottom"] (zg Td):=by walk_at "sc"
theorem zcy:zy ["top","bottom"] ["top","bottom"] (zg XV):=by walk_at "sc"
theorem YN:zy ["self","parts","last"] ["self","parts","last"] (zg xZ):=by walk_at "sc"
theorem xV:zy ["some","bottom","one"] ["some"] (zg vM):=by walk_at "sc"
theorem zbm:zy ["some","bottom"] ["some","bottom"] (zg Zm):=by walk_at "sc"
theorem Ye:zy ["row","tops","last"] ["row"] (zg Zn):=by walk_at "sc"
theorem TC:zy ["rows"] ["rows"] (zg vY):=by walk_at "sc"
theorem zfF:zy ["row","numbers"] ["row","numbers"] (zg WB):=by walk_at "sc"
theorem VD:zy ["rows","tops","bottom","row"] ["rows","tops","bottom"] (zg XW):=by walk_at "sc"
theorem xb:zy ["rows","steps","many","modulus","chosen","lasts","numbers","powers","look","digits","found"] ["rows","steps","many","modulus"] (zg Zg):=by walk_at "sc"
theorem wP:zy ["rows","many","modulus","answer"] ["rows","many"] (zg YJ):=by walk_at "sc"
theorem vZ:zy ["rows","many","modulus","whole","steps","xs"] ["rows","many","modulus"] (zg YK):=by walk_at "sc"
theorem Yq:zy ["whole","steps","many","modulus","found"] ["whole","steps","many","modulus"] (zg wO):=by walk_at "sc"
theorem Yf:zy ["_law_script","_law_k","_law_prime","_law_many","_law_cell_here"] ["_law_script","_law_k","_law_prime","_law_many"] (zg YL):=by walk_at "sc"
theorem zbn:zy ["_law_script","_law_k"] ["_law_script","_law_k"] (zg YM):=by walk_at "sc"
theorem wQ:zy ["_law_top","_law_bottom","_law_one","_law_other"] ["_law_top","_law_bottom"] (zg Zv):=by walk_at "sc"
theorem vj:zy ["_law_script","_law_k","_law_way","_law_bottom"] ["_law_script","_law_k"] (zg vN):=by walk_at "sc"
theorem xO:zy ["_law_row","_law_xs","_law_top","_law_bottom","_law_part","_law_x"] ["_law_row","_law_xs"] (zg XX):=by walk_at "sc"
theorem zS:zy ["_law_script","_law_many","_law_rows","_law_at","_law_row","_law_lead","_law_k"] ["_law_script","_law_many"] (zg xz):=by walk_at "sc"
theorem zT:zy ["_law_script","_law_rows","_law_size","_law_at","_law_other","_law_turn","_law_k","_law_one"] ["_law_script","_law_rows"] (zg yQ):=by walk_at "sc"
theorem wR:zy ["_law_script","_law_many","_law_xs","_law_step","_law_rows","_law_k","_law_whole","_law_part","_law_row","_law_cut","_law_handed","_law_found"] ["_law_script"] (zg zaw):=by walk_at "sc"
abbrev zdI:FX:=kwE (zmS (zmR xM 2))
def YO:xf:=⟨1,zhp zdI,zeB zdI,zkl zdI,⟨none,"steps_of","steps_of"⟩,["rows"]⟩
abbrev zdJ:FX:=kwE (znl (zmT (zmT (zmR xM 2) 3) 0))
def zax:xf:=⟨2,zhp zdJ,zeB zdJ,zkl zdJ,⟨none,"steps_of","steps_of"⟩,["counts"]⟩
noncomputable abbrev YQ:List XB:=[⟨none,"steps_of","steps_of"⟩]
set_option genInjectivity false in
set_option genSizeOf false in
structure Tx (K:y3) (mg:Str->Option Value) where
 ax:Fi K mg "small_multiple" vh ["number","modulus","bound"]
 bh:Fi K mg "inverse_of" Yd ["number","modulus"]
 aB:Fi K mg "quotient_behind" wN ["number","modulus","bound"]
 aF:Fi K mg "nearest_nought" vi ["number","modulus"]
 ay:Fi K mg "quotients_behind" xm ["numbers","modulus","bound"]
 aK:Fi K mg "column_counts" vK ["rows"]
 bH:Fi K mg "take_off" XT ["entries","steps","modulus"]
 aJ:Fi K mg "remainders_of" vL ["entries","modulus"]
 bo:Fi K mg "steps_of" xM ["rows","modulus"]
 au:Fi K mg "remainders_meeting" yn ["steps","lasts","many","modulus"]
 bp:Fi K mg "is_whole" XU ["thing"]
 aH:Fi K mg "common_part" Zu ["one","other"]
 c7:Fi K mg "lowest" Td ["top","bottom"]
 bI:Fi K mg "fraction" XV ["top","bottom"]
 aI:Fi K mg "shared_bottom" vM ["some"]
 bz:Fi K mg "tops_over" Zm ["some","bottom"]
 bx:Fi K mg "whole_row" Zn ["row"]
 bg:Fi K mg "whole_rows" vY ["rows"]
 bU:Fi K mg "sum_at" WB ["row","numbers"]
 bq:Fi K mg "all_meet" XW ["rows","tops","bottom"]
 c9:Fi K mg "lifted" Zg ["rows","steps","many","modulus"]
 aV:Fi K mg "answer_of" YJ ["rows","many"]
 aW:Fi K mg "answer_by" YK ["rows","many","modulus"]
 aP:Fi K mg "list_meeting" wO ["whole","steps","many","modulus"]
 af:Fi K mg "_law_draw" YL ["_law_script","_law_k","_law_prime","_law_many"]
 bA:Fi K mg "_law_cell" YM ["_law_script","_law_k"]
 av:Fi K mg "_law_lowest" Zv ["_law_top","_law_bottom"]
 aL:Fi K mg "_law_fraction" vN ["_law_script","_law_k"]
 bJ:Fi K mg "_law_sum" XX ["_law_row","_law_xs"]
 aD:Fi K mg "_law_first_rows" xz ["_law_script","_law_many"]
 aC:Fi K mg "_law_mixed_rows" yQ ["_law_script","_law_rows"]
 cR:Fi K mg "law" zaw ["_law_script"]
 cM:mg "abs"=none
 fD:mg "bool"=none
 fC:mg "dict"=none
 bw:mg "enumerate"=none
 gO:mg "int"=none
 bG:mg "isinstance"=none
 bL:mg "len"=none
 dY:mg "list"=none
 gM:mg "min"=none
 bu:mg "range"=none
 cL:mg "repr"=none
 cK:mg "reversed"=none
 dg:mg "sorted"=none
 eN:mg "sum"=none
 cu:mg "zip"=none
 ai:Addr
 dh:mg "LotsError"=some (.ref ai)
 bP:zgr K mg "LotsError" ai [.type "ValueError",.type "Exception",.type "BaseException",.type "object"] "ValueError.__new__"
 di:zea K ai
 bR:CM K (.ref ai)=some (.type "type")
 bC:AX K ai (.type "BaseException")=some true
 bQ:AX K ai (.type "ValueError")=some true
 aw:Addr
 dZ:mg "NoNumber"=some (.ref aw)
 bW:zgr K mg "NoNumber" aw [.type "ValueError",.type "Exception",.type "BaseException",.type "object"] "ValueError.__new__"
 eh:zea K aw
 bY:CM K (.ref aw)=some (.type "type")
 bK:AX K aw (.type "BaseException")=some true
 bX:AX K aw (.type "ValueError")=some true
 aQ:Addr
 fE:mg "Step"=some (.ref aQ)
 cZ:Cls K aQ
 cD:A8 K mainGlobals "Step"=some (some (.ref aQ))
 bj:wm K aQ "row"
 aS:wm K aQ "column"
 aM:wm K aQ "inverse"
 aN:wm K aQ "factors"
 aZ:wm K aQ "parts"
 aA:Mi K aQ "__init__" "Step.__init__" vJ ["self","row","column","inverse","factors","parts"]
 eO:Mk K aQ aA.a
 aq:Addr
 cN:mg "WholeRow"=some (.ref aq)
 aX:Cls K aq
 aU:A8 K mainGlobals "WholeRow"=some (some (.ref aq))
 aj:wm K aq "parts"
 az:wm K aq "last"
 ah:Mi K aq "__init__" "WholeRow.__init__" xZ ["self","parts","last"]
 cw:Mk K aq ah.a
 cH:(XC K ⟨none,"steps_of","steps_of"⟩).isSome=true
 cq:A8 K mainGlobals "steps_of"=some (some (.ref bo.a))
 bV:Addr
 fF:mg "NOUGHT"=some (.ref bV)
 fW:∀H,SqT K H bV [.int 0,.int 1]
 dI:Addr
 jM:mg "ONE"=some (.ref dI)
 kM:∀H,SqT K H dI [.int 1,.int 1]
 bM:∃t,mg "FIRST_MODULUS"=some (.int 1000000000000000000000000000000000000000000009 t)
local macro_rules | `(tactic| walk_at "q1") => `(tactic| first | exact .inl rfl | exact .inr rfl | assumption)
local macro_rules | `(tactic| walk_at "q2") => `(tactic| ((try simp only [Nat.add_eq]); omega))
local macro_rules | `(tactic| walk_at "q3") => `(tactic| first | with_reducible exact zaX | with_reducible exact zgA | with_reducible exact ziN | with_reducible exact zbZ | with_reducible exact ziM | with_reducible exact zaW | with_reducible exact zgz | with_reducible exact zc9)
local macro_rules | `($f \ ($o,$h,$p,$x)) => `(ziB $o $h rfl ($f).m ($f).F.kp ($f).b .nil $p $x) | `($a \ $b) => `(@wg _ _ _ _ _ $a $b (by walk_at "q3"))
local macro_rules | `($a <|> $b) => `(@zfU _ _ _ _ _ $a $b)
local macro_rules | `(¬$a) => `(@ziu _ _ _ $a)
local macro_rules | `(!$a) => `(@zkI _ _ _ _ $a)
local macro_rules | `(~~~$a) => `(@zkS _ _ _ _ _ $a)
local macro_rules | `($r % ($a,$b)) => `(@zmm _ _ _ _ _ _ _ $r $a $b fun _ _ => rfl)
local macro_rules | `(tactic| walk_at "re") => `(tactic| repeat first | with_reducible apply zo | with_reducible apply zA | with_reducible apply xp | with_reducible apply wu | with_reducible apply yc | with_reducible apply yI | with_reducible apply yA | with_reducible apply wI | with_reducible apply Xo | with_reducible apply za3 | with_reducible apply zb0 | with_reducible apply Zd | with_reducible apply zgG | with_reducible apply UL | with_reducible apply zb3 | with_reducible apply Wq | with_reducible apply Wr | with_reducible apply zai | with_reducible apply zdg | with_reducible apply zgN | with_reducible apply VU | with_reducible apply Xm | with_reducible apply za1 | with_reducible apply VT | with_reducible apply Xl | with_reducible apply zdd | with_reducible apply za8 | with_reducible apply zgQ | with_reducible apply za2 | with_reducible apply zb2 | with_reducible apply Xk | with_reducible apply Xt | with_reducible apply ZZ | with_reducible apply UM | with_reducible apply zlc | with_reducible apply zaZ | with_reducible apply zeu | with_reducible apply zld | with_reducible apply UP | with_reducible apply zgS | with_reducible apply zgE | with_reducible apply ve | with_reducible apply zfh | with_reducible apply zb4 | with_reducible apply zec | with_reducible apply UN | with_reducible apply zdf | with_reducible apply zgF | with_reducible apply zdk | with_reducible apply zgM | with_reducible apply zla | with_reducible apply ziT | with_reducible apply zmD | with_reducible apply zco | with_reducible apply zmC | with_reducible apply zmB | with_reducible apply zi4 | with_reducible apply ziY | with_reducible apply zgT | with_reducible apply zk7 | with_reducible apply zke | with_reducible apply zk5 | with_reducible apply zgP | with_reducible apply zeg | with_reducible apply zmH | with_reducible apply zi1 | with_reducible apply zgX | with_reducible apply zgL | with_reducible apply zle | with_reducible apply ziR | with_reducible apply zhv | with_reducible apply UX | with_reducible apply zbh | with_reducible apply ziZ | with_reducible apply zhL | with_reducible apply zk8 | with_reducible apply zej | with_reducible apply zk9 | with_reducible apply zb9 | with_reducible apply zgI | with_reducible apply zgK | with_reducible apply zcm | with_reducible apply zlb | with_reducible apply zfi | with_reducible apply zeh | with_reducible apply zgV | with_reducible apply zhe | with_reducible apply zgU | exact rfl | exact (‹Tx _ _›).cZ | exact (‹Tx _ _›).aX | exact (‹Tx _ _›).aS | exact (‹Tx _ _›).aN | exact (‹Tx _ _›).aM | exact (‹Tx _ _›).aZ | exact (‹Tx _ _›).bj | exact (‹Tx _ _›).az | exact (‹Tx _ _›).aj | exact (‹Tx _ _›).cD | exact (‹Tx _ _›).aU | exact Nat.le_of_ble_eq_true rfl | exact zgG | exact UL | exact Wr | exact zdg | exact za8 | exact Xk | exact ZZ | exact UM | exact UP | exact zgS | exact UN | exact zdf | exact zco | exact zgT | exact zgP | exact zeg | exact zbh | exact zej | exact zb9 | exact zgK | exact zeh | exact zgV | exact zhe | exact zgU | apply zb2 | apply Xt | apply zeu | apply UX | apply zgI | apply zcm)
local macro_rules | `($s ^^^ ($i,$o,$e)) => `(@zkN _ _ $i _ _ _ _ ($s).nd rfl $o $e (by rfl) (by walk_at "q1"))
def wS (fu:Nat):TwS:=(zl (zr (za 1) (gN 3)) (zl (zr (eOp wX (za 0) (za 1)) (gN 4)) (zl (zr (eC (.int 0)) (gN 5)) (zl (zr (eC (.int 1)) (gN 6)) (zl (sWh fu (bE (eOp dGt (za 4) (za 2))) (zl (zr (eOp wK (za 3) (za 4)) (gN 7)) (zl (zr (eOp Ya (za 3) (eOp yk (za 7) (za 4))) (gN 8)) (zl (zr (za 4) (gN 3)) (zl (zr (za 8) (gN 4)) (zl (zr (eOp Ya (za 5) (eOp yk (za 7) (za 6))) (gN 9)) (zl (zr (za 6) (gN 5)) (zr (za 9) (gN 6))))))))) (yB (ZK [(za 4),(za 6)])))))))
def xA (fu:Nat):TwF:=yd 3 7 (wS fu)
theorem Zp (T:Tx K mg):T.ax.Ok P w base 1 3 (xA fu):=
 okS T.ax.F zC rfl rfl (λhr=>⟨_,((zC^^^(3,z7 rfl,pv 1))<|>(zC^^^(4,z7 rfl,zk yV (pv 0) (pv 1)))<|>(zC^^^(5,z7 rfl,zf))<|>(zC^^^(6,z7 rfl,zf))<|>Yu PassesOwn.leaving (zV (Yt (pv 4) (pv 2))) ((zC^^^(7,z7 rfl,zk vB (pv 3) (pv 4)))<|>(zC^^^(8,z7 rfl,zk vG (pv 3) (zk zY (pv 7) (pv 4))))<|>(zC^^^(3,z7 rfl,pv 4))<|>(zC^^^(4,z7 rfl,pv 8))<|>(zC^^^(9,z7 rfl,zk vG (pv 5) (zk zY (pv 7) (pv 6))))<|>(zC^^^(5,z7 rfl,pv 6))<|>¬(zC^^^(6,z7 rfl,pv 9)))<|>¬(!(~~~(pv 4\(pv 6\ze))))),(by unfold wS;walk_at "re")⟩)
def Zw (fu:Nat):TwS:=(zl (zr (zH (xA fu) [(za 0),(za 1),(eC (.int 1))]) (gN 2)) (yB (eIf (bE (eOp za6 (eOp xY (za 2) (eC (.int 0))) (eC (.int 1)))) (eOp wX (eOp xY (za 2) (eC (.int 1))) (za 1)) (eC .non))))
def Zx (fu:Nat):TwF:=yd 2 1 (Zw fu)
theorem TD (T:Tx K mg):T.bh.Ok P w base 2 2 (Zx fu):=
 okS T.bh.F XL rfl rfl (λhr=>⟨_,((XL^^^(2,z7 rfl,T.ax\(Zp (fu:=fu) T,hr.mono ∅,zP,pv 0\(pv 1\(zf\ze)))))<|>¬(!Up (zV (XM (zW (K:=K)%(pv 2,zf)) zf)) (zk yV (zW (K:=K)%(pv 2,zf)) (pv 1)) WQ)),(by unfold Zw;walk_at "re")⟩)
def wv (fu:Nat):TwS:=(zl (zr (zH (xA fu) [(za 0),(za 1),(za 2)]) (gN 3)) (zl (sIf (bE (eOp dGt (eFn za9 [(eOp xY (za 3) (eC (.int 1)))]) (za 2))) (yB (eC .non)) yt) (yB (eIf (bE (eOp dGt (eOp xY (za 3) (eC (.int 1))) (eC (.int 0)))) (za 3) (ZK [(eUn WY (eOp xY (za 3) (eC (.int 0)))),(eUn WY (eOp xY (za 3) (eC (.int 1))))])))))
def ww (fu:Nat):TwF:=yd 3 1 (wv fu)
theorem XY (T:Tx K mg):T.aB.Ok P w base 2 3 (ww fu):=
 okS T.aB.F Zh rfl rfl (λhr=>⟨_,((Zh^^^(3,z7 rfl,T.ax\(Zp (fu:=fu) T,hr.mono ∅,zP,pv 0\(pv 1\(pv 2\ze)))))<|>yU (zV (Yt (zM ZE rfl T.cM boot_abs ((zW (K:=K)%(pv 3,zf))\ze)) (pv 2))) (¬(!WQ)) zU<|>¬(!Up (zV (Yt (zW (K:=K)%(pv 3,zf)) zf)) (pv 3) (~~~(Ur XO (zW (K:=K)%(pv 3,zf))\(Ur XO (zW (K:=K)%(pv 3,zf))\ze))))),(by unfold wv;walk_at "re")⟩)
def wT (fu:Nat):TwS:=(zl (zr (eOp wX (za 0) (za 1)) (gN 2)) (yB (eIf (bE (eOp dLt (eOp UJ (eC (.int 2)) (za 2)) (za 1))) (za 2) (eOp Ya (za 2) (za 1)))))
def wU (fu:Nat):TwF:=yd 2 1 (wT fu)
theorem WC (T:Tx K mg):T.aF.Ok P w base 1 2 (wU fu):=
 okS T.aF.F Zo rfl rfl (λhr=>⟨_,((Zo^^^(2,z7 rfl,zk yV (pv 0) (pv 1)))<|>¬(!Up (zV (zjU (zk Us zf (pv 2)) (pv 1))) (pv 2) (zk vG (pv 2) (pv 1)))),(by unfold wT;walk_at "re")⟩)
def wa (fu:Nat):TwS:=(zl (zr (VP []) (gN 3)) (zl (zr (eC (.int 1)) (gN 4)) (zl (ZL (iL (za 0)) (gN 5) (zl (zr (zH (wU fu) [(eOp yk (za 5) (za 4)),(za 1)]) (gN 6)) (zl (sIf (bE (eOp dGt (eFn za9 [(za 6)]) (za 2))) (zl (zr (zH (ww fu) [(za 6),(za 1),(za 2)]) (gN 7)) (zl (sIf (bOr (bE (eUn zdc (za 7))) (bE (eOp dGt (eOp yk (za 4) (eOp xY (za 7) (eC (.int 1)))) (za 2)))) (yB (eC .non)) yt) (zl (zr (xy [none,some 7] (iL (za 3)) (gN 0) xH (eOp yk (za 0) (eOp xY (za 1) (eC (.int 1))))) (gN 3)) (zl (zr (eOp yk (za 4) (eOp xY (za 7) (eC (.int 1)))) (gN 4)) (zr (eOp xY (za 7) (eC (.int 0))) (gN 6)))))) yt) (vR (eMt yw (za 3) [(za 6)]))))) (yB (ZK [(za 3),(za 4)])))))
def yT (fu:Nat):TwF:=yd 3 5 (wa fu)
theorem XF (T:Tx K mg):T.ay.Ok P w base 3 3 (yT fu):=
 okS T.ay.F zK rfl rfl (λhr=>⟨_,((zK^^^(3,z7 rfl,@Zr _ _ _ _ ze))<|>(zK^^^(4,z7 rfl,zf))<|>xD PassesOwn.leaving rfl (yg (K:=K) (pv 0)) (zq (i:=5) zK.nd rfl (z7 rfl)) ((zK^^^(6,z7 rfl,T.aF\(WC (fu:=fu) T,hr.mono ∅,zP,zk zY (pv 5) (pv 4)\(pv 1\ze))))<|>yU (zV (Yt (zM ZE rfl T.cM boot_abs (pv 6\ze)) (pv 2))) ((zK^^^(7,Cu rfl,T.aB\(XY (fu:=fu) T,hr.mono ∅,zP,pv 6\(pv 1\(pv 2\ze)))))<|>yU (PW.pt (zfT (zV (Um (pv 7))) (zcS (zV (Yt (zk zY (pv 4) (zW (K:=K)%(pv 7,zf))) (pv 2)))))) (¬(!WQ)) zU<|>yS (i:=3) (N':=["one","found"]) rfl (blk (osc:=zg xm) rfl (by decide+kernel)) (zQ (xi (i:=7) rfl rfl yv)) (yg (K:=K) (pv 3)) (zx rfl) (λC s₀ H₀ fp=>zq (i:=0) (show (["one","found"]:List Str).Nodup from by decide+kernel) rfl (z7 rfl)) (λC s₀ H₀ fp=>yE) (λC s₀ H₀ fp=>(zk zY (pv 0) (zW (K:=K)%(pv 1,zf)))) zK.nd rfl rfl<|>(zK^^^(4,z7 rfl,zk zY (pv 4) (zW (K:=K)%(pv 7,zf))))<|>¬(zK^^^(6,z7 rfl,zW (K:=K)%(pv 7,zf)))) zU<|>¬wE (Yx Ap Aw Ax yJ (pv 3) (pv 6\ze)))<|>¬(!(~~~(pv 3\(pv 4\ze))))),(by unfold wa;walk_at "re")⟩)
def vk (fu:Nat):TwS:=(zl (Ww "Step" "row" (za 0) (za 1)) (zl (Ww "Step" "column" (za 0) (za 2)) (zl (Ww "Step" "inverse" (za 0) (za 3)) (zl (Ww "Step" "factors" (za 0) (za 4)) (Ww "Step" "parts" (za 0) (za 5))))))
def vm (fu:Nat):TwF:=yd 6 0 (vk fu)
theorem Vd (T:Tx K mg):T.aA.Ok P w mg base 1 6 (vm fu):=
 okS T.aA.F Vb rfl rfl (λhr=>⟨_,(XQ (pv 0) (pv 1) rfl<|>XQ (pv 0) (pv 2) rfl<|>XQ (pv 0) (pv 3) rfl<|>XQ (pv 0) (pv 4) rfl<|>¬XQ (pv 0) (pv 5) rfl),(by unfold vk;walk_at "re")⟩)
def vo (fu:Nat):TwS:=(zl (zr zbb (gN 1)) (zl (ZL (iL (za 0)) (gN 2) (ZL (iL (vT "WholeRow" "parts" (za 2))) (gT 2 (zJ (gN 3) (zJ (gN 4) xG))) (WZ (za 1) (za 3) (eOp xB (US (za 1) (za 3) (eC (.int 0))) (eC (.int 1)))))) (yB (za 1))))
def vp (fu:Nat):TwF:=yd 1 4 (vo fu)
theorem Ve (T:Tx K mg):T.aK.Ok P w base 1 1 (vp fu):=
 okS T.aK.F yZ rfl rfl (λhr=>⟨_,((yZ^^^(1,z7 rfl,zbQ))<|>xD PassesOwn.leaving rfl (yg (K:=K) (pv 0)) (zq (i:=2) yZ.nd rfl (z7 rfl)) (¬xD PassesOwn.leaving rfl (yg (K:=K) (vc (pv 2) rfl)) (yM (K:=K) (n:=2) rfl (zu (zq (i:=3) yZ.nd rfl (z7 rfl)) (zu (zq (i:=4) yZ.nd rfl (z7 rfl)) yL))) (¬zaO (zad hr) (pv 1) (pv 3) (zk yi (zbR (zad hr) (pv 1) (pv 3) zf ⟨rfl,rfl,rfl,rfl⟩) zf) rfl))<|>¬(!pv 1)),(by unfold vo;walk_at "re")⟩)
def YR (fu:Nat):TwS:=(zl (zr (VP []) (gN 3)) (zl (ZL (iEn (za 1)) (gT 2 (zJ (gN 4) (zJ (gN 5) xG))) (zl (zr (eOp wX (zdw (za 0) (vT "Step" "column" (za 5)) (eC (.int 0))) (za 2)) (gN 6)) (sIf (bE (eOp UK (za 6) (eC (.int 0)))) (zl (vR (eMt yw (za 3) [(ZK [(za 4),(za 6)])])) (ZL (iL (vT "Step" "parts" (za 5))) (gT 2 (zJ (gN 7) (zJ (gN 8) xG))) (WZ (za 0) (za 7) (eOp Ya (US (za 0) (za 7) (eC (.int 0))) (eOp yk (za 6) (za 8)))))) yt))) (yB (za 3))))
def YS (fu:Nat):TwF:=yd 3 6 (YR fu)
theorem zcz (T:Tx K mg):T.bH.Ok P w base 1 3 (YS fu):=
 okS T.bH.F xN rfl rfl (λhr=>⟨_,((xN^^^(3,z7 rfl,@Zr _ _ _ _ ze))<|>xD PassesOwn.leaving rfl (zaU (K:=K) rfl T.bw (pv 1\ze)) (yM (K:=K) (n:=2) rfl (zu (zq (i:=4) xN.nd rfl (z7 rfl)) (zu (zq (i:=5) xN.nd rfl (z7 rfl)) yL))) ((xN^^^(6,z7 rfl,zk yV (zgm (pv 0) (vc (pv 5) rfl) zf ⟨rfl,rfl,rfl,rfl⟩) (pv 2)))<|>¬yU (zV (XN (pv 6) zf)) (wE (Yx Ap Aw Ax yJ (pv 3) ((~~~(pv 4\(pv 6\ze)))\ze))<|>¬xD PassesOwn.leaving rfl (yg (K:=K) (vc (pv 5) rfl)) (yM (K:=K) (n:=2) rfl (zu (zq (i:=7) xN.nd rfl (z7 rfl)) (zu (zq (i:=8) xN.nd rfl (z7 rfl)) yL))) (¬zaO (zad hr) (pv 0) (pv 7) (zk vG (zbR (zad hr) (pv 0) (pv 7) zf ⟨rfl,rfl,rfl,rfl⟩) (zk zY (pv 6) (pv 8))) rfl)) zU)<|>¬(!pv 3)),(by unfold YR;walk_at "re")⟩)
def vq (fu:Nat):TwS:=(zl (zr zbb (gN 2)) (zl (ZL (iIt (za 0)) (gT 2 (zJ (gN 3) (zJ (gN 4) xG))) (sIf (bE (eOp UK (eOp wX (za 4) (za 1)) (eC (.int 0)))) (WZ (za 2) (za 3) (eOp wX (za 4) (za 1))) yt)) (yB (za 2))))
def vt (fu:Nat):TwF:=yd 2 3 (vq fu)
theorem Vf (T:Tx K mg):T.aJ.Ok P w base 1 2 (vt fu):=
 okS T.aJ.F xU rfl rfl (λhr=>⟨_,((xU^^^(2,z7 rfl,zbQ))<|>xD PassesOwn.leaving rfl (zci (zc3 BG CQ DX zch (pv 0))) (yM (K:=K) (n:=2) rfl (zu (zq (i:=3) xU.nd rfl (z7 rfl)) (zu (zq (i:=4) xU.nd rfl (z7 rfl)) yL))) (¬yU (zV (XN (zk yV (pv 4) (pv 1)) zf)) (¬zaO (zad hr) (pv 2) (pv 3) (zk yV (pv 4) (pv 1)) rfl) zU)<|>¬(!pv 2)),(by unfold vq;walk_at "re")⟩)
def zmX (fu:Nat):TwE:=(eFn XS [(vT "WholeRow" "parts" (eOp vH (za 1) (za 0)))])
def zcA (fu:Nat):List Xv->TwF:=zfu 1 1 (zmX fu)
theorem zmY (T:Tx K mg):YF P w K mg base 1 YO (zcA fu):=
 zhn (ps:=["k"]) ⟨rfl,rfl,rfl, *...*, *...*, *...*, *...*⟩ rfl rfl (λ_ _ _ _=>at_ λ_=>at0 rfl) (λaG f c A outer s H hr=>⟨_,(zM (xt (K:=K)) rfl T.bL boot_len (vc (yq (K:=K)%(pv 1,pv 0)) rfl\ze)),(zai UP (zA (Xt T.aU T.aX T.aj (xp ZZ (zo 1) (zo 0))) yA))⟩)
def zmZ (fu:Nat):TwE:=(ZK [(zek (za 1) (za 0)),(za 0)])
def zay (fu:Nat):List Xv->TwF:=zfu 1 1 (zmZ fu)
theorem zm0 (T:Tx K mg):YF P w K mg base 1 zax (zay fu):=
 zhn (ps:=["k"]) ⟨rfl,rfl,rfl, *...*, *...*, *...*, *...*⟩ rfl rfl (λ_ _ _ _=>at_ λ_=>at0 rfl) (λaG f c A outer s H hr=>⟨_,(~~~(ziI (zad hr) (pv 1) (pv 0) (λ_ _=>rfl)\(pv 0\ze))),(zdd (zA (zi2 (zo 1) (zo 0)) (zA (zo 0) yA)))⟩)
def YT (fu:Nat):TwS:=(zl (zr (zH (vp fu) [(za 0)]) (gN 2)) (zl (zr (VP []) (gN 3)) (zl (ZL (iL (zbk [(YO,zcA fu)] (eFn XS [(za 0)]) (zft YO 1 [0]))) (gN 4) (zl (zr (eFn zbj [(vT "WholeRow" "parts" (eOp vH (za 0) (za 4)))]) (gN 5)) (zl (zr (UH (YS fu) [(za 5),(za 3),(za 1)]) (gN 6)) (zl (zr (UH (vt fu) [(za 5),(za 1)]) (gN 7)) (sIf (bE (eOp dGt (eFn zcb [(za 7)]) (eC (.int 0)))) (zl (zr (zhG [(zax,zay fu)] (za 7) (zft zax 1 [2])) (gN 8)) (zl (zr (UH (Zx fu) [(zdv (za 7) (za 8)),(za 1)]) (gN 9)) (zl (sIf (bE (eUn zdc (za 9))) (yB (eC .non)) yt) (zl (zr (xy [none,none,some 1,some 9] (iIt (za 7)) (gT 2 (zJ (gN 0) (zJ (gN 1) xG))) xH (ZK [(za 0),(eOp wX (eOp yk (za 1) (za 3)) (za 2))])) (gN 10)) (vR (eMt yw (za 3) [(UY "Step" (vm fu) [(za 4),(za 8),(za 9),(za 6),(za 10)])])))))) yt))))) (yB (za 3)))))
def YU (fu:Nat):TwF:=yd 2 9 (YT fu)
theorem zcB (T:Tx K mg):T.bo.Ok P w base 3 2 (YU fu):=by
 obtain⟨zc,zp,hz,hk⟩:=zht T.cq T.cH
 exact T.bo.F.okZ2 (fz:=["rows","counts"]) hz yz (λvs H Q E h=>h.1) (λA outer s H vs Q E hr h=>⟨_,(zct (yz^^^(2,Cu rfl,T.aK\(Ve (fu:=fu) T,hr.mono ∅,zP,pv 0\ze))) (zct (yz^^^(3,z7 rfl,@Zr _ _ _ _ ze)) (zlC (xD PassesOwn.leaving rfl (yg (K:=K) (zfy (k:=1) (zez (fns:=[(YO,zcA fu)]) (zas (zmY (fu:=fu) T) ∅ zcs)) (hr.mono ∅) rfl rfl T.dg rfl T.bu (zM (xt (K:=K)) rfl T.bL boot_len (pv 0\ze)) (zeD (L:=YO) (is:=[0]) (zeC (osc:=zg xM) (N:=["rows","modulus","counts","steps","place","entries","factors","left","column","inverse","parts"]) (fz:=["rows","counts"]) rfl rfl rfl rfl (by decide+kernel)) rfl rfl (Wz hz).1))) (zq (i:=4) yz.nd rfl (z7 rfl)) ((yz^^^(5,z7 rfl,TW (zdA rfl) rfl T.fC PyProof.Rows.Boot.«dict» (vc (yq (K:=K)%(pv 0,pv 4)) rfl\ze)))<|>(yz^^^(6,z7 rfl,T.bH\(zcz (fu:=fu) T,hr.mono ∅,Wl,pv 5\(pv 3\(pv 1\ze)))))<|>(yz^^^(7,z7 rfl,T.aJ\(Vf (fu:=fu) T,hr.mono ∅,Wl,pv 5\(pv 1\ze))))<|>¬yU (zV (Yt (zM zfb rfl T.bL boot_len (pv 7\ze)) zf)) ((yz^^^(8,z7 rfl,zjn (K:=K) (k:=1) (zez (fns:=[(zax,zay fu)]) (zas (zm0 (fu:=fu) T) ∅ zcs)) (hr.mono ∅) rfl rfl T.gM (pv 7) (zeD (L:=zax) (is:=[2]) (zeC (osc:=zg xM) (N:=["rows","modulus","counts","steps","place","entries","factors","left","column","inverse","parts"]) (fz:=["rows","counts"]) rfl rfl rfl rfl (by decide+kernel)) rfl rfl (Wz hz).1)))<|>(yz^^^(9,Cu rfl,T.bh\(TD (fu:=fu) T,hr.mono ∅,Wl,zgl (pv 7) (pv 8) ⟨rfl,rfl,rfl,rfl⟩\(pv 1\ze))))<|>yU (zV (Um (pv 9))) (¬(!WQ)) zU<|>yS (i:=10) (N':=["k","number","modulus","inverse"]) rfl (blk (osc:=zg xM) rfl (by decide+kernel)) (zQ (zQ (xi (i:=1) rfl rfl (xi (i:=9) rfl rfl yv)))) (zci (zc3 BG CQ DX zch (pv 7))) (wH (zN (zx rfl) (zN (zx rfl) xS zO) zO)) (λC s₀ H₀ fp=>yM (K:=K) (n:=2) rfl (zu (zq (i:=0) (show (["k","number","modulus","inverse"]:List Str).Nodup from by decide+kernel) rfl (z7 rfl)) (zu (zq (i:=1) (show (["k","number","modulus","inverse"]:List Str).Nodup from by decide+kernel) rfl (z7 rfl)) yL))) (λC s₀ H₀ fp=>yE) (λC s₀ H₀ fp=>(~~~(pv 0\(zk yV (zk zY (pv 1) (pv 3)) (pv 2)\ze)))) yz.nd rfl rfl<|>¬wE (Yx Ap Aw Ax yJ (pv 3) (zd2 T.eO (Vd (fu:=fu) T) (hr.mono ∅) rfl T.fE T.aA.b .nil Wl (pv 4\(pv 8\(pv 9\(pv 6\(pv 10\ze)))))\ze))) zU)<|>¬(!pv 3))))),zkg (n:=2) (k:=9) (b:=YT fu) rfl (yI (wI (Xo (zA (zo 0) yA)) yc) (yI (wI (zaZ yA) yc) (yI (zgN (VU (zfz (zai UP (zA (zo 0) yA)) (zhm hk))) yc (yI (wI (zai zhA (zA (Xt T.aU T.aX T.aj (xp ZZ (zo 0) (zo 4))) yA)) yc) (yI (wI (UI (zA (zo 5) (zA (zo 3) (zA (zo 1) yA)))) yc) (yI (wI (UI (zA (zo 5) (zA (zo 1) yA))) yc) (zb3 (zb0 (zgQ (zai zi5 (zA (zo 7) yA)) (wu _))) (yI (wI (zjo (zo 7) (zhm hk)) yc) (yI (wI (UI (zA (zhu (zo 7) (zo 8)) (zA (zo 1) yA))) yc) (yI (zb3 (zb0 (zgF (zo 9))) (za3 zgE) Wq) (yI (ve (Xm (cap:=[none,none,some 1,some 9]) (UX (zo 7)) (za1 (Zd yc (Zd yc VT))) Xl (zdd (zA (zo 0) (zA (xp zdg (xp Wr (zo 1) (zo 3)) (zo 2)) yA))))) (za2 (zb2 Xk (zo 3) (zA (zfE T.cD (zA (zo 4) (zA (zo 8) (zA (zo 9) (zA (zo 6) (zA (zo 10) yA)))))) yA))))))) Wq))))) (za3 (zo 3))))) h⟩)
def xw (fu:Nat):TwS:=(zl (zr (VP []) (gN 4)) (zl (ZL (Tu (za 0) (za 1)) (gT 2 (zJ (gN 5) (zJ (gN 6) xG))) (zl (zr (eFn zb7 [(xy [none,none,some 4] (iL (vT "Step" "factors" (za 5))) (gT 2 (zJ (gN 0) (zJ (gN 1) xG))) xH (eOp yk (za 1) (eOp vH (za 2) (za 0))))]) (gN 7)) (vR (eMt yw (za 4) [(eOp wX (eOp yk (eOp Ya (eOp wX (za 6) (za 3)) (za 7)) (vT "Step" "inverse" (za 5))) (za 3))])))) (zl (zr (eOp zav (VP [(eC (.int 0))]) (za 2)) (gN 8)) (zl (ZL (iRv (zdH [(za 0),(za 4)])) (gT 2 (zJ (gN 5) (zJ (gN 9) xG))) (zl (zr (eFn zb7 [(xy [none,none,some 8] (iL (vT "Step" "parts" (za 5))) (gT 2 (zJ (gN 0) (zJ (gN 1) xG))) xH (eOp yk (za 1) (eOp vH (za 2) (za 0))))]) (gN 7)) (zr (eOp wX (eOp Ya (za 9) (za 7)) (za 3)) (za0 (za 8) (vT "Step" "column" (za 5)))))) (yB (za 8))))))
def yF (fu:Nat):TwF:=yd 4 6 (xw fu)
theorem Ys (T:Tx K mg):T.au.Ok P w base 1 4 (yF fu):=
 okS T.au.F zF rfl rfl (λhr=>⟨_,((zF^^^(4,Cu rfl,@Zr _ _ _ _ ze))<|>xD PassesOwn.leaving rfl (Xj (K:=K) rfl T.cu (pv 0\(pv 1\ze))) (yM (K:=K) (n:=2) rfl (zu (zq (i:=5) zF.nd rfl (z7 rfl)) (zu (zq (i:=6) zF.nd rfl (z7 rfl)) yL))) ((zF^^^(7,z7 rfl,zM (WX (K:=K) rfl) rfl T.eN PyProof.Rows.Boot.«sum» (wg (vW (N':=["place","factor","values"]) rfl (blk (osc:=zg yn) rfl (by decide+kernel)) (zQ (zQ (xi (i:=4) rfl rfl yv))) (yg (K:=K) (vc (pv 5) rfl)) (wH (zN (zx rfl) (zN (zx rfl) xS zO) zO)) (λC s₀ H₀ fp=>yM (K:=K) (n:=2) rfl (zu (zq (i:=0) (show (["place","factor","values"]:List Str).Nodup from by decide+kernel) rfl (z7 rfl)) (zu (zq (i:=1) (show (["place","factor","values"]:List Str).Nodup from by decide+kernel) rfl (z7 rfl)) yL))) (λC s₀ H₀ fp=>yE) (λC s₀ H₀ fp=>(zk zY (pv 1) (yq (K:=K)%(pv 2,pv 0))))) ze)))<|>¬wE (Yx Ap Aw Ax yJ (pv 4) (zk yV (zk zY (zk vG (zk yV (pv 6) (pv 3)) (pv 7)) (vc (pv 5) rfl)) (pv 3)\ze)))<|>(zF^^^(8,Cu rfl,zk (zeb (K:=K)) (@Zr _ _ _ _ (zf\ze)) (pv 2)))<|>xD PassesOwn.leaving rfl (zk2 (K:=K) rfl T.cK (zhK (K:=K) rfl rfl T.dY rfl T.cu (pv 0\(pv 4\ze))\ze)) (yM (K:=K) (n:=2) rfl (zu (zq (i:=5) zF.nd rfl (z7 rfl)) (zu (zq (i:=9) zF.nd rfl (z7 rfl)) yL))) ((zF^^^(7,z7 rfl,zM (WX (K:=K) rfl) rfl T.eN PyProof.Rows.Boot.«sum» (wg (vW (N':=["column","number","numbers"]) rfl (blk (osc:=zg yn) rfl (by decide+kernel)) (zQ (zQ (xi (i:=8) rfl rfl yv))) (yg (K:=K) (vc (pv 5) rfl)) (wH (zN (zx rfl) (zN (zx rfl) xS zO) zO)) (λC s₀ H₀ fp=>yM (K:=K) (n:=2) rfl (zu (zq (i:=0) (show (["column","number","numbers"]:List Str).Nodup from by decide+kernel) rfl (z7 rfl)) (zu (zq (i:=1) (show (["column","number","numbers"]:List Str).Nodup from by decide+kernel) rfl (z7 rfl)) yL))) (λC s₀ H₀ fp=>yE) (λC s₀ H₀ fp=>(zk zY (pv 1) (yq (K:=K)%(pv 2,pv 0))))) ze)))<|>¬zfX (zk yV (zk vG (pv 9) (pv 7)) (pv 3)) (zfW (pv 8) (vc (pv 5) rfl) zbM))<|>¬(!pv 8)),(by unfold xw;walk_at "re")⟩)
def YV (fu:Nat):TwS:=(yB (zk4 (eUn (zfn "int") (za 0)) (eB (zdb (bE (eUn (zfn "bool") (za 0)))))))
def Zq (fu:Nat):TwF:=yd 1 0 (YV fu)
theorem VE (T:Tx K mg):T.bp.Ok P w base 1 1 (Zq fu):=
 okS T.bp.F zcx rfl rfl (λhr=>⟨_,(¬(!zkF (zM (zag (K:=K)) rfl T.bG boot_isinstance (wg (pv 0) (wg (zdV (v:= .ty "int") rfl T.gO boot_int rfl) ze))) (zkE (zkG (zM (zag (K:=K)) rfl T.bG boot_isinstance (wg (pv 0) (wg (zdV (v:= .ty "bool") rfl T.fD boot_bool rfl) ze))))))),(by unfold YV;walk_at "re")⟩)
def Zi (fu:Nat):TwS:=(zl (zr (eFn za9 [(za 0)]) (gN 0)) (zl (zr (eFn za9 [(za 1)]) (gN 1)) (zl (sWh fu (bE (eOp UK (za 1) (eC (.int 0)))) (zl (zr (eOp wX (za 0) (za 1)) (gN 2)) (zl (zr (za 1) (gN 0)) (zr (za 2) (gN 1))))) (yB (za 0)))))
def wV (fu:Nat):TwF:=yd 2 1 (Zi fu)
theorem YW (T:Tx K mg):T.aH.Ok P w base 1 2 (wV fu):=
 okS T.aH.F xa rfl rfl (λhr=>⟨_,((xa^^^(0,z7 rfl,zM ZE rfl T.cM boot_abs (pv 0\ze)))<|>(xa^^^(1,z7 rfl,zM ZE rfl T.cM boot_abs (pv 1\ze)))<|>Yu PassesOwn.leaving (zV (XN (pv 1) zf)) ((xa^^^(2,z7 rfl,zk yV (pv 0) (pv 1)))<|>(xa^^^(0,z7 rfl,pv 1))<|>¬(xa^^^(1,z7 rfl,pv 2)))<|>¬(!pv 0)),(by unfold Zi;walk_at "re")⟩)
def Vg (fu:Nat):TwS:=(zl (zr (zH (wV fu) [(za 0),(za 1)]) (gN 2)) (zl (sIf (bE (eOp dLt (za 1) (eC (.int 0)))) (zr (eUn WY (za 2)) (gN 2)) yt) (yB (ZK [(eOp wK (za 0) (za 2)),(eOp wK (za 1) (za 2))]))))
def Vh (fu:Nat):TwF:=yd 2 1 (Vg fu)
theorem zfG (T:Tx K mg):T.c7.Ok P w base 2 2 (Vh fu):=
 okS T.c7.F Vc rfl rfl (λhr=>⟨_,((Vc^^^(2,z7 rfl,T.aH\(YW (fu:=fu) T,hr.mono ∅,zP,pv 0\(pv 1\ze))))<|>yU (zV (zjU (pv 1) zf)) (¬(Vc^^^(2,z7 rfl,Ur XO (pv 2)))) zU<|>¬(!(~~~(zk vB (pv 0) (pv 2)\(zk vB (pv 1) (pv 2)\ze))))),(by unfold Vg;walk_at "re")⟩)
def YX (fu:Nat):TwS:=(zl (sIf (bOr (zdb (bE (zH (Zq fu) [(za 0)]))) (zdb (bE (zH (Zq fu) [(za 1)])))) UG yt) (zl (sIf (bE (eOp za6 (za 1) (eC (.int 0)))) UG yt) (yB (zH (Vh fu) [(za 0),(za 1)]))))
def YY (fu:Nat):TwF:=yd 2 0 (YX fu)
theorem zcC (T:Tx K mg):T.bI.Ok P w base 3 2 (YY fu):=
 okS T.bI.F zcy rfl rfl (λhr=>⟨_,(yU (PW.pt (zfT (zcT (Uo (T.bp\(VE (fu:=fu) T,hr.mono ∅,zP,pv 0\ze)))) (zcS (zcT (Uo (T.bp\(VE (fu:=fu) T,hr.mono ∅,zP,pv 1\ze))))))) (¬Uc) zU<|>yU (zV (XM (pv 1) zf)) (¬Uc) zU<|>¬(!(T.c7\(zfG (fu:=fu) T,hr.mono ∅,zP,pv 0\(pv 1\ze))))),(by unfold YX;walk_at "re")⟩)
def xP (fu:Nat):TwS:=(zl (Ww "WholeRow" "parts" (za 0) (za 1)) (Ww "WholeRow" "last" (za 0) (za 2)))
def xQ (fu:Nat):TwF:=yd 3 0 (xP fu)
theorem YZ (T:Tx K mg):T.ah.Ok P w mg base 1 3 (xQ fu):=
 okS T.ah.F YN rfl rfl (λhr=>⟨_,(XQ (pv 0) (pv 1) rfl<|>¬XQ (pv 0) (pv 2) rfl),(by unfold xP;walk_at "re")⟩)
def vw (fu:Nat):TwS:=(zl (zr (eC (.int 1)) (gN 1)) (zl (ZL (iL (za 0)) (gN 2) (sIf (bE (eOp UK (eOp wX (za 1) (eOp xY (za 2) (eC (.int 1)))) (eC (.int 0)))) (zr (eOp yk (eOp wK (za 1) (zH (wV fu) [(za 1),(eOp xY (za 2) (eC (.int 1)))])) (eOp xY (za 2) (eC (.int 1)))) (gN 1)) yt)) (yB (za 1))))
def vx (fu:Nat):TwF:=yd 1 2 (vw fu)
theorem Vi (T:Tx K mg):T.aI.Ok P w base 2 1 (vx fu):=
 okS T.aI.F xV rfl rfl (λhr=>⟨_,((xV^^^(1,z7 rfl,zf))<|>xD PassesOwn.leaving rfl (yg (K:=K) (pv 0)) (zq (i:=2) xV.nd rfl (z7 rfl)) (¬yU (zV (XN (zk yV (pv 1) (zW (K:=K)%(pv 2,zf))) zf)) (¬(xV^^^(1,z7 rfl,zk zY (zk vB (pv 1) (T.aH\(YW (fu:=fu) T,hr.mono ∅,zP,pv 1\((zW (K:=K)%(pv 2,zf))\ze)))) (zW (K:=K)%(pv 2,zf))))) zU)<|>¬(!pv 1)),(by unfold vw;walk_at "re")⟩)
def Yg (fu:Nat):TwS:=(yB (xy [none,some 1] (iL (za 0)) (gN 0) xH (eOp yk (eOp xY (za 0) (eC (.int 0))) (eOp wK (za 1) (eOp xY (za 0) (eC (.int 1)))))))
def Yh (fu:Nat):TwF:=yd 2 0 (Yg fu)
theorem zbo (T:Tx K mg):T.bz.Ok P w base 1 2 (Yh fu):=
 okS T.bz.F zbm rfl rfl (λhr=>⟨_,(¬(!vW (N':=["one","bottom"]) rfl (blk (osc:=zg Zm) rfl (by decide+kernel)) (zQ (xi (i:=1) rfl rfl yv)) (yg (K:=K) (pv 0)) (zx rfl) (λC s₀ H₀ fp=>zq (i:=0) (show (["one","bottom"]:List Str).Nodup from by decide+kernel) rfl (z7 rfl)) (λC s₀ H₀ fp=>yE) (λC s₀ H₀ fp=>(zk zY (zW (K:=K)%(pv 0,zf)) (zk vB (pv 1) (zW (K:=K)%(pv 0,zf))))))),(by unfold Yg;walk_at "re")⟩)
def Yi (fu:Nat):TwS:=(zl (zr (zH (Yh fu) [(za 0),(zH (vx fu) [(za 0)])]) (gN 1)) (zl (zr (eMt zgJ (za 1) []) (gN 2)) (yB (UY "WholeRow" (xQ fu) [(xy [none,none] (iEn (za 1)) (gT 2 (zJ (gN 0) (zJ (gN 1) xG))) (bE (eOp UK (za 1) (eC (.int 0)))) (ZK [(za 0),(za 1)])),(za 2)]))))
def Yj (fu:Nat):TwF:=yd 1 2 (Yi fu)
theorem zbp (T:Tx K mg):T.bx.Ok P w base 3 1 (Yj fu):=
 okS T.bx.F Ye rfl rfl (λhr=>⟨_,((Ye^^^(1,z7 rfl,T.bz\(zbo (fu:=fu) T,hr.mono ∅,zP,pv 0\((T.aI\(Vi (fu:=fu) T,hr.mono ∅,zP,pv 0\ze))\ze))))<|>(Ye^^^(2,z7 rfl,zc3 Ap PySem.F.slot_list_pop PySem.F.type_list_pop zkX (pv 1)))<|>¬(!zd2 T.cw (YZ (fu:=fu) T) (hr.mono ∅) rfl T.cN T.ah.b .nil zP (wg (vW (N':=["place","top"]) rfl (blk (osc:=zg Zn) rfl (by decide+kernel)) (zQ (zQ yv)) (zaU (K:=K) rfl T.bw (pv 1\ze)) (wH (zN (zx rfl) (zN (zx rfl) xS zO) zO)) (λC s₀ H₀ fp=>yM (K:=K) (n:=2) rfl (zu (zq (i:=0) (show (["place","top"]:List Str).Nodup from by decide+kernel) rfl (z7 rfl)) (zu (zq (i:=1) (show (["place","top"]:List Str).Nodup from by decide+kernel) rfl (z7 rfl)) yL))) (λC s₀ H₀ fp=>ziJ (zV (XN (pv 1) zf))) (λC s₀ H₀ fp=>(~~~(pv 0\(pv 1\ze))))) (pv 2\ze)))),(by unfold Yi;walk_at "re")⟩)
def Zy (fu:Nat):TwS:=(yB (xy [none] (iL (za 0)) (gN 0) xH (zH (Yj fu) [(za 0)])))
def Zz (fu:Nat):TwF:=yd 1 0 (Zy fu)
theorem TF (T:Tx K mg):T.bg.Ok P w base 4 1 (Zz fu):=
 okS T.bg.F TC rfl rfl (λhr=>⟨_,(¬(!vW (N':=["row"]) rfl (blk (osc:=zg vY) rfl (by decide+kernel)) (zQ yv) (yg (K:=K) (pv 0)) (zx rfl) (λC s₀ H₀ fp=>zq (i:=0) (show (["row"]:List Str).Nodup from by decide+kernel) rfl (z7 rfl)) (λC s₀ H₀ fp=>yE) (λC s₀ H₀ fp=>(T.bx\(zbp (fu:=fu) T,hr.mono ∅,Wl,pv 0\ze))))),(by unfold Zy;walk_at "re")⟩)
def Vj (fu:Nat):TwS:=(yB (eFn zb7 [(xy [none,none,some 1] (iL (vT "WholeRow" "parts" (za 0))) (gT 2 (zJ (gN 0) (zJ (gN 1) xG))) xH (eOp yk (za 1) (eOp vH (za 2) (za 0))))]))
def ZP (fu:Nat):TwF:=yd 2 0 (Vj fu)
theorem zaz (T:Tx K mg):T.bU.Ok P w base 1 2 (ZP fu):=
 okS T.bU.F zfF rfl rfl (λhr=>⟨_,(¬(!zM (WX (K:=K) rfl) rfl T.eN PyProof.Rows.Boot.«sum» (wg (vW (N':=["place","number","numbers"]) rfl (blk (osc:=zg WB) rfl (by decide+kernel)) (zQ (zQ (xi (i:=1) rfl rfl yv))) (yg (K:=K) (vc (pv 0) rfl)) (wH (zN (zx rfl) (zN (zx rfl) xS zO) zO)) (λC s₀ H₀ fp=>yM (K:=K) (n:=2) rfl (zu (zq (i:=0) (show (["place","number","numbers"]:List Str).Nodup from by decide+kernel) rfl (z7 rfl)) (zu (zq (i:=1) (show (["place","number","numbers"]:List Str).Nodup from by decide+kernel) rfl (z7 rfl)) yL))) (λC s₀ H₀ fp=>yE) (λC s₀ H₀ fp=>(zk zY (pv 1) (yq (K:=K)%(pv 2,pv 0))))) ze))),(by unfold Vj;walk_at "re")⟩)
def Xb (fu:Nat):TwS:=(zl (ZL (iL (za 0)) (gN 3) (sIf (bE (eOp UK (zH (ZP fu) [(za 3),(za 1)]) (eOp yk (vT "WholeRow" "last" (za 3)) (za 2)))) (yB (eC (.bl false))) yt)) (yB (eC (.bl true))))
def vD (fu:Nat):TwF:=yd 3 1 (Xb fu)
theorem VF (T:Tx K mg):T.bq.Ok P w base 2 3 (vD fu):=
 okS T.bq.F VD rfl rfl (λhr=>⟨_,(xD PassesOwn.leaving rfl (yg (K:=K) (pv 0)) (zq (i:=3) VD.nd rfl (z7 rfl)) (¬yU (zV (XN (T.bU\(zaz (fu:=fu) T,hr.mono ∅,zP,pv 3\(pv 1\ze))) (zk zY (vc (pv 3) rfl) (pv 2)))) (¬(!zdU)) zU)<|>¬(!zdU)),(by unfold Xb;walk_at "re")⟩)
def zaA (fu:Nat):TwS:=(zl (zr (xy [none,some 0] (iL (za 1)) (gN 0) xH (eOp vH (za 1) (vT "Step" "row" (za 0)))) (gN 4)) (zl (zr (xy [none] (iL (za 4)) (gN 0) xH (vT "WholeRow" "last" (za 0))) (gN 5)) (zl (zr (eOp zav (VP [(eC (.int 0))]) (za 2)) (gN 6)) (zl (zr (VP [(eC (.int 1))]) (gN 7)) (zl (zr (eC (.int 3)) (gN 8)) (sWh fu (bE (eC (.bl true))) (zl (zr (zH (yF fu) [(za 1),(za 5),(za 2),(za 3)]) (gN 9)) (zl (zr (xy [none,none,some 7] (Tu (za 6) (za 9)) (gT 2 (zJ (gN 0) (zJ (gN 1) xG))) xH (eOp xB (za 0) (eOp yk (eOp vH (za 2) (eUn WY (eC (.int 1)))) (za 1)))) (gN 6)) (zl (zr (xy [none,none,some 3,some 9] (Tu (za 4) (za 5)) (gT 2 (zJ (gN 0) (zJ (gN 1) xG))) xH (eOp wK (eOp Ya (za 1) (zH (ZP fu) [(za 0),(za 3)])) (za 2))) (gN 5)) (zl (vR (eMt yw (za 7) [(eOp yk (eOp vH (za 7) (eUn WY (eC (.int 1)))) (za 3))])) (sIf (bE (eOp dGt (eFn XS [(za 7)]) (za 8))) (zl (zr (zH (yT fu) [(za 6),(eOp vH (za 7) (eUn WY (eC (.int 1)))),(eOp vH (za 7) (eOp Vz (eOp Ya (za 8) (eC (.int 1))) (eC (.int 2))))]) (gN 10)) (zl (sIf (ziP (bE (eUn zed (za 10))) (bE (zH (vD fu) [(za 4),(eOp zde (za 10) (eC (.int 0))),(eOp zde (za 10) (eC (.int 1)))]))) (yB (za 10)) yt) (zr (eOp xB (za 8) (eOp UJ (eC (.int 2)) (eOp xB (eOp Vz (za 8) (eC (.int 8))) (eC (.int 1))))) (gN 8)))) yt)))))))))))
def Vk (fu:Nat):TwF:=yd 4 7 (zaA fu)
theorem zfH (T:Tx K mg):T.c9.Ok P w base 4 4 (Vk fu):=
 okS T.c9.F xb rfl rfl (λhr=>⟨_,(yS (i:=4) (N':=["step","rows"]) rfl (blk (osc:=zg Zg) rfl (by decide+kernel)) (zQ (xi (i:=0) rfl rfl yv)) (yg (K:=K) (pv 1)) (zx rfl) (λC s₀ H₀ fp=>zq (i:=0) (show (["step","rows"]:List Str).Nodup from by decide+kernel) rfl (z7 rfl)) (λC s₀ H₀ fp=>yE) (λC s₀ H₀ fp=>(yq (K:=K)%(pv 1,vc (pv 0) rfl))) xb.nd rfl rfl<|>yS (i:=5) (N':=["row"]) rfl (blk (osc:=zg Zg) rfl (by decide+kernel)) (zQ yv) (yg (K:=K) (pv 4)) (zx rfl) (λC s₀ H₀ fp=>zq (i:=0) (show (["row"]:List Str).Nodup from by decide+kernel) rfl (z7 rfl)) (λC s₀ H₀ fp=>yE) (λC s₀ H₀ fp=>(vc (pv 0) rfl)) xb.nd rfl rfl<|>(xb^^^(6,z7 rfl,zk (zeb (K:=K)) (@Zr _ _ _ _ (zf\ze)) (pv 2)))<|>(xb^^^(7,Cu rfl,@Zr _ _ _ _ (zf\ze)))<|>(xb^^^(8,z7 rfl,zf))<|>¬Yu PassesOwn.leaving (Uo zdU) ((xb^^^(9,Cu rfl,T.au\(Ys (fu:=fu) T,hr.mono ∅,zP,pv 1\(pv 5\(pv 2\(pv 3\ze))))))<|>yS (i:=6) (N':=["number","digit","powers"]) rfl (blk (osc:=zg Zg) rfl (by decide+kernel)) (zQ (zQ (xi (i:=7) rfl rfl yv))) (Xj (K:=K) rfl T.cu (pv 6\(pv 9\ze))) (wH (zN (zx rfl) (zN (zx rfl) xS zO) zO)) (λC s₀ H₀ fp=>yM (K:=K) (n:=2) rfl (zu (zq (i:=0) (show (["number","digit","powers"]:List Str).Nodup from by decide+kernel) rfl (z7 rfl)) (zu (zq (i:=1) (show (["number","digit","powers"]:List Str).Nodup from by decide+kernel) rfl (z7 rfl)) yL))) (λC s₀ H₀ fp=>yE) (λC s₀ H₀ fp=>(zk yi (pv 0) (zk zY (yq (K:=K)%(pv 2,Ur XO zf)) (pv 1)))) xb.nd rfl rfl<|>yS (i:=5) (N':=["row","last","modulus","digits"]) rfl (blk (osc:=zg Zg) rfl (by decide+kernel)) (zQ (zQ (xi (i:=3) rfl rfl (xi (i:=9) rfl rfl yv)))) (Xj (K:=K) rfl T.cu (pv 4\(pv 5\ze))) (wH (zN (zx rfl) (zN (zx rfl) xS zO) zO)) (λC s₀ H₀ fp=>yM (K:=K) (n:=2) rfl (zu (zq (i:=0) (show (["row","last","modulus","digits"]:List Str).Nodup from by decide+kernel) rfl (z7 rfl)) (zu (zq (i:=1) (show (["row","last","modulus","digits"]:List Str).Nodup from by decide+kernel) rfl (z7 rfl)) yL))) (λC s₀ H₀ fp=>yE) (λC s₀ H₀ fp=>(zk vB (zk vG (pv 1) (T.bU\(zaz (fu:=fu) T,hr.mono ∅,Wl,pv 0\(pv 3\ze)))) (pv 2))) xb.nd rfl rfl<|>wE (Yx Ap Aw Ax yJ (pv 7) (zk zY (yq (K:=K)%(pv 7,Ur XO zf)) (pv 3)\ze))<|>¬yU (zV (Yt (zM (xt (K:=K)) rfl T.bL boot_len (pv 7\ze)) (pv 8))) ((xb^^^(10,z7 rfl,T.ay\(XF (fu:=fu) T,hr.mono ∅,zP,pv 6\((yq (K:=K)%(pv 7,Ur XO zf))\((yq (K:=K)%(pv 7,zk zdW (zk vG (pv 8) zf) zf))\ze)))))<|>yU (PW.pt (zkD (zV (zis (pv 10))) (zit (Uo (T.bq\(VF (fu:=fu) T,hr.mono ∅,zP,pv 4\((zew (K:=K)%(pv 10,zf))\((zew (K:=K)%(pv 10,zf))\ze)))))))) (¬(!pv 10)) zU<|>¬(xb^^^(8,z7 rfl,zk yi (pv 8) (zk Us zf (zk yi (zk zdW (pv 8) zf) zf))))) zU)),(yI (ve (Xm (cap:=[none,some 0]) (VU (zo 1)) yc Xl (xp ZZ (zo 1) (Xt T.cD T.cZ T.bj (zo 0))))) (yI (ve (Xm (cap:=[none]) (VU (zo 4)) yc Xl (Xt T.aU T.aX T.az (zo 0)))) (yI (wI (xp zbh (zaZ (zA (wu _) yA)) (zo 2)) yc) (yI (wI (zaZ (zA (wu _) yA)) yc) (yI (wI (wu _) yc) (zb4 (zb0 (zke _)) (yI (wI (Xo (zA (zo 1) (zA (zo 5) (zA (zo 2) (zA (zo 3) yA))))) yc) (yI (ve (Xm (cap:=[none,none,some 7]) (zdk (zo 6) (zo 9)) (za1 (Zd yc (Zd yc VT))) Xl (xp UL (zo 0) (xp Wr (xp ZZ (zo 2) (zec UN (wu _))) (zo 1))))) (yI (ve (Xm (cap:=[none,none,some 3,some 9]) (zdk (zo 4) (zo 5)) (za1 (Zd yc (Zd yc VT))) Xl (xp UM (xp za8 (zo 1) (Xo (zA (zo 0) (zA (zo 3) yA)))) (zo 2)))) (yI (za2 (zb2 Xk (zo 7) (zA (xp Wr (xp ZZ (zo 7) (zec UN (wu _))) (zo 3)) yA))) (zb3 (zb0 (zgQ (zai UP (zA (zo 7) yA)) (zo 8))) (yI (wI (Xo (zA (zo 6) (zA (xp ZZ (zo 7) (zec UN (wu _))) (zA (xp ZZ (zo 7) (xp zef (xp za8 (zo 8) (wu _)) (wu _))) yA)))) yc) (yI (zb3 (zk6 (zb0 (ziS (zo 10))) (zb0 (Xo (zA (zo 4) (zA (xp zgH (zo 10) (wu _)) (zA (xp zgH (zo 10) (wu _)) yA)))))) (za3 (zo 10)) Wq) (wI (xp UL (zo 8) (xp zdf (wu _) (xp UL (xp zef (zo 8) (wu _)) (wu _)))) yc))) Wq)))))))))))⟩)
def vO (fu:Nat):TwS:=(zl (zr (zH (Vk fu) [(za 0),(za 1),(za 2),(za 3)]) (gN 4)) (zl (sIf (zdb (bE (zH (vD fu) [(za 0),(eOp xY (za 4) (eC (.int 0))),(eOp xY (za 4) (eC (.int 1)))]))) (yB (eC .non)) yt) (yB (xy [none,some 4] (iL (eOp xY (za 4) (eC (.int 0)))) (gN 0) xH (zH (YY fu) [(za 0),(eOp xY (za 1) (eC (.int 1)))])))))
def vP (fu:Nat):TwF:=yd 4 1 (vO fu)
theorem VQ (T:Tx K mg):T.aP.Ok P w base 5 4 (vP fu):=
 okS T.aP.F Yq rfl rfl (λhr=>⟨_,((Yq^^^(4,Cu rfl,T.c9\(zfH (fu:=fu) T,hr.mono ∅,zP,pv 0\(pv 1\(pv 2\(pv 3\ze))))))<|>yU (zcT (Uo (T.bq\(VF (fu:=fu) T,hr.mono ∅,zP,pv 0\((zW (K:=K)%(pv 4,zf))\((zW (K:=K)%(pv 4,zf))\ze)))))) (¬(!WQ)) zU<|>¬(!vW (N':=["top","found"]) rfl (blk (osc:=zg wO) rfl (by decide+kernel)) (zQ (xi (i:=4) rfl rfl yv)) (yg (K:=K) (zW (K:=K)%(pv 4,zf))) (zx rfl) (λC s₀ H₀ fp=>zq (i:=0) (show (["top","found"]:List Str).Nodup from by decide+kernel) rfl (z7 rfl)) (λC s₀ H₀ fp=>yE) (λC s₀ H₀ fp=>(T.bI\(zcC (fu:=fu) T,hr.mono ∅,Wl,pv 0\((zW (K:=K)%(pv 1,zf))\ze)))))),(by unfold vO;walk_at "re")⟩)
def Yk (fu:Nat):TwS:=(zl (zr (zH (Zz fu) [(za 0)]) (gN 3)) (zl (zr (zH (YU fu) [(za 3),(za 2)]) (gN 4)) (zl (sIf (bE (eUn zdc (za 4))) (yB (eC .non)) yt) (zl (zr (zH (vP fu) [(za 3),(za 4),(za 1),(za 2)]) (gN 5)) (zl (sIf (bE (eUn zdc (za 5))) UG yt) (zl (sIf (bE (eOp za6 (eFn XS [(za 4)]) (za 1))) (yB (ZK [(eC (.str "one")),(za 5)])) yt) UG))))))
def Za (fu:Nat):TwF:=yd 3 3 (Yk fu)
theorem WD (T:Tx K mg):T.aW.Ok P w base 6 3 (Za fu):=
 okS T.aW.F vZ rfl rfl (λhr=>⟨_,((vZ^^^(3,z7 rfl,T.bg\(TF (fu:=fu) T,hr.mono ∅,zP,pv 0\ze)))<|>(vZ^^^(4,z7 rfl,T.bo\(zcB (fu:=fu) T,hr.mono ∅,zP,pv 3\(pv 2\ze))))<|>yU (zV (Um (pv 4))) (¬(!WQ)) zU<|>(vZ^^^(5,z7 rfl,T.aP\(VQ (fu:=fu) T,hr.mono ∅,zP,pv 3\(pv 4\(pv 1\(pv 2\ze))))))<|>yU (zV (Um (pv 5))) (¬Uc) zU<|>yU (zV (XM (zM (xt (K:=K)) rfl T.bL boot_len (pv 4\ze)) (pv 1))) (¬(!(~~~(zcR\(pv 5\ze))))) zU<|>¬Uc),(by unfold Yk;walk_at "re")⟩)
def Yl (fu:Nat):TwS:=(zl (zr (eC (.int 1000000000000000000000000000000000000000000009)) (gN 2)) (zl (zr (zH (Za fu) [(za 0),(za 1),(za 2)]) (gN 3)) (zl (sWh fu (bE (eUn zdc (za 3))) (zl (zr (eOp xB (za 2) (eC (.int 2))) (gN 2)) (zr (zH (Za fu) [(za 0),(za 1),(za 2)]) (gN 3)))) (yB (za 3)))))
def xW (fu:Nat):TwF:=yd 2 2 (Yl fu)
theorem WE (T:Tx K mg):T.aV.Ok P w base 7 2 (xW fu):=
 okS T.aV.F wP rfl rfl (λhr=>⟨_,((wP^^^(2,z7 rfl,match T.bM with|⟨t,h⟩=>zir (v:= .int 1000000000000000000000000000000000000000000009) rfl h ⟨t,rfl⟩))<|>(wP^^^(3,z7 rfl,T.aW\(WD (fu:=fu) T,hr.mono ∅,zP,pv 0\(pv 1\(pv 2\ze)))))<|>Yu PassesOwn.leaving (zV (Um (pv 3))) ((wP^^^(2,z7 rfl,zk yi (pv 2) zf))<|>¬(wP^^^(3,z7 rfl,T.aW\(WD (fu:=fu) T,hr.mono ∅,zP,pv 0\(pv 1\(pv 2\ze))))))<|>¬(!pv 3)),(by unfold Yl;walk_at "re")⟩)
def Ym (fu:Nat):TwS:=(zl (zr (eC (.int 0)) (gN 4)) (zl (sIf (bE (eOp dGt (eFn XS [(za 0)]) (eC (.int 0)))) (zr (eOp vH (za 0) (eOp wX (za 1) (eFn XS [(za 0)]))) (gN 4)) yt) (yB (eOp wX (eOp wX (eOp xB (eOp UJ (eOp xB (za 4) (eOp yk (za 1) (za 1))) (eC (.int 48271))) (eC (.int 11))) (za 2)) (za 3)))))
def zG (fu:Nat):TwF:=yd 4 1 (Ym fu)
theorem zL (T:Tx K mg):T.af.Ok P w base 1 4 (zG fu):=
 okS T.af.F Yf rfl rfl (λhr=>⟨_,((Yf^^^(4,z7 rfl,zf))<|>yU (zV (Yt (zM (xt (K:=K)) rfl T.bL boot_len (pv 0\ze)) zf)) (¬(Yf^^^(4,z7 rfl,yq (K:=K)%(pv 0,zk yV (pv 1) (zM (xt (K:=K)) rfl T.bL boot_len (pv 0\ze)))))) zU<|>¬(!zk yV (zk yV (zk yi (zk Us (zk yi (pv 4) (zk zY (pv 1) (pv 1))) zf) zf) (pv 2)) (pv 3))),(by unfold Ym;walk_at "re")⟩)
def Yn (fu:Nat):TwS:=(zl (sIf (bE (eOp dGt (eFn XS [(za 0)]) (eC (.int 0)))) (yB (eOp vH (za 0) (eOp wX (za 1) (eFn XS [(za 0)])))) yt) (yB (eC (.int 0))))
def Yo (fu:Nat):TwF:=yd 2 0 (Yn fu)
theorem zbq (T:Tx K mg):T.bA.Ok P w base 1 2 (Yo fu):=
 okS T.bA.F zbn rfl rfl (λhr=>⟨_,(yU (zV (Yt (zM (xt (K:=K)) rfl T.bL boot_len (pv 0\ze)) zf)) (¬(!(yq (K:=K)%(pv 0,zk yV (pv 1) (zM (xt (K:=K)) rfl T.bL boot_len (pv 0\ze)))))) zU<|>¬(!zf)),(by unfold Yn;walk_at "re")⟩)
def Zj (fu:Nat):TwS:=(zl (zr (eFn za9 [(za 0)]) (gN 2)) (zl (zr (eFn za9 [(za 1)]) (gN 3)) (zl (sWh fu (bE (eOp dGt (za 3) (eC (.int 0)))) (ziV 2 3 [(za 3),(eOp wX (za 2) (za 3))])) (yB (ZK [(eOp wK (za 0) (za 2)),(eOp wK (za 1) (za 2))])))))
def xc (fu:Nat):TwF:=yd 2 2 (Zj fu)
theorem wW (T:Tx K mg):T.av.Ok P w base 1 2 (xc fu):=
 okS T.av.F wQ rfl rfl (λhr=>⟨_,((wQ^^^(2,z7 rfl,zM ZE rfl T.cM boot_abs (pv 0\ze)))<|>(wQ^^^(3,z7 rfl,zM ZE rfl T.cM boot_abs (pv 1\ze)))<|>Yu PassesOwn.leaving (zV (Yt (pv 3) zf)) (¬zkO (i:=2) (j:=3) rfl wQ.nd rfl rfl ∅ rfl rfl (pv 3\(zk yV (pv 2) (pv 3)\ze)) rfl)<|>¬(!(~~~(zk vB (pv 0) (pv 2)\(zk vB (pv 1) (pv 2)\ze))))),(by unfold Zj;walk_at "re")⟩)
def vy (fu:Nat):TwS:=(zl (zr (zH (zG fu) [(za 0),(za 1),(eC (.int 10007)),(eC (.int 4))]) (gN 2)) (zl (zr (eOp xB (eC (.int 1)) (zH (zG fu) [(za 0),(za 1),(eC (.int 10009)),(eC (.int 9))])) (gN 3)) (zl (sIf (bE (eOp za6 (za 2) (eC (.int 0)))) (yB (ZK [(eC (.int 0)),(eC (.int 1))])) yt) (zl (sIf (bE (eOp za6 (za 2) (eC (.int 1)))) (yB (zH (xc fu) [(eOp Ya (eOp wX (zH (Yo fu) [(za 0),(za 1)]) (eOp UJ (eC (.int 2)) (eOp zfk (eC (.int 10)) (eC (.int 59))))) (eOp zfk (eC (.int 10)) (eC (.int 59)))),(za 3)])) yt) (yB (zH (xc fu) [(eOp Ya (zH (zG fu) [(za 0),(za 1),(eC (.int 10037)),(eC (.int 13))]) (eC (.int 6))),(za 3)]))))))
def vz (fu:Nat):TwF:=yd 2 2 (vy fu)
theorem Vl (T:Tx K mg):T.aL.Ok P w base 2 2 (vz fu):=
 okS T.aL.F vj rfl rfl (λhr=>⟨_,((vj^^^(2,z7 rfl,T.af\(zL (fu:=fu) T,hr.mono ∅,zP,pv 0\(pv 1\(zf\(zf\ze))))))<|>(vj^^^(3,z7 rfl,zk yi zf (T.af\(zL (fu:=fu) T,hr.mono ∅,zP,pv 0\(pv 1\(zf\(zf\ze)))))))<|>yU (zV (XM (pv 2) zf)) (¬(!(~~~(zf\(zf\ze))))) zU<|>yU (zV (XM (pv 2) zf)) (¬(!(T.av\(wW (fu:=fu) T,hr.mono ∅,zP,zk vG (zk yV (T.bA\(zbq (fu:=fu) T,hr.mono ∅,zP,pv 0\(pv 1\ze))) (zk Us zf (zk zcW zf zf))) (zk zcW zf zf)\(pv 3\ze))))) zU<|>¬(!(T.av\(wW (fu:=fu) T,hr.mono ∅,zP,zk vG (T.af\(zL (fu:=fu) T,hr.mono ∅,zP,pv 0\(pv 1\(zf\(zf\ze))))) zf\(pv 3\ze))))),(by unfold vy;walk_at "re")⟩)
def Xc (fu:Nat):TwS:=(zl (zr (eC (.int 0)) (gN 2)) (zl (zr (eC (.int 1)) (gN 3)) (zl (ZL (Tu (za 0) (za 1)) (gT 2 (zJ (gN 4) (zJ (gN 5) xG))) (zl (zr (eOp xB (eOp yk (eOp yk (za 2) (eOp xY (za 4) (eC (.int 1)))) (eOp xY (za 5) (eC (.int 1)))) (eOp yk (eOp yk (eOp xY (za 4) (eC (.int 0))) (eOp xY (za 5) (eC (.int 0)))) (za 3))) (gN 2)) (zr (eOp yk (eOp yk (za 3) (eOp xY (za 4) (eC (.int 1)))) (eOp xY (za 5) (eC (.int 1)))) (gN 3)))) (yB (zH (xc fu) [(za 2),(za 3)])))))
def Xd (fu:Nat):TwF:=yd 2 4 (Xc fu)
theorem zcD (T:Tx K mg):T.bJ.Ok P w base 2 2 (Xd fu):=
 okS T.bJ.F xO rfl rfl (λhr=>⟨_,((xO^^^(2,z7 rfl,zf))<|>(xO^^^(3,z7 rfl,zf))<|>xD PassesOwn.leaving rfl (Xj (K:=K) rfl T.cu (pv 0\(pv 1\ze))) (yM (K:=K) (n:=2) rfl (zu (zq (i:=4) xO.nd rfl (z7 rfl)) (zu (zq (i:=5) xO.nd rfl (z7 rfl)) yL))) ((xO^^^(2,z7 rfl,zk yi (zk zY (zk zY (pv 2) (zW (K:=K)%(pv 4,zf))) (zW (K:=K)%(pv 5,zf))) (zk zY (zk zY (zW (K:=K)%(pv 4,zf)) (zW (K:=K)%(pv 5,zf))) (pv 3))))<|>¬(xO^^^(3,z7 rfl,zk zY (zk zY (pv 3) (zW (K:=K)%(pv 4,zf))) (zW (K:=K)%(pv 5,zf)))))<|>¬(!(T.av\(wW (fu:=fu) T,hr.mono ∅,zP,pv 2\(pv 3\ze))))),(by unfold Xc;walk_at "re")⟩)
def wx (fu:Nat):TwS:=(zl (zr (VP []) (gN 2)) (zl (ZL (iR1 (za 1)) (gN 3) (zl (zr (xy [none] (iR1 (za 3)) (gN 0) xH (eC (.int 0))) (gN 4)) (zl (zr (eOp xB (eC (.int 1)) (zH (zG fu) [(za 0),(eOp xB (eC (.int 7)) (za 3)),(eC (.int 10061)),(eC (.int 3))])) (gN 5)) (zl (sIf (bE (eOp za6 (zH (zG fu) [(za 0),(eOp xB (eC (.int 7)) (za 3)),(eC (.int 10067)),(eC (.int 6))]) (eC (.int 0)))) (zr (eOp xB (eOp zfk (eC (.int 10)) (eC (.int 9))) (eC (.int 7))) (gN 5)) yt) (zl (sIf (bE (eOp za6 (zH (zG fu) [(za 0),(eOp xB (eC (.int 7)) (za 3)),(eC (.int 10069)),(eC (.int 2))]) (eC (.int 0)))) (zr (eUn WY (za 5)) (gN 5)) yt) (zl (vR (eMt yw (za 4) [(za 5)])) (zl (ZL (iR2 (eOp xB (za 3) (eC (.int 1))) (za 1)) (gN 6) (vR (eMt yw (za 4) [(eOp Ya (zH (zG fu) [(za 0),(eOp xB (eOp xB (eC (.int 13)) (eOp UJ (za 3) (eC (.int 5)))) (za 6)),(eC (.int 10079)),(eC (.int 5))]) (eC (.int 2)))]))) (vR (eMt yw (za 2) [(za 4)]))))))))) (yB (za 2))))
def wA (fu:Nat):TwF:=yd 2 5 (wx fu)
theorem XZ (T:Tx K mg):T.aD.Ok P w base 2 2 (wA fu):=
 okS T.aD.F zS rfl rfl (λhr=>⟨_,((zS^^^(2,z7 rfl,@Zr _ _ _ _ ze))<|>xD PassesOwn.leaving rfl (ZC rfl T.bu (pv 1\ze)) (zq (i:=3) zS.nd rfl (z7 rfl)) (yS (i:=4) (N':=["_law_k"]) rfl (blk (osc:=zg xz) rfl (by decide+kernel)) (zQ yv) (ZC rfl T.bu (pv 3\ze)) (zx rfl) (λC s₀ H₀ fp=>zq (i:=0) (show (["_law_k"]:List Str).Nodup from by decide+kernel) rfl (z7 rfl)) (λC s₀ H₀ fp=>yE) (λC s₀ H₀ fp=>zf) zS.nd rfl rfl<|>(zS^^^(5,z7 rfl,zk yi zf (T.af\(zL (fu:=fu) T,hr.mono ∅,zP,pv 0\(zk yi zf (pv 3)\(zf\(zf\ze)))))))<|>yU (zV (XM (T.af\(zL (fu:=fu) T,hr.mono ∅,zP,pv 0\(zk yi zf (pv 3)\(zf\(zf\ze))))) zf)) (¬(zS^^^(5,z7 rfl,zk yi (zk zcW zf zf) zf))) zU<|>yU (zV (XM (T.af\(zL (fu:=fu) T,hr.mono ∅,zP,pv 0\(zk yi zf (pv 3)\(zf\(zf\ze))))) zf)) (¬(zS^^^(5,z7 rfl,Ur XO (pv 5)))) zU<|>wE (Yx Ap Aw Ax yJ (pv 4) (pv 5\ze))<|>xD PassesOwn.leaving rfl (ze1 rfl T.bu (zk yi (pv 3) zf\(pv 1\ze))) (zq (i:=6) zS.nd rfl (z7 rfl)) (¬wE (Yx Ap Aw Ax yJ (pv 4) (zk vG (T.af\(zL (fu:=fu) T,hr.mono ∅,zP,pv 0\(zk yi (zk yi zf (zk Us (pv 3) zf)) (pv 6)\(zf\(zf\ze))))) zf\ze)))<|>¬wE (Yx Ap Aw Ax yJ (pv 2) (pv 4\ze)))<|>¬(!pv 2)),(by unfold wx;walk_at "re")⟩)
def wB (fu:Nat):TwS:=(zl (zr (eFn XS [(za 1)]) (gN 2)) (zl (ZL (iR1 (za 2)) (gN 3) (zl (zr (zH (zG fu) [(za 0),(eOp xB (eC (.int 40)) (za 3)),(eC (.int 10091)),(za 2)]) (gN 4)) (zl (zr (eOp Ya (zH (zG fu) [(za 0),(eOp xB (eC (.int 46)) (za 3)),(eC (.int 10093)),(eC (.int 5))]) (eC (.int 2))) (gN 5)) (sIf (bE (eOp UK (za 4) (za 3))) (zr (xy [none,none,some 5] (Tu (eOp vH (za 1) (za 3)) (eOp vH (za 1) (za 4))) (gT 2 (zJ (gN 0) (zJ (gN 1) xG))) xH (eOp xB (za 0) (eOp yk (za 2) (za 1)))) (za0 (za 1) (za 3))) yt)))) (zl (ZL (iR1 (zH (zG fu) [(za 0),(eC (.int 52)),(eC (.int 10099)),(eC (.int 3))])) (gN 6) (sIf (bE (eOp dGt (za 2) (eC (.int 0)))) (zl (zr (eOp vH (za 1) (zH (zG fu) [(za 0),(eOp xB (eC (.int 53)) (za 6)),(eC (.int 10103)),(za 2)])) (gN 7)) (zl (zr (eOp vH (za 1) (zH (zG fu) [(za 0),(eOp xB (eC (.int 56)) (za 6)),(eC (.int 10111)),(za 2)])) (gN 4)) (vR (eMt yw (za 1) [(xy [none,none] (Tu (za 7) (za 4)) (gT 2 (zJ (gN 0) (zJ (gN 1) xG))) xH (eOp xB (za 0) (za 1)))])))) yt)) (yB (za 1)))))
def wC (fu:Nat):TwF:=yd 2 6 (wB fu)
theorem Wa (T:Tx K mg):T.aC.Ok P w base 2 2 (wC fu):=
 okS T.aC.F zT rfl rfl (λhr=>⟨_,((zT^^^(2,z7 rfl,zM (xt (K:=K)) rfl T.bL boot_len (pv 1\ze)))<|>xD PassesOwn.leaving rfl (ZC rfl T.bu (pv 2\ze)) (zq (i:=3) zT.nd rfl (z7 rfl)) ((zT^^^(4,z7 rfl,T.af\(zL (fu:=fu) T,hr.mono ∅,zP,pv 0\(zk yi zf (pv 3)\(zf\(pv 2\ze))))))<|>(zT^^^(5,Cu rfl,zk vG (T.af\(zL (fu:=fu) T,hr.mono ∅,zP,pv 0\(zk yi zf (pv 3)\(zf\(zf\ze))))) zf))<|>¬yU (zV (XN (pv 4) (pv 3))) (¬zfX (vW (N':=["_law_a","_law_b","_law_turn"]) rfl (blk (osc:=zg yQ) rfl (by decide+kernel)) (zQ (zQ (xi (i:=5) rfl rfl yv))) (Xj (K:=K) rfl T.cu ((yq (K:=K)%(pv 1,pv 3))\((yq (K:=K)%(pv 1,pv 4))\ze))) (wH (zN (zx rfl) (zN (zx rfl) xS zO) zO)) (λC s₀ H₀ fp=>yM (K:=K) (n:=2) rfl (zu (zq (i:=0) (show (["_law_a","_law_b","_law_turn"]:List Str).Nodup from by decide+kernel) rfl (z7 rfl)) (zu (zq (i:=1) (show (["_law_a","_law_b","_law_turn"]:List Str).Nodup from by decide+kernel) rfl (z7 rfl)) yL))) (λC s₀ H₀ fp=>yE) (λC s₀ H₀ fp=>(zk yi (pv 0) (zk zY (pv 2) (pv 1))))) (zfW (pv 1) (pv 3) zbM)) zU)<|>xD PassesOwn.leaving rfl (ZC rfl T.bu ((T.af\(zL (fu:=fu) T,hr.mono ∅,zP,pv 0\(zf\(zf\(zf\ze)))))\ze)) (zq (i:=6) zT.nd rfl (z7 rfl)) (¬yU (zV (Yt (pv 2) zf)) ((zT^^^(7,z7 rfl,yq (K:=K)%(pv 1,T.af\(zL (fu:=fu) T,hr.mono ∅,zP,pv 0\(zk yi zf (pv 6)\(zf\(pv 2\ze)))))))<|>(zT^^^(4,z7 rfl,yq (K:=K)%(pv 1,T.af\(zL (fu:=fu) T,hr.mono ∅,zP,pv 0\(zk yi zf (pv 6)\(zf\(pv 2\ze)))))))<|>¬wE (Yx Ap Aw Ax yJ (pv 1) (wg (vW (N':=["_law_a","_law_b"]) rfl (blk (osc:=zg yQ) rfl (by decide+kernel)) (zQ (zQ yv)) (Xj (K:=K) rfl T.cu (pv 7\(pv 4\ze))) (wH (zN (zx rfl) (zN (zx rfl) xS zO) zO)) (λC s₀ H₀ fp=>yM (K:=K) (n:=2) rfl (zu (zq (i:=0) (show (["_law_a","_law_b"]:List Str).Nodup from by decide+kernel) rfl (z7 rfl)) (zu (zq (i:=1) (show (["_law_a","_law_b"]:List Str).Nodup from by decide+kernel) rfl (z7 rfl)) yL))) (λC s₀ H₀ fp=>yE) (λC s₀ H₀ fp=>(zk yi (pv 0) (pv 1)))) ze))) zU)<|>¬(!pv 1)),(by unfold wB;walk_at "re")⟩)
def zdK (fu:Nat):TwS:=(zl (zr (zH (zG fu) [(za 0),(eC (.int 0)),(eC (.int 10039)),(eC (.int 6))]) (gN 1)) (zl (zr (xy [none,some 0] (iR1 (za 1)) (gN 0) xH (zH (vz fu) [(za 1),(eOp xB (eC (.int 1)) (za 0))])) (gN 2)) (zl (zr (zH (zG fu) [(za 0),(eC (.int 59)),(eC (.int 10133)),(eC (.int 6))]) (gN 3)) (zl (zr (VP []) (gN 4)) (zl (ZL (iEn (zH (wC fu) [(za 0),(zH (wA fu) [(za 0),(za 1)])])) (gT 2 (zJ (gN 5) (zJ (gN 6) xG))) (zl (zr (eOp xB (eC (.int 1)) (zH (zG fu) [(za 0),(eOp xB (eC (.int 60)) (za 5)),(eC (.int 10139)),(eC (.int 4))])) (gN 7)) (zl (zr (xy [none,some 7] (iL (za 6)) (gN 0) xH (zH (xc fu) [(za 0),(za 1)])) (gN 8)) (zl (zr (eOp UO (eSl Tt (za 8) (zak (eOp wX (za 3) (za 1))) oNo) (eSl Tt (za 8) oNo (zak (eOp wX (za 3) (za 1))))) (gN 8)) (vR (eMt yw (za 4) [(eOp UO (za 8) (VP [(zH (Xd fu) [(za 8),(za 2)])]))])))))) (zl (zr (zH (zG fu) [(za 0),(eC (.int 68)),(eC (.int 10141)),(eOp xB (eFn XS [(za 4)]) (eC (.int 1)))]) (gN 9)) (zl (zr (eOp UO (eSl Tt (za 4) (zak (za 9)) oNo) (eSl Tt (za 4) oNo (zak (za 9)))) (gN 4)) (zl (zr (xy [none] (iL (za 4)) (gN 0) xH (eFn zb6 [(za 0)])) (gN 10)) (zl (zr (zH (xW fu) [(za 10),(za 1)]) (gN 11)) (zl (sIf (bOr (bE (eOp (zba true) (eFn vI [(za 11)]) (eFn vI [(ZK [(eC (.str "one")),(za 2)])]))) (bE (eOp (zfs true) (za 10) (za 4)))) (yB (eC (.bl false))) yt) (zl (vR (eMt yw (eOp xY (za 11) (eC (.int 1))) [(ZK [(eC (.int 5)),(eC (.int 1))])])) (yB (eOp (zba false) (eFn vI [(zH (xW fu) [(za 10),(za 1)])]) (eFn vI [(ZK [(eC (.str "one")),(za 2)])]))))))))))))))
def zdL (fu:Nat):TwF:=yd 1 11 (zdK fu)
theorem zjy (T:Tx K mg):T.cR.Ok P w base 8 1 (zdL fu):=
 okS T.cR.F wR rfl rfl (λhr=>⟨_,((wR^^^(1,z7 rfl,T.af\(zL (fu:=fu) T,hr.mono ∅,zP,pv 0\(zf\(zf\(zf\ze))))))<|>yS (i:=2) (N':=["_law_k","_law_script"]) rfl (blk (osc:=zg zaw) rfl (by decide+kernel)) (zQ (xi (i:=0) rfl rfl yv)) (ZC rfl T.bu (pv 1\ze)) (zx rfl) (λC s₀ H₀ fp=>zq (i:=0) (show (["_law_k","_law_script"]:List Str).Nodup from by decide+kernel) rfl (z7 rfl)) (λC s₀ H₀ fp=>yE) (λC s₀ H₀ fp=>(T.aL\(Vl (fu:=fu) T,hr.mono ∅,Wl,pv 1\(zk yi zf (pv 0)\ze)))) wR.nd rfl rfl<|>(wR^^^(3,z7 rfl,T.af\(zL (fu:=fu) T,hr.mono ∅,zP,pv 0\(zf\(zf\(zf\ze))))))<|>(wR^^^(4,z7 rfl,@Zr _ _ _ _ ze))<|>xD PassesOwn.leaving rfl (zaU (K:=K) rfl T.bw ((T.aC\(Wa (fu:=fu) T,hr.mono ∅,zP,pv 0\((T.aD\(XZ (fu:=fu) T,hr.mono ∅,zP,pv 0\(pv 1\ze)))\ze)))\ze)) (yM (K:=K) (n:=2) rfl (zu (zq (i:=5) wR.nd rfl (z7 rfl)) (zu (zq (i:=6) wR.nd rfl (z7 rfl)) yL))) ((wR^^^(7,Cu rfl,zk yi zf (T.af\(zL (fu:=fu) T,hr.mono ∅,zP,pv 0\(zk yi zf (pv 5)\(zf\(zf\ze)))))))<|>yS (i:=8) (N':=["_law_a","_law_part"]) rfl (blk (osc:=zg zaw) rfl (by decide+kernel)) (zQ (xi (i:=7) rfl rfl yv)) (yg (K:=K) (pv 6)) (zx rfl) (λC s₀ H₀ fp=>zq (i:=0) (show (["_law_a","_law_part"]:List Str).Nodup from by decide+kernel) rfl (z7 rfl)) (λC s₀ H₀ fp=>yE) (λC s₀ H₀ fp=>(T.av\(wW (fu:=fu) T,hr.mono ∅,Wl,pv 0\(pv 1\ze)))) wR.nd rfl rfl<|>(wR^^^(8,z7 rfl,zk (zaV (K:=K)) (Wi (Wm (K:=K)) (pv 8) (VS (zk yV (pv 3) (pv 1))) VR) (Wi (Wm (K:=K)) (pv 8) VR (VS (zk yV (pv 3) (pv 1))))))<|>¬wE (Yx Ap Aw Ax yJ (pv 4) (zk (zaV (K:=K)) (pv 8) (@Zr _ _ _ _ ((T.bJ\(zcD (fu:=fu) T,hr.mono ∅,zP,pv 8\(pv 2\ze)))\ze))\ze)))<|>(wR^^^(9,z7 rfl,T.af\(zL (fu:=fu) T,hr.mono ∅,zP,pv 0\(zf\(zf\(zk yi (zM (xt (K:=K)) rfl T.bL boot_len (pv 4\ze)) zf\ze))))))<|>(wR^^^(4,z7 rfl,zk (zaV (K:=K)) (Wi (Wm (K:=K)) (pv 4) (VS (pv 9)) VR) (Wi (Wm (K:=K)) (pv 4) VR (VS (pv 9)))))<|>yS (i:=10) (N':=["_law_row"]) rfl (blk (osc:=zg zaw) rfl (by decide+kernel)) (zQ yv) (yg (K:=K) (pv 4)) (zx rfl) (λC s₀ H₀ fp=>zq (i:=0) (show (["_law_row"]:List Str).Nodup from by decide+kernel) rfl (z7 rfl)) (λC s₀ H₀ fp=>yE) (λC s₀ H₀ fp=>(TW (zc7 (K:=K)) rfl T.dY boot_list (pv 0\ze))) wR.nd rfl rfl<|>(wR^^^(11,z7 rfl,T.aV\(WE (fu:=fu) T,hr.mono ∅,zP,pv 10\(pv 1\ze))))<|>yU (PW.pt (zfT (zd0 zmg (zM (Yc (K:=K) hr) rfl T.cL boot_repr (pv 11\ze)) (zM (Yc (K:=K) hr) rfl T.cL boot_repr ((~~~(zcR\(pv 2\ze)))\ze)) (by rfl)) (zcS (zd0 (zlt (K:=K) hr) (pv 10) (pv 4) (by rfl))))) (¬(!zdU)) zU<|>wE (Yx Ap Aw Ax yJ (zW (K:=K)%(pv 11,zf)) ((~~~(zf\(zf\ze)))\ze))<|>¬(!zix zmf (zM (Yc (K:=K) hr) rfl T.cL boot_repr ((T.aV\(WE (fu:=fu) T,hr.mono ∅,zP,pv 10\(pv 1\ze)))\ze)) (zM (Yc (K:=K) hr) rfl T.cL boot_repr ((~~~(zcR\(pv 2\ze)))\ze)) (by rfl))),(by unfold zdK;walk_at "re")⟩)
end
section
open Mth
def Big (fu:Nat):Prop:=2^9000<=fu
local macro_rules | `(tactic| walk_at "w1") => `(tactic| first
 | with_reducible apply znk | ((with_reducible apply zlf); exact rfl) | with_reducible apply zdi | with_reducible apply zli | with_reducible apply yx | with_reducible apply zi8
 | with_reducible apply zR | ((with_reducible apply yW); try dsimp only[AK]) | with_reducible apply vX | with_reducible apply YB | with_reducible apply zg3
 | with_reducible apply Ze | with_reducible apply zmI | with_reducible apply zkh | with_reducible apply zmJ | with_reducible apply zlg
 | with_reducible apply wL | with_reducible apply zgZ | with_reducible apply zlh | with_reducible apply zem | with_reducible apply VX
 | with_reducible apply zg0 | with_reducible apply zmK | with_reducible apply zg1
 | with_reducible apply zlk | with_reducible apply zll | with_reducible apply zlm | with_reducible apply zmL | with_reducible apply oV | with_reducible apply zmM | with_reducible apply oW | with_reducible apply zln | with_reducible apply zlo
 | with_reducible apply m8 | with_reducible apply m9 | with_reducible apply zlr | with_reducible apply zls
 | ((with_reducible apply zlq); exact⟨∅, by decide, by decide⟩)
 | ((with_reducible apply zlp); first | exact .inl ∅ | exact .inr ∅)
 | with_reducible refine Exists.intro _ (And.intro rfl ?_))
local macro_rules | `(tactic| walk_at "w") => `(tactic| repeat walk_at "w1")
local macro_rules|`(tactic|nofun)=>`(tactic|walk_at "w")
local macro_rules | `(tactic| walk_at "wr") => `(tactic| (refine zlj rfl rfl ?_; dsimp only [List.map, HAppend.hAppend, Append.append, List.append, List.replicate]))
section
variable {fu:Nat} {S S' S2:Sto} {x y:Xv}
theorem yD {c:Prop} [Decidable c] {A B:Prop} (h:c->A) (g:¬c->B):(decide c=true->A)/\(decide c=false->B):=⟨λe=>h (of_decide_eq_true e),λe=>g (of_decide_eq_false e)⟩
theorem Wb {c:Prop} [Decidable c] {A B:Prop} (h:¬c->A) (g:c->B):((!decide c)=true->A)/\((!decide c)=false->B):=⟨λe=>h (by simpa using e),λe=>g (by simpa using e)⟩
def Le (S S':Sto):Prop:=S.length<=S'.length/\∀(n:Nat) c,S[n]? =some c->S'[n]? =some c
theorem Le.refl:Le S S:=⟨z5 _,λ_ _ e=>e⟩
theorem Le.trans (a:Le S S') (b:Le S' S2):Le S S2:=⟨A2 a.1 b.1,λn c e=>b.2 n c (a.2 n c e)⟩
theorem Le.app {T:Sto} (a:Le S S'):Le S (S'++T):=⟨by rw[A7];have:=a.1;omega,λn c e=>by
 have:=a.2 n c e
 rw[y9 (y4.1 this).1]
 exact this⟩
theorem Le.set {n:Nat} {c:Ce} (a:Le S S') (h:S.length<=n):Le S (S'.set n c):=⟨by simpa using a.1,λm d e=>by
 rw[Af,if_neg λq=>by have:=(y4.1 e).1;omega]
 exact a.2 m d e⟩
def LeX (d:Nat) (S S':Sto):Prop:=S.length<=S'.length/\∀(n:Nat) c,n≠d->S[n]? =some c->S'[n]? =some c
theorem Le.toX {d:Nat} (a:Le S S'):LeX d S S':=⟨a.1,λn c _ e=>a.2 n c e⟩
theorem LeX.trans {d:Nat} (a:LeX d S S') (b:LeX d S' S2):LeX d S S2:=⟨A2 a.1 b.1,λn c h e=>b.2 n c h (a.2 n c h e)⟩
theorem LeX.set {d:Nat} {c:Ce} (a:LeX d S S'):LeX d S (S'.set d c):=⟨by simpa using a.1,λm e h q=>by
 rw[Af,if_neg λz=>h z.symm]
 exact a.2 m e h q⟩
theorem LeX.set' {d n:Nat} {c:Ce} (a:LeX d S S') (h:S.length<=n):LeX d S (S'.set n c):=⟨by simpa using a.1,λm e h' q=>by
 rw[Af,if_neg λz=>by have:=(y4.1 q).1;omega]
 exact a.2 m e h' q⟩
theorem LeX.app {d:Nat} {T:Sto} (a:LeX d S S'):LeX d S (S'++T):=a.trans (Le.refl.app).toX
theorem LeX.le {d:Nat} (a:LeX d S S') (h:S.length<=d):Le S S':=⟨a.1,λn c e=>a.2 n c (λz=>by have:=(y4.1 e).1;omega) e⟩
theorem zw {c:Ce}:(S++[c])[S.length]? =some c:=by simp
theorem zB {n:Nat} {c d:Ce} (h:S[n]? =some c):(S++[d])[n]? =some c:=by rw[y9 (y4.1 h).1];exact h
theorem yp {n:Nat} {c c':Ce} (h:S[n]? =some c):(S.set n c')[n]? =some c':=by rw[Af,if_pos rfl,if_pos (y4.1 h).1]
theorem zX {n m:Nat} {c c':Ce} (h:S[m]? =some c) (q:n≠m):(S.set n c')[m]? =some c:=by rw[Af,if_neg q];exact h
theorem vU {n:Nat} {c:Ce} (h:S[n]? =some c):n<S.length:=(y4.1 h).1
theorem yo {n:Nat} (h:n<=20000):n<sizeLine:=Az h ∅
theorem Vm {P:Xv->Sto->Prop} {p:Int} (k:P (.int (p.natAbs:Int)) S):WO (za9 [.int p] S) P:= .of (show za9 [.int p] S=some (.int (if p<0 then -p else p),S) from rfl) (by
 rw[show (if p<0 then -p else p)=(p.natAbs:Int) by split<;>omega]
 exact k)
def zi (n:Nat) (p:Int):Prop:=p.natAbs<2^n
theorem zi.mono {n m:Nat} {p:Int} (h:zi n p) (hn:n<=m):zi m p:=A0 h (Dh ∅ hn)
theorem zi.le {n:Nat} {p:Int} (h:zi n p):intBits p<=n:=Df.mpr h
theorem zi.of {n:Nat} {p:Int} (h:intBits p<=n):zi n p:=Df.mp h
theorem zi.mul {n m:Nat} {p q:Int} (h:zi n p) (g:zi m q):zi (n+m) (p*q):= .of (PySem.intBits_mul_le h.le g.le)
theorem zi.add {n m:Nat} {p q:Int} (h:zi n p) (g:zi n q) (hm:n+1<=m):zi m (p+q):= .of (zjw h.le g.le hm)
theorem zi.sub {n m:Nat} {p q:Int} (h:zi n p) (g:zi n q) (hm:n+1<=m):zi m (p-q):= .of (zjx h.le g.le hm)
theorem zi.abs {n:Nat} {p q:Int} (h:zi n p) (hq:q.natAbs<=p.natAbs):zi n q:=Az hq h
theorem zi.small {n:Nat} {p:Int} (h:p.natAbs<1024) (hn:10<=n):zi n p:=zi.mono (n:=10) h hn
theorem ye {P:Xv->Sto->Prop} {p q:Int} {n m:Nat} (h:zi n p) (g:zi m q) (hn:n+m<=134217728) (k:P (.int (p*q)) S):WO (yk (.int p) (.int q) S) P:=zi9 (A2 (Nat.add_le_add h.le g.le) hn) k
theorem zbr {P:Xv->Sto->Prop} {p q:Int} (h0:0<q) (h:zi 9000 q) (k:P (.int (p / q)) S):WO (wK (.int p) (.int q) S) P:=YD ⟨⋯,h.le⟩ (by rw[BQ _ ⋯];exact k)
theorem zlF {r:Option Fl} {N N':Rho->Sto->Prop} {R R':Xv->Sto->Prop} (h:WS r N R) (hn:∀ρ S,N ρ S->N' ρ S) (hr:∀x S,R x S->R' x S):WS r N' R':=by
 rcases h with⟨ρ,S,e,h⟩|⟨x,S,e,h⟩
 ·exact .inl ⟨ρ,S,e,hn _ _ h⟩
 ·exact .inr ⟨x,S,e,hr _ _ h⟩
theorem Big.bits {n:Nat} {p:Int} (hf:Big fu) (h:zi n p) (hn:n<=9000):p.natAbs<fu:=A0 h (A2 (Dh ∅ hn) hf)
theorem Vn {P:Xv->Sto->Prop} (k:P (.bl x.isNon) S):WO (zdc x S) P:= .of rfl k
theorem zeK {P:Xv->Sto->Prop} (k:P (.bl (!x.isNon)) S):WO (zed x S) P:= .of rfl k
end
section
noncomputable def pm (m a:Nat):Nat->Nat->Nat
 |0,_=>1 % m
 |f+1,e=>if e=0 then 1 % m else if e % 2=0 then (pm m a f (e / 2))*(pm m a f (e / 2)) % m else (pm m a f (e / 2))*(pm m a f (e / 2)) % m*a % m
theorem zkn (m a:Nat):∀(f e:Nat),e<2^f->pm m a f e=a^e % m:=by
 intro f
 induction f with
 |zero=>
  intro e h
  obtain rfl:e=0:=by simpa using h
  rfl
 |succ f rp=>
  intro e h
  unfold pm
  by_cases h0:e=0
  ·rw[if_pos h0,h0];simp
  ·rw[if_neg h0]
   have h2:e / 2<2^f:=by rw[Fd] at h;omega
   have ih:=rp (e / 2) h2
   have e1:(pm m a f (e / 2))*(pm m a f (e / 2)) % m=a^(2*(e / 2)) % m:=by
    rw[ih,Nat.two_mul,Dn,<-Dp]
   by_cases hz:e % 2=0
   ·rw[if_pos hz,e1,show 2*(e / 2)=e by omega]
   ·rw[if_neg hz,e1,Nat.mod_mul_mod,<-Fd,show (2*(e / 2)).succ=e by omega]
def Pr (q:Nat):Prop:=1<q/\∀d,d∣q->d=1\/d=q
theorem php:∀(n k:Nat) (f:Nat->Nat),(∀i,i<k->f i<n)->(∀i j,i<j->j<k->f i≠f j)->k<=n:=by
 intro n
 induction n with
 |zero=>
  intro k f h _
  cases k with
  |zero=>exact z5 _
  |succ k=>exact absurd (h 0 ⋯) ⋯
 |succ n ih=>
  intro k f h hi
  cases k with
  |zero=>omega
  |succ k=>
   have:=ih k (λi=>if f i=n then f k else f i) (λi sW=>by
    have h1:=h i ⋯
    have h2:=h k ⋯
    have h3:=hi i k sW ⋯
    split<;>omega) (λi j fQ hj=>by
    have h1:=hi i j fQ ⋯
    have h2:=hi i k ⋯ ⋯
    have h3:=hi j k ⋯ ⋯
    split<;>split<;>omega)
   omega
theorem zm1 {P:Nat->Prop}:∀n,P n->∃d,P d/\∀j,j<d->¬P j:=by
 intro n
 induction n using Nat.strongRecOn with
 |ind n ih=>
  intro h
  by_cases hx:∃j,j<n/\P j
  ·obtain⟨j,h1,h2⟩:=hx
   exact ih j h1 h2
  ·exact⟨n,h,λj h1 h2=>hx ⟨j,h1,h2⟩⟩
theorem VG {r a:Nat} (hr:1<r) {i j:Nat} (h:a^i % r=1):a^(i*j) % r=1:=by
 rw[Nat.pow_mul,Nat.pow_mod,h,Nat.one_pow,FJ hr]
theorem zlG {r a N:Nat} (hr:1<r) (hN:0<N) (h:a^N % r=1):∃d,d∣N/\d<r/\a^d % r=1:=by
 obtain⟨d,⟨h0,hd⟩,hm⟩:=zm1 (P:=λd=>0<d/\a^d % r=1) N ⟨hN,h⟩
 have dv:∀M,a^M % r=1->d∣M:=λM hM=>by
  have e1:a^M % r=a^(M % d) % r:=by
   conv=>lhs;rw[<-Eg M d,Dn,Dp,VG hr hd,Nat.one_mul,Nat.mod_mod]
  rw[hM] at e1
  by_cases hz:M % d=0
  ·exact Nat.dvd_of_mod_eq_zero hz
  ·exact absurd ⟨⋯,e1.symm⟩ (hm (M % d) (EH _ h0))
 refine⟨d,dv N h,?_,hd⟩
 have pos:∀i,i<d->0<a^i % r:=λi hi=>by
  apply Fe
  intro hz
  have:a^d % r=0:=by
   rw[show d=i+(d-i) by omega,Dn,Dp,hz,Nat.zero_mul,Nat.zero_mod]
  omega
 have:=php (r-1) d (λi=>a^i % r-1) (λi hi=>by
  have:=EH (a^i) (show r>0 by omega)
  have:=pos i hi
  omega) (λi j fQ hj=>by
  have p1:=pos i ⋯
  have p2:=pos j hj
  intro he
  have he:a^i % r=a^j % r:=by omega
  have:a^(i+(d-j)) % r=1:=by
   rw[Dn,Dp,he,<-Dp,<-Dn,show j+(d-j)=d by omega,hd]
  exact hm (i+(d-j)) ⋯ ⟨⋯,this⟩)
 omega
theorem zhN {q k:Nat} (hq:Pr q) (h:¬q∣k):Fz q k:=by
 rcases hq.2 _ (FK q k) with e|e
 ·exact e
 ·exact absurd (e ▸ Fx q k) h
def Wit (p a q:Nat):Prop:=pm p a 160 (p-1)=1/\q∣p-1/\BE (pm p a 160 ((p-1) / q)+p-1) p=1
noncomputable instance {p a q:Nat}:Decidable (Wit p a q):=inferInstanceAs (Decidable (_/\_/\_))
theorem WF {p a q r:Nat} (hp:1<p/\p<2^160) (hq:Pr q) (h:Wit p a q) (hr:1<r) (f9:r∣p) {d:Nat} (hd:d∣p-1) (tE:a^d % r=1):q∣d:=by
 obtain⟨_,pW,hg⟩:=h
 obtain⟨k,hk⟩:=hd
 by_cases pV:q∣k
 ·exfalso
  obtain⟨k',rfl⟩:=pV
  have lB:0<q:=by have:=hq.1;omega
  have e1:(p-1) / q=d*k':=by
   rw[hk,show d*(q*k')=q*(d*k') by rw[Nat.mul_left_comm],Nat.mul_div_cancel_left _ lB]
  have h1:a^((p-1) / q) % r=1:=by rw[e1];exact VG hr tE
  have e2:=zkn p a 160 ((p-1) / q) (Az (Nat.div_le_self _ _) ⋯)
  rw[e2] at hg
  have h3:r∣a^((p-1) / q) % p+p-1:=by
   have h4:(a^((p-1) / q) % p) % r=1:=by rw[Ff _ f9];exact h1
   obtain⟨t,ht⟩:=f9
   have h5:=Eg (a^((p-1) / q) % p) r
   rw[h4] at h5
   refine⟨(a^((p-1) / q) % p) / r+t,?_⟩
   rw[Nat.mul_add,<-ht]
   omega
  have h4:=Nat.dvd_gcd h3 f9
  rw[hg] at h4
  have:=EV ∅ h4
  omega
 ·have hc:=zhN hq pV
  rw[hk] at pW
  exact hc.dvd_of_dvd_mul_right pW
theorem zm2 {p a F:Nat} (hp:1<p/\p<2^160) (hF:p<F*F) (h1:pm p a 160 (p-1)=1) (h:∀r d,1<r->r∣p->d∣p-1->a^d % r=1->F∣d):Pr p:=by
 have big:∀r,r∣p->1<r->F<r:=λr f9 hr=>by
  have e:=zkn p a 160 (p-1) ⋯
  rw[h1] at e
  have e1:a^(p-1) % r=1:=by
   rw[<-Ff _ f9,<-e,FJ hr]
  obtain⟨d,h2,h3,h4⟩:=zlG hr ⋯ e1
  have:=EV (Nat.pos_of_dvd_of_pos h2 ⋯) (h r d hr f9 h2 h4)
  omega
 refine⟨hp.1,λd hd=> ?_⟩
 by_cases h1:d=1
 ·exact .inl h1
 by_cases h2:d=p
 ·exact .inr h2
 exfalso
 obtain⟨e,he⟩:=hd
 have d0:d≠0:=λz=>by subst z;simp at he;omega
 have e0:e≠0:=λz=>by subst z;simp at he;omega
 have e1:e≠1:=λz=>by subst z;simp at he;omega
 have b1:=big d ⟨e,he⟩ ⋯
 have b2:=big e ⟨d,by rw[he,Fb]⟩ ⋯
 have:=ED (Ag b1) (Ag b2)
 omega
theorem zhO {p a q:Nat} (hp:1<p/\p<2^160) (hF:p<q*q) (hq:Pr q) (h:Wit p a q):Pr p:=zm2 hp hF h.1 λr d hr f9 hd h1=>WF hp hq h hr f9 hd h1
noncomputable def Ud (n:Nat):Nat->Bool
 |0=>true
 |k+1=>(k+1==1||n % (k+1) !=0)&&Ud n k
theorem Te {n:Nat}:∀k,Ud n k=true->∀d,2<=d->d<=k->¬d∣n:=by
 intro k
 induction k with
 |zero=>intro _ d h1 h2;omega
 |succ k ih=>
  intro h d h1 h2 hd
  simp only[Ud,BI,Ed,beq_iff_eq,bne_iff_ne] at h
  by_cases e:d=k+1
  ·subst e
   rcases h.1 with h|h
   ·omega
   ·exact h (Nat.mod_eq_zero_of_dvd hd)
  ·exact ih h.2 d h1 ⋯ hd
theorem WG {n k:Nat} (h1:1<n) (hk:n<(k+1)*(k+1)) (h:Ud n k=true) (uZ:k<n):Pr n:=by
 refine⟨h1,λd hd=> ?_⟩
 by_cases e1:d=1
 ·exact .inl e1
 by_cases e2:d=n
 ·exact .inr e2
 exfalso
 obtain⟨e,he⟩:=hd
 have d0:d≠0:=λz=>by subst z;simp at he;omega
 have e0:e≠0:=λz=>by subst z;simp at he;omega
 have f1:e≠1:=λz=>by subst z;simp at he;omega
 have b1:k<d:=FN λz=>Te k h d ⋯ z ⟨e,he⟩
 have b2:k<e:=FN λz=>Te k h e ⋯ z ⟨d,by rw[he,Fb]⟩
 have:=ED (show k+1<=d from b1) (show k+1<=e from b2)
 omega
noncomputable abbrev pN:Nat:=1000000000000000000000000000000000000000000009
theorem zbs:Pr pN:=by
 have q0:Pr 357913:=WG (k:=600) ∅ ∅ (by decide+kernel) ∅
 have q1:Pr 19388863037:=zhO (a:=2) ∅ ∅ q0 (by decide+kernel)
 have q2:Pr 271444082519:=zhO (a:=2) ∅ ∅ q1 (by decide+kernel)
 have q3:Pr 166666666666667:=zhO (a:=2) ∅ ∅ q2 (by decide+kernel)
 have s1:Pr 68281:=WG (k:=262) ∅ ∅ (by decide+kernel) ∅
 have s2:Pr 823:=WG (k:=30) ∅ ∅ (by decide+kernel) ∅
 have s3:Pr 7:=WG (k:=3) ∅ ∅ (by decide+kernel) ∅
 refine zm2 (a:=11) (F:=166666666666667*(68281*(823*7))) ∅ ∅ (by decide+kernel) λr d hr f9 hd h1=> ?_
 have hp:1<pN/\pN<2^160:=by decide
 have d0:=WF hp q3 (a:=11) (by decide+kernel) hr f9 hd h1
 have d1:=WF hp s1 (a:=11) (by decide+kernel) hr f9 hd h1
 have d2:=WF hp s2 (a:=11) (by decide+kernel) hr f9 hd h1
 have d3:=WF hp s3 (a:=11) (by decide+kernel) hr f9 hd h1
 exact BW (by decide+kernel) d0 (BW (by decide+kernel) d1 (BW (by decide+kernel) d2 d3))
theorem zhP {q:Nat} (hq:Pr q) {a b:Int} (h:(q:Int)∣a*b):(q:Int)∣a\/(q:Int)∣b:=by
 by_cases ha:q∣a.natAbs
 ·exact .inl (Dt.2 ha)
 ·have hc:=zhN hq ha
  refine .inr (Dt.2 (hc.dvd_of_dvd_mul_left ?_))
  rw[<-Bm]
  exact Dt.1 h
end
section
structure Eu (M N bf rs fb f:Int):Prop where
 pos:0<=rs/\rs<bf
 cg:∃k,f*N=rs+M*k
 cb:∃k,fb*N=bf+M*k
 dv:∀g:Int,g∣bf->g∣rs->g∣M/\g∣N
 sg:(fb<=0/\0<f/\f*bf-fb*rs=M)\/(0<=fb/\f<0/\fb*rs-f*bf=M)
 gen:∀x d k:Int,d*N=x+M*k->∃a b,x=a*bf+b*rs/\d=a*fb+b*f
theorem Eu.start {M N:Int} (hM:0<M):Eu M N M (N % M) 0 1:=by
 have e:=D5 N M
 refine⟨⟨AI _ ⋯,Ao _ hM⟩,⟨N / M,⋯⟩,⟨-1,⋯⟩,λg h1 h2=>⟨h1,?_⟩,.inl ⟨⋯,⋯,⋯⟩,λx d k h=>⟨d*(N / M)-k,d,?_,⋯⟩⟩
 ·rw[<-e]
  exact Int.dvd_add (Dw h1 (Int.dvd_mul_right _ _)) h2
 ·grind
theorem Eu.turn {M N bf rs fb f:Int} (h:Eu M N bf rs fb f) (hr:0<rs):Eu M N rs (bf-bf / rs*rs) f (fb-bf / rs*f):=by
 have e:=D5 bf rs
 have e1:bf-bf / rs*rs=bf % rs:=by rw[B4];omega
 have q1:1<=bf / rs:=by
  have:=h.pos.2
  exact (Int.le_ediv_iff_mul_le hr).2 ⋯
 obtain⟨k,hk⟩:=h.cg
 obtain⟨k2,nQ⟩:=h.cb
 refine⟨?_,⟨k2-bf / rs*k,by grind⟩,⟨k,hk⟩,λg h1 h2=>h.dv g ?_ h1,?_,λx d k hx=> ?_⟩
 ·rw[e1];exact⟨AI _ ⋯,Ao _ hr⟩
 ·have:=Int.dvd_add h2 (show g∣bf / rs*rs from Int.dvd_mul_of_dvd_right h1)
  rwa [Fg] at this
 ·rcases h.sg with⟨s1,s2,s3⟩|⟨s1,s2,s3⟩
  ·have:f<=bf / rs*f:=by
    have:=As q1 (Br s2)
    omega
   exact .inr ⟨⋯,⋯,by grind⟩
  ·have:bf / rs*f<=f:=by
    have:=As q1 (show 0<= -f by omega)
    rw[CY,CY] at this
    omega
   exact .inl ⟨⋯,⋯,by grind⟩
 ·obtain⟨a,b,h1,h2⟩:=h.gen x d k hx
  exact⟨b+a*(bf / rs),a,by grind,by grind⟩
theorem Ue {bf rs fb f B M x d a b:Int} (hf:0<f) (t5:fb<=0) (hM:f*bf-fb*rs=M) (h0:0<=rs) (hr:rs<=B) (hB:B<bf) (hx: -B<=x/\x<=B) (hd: -B<=d/\d<=B) (h2:2*(B*B)<M) (ex:x=a*bf+b*rs) (ed:d=a*fb+b*f):¬1<=a:=by
 intro ha
 have p1:bf<=a*bf:=by
  have:=As ha (show 0<=bf by omega)
  omega
 by_cases hb:0<=b
 ·have:=BZ hb h0
  omega
 ·have p2:a*fb<=0:=Int.mul_nonpos_of_nonneg_of_nonpos ⋯ t5
  have p3:b*f<= -f:=by
   have:=As (show b<= -1 by omega) (Br hf)
   omega
  have t7:f<=B:=by omega
  have p4:x*f-d*rs=a*M:=by rw[<-hM];grind
  have p5:x*f<=B*B:=BM (As hx.2 (Br hf)) (Ab t7 ⋯)
  have p6: -d*rs<=B*B:=BM (As (show -d<=B by omega) h0) (Ab hr ⋯)
  have p7:M<=a*M:=by
   have:0<=B*B:=BZ ⋯ ⋯
   have:=As ha (show 0<=M by omega)
   omega
  rw[Dq] at p6
  omega
theorem Eu.rat {M N bf rs fb f B x d k:Int} (h:Eu M N bf rs fb f) (hr:rs<=B) (hB:B<bf) (hx: -B<=x/\x<=B) (hd: -B<=d/\d<=B) (h2:2*(B*B)<M) (e:d*N=x+M*k):∃b,x=b*rs/\d=b*f:=by
 obtain⟨a,b,e1,e2⟩:=h.gen x d k e
 have h0:=h.pos.1
 have:a=0:=by
  rcases h.sg with⟨s1,s2,s3⟩|⟨s1,s2,s3⟩
  ·have n1:=Ue s2 s1 s3 h0 hr hB hx hd h2 e1 e2
   have n2:=Ue (x:= -x) (d:= -d) (a:= -a) (b:= -b) s2 s1 s3 h0 hr hB ⋯ ⋯ h2 (by grind) (by grind)
   omega
  ·have oT: -f*bf - -fb*rs=M:=by grind
   have n1:=Ue (f:= -f) (fb:= -fb) (d:= -d) (a:=a) (b:=b) ⋯ ⋯ oT h0 hr hB hx ⋯ h2 e1 (by grind)
   have n2:=Ue (f:= -f) (fb:= -fb) (x:= -x) (a:= -a) (b:= -b) ⋯ ⋯ oT h0 hr hB ⋯ hd h2 (by grind) (by grind)
   omega
 subst this
 exact⟨b,⋯,⋯⟩
end
section
def Cg (m a b:Int):Prop:=∃k,a=b+m*k
theorem Cg.refl {m a:Int}:Cg m a a:=⟨0,⋯⟩
theorem Cg.symm {m a b:Int} (h:Cg m a b):Cg m b a:=by
 obtain⟨k,e⟩:=h
 exact⟨-k,by grind⟩
theorem Cg.trans {m a b c:Int} (h:Cg m a b) (g:Cg m b c):Cg m a c:=by
 obtain⟨k,e⟩:=h
 obtain⟨l,f⟩:=g
 exact⟨k+l,by grind⟩
theorem Cg.add {m a b c d:Int} (h:Cg m a b) (g:Cg m c d):Cg m (a+c) (b+d):=by
 obtain⟨k,e⟩:=h
 obtain⟨l,f⟩:=g
 exact⟨k+l,by grind⟩
theorem Cg.sub {m a b c d:Int} (h:Cg m a b) (g:Cg m c d):Cg m (a-c) (b-d):=by
 obtain⟨k,e⟩:=h
 obtain⟨l,f⟩:=g
 exact⟨k-l,by grind⟩
theorem Cg.mul {m a b c d:Int} (h:Cg m a b) (g:Cg m c d):Cg m (a*c) (b*d):=by
 obtain⟨k,e⟩:=h
 obtain⟨l,f⟩:=g
 exact⟨k*d+b*l+m*k*l,by grind⟩
theorem Cg.mod (m a:Int):Cg m (a % m) a:=⟨-(a / m),by have:=D5 a m;grind⟩
theorem Cg.dvd {m a:Int}:Cg m a 0↔m∣a:=⟨λ⟨k,e⟩=>⟨k,⋯⟩,λ⟨k,e⟩=>⟨k,⋯⟩⟩
theorem Cg.small {m a b:Int} (h:Cg m a b) (h1:a-b<m) (h2:b-a<m):a=b:=by
 obtain⟨k,e⟩:=h
 by_cases h0:k=0
 ·subst h0;omega
 ·by_cases hk:1<=k
  ·have:=Ab hk (show 0<=m by omega)
   omega
  ·have:=Ab (show 1<= -k by omega) (show 0<=m by omega)
   rw[CY] at this
   omega
noncomputable def zt (ps:List (Nat×Int)) (x:Nat->Int):Int:=(ps.map λp=>p.2*x p.1).sum
theorem Uf {x:Nat->Int}:zt [] x=0:=rfl
theorem yf {p:Nat×Int} {ps:List (Nat×Int)} {x:Nat->Int}:zt (p::ps) x=p.2*x p.1+zt ps x:=by simp[zt]
theorem Ug {ps qs:List (Nat×Int)} {x:Nat->Int}:zt (ps++qs) x=zt ps x+zt qs x:=by simp[zt]
theorem Uh {p:Nat×Int} {x:Nat->Int}:zt [p] x=p.2*x p.1:=by simp[zt]
theorem yK {ps:List (Nat×Int)} {x y:Nat->Int} (h:∀p∈ps,x p.1=y p.1):zt ps x=zt ps y:=by
 unfold zt
 rw[C4 λp hp=>by rw[h p hp]]
theorem zdM {m:Int} {ps:List (Nat×Int)} {x y:Nat->Int} (h:∀p∈ps,Cg m (x p.1) (y p.1)):Cg m (zt ps x) (zt ps y):=by
 induction ps with
 |nil=>exact .refl
 |cons p r ih=>
  rw[yf,yf]
  exact (Cg.mul .refl (h p (.head _))).add (ih λq hq=>h q (.tail _ hq))
theorem WH {ps:List (Nat×Int)}:zt ps (λ_=>0)=0:=by
 induction ps with
 |nil=>rfl
 |cons p r ih=>rw[yf,ih];simp
theorem zbt {ps:List (Nat×Int)} {x y:Nat->Int} {a b:Int}:zt ps (λc=>a*x c+b*y c)=a*zt ps x+b*zt ps y:=by
 induction ps with
 |nil=>simp[zt]
 |cons p r ih=>rw[yf,yf,yf,ih];grind
theorem Xw {ps:List (Nat×Int)} {x:Nat->Int} {a:Int}:zt ps (λc=>a*x c)=a*zt ps x:=by
 induction ps with
 |nil=>simp[zt]
 |cons p r ih=>rw[yf,yf,ih];grind
theorem zhQ {m v:Int} {ps:List (Nat×Int)} {x:Nat->Int}:Cg m (zt (ps.map λp=>(p.1,p.2*v % m)) x) (v*zt ps x):=by
 induction ps with
 |nil=>exact⟨0,by simp[zt]⟩
 |cons p r ih=>
  rw[A6,yf,yf]
  have h:Cg m (p.2*v % m*x p.1) (p.2*v*x p.1):=(Cg.mod m _).mul .refl
  have:=h.add ih
  rwa [show p.2*v*x p.1+v*zt r x=v*(p.2*x p.1+zt r x) by grind] at this
structure Stp where
 row:Nat
 col:Nat
 inv:Int
 fac:List (Nat×Int)
 par:List (Nat×Int)
noncomputable def Stp.at (s:Stp) (x:Nat->Int):Int:=x s.col+zt s.par x
noncomputable def ats (ss:List Stp) (x:Nat->Int) (j:Nat):Int:=((ss[j]?).map λs=>s.at x).getD 0
noncomputable def xg (ss:List Stp):List Nat:=ss.map (·.col)
def Spn (m:Int) (ss:List Stp) (ps:List (Nat×Int)):Prop:=∃fs:List (Nat×Int),(∀f∈fs,f.1<ss.length)/\∀x,Cg m (zt ps x) (zt fs (ats ss x))
structure zhR (m:Int) (many:Nat) (rows:List (List (Nat×Int)×Int)) (ss:List Stp) (s:Stp):Prop where
 col:s.col<many/\s.col∉xg ss
 par:∀p∈s.par,p.1<many/\p.1≠s.col/\p.1∉xg ss
 fac:∀p∈s.fac,p.1<ss.length
 eq:∃ps l u,rows[s.row]? =some (ps,l)/\Cg m (u*s.inv) 1/\∀x,Cg m (zt ps x) (zt s.fac (ats ss x)+u*s.at x)
inductive Sts (m:Int) (many:Nat) (rows:List (List (Nat×Int)×Int)):List Stp->Prop where
 |nil:Sts m many rows []
 |snoc {ss:List Stp} {s:Stp}:Sts m many rows ss->zhR m many rows ss s->Sts m many rows (ss++[s])
theorem WI {ss ts:List Stp} {x:Nat->Int} {j:Nat} (h:j<ss.length):ats (ss++ts) x j=ats ss x j:=by
 unfold ats
 rw[y9 h]
theorem WJ {ss:List Stp} {s:Stp} {x:Nat->Int}:ats (ss++[s]) x ss.length=s.at x:=by
 unfold ats
 rw[z6 (z5 _)]
 simp
theorem Spn.app {m:Int} {ss ts:List Stp} {ps:List (Nat×Int)} (h:Spn m ss ps):Spn m (ss++ts) ps:=by
 obtain⟨fs,h1,h2⟩:=h
 refine⟨fs,λf hf=>by have:=h1 f hf;rw[A7];omega,λx=> ?_⟩
 rw[yK (y:=ats ss x) λp hp=>WI (h1 p hp)]
 exact h2 x
theorem Sts.at {m:Int} {many:Nat} {rows:List (List (Nat×Int)×Int)} {ss:List Stp} (h:Sts m many rows ss):∀i s,ss[i]? =some s->zhR m many rows (ss.take i) s:=by
 induction h with
 |nil=>intro i s e;simp at e
 | @snoc ss s h hs ih=>
  intro i t e
  by_cases hi:i<ss.length
  ·rw[y9 hi] at e
   rw[Dj (Ag hi)]
   exact ih i t e
  ·have eF:i=ss.length:=by
    have:=(y4.1 e).1
    rw[A7] at this
    simp at this
    omega
   subst eF
   rw[z6 (z5 _)] at e
   simp at e
   subst e
   rw[Dj (z5 _),Ar]
   exact hs
theorem Sts.ext {m:Int} {many:Nat} {rows:List (List (Nat×Int)×Int)} {ss:List Stp} (h:Sts m many rows ss):∀y:Nat->Int,∃x:Nat->Int,(∀j,j<ss.length->ats ss x j=0)/\∀c,c∉xg ss->x c=y c:=by
 induction h with
 |nil=>intro y;exact⟨y,λj hj=>by simp at hj,λc _=>rfl⟩
 | @snoc ss s h hs ih=>
  intro y
  obtain⟨x,h1,h2⟩:=ih λc=>if c=s.col then -zt s.par y else y c
  have hp:zt s.par x=zt s.par y:=yK λp hp=>by
   obtain⟨_,e1,e2⟩:=hs.par p hp
   rw[h2 p.1 e2,if_neg e1]
  refine⟨x,λj hj=> ?_,λc hc=> ?_⟩
  ·by_cases gv:j<ss.length
   ·rw[WI gv];exact h1 j gv
   ·obtain rfl:j=ss.length:=by rw[A7] at hj;simp at hj;omega
    rw[WJ]
    unfold Stp.at
    rw[h2 _ hs.col.2,if_pos rfl,hp]
    omega
  ·have hc:c∉xg ss/\c≠s.col:=by simpa [xg,not_or] using hc
   rw[h2 c hc.1,if_neg hc.2]
theorem Sts.ats0 {m:Int} {many:Nat} {rows:List (List (Nat×Int)×Int)} {ss:List Stp} {x:Nat->Int} (h:Sts m many rows ss):(∀s∈ss,∀ps l,rows[s.row]? =some (ps,l)->Cg m (zt ps x) 0)->∀j,j<ss.length->Cg m (ats ss x j) 0:=by
 induction h with
 |nil=>intro _ j hj;simp at hj
 | @snoc ss s h hs ih=>
  intro hx j hj
  have ih:=ih λt ht=>hx t (Bw _ ht)
  by_cases gv:j<ss.length
  ·rw[WI gv];exact ih j gv
  ·obtain rfl:j=ss.length:=by rw[A7] at hj;simp at hj;omega
   rw[WJ]
   obtain⟨ps,l,u,e1,e2,e3⟩:=hs.eq
   have h1:=hx s (by simp) ps l e1
   have h2:Cg m (zt s.fac (ats ss x)) 0:=by
    have:=zdM (m:=m) (ps:=s.fac) (x:=ats ss x) (y:=λ_=>0) λp hp=>ih p.1 (hs.fac p hp)
    rwa [WH] at this
   have h3:=(e3 x).symm.trans h1
   obtain⟨k1,f1⟩:=h2
   obtain⟨k2,f2⟩:=h3
   obtain⟨k3,f3⟩:=e2
   exact⟨s.inv*(k2-k1)-k3*s.at x,by grind⟩
theorem Vo {ss:List Stp} {s:Stp} {c:Nat}:c∉xg (ss++[s])↔c∉xg ss/\c≠s.col:=by
 unfold xg
 rw[Bc,Aa,not_or,Du,A4]
theorem Sts.zero {m:Int} {many:Nat} {rows:List (List (Nat×Int)×Int)} {ss:List Stp} {x:Nat->Int} (h:Sts m many rows ss):(∀c,c∉xg ss->Cg m (x c) 0)->(∀j,j<ss.length->Cg m (ats ss x j) 0)->∀c,Cg m (x c) 0:=by
 induction h with
 |nil=>intro h1 _ c;exact h1 c (by simp[xg])
 | @snoc ss s h hs ih=>
  intro h1 h2
  have lU:=h2 ss.length (by simp)
  rw[WJ] at lU
  have hp:∀p∈s.par,Cg m (x p.1) 0:=λp hp=>by
   obtain⟨_,e1,e2⟩:=hs.par p hp
   exact h1 p.1 (Vo.2 ⟨e2,e1⟩)
  have hd:Cg m (zt s.par x) 0:=by
   have:=zdM (m:=m) (ps:=s.par) (x:=x) (y:=λ_=>0) hp
   rwa [WH] at this
  have hc:Cg m (x s.col) 0:=by
   have:=lU.sub hd
   unfold Stp.at at this
   rwa [show x s.col+zt s.par x-zt s.par x=x s.col by omega,Fh] at this
  refine ih (λc dA=> ?_) λj hj=> ?_
  ·by_cases e:c=s.col
   ·rw[e];exact hc
   ·exact h1 c (Vo.2 ⟨dA,e⟩)
  ·have:=h2 j (by rw[A7];omega)
   rwa [WI hj] at this
theorem Sts.pow {m:Int} {many:Nat} {rows:List (List (Nat×Int)×Int)} {ss:List Stp} (h:Sts m many rows ss) (hm:m≠0):∀(k:Nat) (x:Nat->Int),(∀c,c∉xg ss->x c=0)->(∀s∈ss,∀ps l,rows[s.row]? =some (ps,l)->m^k∣zt ps x)->∀c,m^k∣x c:=by
 intro k
 induction k with
 |zero=>intro x _ _ c;rw[Di];exact⟨x c,⋯⟩
 |succ k ih=>
  intro x h1 h2
  have z:=h.zero (x:=x) (λc hc=>by rw[h1 c hc];exact .refl) (h.ats0 λs hs ps l e=>Cg.dvd.2 (Dw ⟨m^k,by rw[Bs,B4]⟩ (h2 s hs ps l e)))
  have hy:∀c,x c=m*(x c / m):=λc=>(EI (Cg.dvd.1 (z c))).symm
  have:=ih (λc=>x c / m) (λc hc=>by rw[h1 c hc];exact Int.zero_ediv m) λs hs ps l e=>by
   have h3:=h2 s hs ps l e
   rw[yK (y:=λc=>m*(x c / m)) λp _=>hy p.1,Xw,Bs,B4] at h3
   exact Int.dvd_of_mul_dvd_mul_left hm h3
  intro c
  rw[hy c,Bs,B4]
  exact Int.mul_dvd_mul (Fj m) (this c)
theorem Sts.only {m:Int} {many:Nat} {rows:List (List (Nat×Int)×Int)} {ss:List Stp} (h:Sts m many rows ss) (hm:2<=m) {x:Nat->Int} (h1:∀c,c∉xg ss->x c=0) (h2:∀s∈ss,∀ps l,rows[s.row]? =some (ps,l)->zt ps x=0) (c:Nat):x c=0:=by
 have h3:=h.pow ⋯ (x c).natAbs x h1 (λs hs ps l e=>by rw[h2 s hs ps l e];exact Int.dvd_zero _) c
 have h4:∀n:Nat,(n:Int)<m^n:=λn=>by
  induction n with
  |zero=>simp
  |succ n ih=>
   rw[Bs]
   have:=Ab hm (show 0<=m^n by omega)
   omega
 have h5:=h4 (x c).natAbs
 obtain⟨k,e⟩:=h3
 by_cases hk:k=0
 ·rw[e,hk,DM]
 ·exfalso
  have:m^(x c).natAbs<=(m^(x c).natAbs*k).natAbs:=by
   rw[Bm]
   have:=Dk (m^(x c).natAbs).natAbs (show 1<=k.natAbs by omega)
   omega
  rw[<-e] at this
  omega
theorem Sts.solve {m:Int} {many:Nat} {rows:List (List (Nat×Int)×Int)} {ss:List Stp} {x vs lasts:Nat->Int} (h:Sts m many rows ss) (hv:∀i s,ss[i]? =some s->Cg m (vs i) ((lasts i-zt s.fac vs)*s.inv)) (hx:∀i,i<ss.length->Cg m (ats ss x i) (vs i)) {i:Nat} {s:Stp} {ps:List (Nat×Int)} {l:Int} (e:ss[i]? =some s) (hr:rows[s.row]? =some (ps,l)):Cg m (zt ps x) (lasts i):=by
 have hi:=(y4.1 e).1
 have so:=h.at i s e
 obtain⟨ps',l',u,e1,e2,e3⟩:=so.eq
 rw[hr] at e1
 cases e1
 have h1:Cg m (zt s.fac (ats (ss.take i) x)) (zt s.fac vs):=zdM λp hp=>by
  have iG:=so.fac p hp
  rw[Am] at iG
  have:=hx p.1 ⋯
  rwa [show ats ss x p.1=ats (ss.take i) x p.1 by unfold ats;rw[By ⋯]] at this
 have h2:Cg m (s.at x) (vs i):=by
  have:=hx i hi
  rwa [show ats ss x i=s.at x by unfold ats;rw[e];rfl] at this
 have h3:=(e3 x).trans (h1.add ((Cg.refl (a:=u)).mul (h2.trans (hv i s e))))
 obtain⟨k1,f1⟩:=h3
 obtain⟨k2,f2⟩:=e2
 exact⟨k1+k2*(lasts i-zt s.fac vs),by grind⟩
noncomputable def TH (x:Nat->Int) (c:Nat) (v:Int):Nat->Int:=λd=>if d=c then v else x d
def Bk (m:Int) (ss:List Stp) (vs:Nat->Int) (k:Nat) (x:Nat->Int):Prop:=(∀j,k<=j->j<ss.length->Cg m (ats ss x j) (vs j))/\∀c,c∉xg (ss.drop k)->x c=0
theorem Sts.back {m:Int} {many:Nat} {rows:List (List (Nat×Int)×Int)} {ss:List Stp} {x vs:Nat->Int} {k:Nat} {s:Stp} {v:Int} (h:Sts m many rows ss) (e:ss[k]? =some s) (b:Bk m ss vs (k+1) x) (hv:Cg m v (vs k-zt s.par x)):Bk m ss vs k (TH x s.col v):=by
 have hk:=(y4.1 e).1
 have hd:ss.drop k=s::ss.drop (k+1):=by
  rw[Cw hk,(y4.1 e).2]
 refine⟨λj hj gZ=> ?_,λc hc=> ?_⟩
 ·by_cases sR:j=k
  ·subst sR
   have e2:ats ss (TH x s.col v) j=s.at (TH x s.col v):=by unfold ats;rw[e];rfl
   rw[e2]
   unfold Stp.at
   rw[yK (y:=x) λp hp=>if_neg ((h.at j s e).par p hp).2.1]
   have:TH x s.col v s.col=v:=if_pos rfl
   rw[this]
   have:=hv.add (Cg.refl (a:=zt s.par x))
   rwa [Fg] at this
  ·have e3:=y6 gZ
   have so:=h.at j _ e3
   have nT:s.col∈xg (ss.take j):=AA.2 ⟨s,z4 (i:=k) (by rw[By ⋯];exact e),rfl⟩
   have:=b.1 j ⋯ gZ
   have e4:∀y,ats ss y j=(ss[j]).at y:=λy=>by unfold ats;rw[e3];rfl
   rw[e4] at this ⊢
   unfold Stp.at at this ⊢
   rw[yK (y:=x) λp hp=>if_neg λz:p.1=s.col=>(so.par p hp).2.2 (z ▸ nT),show TH x s.col v (ss[j]).col=x (ss[j]).col from if_neg λz:(ss[j]).col=s.col=>so.col.2 (z ▸ nT)]
   exact this
 ·rw[hd] at hc
  have hc:c≠s.col/\c∉xg (ss.drop (k+1)):=by
   unfold xg at hc ⊢
   rw[A6,Ak,not_or] at hc
   exact hc
  show TH x s.col v c=0
  unfold TH
  rw[if_neg hc.1]
  exact b.2 c hc.2
theorem Sts.full {m:Int} {many:Nat} {rows:List (List (Nat×Int)×Int)} {ss:List Stp} (h:Sts m many rows ss) (hm:¬Cg m 1 0) (hk:∀x,(∀r∈rows,Cg m (zt r.1 x) 0)->∀c,c<many->Cg m (x c) 0) (hs:∀r∈rows,Spn m ss r.1):∀c,c<many->c∈xg ss:=by
 intro c hc
 apply BR
 intro hn
 obtain⟨x,h1,h2⟩:=h.ext λd=>if d=c then 1 else 0
 have:=hk x (λr hr=>by
  obtain⟨fs,f1,f2⟩:=hs r hr
  refine (f2 x).trans ?_
  rw[yK (y:=λ_=>0) λp hp=>h1 p.1 (f1 p hp),WH]
  exact .refl) c hc
 rw[h2 c hn,if_pos rfl] at this
 exact hm this
theorem Sts.nodup {m:Int} {many:Nat} {rows:List (List (Nat×Int)×Int)} {ss:List Stp} (h:Sts m many rows ss):(xg ss).Nodup/\∀c∈xg ss,c<many:=by
 induction h with
 |nil=>exact⟨EC,λc hc=>nomatch hc⟩
 | @snoc ss s h hs ih=>
  unfold xg at ih ⊢
  rw[Bc,Du]
  refine⟨Fy.2 ⟨ih.1,(by simp),λa ha b hb=> ?_⟩,λc hc=> ?_⟩
  ·rw[A4.1 hb]
   intro z
   exact hs.col.2 (by unfold xg;rw[<-z];exact ha)
  ·rcases Aa.1 hc with hc|hc
   ·exact ih.2 c hc
   ·rw[A4.1 hc];exact hs.col.1
theorem Sts.le {m:Int} {many:Nat} {rows:List (List (Nat×Int)×Int)} {ss:List Stp} (h:Sts m many rows ss):ss.length<=many:=by
 obtain⟨n1,n2⟩:=h.nodup
 have hl:(xg ss).length=ss.length:=y7 ..
 have e:∀i,i<ss.length->∃hi:i<(xg ss).length,((xg ss)[i]?).getD 0=(xg ss)[i]:=λi hi=>⟨⋯,by rw[y6 ⋯];rfl⟩
 refine php many ss.length (λi=>((xg ss)[i]?).getD 0) (λi hi=> ?_) λi j fQ hj=> ?_
 ·obtain⟨fR,e1⟩:=e i hi
  rw[e1]
  exact n2 _ (DN _)
 ·obtain⟨fR,e1⟩:=e i ⋯
  obtain⟨fm,e2⟩:=e j hj
  rw[e1,e2]
  exact λz=>by have:=(C0 n1).1 z;omega
theorem Sts.len {m:Int} {many:Nat} {rows:List (List (Nat×Int)×Int)} {ss:List Stp} (h:Sts m many rows ss) (hf:∀c,c<many->c∈xg ss):ss.length=many:=by
 have hl:(xg ss).length=ss.length:=y7 ..
 have h1:=h.le
 have h2:many<=ss.length:=php ss.length many (λc=>(xg ss).idxOf c) (λc hc=>by rw[<-hl];exact Ck (hf c hc)) λc d cF hd=>by
  intro z
  have e1:=Fk (Ck (hf c ⋯))
  have e2:=Fk (Ck (hf d hd))
  have:=(e1.symm.trans (getElem_congr_idx z)).trans e2
  omega
 omega
end
section
noncomputable def yh (es:List (Nat×Int)) (c:Nat):Option Int:=(es.find? λp=>decide (p.1=c)).map (·.2)
noncomputable def Vp (es:List (Nat×Int)) (c:Nat) (v:Int):List (Nat×Int):=if (es.any λp=>decide (p.1=c))=true then es.map (λp=>if p.1=c then (p.1,v) else p) else es++[(c,v)]
noncomputable def xC (es:List (Nat×Int)) (c:Nat):List (Nat×Int):=es.filter λp=>decide (p.1≠c)
def NdE (es:List (Nat×Int)):Prop:=(es.map (·.1)).Nodup
theorem zdN {es:List (Nat×Int)} {c:Nat} (h:∀p∈es,p.1≠c):yh es c=none:=by
 unfold yh
 rw[Fc.2 λp hp=>by simpa using h p hp]
 rfl
theorem zaB {es:List (Nat×Int)} {c:Nat} (h:∀p∈es,p.1≠c):xC es c=es:=List.filter_eq_self.2 λp hp=>by simpa using h p hp
theorem Wc {es:List (Nat×Int)} {c:Nat} {p:Nat×Int}:yh (p::es) c=if p.1=c then some p.2 else yh es c:=by
 unfold yh
 rw[AZ]
 by_cases h:p.1=c
 ·rw[if_pos h,decide_eq_true h];rfl
 ·rw[if_neg h,decide_eq_false h]
theorem zfI {es:List (Nat×Int)} {c:Nat} {p:Nat×Int}:xC (p::es) c=if p.1=c then xC es c else p::xC es c:=by
 unfold xC
 rw[C1]
 by_cases h:p.1=c
 ·rw[if_pos h,if_neg (by simpa using h)]
 ·rw[if_neg h,if_pos (by simpa using h)]
theorem NdE.tail {es:List (Nat×Int)} {p:Nat×Int} (h:NdE (p::es)):NdE es/\∀q∈es,q.1≠p.1:=by
 unfold NdE at h ⊢
 rw[A6,B9] at h
 exact⟨h.2,λq hq e=>h.1 (AA.2 ⟨q,hq,e⟩)⟩
theorem zeL {es:List (Nat×Int)} {c:Nat} {x:Nat->Int} (h:NdE es):zt es x=(yh es c).getD 0*x c+zt (xC es c) x:=by
 induction es with
 |nil=>simp[yh,xC,zt]
 |cons p r ih=>
  obtain⟨h1,h2⟩:=h.tail
  rw[yf,Wc,zfI]
  by_cases e:p.1=c
  ·rw[if_pos e,if_pos e,zaB λq hq=>e ▸ h2 q hq,e]
   rfl
  ·rw[if_neg e,if_neg e,yf,ih h1]
   omega
theorem zeM {es:List (Nat×Int)} {c:Nat} (h:NdE es):NdE (xC es c):=(F0.map _).nodup h
theorem Xe {es:List (Nat×Int)} {c:Nat} {p:Nat×Int} (h:p∈xC es c):p∈es/\p.1≠c:=by
 unfold xC at h
 rw[D7] at h
 exact⟨h.1,by simpa using h.2⟩
theorem zcE {es:List (Nat×Int)} {c:Nat} {v:Int} {p:Nat×Int} (h:p∈Vp es c v):(p.1=c/\p.2=v)\/p∈es:=by
 unfold Vp at h
 split at h
 ·obtain⟨q,hq,rfl⟩:=AA.1 h
  by_cases e:q.1=c
  ·rw[if_pos e];exact .inl ⟨e,rfl⟩
  ·rw[if_neg e];exact .inr hq
 ·rcases Aa.1 h with h|h
  ·exact .inr h
  ·left;rw[A4.1 h];exact⟨rfl,rfl⟩
theorem zjz {es:List (Nat×Int)} {c:Nat} {v:Int} (h:NdE es):NdE (Vp es c v):=by
 unfold Vp
 split
 ·have:(es.map λp=>if p.1=c then (p.1,v) else p).map (·.1)=es.map (·.1):=by
   rw[Ci]
   refine C4 λp _=> ?_
   simp only[EW]
   split<;>rfl
  unfold NdE
  rw[this]
  exact h
 ·rename_i hn
  unfold NdE
  rw[Bc,Fy]
  refine⟨h,by simp,λa ha b hb e=> ?_⟩
  obtain⟨p,hp,rfl⟩:=AA.1 ha
  have hb:b=c:=by simpa using hb
  exact hn (Cr.2 ⟨p,hp,by simpa using e.trans hb⟩)
theorem zhS {es:List (Nat×Int)} {c:Nat} {v:Int}:(Vp es c v).length<=es.length+1:=by
 unfold Vp
 split<;>simp
theorem zjA {es:List (Nat×Int)} {c:Nat} {v:Int} {x:Nat->Int} (h:NdE es):zt (Vp es c v) x=zt es x+(v-(yh es c).getD 0)*x c:=by
 unfold Vp
 split
 ·rename_i ha
  induction es with
  |nil=>simp at ha
  |cons p r ih=>
   obtain⟨h1,h2⟩:=h.tail
   rw[A6,yf,yf,Wc]
   by_cases e:p.1=c
   ·have hr:(r.map λp=>if p.1=c then (p.1,v) else p)=r:=by
     conv=>rhs;rw[<-List.map_id r]
     exact C4 λq hq=>if_neg λz:q.1=c=>h2 q hq (z.trans e.symm)
    rw[if_pos e,if_pos e,hr,<-e]
    show v*x p.1+zt r x=p.2*x p.1+zt r x+(v-p.2)*x p.1
    grind
   ·rw[if_neg e,if_neg e,ih h1 (by simpa [e] using ha)]
    omega
 ·rename_i hn
  rw[Ug,Uh,zdN λp hp e=>hn (Cr.2 ⟨p,hp,by simpa using e⟩)]
  show _+v*x c=_+(v-0)*x c
  rw[Fh]
theorem Vq {es:List (Nat×Int)} {p:Nat×Int} (h:NdE es) (hp:p∈es):yh es p.1=some p.2:=by
 induction es with
 |nil=>cases hp
 |cons q r ih=>
  obtain⟨h1,h2⟩:=h.tail
  rw[Wc]
  rcases Ak.1 hp with rfl|hp
  ·rw[if_pos rfl]
  ·rw[if_neg λz=>h2 p hp z.symm];exact ih h1 hp
theorem zjB {m:Int} {es:List (Nat×Int)} {x:Nat->Int}:Cg m (zt ((es.filter λp=>decide (p.2 % m≠0)).map λp=>(p.1,p.2 % m)) x) (zt es x):=by
 induction es with
 |nil=>exact .refl
 |cons p r ih=>
  rw[C1]
  by_cases e:p.2 % m≠0
  ·rw[if_pos (decide_eq_true e),A6,yf,yf]
   exact ((Cg.mod m p.2).mul .refl).add ih
  ·rw[if_neg (by simpa using e),yf]
   have e:p.2 % m=0:=by simpa using e
   have h0:Cg m 0 p.2:=by have:=Cg.mod m p.2;rwa [e] at this
   have:=(h0.mul (Cg.refl (a:=x p.1))).add ih
   rwa [Fo,CF] at this
end
section
variable {fu:Nat} {S:Sto} {M N B:Int}
theorem Eu.fle {bf rs fb f:Int} (h:Eu M N bf rs fb f):(f.natAbs:Int)<=M/\(fb.natAbs:Int)*rs<=M/\f≠0:=by
 have p:=h.pos
 rcases h.sg with⟨s1,s2,s3⟩|⟨s1,s2,s3⟩
 ·have h1:0<= -fb*rs:=BZ ⋯ p.1
  have h2:f<=f*bf:=by
   have:=Ab (show 1<=bf by omega) (Br s2)
   omega
  have h3:0<=f*bf:=BZ ⋯ ⋯
  rw[Dq] at h1
  refine⟨⋯,?_,⋯⟩
  rw[show ((fb.natAbs:Int))= -fb by omega,Dq]
  omega
 ·have h1:0<=fb*rs:=BZ s1 p.1
  have h2: -f<= -f*bf:=by
   have:=Ab (show 1<=bf by omega) (show 0<= -f by omega)
   omega
  have h3:0<= -f*bf:=BZ ⋯ ⋯
  rw[Dq] at h2 h3
  refine⟨⋯,?_,⋯⟩
  rw[show ((fb.natAbs:Int))=fb by omega]
  omega
theorem zdO (hM:0<M/\zi 2000 M) (hb:0<=B) {a b:Xv}:∀(n:Nat) (bf rs fb f:Int) (a7 a8 a9:Option Xv),Eu M N bf rs fb f->B<bf->bf<=M->rs.toNat<n->
  WS (Yz (bE (eOp dGt (za 4) (za 2))) (zl (zr (eOp wK (za 3) (za 4)) (gN 7)) (zl (zr (eOp Ya (za 3) (eOp yk (za 7) (za 4))) (gN 8)) (zl (zr (za 4) (gN 3)) (zl (zr (za 8) (gN 4)) (zl (zr (eOp Ya (za 5) (eOp yk (za 7) (za 6))) (gN 9)) (zl (zr (za 6) (gN 5)) (zr (za 9) (gN 6)))))))) n [some a,some b,some (.int B),some (.int bf),some (.int rs),some (.int fb),some (.int f),a7,a8,a9] S)
   (λρ S'=>S=S'/\∃bf rs fb f a7 a8 a9,ρ=[some a,some b,some (.int B),some (.int bf),some (.int rs),some (.int fb),some (.int f),a7,a8,a9]/\Eu M N bf rs fb f/\rs<=B/\B<bf/\bf<=M) (λ_ _=>False):=by
 intro n
 induction n with
 |zero=>intro bf rs fb f a7 a8 a9 _ _ _ h;omega
 |succ n ih=>
  intro bf rs fb f a7 a8 a9 eu hB tL hn
  refine Xp ?_
  nofun
  refine yD (λh=> ?_) (λh=> ?_)
  ·have p:=eu.pos
   have hr:0<rs:=by omega
   have t:=eu.turn hr
   have b1:∀z:Int,(z.natAbs:Int)<=M->zi 2000 z:=λz hz=>hM.2.abs ⋯
   have q0:0<=bf / rs:=Int.ediv_nonneg ⋯ ⋯
   have q1:bf / rs<=bf:=FO _ ⋯
   nofun
   refine zbr hr ((b1 rs ⋯).mono ∅) ?_
   nofun
   refine ye (b1 (bf / rs) ⋯) (b1 rs ⋯) ∅ ?_
   nofun
   refine ye (b1 (bf / rs) ⋯) (b1 f eu.fle.1) ∅ ?_
   nofun
   exact ih _ _ _ _ _ _ _ t ⋯ ⋯ (by have:=t.pos;omega)
  ·exact⟨rfl,bf,rs,fb,f,_,_,_,rfl,eu,⋯,hB,tL⟩
theorem zeN (hf:Big fu) (hM:0<M/\zi 2000 M) (hb:0<=B) (ou:B<M):W (xA fu [.int N,.int M,.int B] S) λv S'=>S=S'/\∃bf rs fb f,v= .tup [.int rs,.int f]/\Eu M N bf rs fb f/\rs<=B/\B<bf:=by
 walk_at "wr";unfold wS;nofun
 refine yX hM.1 ?_
 nofun
 refine YC (λρ S'=>S=S'/\∃bf rs fb f a7 a8 a9,ρ=[some (.int N),some (.int M),some (.int B),some (.int bf),some (.int rs),some (.int fb),some (.int f),a7,a8,a9]/\Eu M N bf rs fb f/\rs<=B/\B<bf/\bf<=M) (zlF (zdO hM hb fu _ _ _ _ _ _ _ (Eu.start hM.1) ou (El _) ?_) (λ_ _ h=>h) (λ_ _ z=>z.elim)) ?_
 ·have h1:=Ao N hM.1
  have h2:=AI N (show M≠0 by omega)
  have h3:=hf.bits hM.2 ∅
  omega
 ·rintro _ _ ⟨rfl,bf,rs,fb,f,a7,a8,a9,rfl,eu,h1,h2,h3⟩
  nofun
  exact⟨rfl,bf,rs,fb,f,rfl,eu,h1,h2⟩
end
section
variable {fu:Nat} {S:Sto} {M N B:Int}
theorem zfJ (hf:Big fu) {q:Nat} (hq:Pr q) (hb:zi 2000 (q:Int)) {r:Int} (h0:0<r) (h1:r<q):W (Zx fu [.int r,.int (q:Int)] S) λv S'=>S=S'/\∃i:Int,v= .int i/\0<=i/\i<q/\Cg (q:Int) (r*i) 1:=by
 have q1:=hq.1
 walk_at "wr";unfold Zw;nofun
 refine (zeN hf ⟨⋯,hb⟩ ∅ ⋯).imp ?_
 rintro _ _ ⟨rfl,bf,rs,fb,f,rfl,eu,h2,h3⟩
 have h4:rs=1:=by
  have p:=eu.pos
  by_cases z:rs=0
  ·exfalso
   obtain⟨d1,d2⟩:=eu.dv bf (Fj _) (by rw[z];exact Int.dvd_zero _)
   have d1:bf.natAbs∣q:=by
    have:=Cj.2 d1
    simpa using this
   rcases hq.2 _ d1 with e|e
   ·omega
   ·have:bf<=r:=Gc h0 d2
    omega
  ·omega
 subst h4
 nofun
 refine zdh ?_
 nofun
 refine yD (λ_=> ?_) (λz=>absurd rfl z)
 nofun
 refine yX ⋯ ?_
 refine⟨rfl,f % (q:Int),rfl,AI _ ⋯,Ao _ ⋯,?_⟩
 obtain⟨k,hk⟩:=eu.cg
 have:=(Cg.refl (m:=(q:Int)) (a:=r)).mul (Cg.mod (q:Int) f)
 exact this.trans ⟨k,by rw[B4];exact hk⟩
def Ra (M B N X D:Int):Prop:= -B<=X/\X<=B/\0<D/\D<=B/\∃k,D*N=X+M*k
theorem zlH (hf:Big fu) (hM:0<M/\zi 2000 M) (hb:0<=B) (h2:2*(B*B)<M):W (ww fu [.int N,.int M,.int B] S) λv S'=>S=S'/\((v= .non/\∀X D,¬Ra M B N X D)\/∃t b,v= .tup [.int t,.int b]/\0<b/\b<=B/\ -B<=t/\t<=B/\∀X D,Ra M B N X D->∃e,X=e*t/\D=e*b):=by
 have ou:B<M:=by
  have:B<=B*B\/B=0:=by
   by_cases z:B=0
   ·exact .inr z
   ·left
    have:=Ab (show 1<=B by omega) hb
    omega
  omega
 walk_at "wr";unfold wv;nofun
 refine (zeN hf hM hb ou).imp ?_
 rintro _ _ ⟨rfl,bf,rs,fb,f,rfl,eu,h3,h4⟩
 have rat:∀X D,Ra M B N X D->∃e,X=e*rs/\D=e*f:=λX D ⟨a1,a2,a3,a4,k,a5⟩=>eu.rat h3 h4 ⟨a1,a2⟩ ⟨⋯,a4⟩ h2 a5
 have p:=eu.pos
 have f0:=eu.fle.2.2
 nofun
 refine yG ?_
 nofun
 refine Vm ?_
 nofun
 refine yD (λh=> ?_) (λh=> ?_)
 ·nofun
  refine⟨rfl,.inl ⟨rfl,λX D hr=> ?_⟩⟩
  obtain⟨e,_,e2⟩:=rat X D hr
  obtain⟨_,_,a3,a4,_⟩:=hr
  have e0:e≠0:=λz=>by rw[z,Fo] at e2;omega
  have:f.natAbs<=D.natAbs:=by
   rw[e2,Bm]
   exact Ep _ ⋯
  omega
 ·nofun
  refine zdh ?_
  nofun
  refine yD (λh5=> ?_) (λh5=> ?_)
  ·nofun
   exact⟨rfl,.inr ⟨rs,f,rfl,h5,⋯,⋯,h3,rat⟩⟩
  ·nofun
   refine⟨rfl,.inr ⟨-rs, -f,rfl,⋯,⋯,⋯,⋯,λX D hr=> ?_⟩⟩
   obtain⟨e,e1,e2⟩:=rat X D hr
   exact⟨-e,by rw[G2];exact e1,by rw[G2];exact e2⟩
theorem zlI (hM:0<M):W (wU fu [.int N,.int M] S) λv S'=>S=S'/\∃t:Int,v= .int t/\Cg M t N/\(t.natAbs:Int)<=M:=by
 walk_at "wr";unfold wT;nofun
 refine yX hM ?_
 have h1:=Ao N hM
 have h2:=AI N (show M≠0 by omega)
 nofun
 refine zdh ?_
 nofun
 refine yD (λ_=> ?_) (λ_=> ?_)
 ·nofun
  exact⟨rfl,_,rfl,Cg.mod M N,⋯⟩
 ·nofun
  refine⟨rfl,_,rfl,(Cg.mod M N).trans .refl|>λh=> ?_,⋯⟩
  obtain⟨k,e⟩:=h
  exact⟨k-1,by rw[e,FA];omega⟩
def RaL (M B:Int) (Ns:List Int) (X:Nat->Int) (D:Int):Prop:=0<D/\D<=B/\∀(i:Nat) N,Ns[i]? =some N-> -B<=X i/\X i<=B/\∃k,D*N=X i+M*k
def QuP (M B:Int) (Ns:List Int) (ts:List Int) (b:Int):Prop:=0<b/\b<=B/\(∀t∈ts,zi 300000 t)/\∀X D,RaL M B Ns X D->∃e,D=e*b/\∀(i:Nat) t,ts[i]? =some t->X i=e*t
def QuR (M B:Int) (Ns:List Int) (S:Sto) (v:Xv) (S':Sto):Prop:=Le S S'/\((v= .non/\∀X D,¬RaL M B Ns X D)\/∃(tn:Nat) (ts:List Int) (b:Int),v= .tup [.ref tn,.int b]/\S'[tn]? =some (.lst (ts.map .int))/\ts.length=Ns.length/\QuP M B Ns ts b)
def QuI (M B:Int) (Ns:List Int) (nn:Nat) (S:Sto) (i:Nat) (ρ:Rho) (S':Sto):Prop:=∃(tn:Nat) (ts:List Int) (b:Int) (a5 a6 a7:Option Xv),ρ=[some (.ref nn),some (.int M),some (.int B),some (.ref tn),some (.int b),a5,a6,a7]/\Le S S'/\S.length<=tn/\S'[tn]? =some (.lst (ts.map .int))/\ts.length=i/\0<b/\b<=B/\(∀t∈ts,zi (2000+i*2000) t)/\∀X D,RaL M B Ns X D->∃e,D=e*b/\∀(j:Nat) t,ts[j]? =some t->X j=e*t
theorem zjC (hf:Big fu) (hM:0<M/\zi 2000 M) (hb:1<=B) (h2:2*(B*B)<M) {nn:Nat} {Ns:List Int} (hn:S[nn]? =some (.lst (Ns.map .int))) (hl:Ns.length<=100) (hN:∀N∈Ns,zi 2000 N):
  W (yT fu [.ref nn,.int M,.int B] S) (QuR M B Ns S):=by
 have hB:zi 2000 B:=hM.2.abs (by
  have:B*1<=B*B:=Ab hb ⋯
  omega)
 walk_at "wr";unfold wa;nofun
 refine xK (vS ?_)
 nofun
 refine⟨_,zb (zB hn),_,zb (zB hn),?_⟩
 refine yN (xs:=Ns.map .int) (QuI M B Ns nn S) ?_ ?_ ?_ ?_
 ·rintro i ρ S' _ ⟨tn,ts,b,a5,a6,a7,rfl,le,_⟩
  exact zb (le.2 _ _ hn)
 ·rintro i x ρ S' hx ⟨tn,ts,b,a5,a6,a7,rfl,le,pQ,dj,fj,b0,bB,kF,k5⟩
  rw[y8,z0] at hx
  obtain⟨N,hx,rfl⟩:=hx
  have tS:=hN N (z4 hx)
  have dy:i<100:=by have:=(y4.1 hx).1;omega
  have hW:zi 2000 b:=hB.abs ⋯
  nofun
  refine .of rfl ?_
  dsimp only[AK]
  nofun
  refine ye tS hW ∅ ?_
  nofun
  refine (zlI hM.1).imp ?_
  rintro _ _ ⟨rfl,t,rfl,mW,en⟩
  have mV:zi 2000 t:=hM.2.abs ⋯
  nofun
  have fin:∀(S1:Sto) (tn':Nat) (ts':List Int) (b' t':Int) (a7:Option Xv),Le S S1->S.length<=tn'->S1[tn']? =some (.lst (ts'.map .int))->ts'.length=i->0<b'->b'<=B->(∀t∈ts',zi (2000+(i+1)*2000) t)->zi 2000 t'->(∀X D,RaL M B Ns X D->∃e,D=e*b'/\(∀(j:Nat) t,ts'[j]? =some t->X j=e*t)/\X i=e*t')->
    W (eMt yw (za 3) [za 6] [some (.ref nn),some (.int M),some (.int B),some (.ref tn'),some (.int b'),some (.int N),some (.int t'),a7] S1) λ_ S2=>QuI M B Ns nn S (i+1) [some (.ref nn),some (.int M),some (.int B),some (.ref tn'),some (.int b'),some (.int N),some (.int t'),a7] S2:=by
   intro S1 tn' ts' b' t' a7 e7 jW iz jX uw uv oh mU nc
   refine Yp ?_
   nofun
   refine⟨⟨_,zb iz⟩,?_⟩
   nofun
   refine yY (xk iz) (by rw[y7];exact yo ⋯) ?_
   refine⟨tn',ts'++[t'],b',_,_,_,rfl,e7.set jW,jW,by rw[yp iz];simp,by simp[jX],uw,uv,λt ht=> ?_,λX D hr=> ?_⟩
   ·rcases Aa.1 ht with ht|ht
    ·exact oh t ht
    ·rw[A4.1 ht];exact mU.mono ⋯
   ·obtain⟨e,e1,e2,e3⟩:=nc X D hr
    refine⟨e,e1,λj t hj=> ?_⟩
    by_cases gZ:j<ts'.length
    ·rw[y9 gZ] at hj;exact e2 j t hj
    ·rw[z6 ⋯] at hj
     have:j=i:=by
      have:=(y4.1 hj).1
      simp at this
      omega
     subst this
     rw[jX,AG] at hj
     cases hj
     exact e3
  have pair:∀X D,RaL M B Ns X D->∃e,D=e*b/\(∀(j:Nat) t,ts[j]? =some t->X j=e*t)/\0<e/\Ra M B t (X i) e:=λX D hr=>by
   obtain⟨e,e1,e2⟩:=k5 X D hr
   obtain⟨d0,d1,d2⟩:=id hr
   obtain⟨c1,c2,k,c3⟩:=d2 i N hx
   have e0:0<e:=by
    apply FP
    intro z
    have:=CV z (show -b<=0 by omega)
    rw[CY] at this
    omega
   have eB:e<=B:=by
    have:=Ab (show 1<=b by omega) (Br e0)
    omega
   obtain⟨k2,c4⟩:=mW
   exact⟨e,e1,e2,e0,c1,c2,e0,eB,k+e*k2,by rw[c4];grind⟩
  refine yG ?_
  nofun
  refine Vm ?_
  nofun
  refine yD (λiU=> ?_) (λiU=> ?_)
  ·nofun
   refine (zlH hf hM ⋯ h2).imp ?_
   rintro _ _ ⟨rfl,⟨rfl,fe⟩|⟨t1,b1,rfl,f1,f2,f3,f4,f5⟩⟩
   ·nofun
    refine yG (zel ?_)
    nofun
    refine Vn ?_
    nofun
    refine⟨λ_=> ?_,nofun⟩
    refine⟨λ_=> ?_,nofun⟩
    nofun
    refine⟨le,.inl ⟨rfl,λX D hr=> ?_⟩⟩
    obtain⟨e,_,_,_,k6⟩:=pair X D hr
    exact fe _ _ k6
   ·have lO:zi 2000 b1:=hB.abs ⋯
    nofun
    refine yG (zel ?_)
    nofun
    refine Vn ?_
    nofun
    refine⟨nofun,λ_=> ?_⟩
    nofun
    refine ye hW lO ∅ ?_
    nofun
    refine yD (λsX=> ?_) (λsX=> ?_)
    ·nofun
     refine⟨le,.inl ⟨rfl,λX D hr=> ?_⟩⟩
     obtain⟨e,e1,_,e0,k6⟩:=pair X D hr
     obtain⟨e',g1,g2⟩:=f5 _ _ k6
     have x5:0<e':=by
      apply FP
      intro z
      have:=CV z (show -b1<=0 by omega)
      rw[CY] at this
      omega
     have:b*b1<=D:=by
      rw[e1,g2]
      have:=Ab (show 1<=e' by omega) (Br (C7 b0 f1))
      rw[show e'*b1*b=b*b1*e' by grind]
      omega
     have:=hr.2.1
     omega
    ·nofun
     refine yO (vS ?_)
     nofun
     refine⟨_,zb dj,_,zb dj,?_⟩
     refine yu (xs:=ts.map .int) (by rw[y7];exact Ag (yo ⋯)) (λj es S1=>S'=S1/\es=((ts.take j).map (· *b1)).map .int) ?_ ?_ ?_ ?_
     ·rintro j es S1 _ ⟨rfl,_⟩;exact zb dj
     ·rintro j x es S1 dO bO ⟨rfl,rfl⟩
      rw[y8,z0] at dO
      obtain⟨tj,dO,rfl⟩:=dO
      have tJ:=kF tj (z4 dO)
      refine .of rfl ?_
      nofun
      refine⟨rfl,?_⟩
      nofun
      refine ye tJ lO ⋯ ?_
      refine⟨rfl,?_⟩
      rw[AJ,dO]
      simp
     ·exact⟨rfl,by simp⟩
     ·rintro es S1 bO ⟨rfl,rfl⟩
      rw[y7,Ar]
      nofun
      refine ye hW lO ∅ ?_
      nofun
      refine fin _ _ (ts.map (· *b1)) (b*b1) t1 _ le.app (A2 le.1 (z5 _)) zw (by simp[fj]) (C7 b0 f1) ⋯ (λt ht=> ?_) (hB.abs ⋯) λX D hr=> ?_
      ·obtain⟨t',rX,rfl⟩:=AA.1 ht
       exact ((kF t' rX).mul lO).mono ⋯
      ·obtain⟨e,e1,e2,e0,k6⟩:=pair X D hr
       obtain⟨e',g1,g2⟩:=f5 _ _ k6
       refine⟨e',by rw[e1,g2];grind,λj t hj=> ?_,g1⟩
       rw[y8,z0] at hj
       obtain⟨t',hj,rfl⟩:=hj
       rw[e2 j t' hj,g2]
       grind
  ·nofun
   refine fin S' tn ts b t _ le pQ dj fj b0 bB (λt ht=>(kF t ht).mono ⋯) mV λX D hr=> ?_
   obtain⟨e,e1,e2,e0,c1,c2,_,c4,k,c5⟩:=pair X D hr
   refine⟨e,e1,e2,?_⟩
   have s1:(e*t).natAbs<=(B*B).natAbs:=by
    rw[Bm,Bm]
    exact ED ⋯ ⋯
   have s2:B<=B*B:=by
    have:=Ab hb (show 0<=B by omega)
    omega
   exact (Cg.small (m:=M) ⟨k,c5⟩ ⋯ ⋯).symm
 ·exact⟨_,[],1,_,_,_,rfl,Le.refl.app,z5 _,zw,rfl,∅,hb,(λt ht=>by cases ht),λX D hr=>⟨D,⋯,λj t hj=>by simp at hj⟩⟩
 ·rintro ρ S' ⟨tn,ts,b,a5,a6,a7,rfl,le,pQ,dj,fj,b0,bB,kF,k5⟩
  nofun
  refine⟨le,.inr ⟨tn,ts,b,rfl,dj,by rw[fj,y7],b0,bB,λt ht=>(kF t ht).mono ?_,k5⟩⟩
  rw[y7]
  omega
end
section
variable {fu:Nat} {S S':Sto} {x:Xv}
noncomputable def prt (p:Nat×Int):Xv:= .tup [.int p.1,.int p.2]
noncomputable def vec (vs:List Int) (i:Nat):Int:=vs.getD i 0
theorem Wd {vs:List Int} {i:Nat} (h:i<vs.length):vs[i]? =some (vec vs i):=by unfold vec;rw[z8,y6 h];rfl
theorem zhT (bs:List Int):YA (bs.map Xv.int)=some bs:=zfm bs
theorem zlJ {P:Xv->Sto->Prop} {l:List Xv} {bs:List Int} (h:zv S x=some l) (h2:YA l=some bs) (k:P (.int bs.sum) S):WO (zb7 [x] S) P:= .of (by unfold zb7;dsimp only;rw[h,A1,h2];rfl) k
structure VH (S:Sto) (n:Nat) (r:List (Nat×Int)×Int):Prop where
 ex:∃pn,S[n]? =some (.ins "WholeRow" [("parts",.ref pn),("last",.int r.2)])/\S[pn]? =some (.lst (r.1.map prt))
theorem VH.le {n:Nat} {r:List (Nat×Int)×Int} (h:VH S n r) (l:Le S S'):VH S' n r:=by
 obtain⟨pn,h1,h2⟩:=h.ex
 exact⟨pn,l.2 _ _ h1,l.2 _ _ h2⟩
structure Xg (many:Nat) (r:List (Nat×Int)×Int):Prop where
 nd:NdE r.1
 lt:∀p∈r.1,p.1<many/\zi 2000 p.2
 last:zi 2000 r.2
theorem NdE.len {es:List (Nat×Int)} {many:Nat} (h:NdE es) (hl:∀p∈es,p.1<many):es.length<=many:=by
 have e:∀i,i<es.length->((es.map (·.1))[i]?).getD 0=(es.map (·.1)).getD i 0:=λi hi=>by rw[z8]
 refine php many es.length (λi=>((es.map (·.1))[i]?).getD 0) (λi hi=> ?_) λi j fQ hj z=> ?_
 ·rw[y8,y6 hi]
  exact hl _ (DN hi)
 ·have h1:i<(es.map (·.1)).length:=by rw[y7];omega
  have h2:j<(es.map (·.1)).length:=by rw[y7];omega
  rw[y6 h1,y6 h2] at z
  have:=(C0 h).1 z
  omega
theorem zhU {ρ:Rho} {e:TwE} {k pn vn n m:Nat} {ps:List (Nat×Int)} {vs:List Int} {P:Xv->Sto->Prop} (he:W (e ρ S) λy S1=>y= .ref pn/\S=S1) (hk:(ρ[k]?).join=some (.ref vn)) (hp:S[pn]? =some (.lst (ps.map prt))) (hv:S[vn]? =some (.lst (vs.map .int))) (hl:ps.length<=20000) (cA:∀p∈ps,p.1<vs.length/\zi n p.2) (hb:∀v∈vs,zi m v) (hn:n+m<=134217728) (q:∀T,P (.int (zt ps (vec vs))) (S++[T])):
  W (eFn zb7 [xy [none,none,some k] (iL e) (gT 2 (zJ (gN 0) (zJ (gN 1) xG))) xH (eOp yk (za 1) (eOp vH (za 2) (za 0)))] ρ S) P:=by
 refine zem (wL (yO (vS (he.imp ?_))))
 rintro _ _ ⟨rfl,rfl⟩
 refine⟨_,zb hp,_,zb hp,?_⟩
 have hc:za5 [none,none,some k] ρ=[none,none,some (.ref vn)]:=by
  simp only[za5,List.map,Option.bind_none,A1,hk]
 rw[hc]
 refine yu (xs:=ps.map prt) (by rw[y7];exact Ag (yo hl)) (λj es S1=>S=S1/\es=((ps.take j).map λp=>p.2*vec vs p.1).map .int) ?_ ?_ ?_ ?_
 ·rintro j es S1 _ ⟨rfl,_⟩;exact zb hp
 ·rintro j y es S1 hy bO ⟨rfl,rfl⟩
  rw[y8,z0] at hy
  obtain⟨p,hy,rfl⟩:=hy
  obtain⟨l1,l2⟩:=cA p (z4 hy)
  refine .of rfl ?_
  nofun
  refine⟨rfl,?_⟩
  nofun
  refine wM (zb hv) (Zt (z:= .int (vec vs p.1)) ⋯ (by rw[y8,Ae,Wd l1];rfl)) ?_
  refine ye l2 (hb _ (z4 (Wd l1))) hn ?_
  refine⟨rfl,?_⟩
  rw[AJ,hy]
  simp
 ·exact⟨rfl,by simp⟩
 ·rintro es S1 bO ⟨rfl,rfl⟩
  rw[y7,Ar]
  refine zdi (zlJ (zb zw) (zhT _) ?_)
  exact q _
theorem zcF {n m k:Nat} {ps:List (Nat×Int)} {vs:List Int} (cA:∀p∈ps,p.1<vs.length/\zi n p.2) (hb:∀v∈vs,zi m v) (hl:ps.length<=k):zi (n+m+k) (zt ps (vec vs)):=by
 induction ps generalizing k with
 |nil=>unfold zi;rw[Uf];exact Nat.pow_pos ∅
 |cons p r ih=>
  obtain⟨k,rfl⟩:∃k',k=k'+1:=⟨k-1,by simp at hl;omega⟩
  obtain⟨l1,l2⟩:=cA p (.head _)
  rw[yf]
  exact zi.add (n:=n+m+k) ((l2.mul (hb _ (z4 (Wd l1)))).mono ⋯) (ih (λq hq=>cA q (.tail _ hq)) (by simp at hl;omega)) ⋯
theorem zeO {rn vn many:Nat} {r:List (Nat×Int)×Int} {vs:List Int} {m:Nat} (h:VH S rn r) (ok:Xg many r) (hv:S[vn]? =some (.lst (vs.map .int))) (hl:vs.length=many) (hm:many<=100) (hb:∀v∈vs,zi m v) (js:m<=1000000):
  W (ZP fu [.ref rn,.ref vn] S) λv S'=>v= .int (zt r.1 (vec vs))/\Le S S':=by
 obtain⟨pn,h1,h2⟩:=h.ex
 have hlen:=ok.nd.len λp hp=>(ok.lt p hp).1
 walk_at "wr";unfold Vj
 refine YB (zhU (pn:=pn) (vn:=vn) (n:=2000) (m:=m) (ps:=r.1) (vs:=vs) (vg ?_) rfl h2 hv ⋯ (λp hp=>⟨by rw[hl];exact (ok.lt p hp).1,(ok.lt p hp).2⟩) hb ⋯ λT=>⟨rfl,Le.refl.app⟩)
 nofun
 exact⟨rn,_,.ref pn,rfl,h1,rfl,rfl,rfl⟩
def wD (S:Sto) (n:Nat) (rs:List (List (Nat×Int)×Int)):Prop:=∃ms:List Nat,S[n]? =some (.lst (ms.map .ref))/\ms.length=rs.length/\∀(i m:Nat) r,ms[i]? =some m->rs[i]? =some r->VH S m r
theorem wD.le {n:Nat} {rs:List (List (Nat×Int)×Int)} (h:wD S n rs) (l:Le S S'):wD S' n rs:=by
 obtain⟨ms,h1,h2,h3⟩:=h
 exact⟨ms,l.2 _ _ h1,h2,λi m r e1 e2=>(h3 i m r e1 e2).le l⟩
theorem zaC {rn vn many:Nat} {rs:List (List (Nat×Int)×Int)} {vs:List Int} {b:Int} {m:Nat} (h:wD S rn rs) (ok:∀r∈rs,Xg many r) (hv:S[vn]? =some (.lst (vs.map .int))) (hl:vs.length=many) (hm:many<=100) (hb:∀v∈vs,zi m v) (js:m<=1000000) (hW:zi 9000 b):
  W (vD fu [.ref rn,.ref vn,.int b] S) λv S'=>v= .bl (decide (∀r∈rs,zt r.1 (vec vs)=r.2*b))/\Le S S':=by
 obtain⟨ms,h1,h2,h3⟩:=id h
 walk_at "wr";unfold Xb
 nofun
 refine xK (vS ?_)
 nofun
 refine⟨_,zb h1,_,zb h1,?_⟩
 refine yN (xs:=ms.map .ref) (λi ρ S'=>∃a3,ρ=[some (.ref rn),some (.ref vn),some (.int b),a3]/\Le S S'/\∀r∈rs.take i,zt r.1 (vec vs)=r.2*b) ?_ ?_ ?_ ?_
 ·rintro i ρ S' _ ⟨a3,rfl,le,_⟩;exact zb (le.2 _ _ h1)
 ·rintro i y ρ S' hy ⟨a3,rfl,le,ck⟩
  rw[y8,z0] at hy
  obtain⟨mi,hy,rfl⟩:=hy
  have hi:i<rs.length:=by rw[<-h2];exact (y4.1 hy).1
  have er:rs[i]? =some rs[i]:=y6 hi
  generalize rs[i]=r at er
  have hr:=z4 er
  have ra:=(h3 i mi r hy er).le le
  refine .of rfl ?_
  dsimp only[AK]
  refine yG ?_
  nofun
  refine (zeO ra (ok r hr) (le.2 _ _ hv) hl hm hb js).imp ?_
  rintro _ S1 ⟨rfl,e7⟩
  obtain⟨pn,g1,g2⟩:=(ra.le e7).ex
  refine Ze (vg ?_)
  nofun
  refine⟨mi,_,.int r.2,rfl,g1,rfl,?_⟩
  nofun
  refine ye (ok r hr).last hW ∅ ?_
  nofun
  refine Wb (λcE=> ?_) (λhe=> ?_)
  ·nofun
   refine⟨?_,le.trans e7⟩
   rw[decide_eq_false λz=>cE (z r hr)]
  ·nofun
   refine⟨le.trans e7,λr' cY=> ?_⟩
   rw[AJ,er] at cY
   rcases Aa.1 cY with cY|cY
   ·exact ck r' cY
   ·rw[show r'=r by simpa using cY];exact he
 ·exact⟨_,rfl,Le.refl,λr hr=>by simp at hr⟩
 ·rintro ρ S' ⟨a3,rfl,le,ck⟩
  nofun
  rw[y7,h2,Ar] at ck
  exact⟨by rw[decide_eq_true ck],le⟩
end
section
variable {fu:Nat} {S S':Sto} {x:Xv}
noncomputable def dkE (es:List (Nat×Int)):List (Key×Xv):=es.map λp=>((.inl (p.1:Int):Key),Xv.int p.2)
theorem We {a b:Nat}:((.inl (a:Int):Key)= .inl (b:Int))↔a=b:=by
 constructor
 ·intro h;injection h with h;omega
 ·intro h;rw[h]
theorem Xx {es:List (Nat×Int)} {c:Nat}:wY (dkE es) (.inl (c:Int))=(yh es c).map .int:=by
 unfold wY yh dkE
 induction es with
 |nil=>rfl
 |cons p r ih=>
  rw[A6,AZ,AZ]
  by_cases e:p.1=c
  ·rw[decide_eq_true (We.2 e),decide_eq_true e];rfl
  ·rw[decide_eq_false (λz=>e (We.1 z)),decide_eq_false e];exact ih
theorem zbu {es:List (Nat×Int)} {c:Nat} {v:Int}:zfp (dkE es) (.inl (c:Int)) (.int v)=dkE (Vp es c v):=by
 unfold zfp Vp
 have h1:((dkE es).any λkv=>decide (kv.1=(.inl (c:Int):Key)))=es.any λp=>decide (p.1=c):=by
  unfold dkE
  rw[List.any_map]
  congr 1
  funext p
  exact decide_eq_decide.2 We
 rw[h1]
 split
 ·unfold dkE
  rw[Ci,Ci]
  refine C4 λp _=> ?_
  simp only[EW]
  by_cases e:p.1=c
  ·rw[if_pos (We.2 e),if_pos e]
  ·rw[if_neg (λz=>e (We.1 z)),if_neg e]
 ·unfold dkE;simp
theorem zeP {es:List (Nat×Int)} {c:Nat}:zcu (dkE es) (.inl (c:Int))=dkE (xC es c):=by
 unfold zcu xC dkE
 rw[List.filter_map]
 congr 1
 refine List.filter_congr λp _=> ?_
 simp only[EW]
 exact decide_eq_decide.2 (not_congr We)
theorem vE {c:Nat}:Ws (.int (c:Int))=some (.inl (c:Int)):=rfl
structure zcG (S:Sto) (n:Nat) (s:Stp):Prop where
 ex:∃fn pn,S[n]? =some (.ins "Step" [("row",.int s.row),("column",.int s.col),("inverse",.int s.inv),("factors",.ref fn),("parts",.ref pn)])/\S[fn]? =some (.lst (s.fac.map prt))/\S[pn]? =some (.lst (s.par.map prt))
theorem zcG.le {n:Nat} {s:Stp} (h:zcG S n s) (l:Le S S'):zcG S' n s:=by
 obtain⟨fn,pn,h1,h2,h3⟩:=h.ex
 exact⟨fn,pn,l.2 _ _ h1,l.2 _ _ h2,l.2 _ _ h3⟩
structure zbv (s:Stp):Prop where
 inv:zi 2000 s.inv
 fac:s.fac.length<=100/\∀p∈s.fac,zi 2000 p.2
 par:s.par.length<=100/\∀p∈s.par,zi 2000 p.2
def wb (S:Sto) (n:Nat) (ss:List Stp):Prop:=∃ms:List Nat,S[n]? =some (.lst (ms.map .ref))/\ms.length=ss.length/\∀(i m:Nat) s,ms[i]? =some m->ss[i]? =some s->zcG S m s
theorem wb.le {n:Nat} {ss:List Stp} (h:wb S n ss) (l:Le S S'):wb S' n ss:=by
 obtain⟨ms,h1,h2,h3⟩:=h
 exact⟨ms,l.2 _ _ h1,h2,λi m r e1 e2=>(h3 i m r e1 e2).le l⟩
structure zko (S:Sto) (d n:Nat) (ss:List Stp):Prop where
 ex:∃ms:List Nat,n≠d/\S[n]? =some (.lst (ms.map .ref))/\ms.length=ss.length/\∀(i m:Nat) s,ms[i]? =some m->ss[i]? =some s->m≠d/\∃fn pn,fn≠d/\pn≠d/\S[m]? =some (.ins "Step" [("row",.int s.row),("column",.int s.col),("inverse",.int s.inv),("factors",.ref fn),("parts",.ref pn)])/\S[fn]? =some (.lst (s.fac.map prt))/\S[pn]? =some (.lst (s.par.map prt))
theorem wb.toX {n d:Nat} {ss:List Stp} {c:List (Key×Xv)} (h:wb S n ss) (hd:S[d]? =some (.dk c)):zko S d n ss:=by
 obtain⟨ms,h1,h2,h3⟩:=h
 refine⟨ms,(λz=>by rw[z,hd] at h1;cases h1),h1,h2,λi m s e1 e2=> ?_⟩
 obtain⟨fn,pn,g1,g2,g3⟩:=(h3 i m s e1 e2).ex
 exact⟨(λz=>by rw[z,hd] at g1;cases g1),fn,pn,(λz=>by rw[z,hd] at g2;cases g2),(λz=>by rw[z,hd] at g3;cases g3),g1,g2,g3⟩
structure TkI (C:Nat->Prop) (m:Int) (many:Nat) (ss:List Stp) (es0:List (Nat×Int)) (i:Nat) (es fs:List (Nat×Int)):Prop where
 nd:NdE es
 col:∀p∈es,p.1<many/\p.1∉xg (ss.take i)/\zi (4001+i*100) p.2
 cc:∀p∈es,C p.1
 fl:fs.length<=i
 fac:∀f∈fs,f.1<i/\zi 2000 f.2
 eq:∀x,Cg m (zt es0 x) (zt fs (ats ss x)+zt es x)
theorem zfK {C:Nat->Prop} {m:Int} {many dn sn:Nat} {rows:List (List (Nat×Int)×Int)} {ss:List Stp} {es0:List (Nat×Int)} (hm:0<m/\zi 2000 m) (hd:S[dn]? =some (.dk (dkE es0))) (hs:zko S dn sn ss) (eQ:Sts m many rows ss) (fL:∀s∈ss,zbv s) (nd:NdE es0) (hc:∀p∈es0,p.1<many/\zi 2000 p.2) (dw:many<=100) (tX:∀p∈es0,C p.1) (tV:∀s∈ss,∀p∈s.par,C p.1):
  W (YS fu [.ref dn,.ref sn,.int m] S) λv S'=>LeX dn S S'/\∃fn es fs,v= .ref fn/\S.length<=fn/\S'[fn]? =some (.lst (fs.map prt))/\S'[dn]? =some (.dk (dkE es))/\TkI C m many ss es0 ss.length es fs:=by
 obtain⟨ms,h0,h1,h2,h3⟩:=hs.ex
 have mZ:ss.length<=100:=A2 eQ.le dw
 walk_at "wr";unfold YR
 nofun
 refine xK (zdj ?_)
 nofun
 refine⟨_,zb (zB h1),_,congrArg (Ct xJ) (zb (zB h1)),?_⟩
 have bO:(xJ (ms.map .ref)).length=ss.length:=by rw[zan,y7,h2]
 refine yN (xs:=xJ (ms.map .ref)) (λi ρ S'=>∃fn es fs a4 a5 a6 a7 a8,ρ=[some (.ref dn),some (.ref sn),some (.int m),some (.ref fn),a4,a5,a6,a7,a8]/\LeX dn S S'/\S.length<=fn/\S'[fn]? =some (.lst (fs.map prt))/\S'[dn]? =some (.dk (dkE es))/\TkI C m many ss es0 i es fs) ?_ ?_ ?_ ?_
 ·rintro i ρ S' _ ⟨fn,es,fs,a4,a5,a6,a7,a8,rfl,le,_⟩
  exact congrArg (Ct xJ) (zb (le.2 _ _ h0 h1))
 ·rintro i y ρ S' hy ⟨fn,es,fs,a4,a5,a6,a7,a8,rfl,le,fT,hf,hJ,tk⟩
  obtain⟨y',ly,rfl⟩:=zca hy
  clear hy
  rw[y8,z0] at ly
  obtain⟨mi,hy,rfl⟩:=ly
  have hi:i<ss.length:=by rw[<-h2];exact (y4.1 hy).1
  have er:ss[i]? =some ss[i]:=y6 hi
  generalize ss[i]=s at er
  have so:=eQ.at i s er
  have sb:=fL s (z4 er)
  obtain⟨g0,fn',pn,g1,g2,g3,g4,g5⟩:=h3 i mi s hy er
  have q3:=le.2 _ _ g0 g3
  have q5:=le.2 _ _ g2 g5
  have tN:∀x,ats ss x i=s.at x:=λx=>by unfold ats;rw[er];rfl
  have htk:∀c,c∉xg (ss.take i)->c≠s.col->c∉xg (ss.take (i+1)):=λc a b=>by
   rw[AJ,er]
   exact Vo.2 ⟨a,b⟩
  have e1:∀p∈xC es s.col,p.1<many/\p.1∉xg (ss.take (i+1))/\zi (4001+i*100) p.2:=λp hp=>by
   obtain⟨a,b⟩:=Xe hp
   obtain⟨c1,c2,c3⟩:=tk.col p a
   exact⟨c1,htk _ c2 b,c3⟩
  refine .of rfl ?_
  dsimp only[AK]
  refine zR (yW (Ze (zhx ?_)))
  nofun
  refine⟨⟨_,yP hJ⟩,vg ?_⟩
  nofun
  refine⟨mi,_,.int (s.col:Int),rfl,q3,rfl,?_⟩
  nofun
  have go:∀(S1:Sto) (e:Int),Le (S.set dn (.lst [])) (S.set dn (.lst []))->LeX dn S' S1->S1[dn]? =some (.dk (dkE (xC es s.col)))->S1[fn]? =some (.lst (fs.map prt))->(∀x,zt es x=e*x s.col+zt (xC es s.col) x)->
    W (za 2 [some (.ref dn),some (.ref sn),some (.int m),some (.ref fn),some (.int (i:Int)),some (.ref mi),a6,a7,a8] S1) λy S2=>WO (wX (.int e) y S2) λd S3=>WS (sIf (bE (eOp UK (za 6) (eC (.int 0)))) (zl (vR (eMt yw (za 3) [(ZK [(za 4),(za 6)])])) (ZL (iL (vT "Step" "parts" (za 5))) (gT 2 (zJ (gN 7) (zJ (gN 8) xG))) (WZ (za 0) (za 7) (eOp Ya (US (za 0) (za 7) (eC (.int 0))) (eOp yk (za 6) (za 8)))))) yt ([some (.ref dn),some (.ref sn),some (.int m),some (.ref fn),some (.int (i:Int)),some (.ref mi),a6,a7,a8].set 6 (some d)) S3)
     (λρ S'=>∃fn es fs a4 a5 a6 a7 a8,ρ=[some (.ref dn),some (.ref sn),some (.int m),some (.ref fn),a4,a5,a6,a7,a8]/\LeX dn S S'/\S.length<=fn/\S'[fn]? =some (.lst (fs.map prt))/\S'[dn]? =some (.dk (dkE es))/\TkI C m many ss es0 (i+1) es fs) (λv S'=>LeX dn S S'/\∃fn es fs,v= .ref fn/\S.length<=fn/\S'[fn]? =some (.lst (fs.map prt))/\S'[dn]? =some (.dk (dkE es))/\TkI C m many ss es0 ss.length es fs):=by
   intro S1 e _ l1 d1 f1 kB
   have ql:fn≠dn:=λz=>by rw[z,d1] at f1;cases f1
   nofun
   refine yX hm.1 ?_
   dsimp only[AK]
   have o5:Cg m (e % m) e:=Cg.mod m e
   have o7:zi 2000 (e % m):=hm.2.abs (by have:=Ao e hm.1;have:=AI e (show m≠0 by omega);omega)
   refine yG ?_
   nofun
   refine Wb (λcE=> ?_) (λhz=> ?_)
   ·-- cS step is taken off
    refine zR (vX (Yp ?_))
    nofun
    refine⟨⟨_,zb f1⟩,?_⟩
    nofun
    refine yY (xk f1) (by rw[y7];exact yo (by have:=tk.fl;omega)) ?_
    have f2:(S1.set fn (.lst (fs.map prt++[.tup [.int (i:Int),.int (e % m)]])))[fn]? =some (.lst ((fs++[(i,e % m)]).map prt)):=by rw[yp f1];simp[prt]
    have d2:(S1.set fn (.lst (fs.map prt++[.tup [.int (i:Int),.int (e % m)]])))[dn]? =some (.dk (dkE (xC es s.col))):=zX d1 ql
    have l2:LeX dn S (S1.set fn (.lst (fs.map prt++[.tup [.int (i:Int),.int (e % m)]]))):=(le.trans l1).set' fT
    have kW:(S1.set fn (.lst (fs.map prt++[.tup [.int (i:Int),.int (e % m)]])))[pn]? =some (.lst (s.par.map prt)):=l2.2 _ _ g2 g5
    have oU:=l2.2 _ _ g0 g3
    generalize (S1.set fn (.lst (fs.map prt++[.tup [.int (i:Int),.int (e % m)]])))=S2 at f2 d2 l2 kW oU
    refine xK (vS (vg ?_))
    nofun
    refine⟨mi,_,.ref pn,rfl,oU,rfl,_,zb kW,_,zb kW,?_⟩
    refine yN (xs:=s.par.map prt) (λk ρ S3=>∃es' a7 a8,ρ=[some (.ref dn),some (.ref sn),some (.int m),some (.ref fn),some (.int (i:Int)),some (.ref mi),some (.int (e % m)),a7,a8]/\LeX dn S2 S3/\S3[dn]? =some (.dk (dkE es'))/\NdE es'/\(∀p∈es',p.1<many/\p.1∉xg (ss.take (i+1))/\zi (4001+i*100+k) p.2)/\(∀p∈es',C p.1)/\∀x,zt es' x=zt (xC es s.col) x-(e % m)*zt (s.par.take k) x) ?_ ?_ ?_ ?_
    ·rintro k ρ S3 _ ⟨es',b7,b8,rfl,l3,_⟩
     exact zb (l3.2 _ _ g2 kW)
    ·rintro k z ρ S3 hz ⟨es',b7,b8,rfl,l3,d3,jJ,c3,oG,t3⟩
     rw[y8,z0] at hz
     obtain⟨p,hz,rfl⟩:=hz
     have nk:=z4 hz
     obtain⟨p1,p2,p3⟩:=so.par p nk
     have pb:=sb.par.2 p nk
     have bZ:k<100:=A0 (y4.1 hz).1 sb.par.1
     have tf:es'.length<=100:=A2 (jJ.len λp hp=>(c3 p hp).1) dw
     have gb:zi (4001+i*100+k) ((yh es' p.1).getD 0):=by
      cases lF:yh es' p.1 with
      |none=>exact zi.small ∅ ⋯
      |some v=>
       unfold yh at lF
       rw[z0] at lF
       obtain⟨q,sq,rfl⟩:=lF
       exact (c3 q (List.mem_of_find?_eq_some sq)).2.2
     refine .of rfl ?_
     dsimp only[AK]
     refine zbc (Ze (zcc ?_))
     nofun
     refine⟨⟨_,yP d3⟩,?_⟩
     nofun
     refine⟨dn,_,_,yP d3,vE,?_⟩
     rw[Xx,show (Ct Xv.int (yh es' p.1)).getD (.int 0)= .int ((yh es' p.1).getD 0) by cases yh es' p.1<;>rfl]
     nofun
     refine ye o7 pb ∅ ?_
     nofun
     refine⟨dn,_,_,yP d3,vE,by unfold dkE;rw[y7];exact yo ⋯,?_⟩
     rw[zbu]
     refine⟨_,_,_,rfl,l3.set,yp d3,zjz jJ,λq hq=> ?_,λq hq=> ?_,λx=> ?_⟩
     ·rcases zcE hq with⟨z1,z2⟩|hq
      ·rw[z1,z2]
       exact⟨p1,htk _ p3 p2,zi.sub (n:=4001+i*100+k) gb ((o7.mul pb).mono ⋯) ⋯⟩
      ·obtain⟨a,b,c⟩:=c3 q hq
       exact⟨a,b,c.mono ⋯⟩
     ·rcases zcE hq with⟨z1,_⟩|hq
      ·rw[z1];exact tV s (z4 er) p nk
      ·exact oG q hq
     ·rw[zjA jJ,t3 x,AJ,hz,Ug]
      show _=_-(e % m)*(_+zt [p] x)
      rw[Uh]
      grind
    ·exact⟨_,_,_,rfl,Le.refl.toX,d2,zeM tk.nd,λp hp=>e1 p hp,λp hp=>tk.cc p (Xe hp).1,λx=>by rw[G7,Uf];omega⟩
    ·rintro ρ S3 ⟨es',b7,b8,rfl,l3,d3,jJ,c3,oG,t3⟩
     rw[y7] at c3 t3
     rw[Ar] at t3
     have nX:fn≠dn:=ql
     refine⟨fn,es',fs++[(i,e % m)],_,_,_,_,_,rfl,l2.trans l3,fT,l3.2 _ _ nX f2,d3,jJ,λp hp=> ?_,oG,by have:=tk.fl;simp;omega,λf hf=> ?_,λx=> ?_⟩
     ·obtain⟨a,b,c⟩:=c3 p hp
      exact⟨a,b,c.mono (by have:=sb.par.1;omega)⟩
     ·rcases Aa.1 hf with hf|hf
      ·have:=tk.fac f hf
       exact⟨⋯,this.2⟩
      ·rw[A4.1 hf]
       exact⟨by show i<i+1;omega,o7⟩
     ·have h5:=tk.eq x
      rw[kB x] at h5
      rw[Ug,Uh,tN x,t3 x]
      unfold Stp.at
      obtain⟨k1,h5⟩:=h5
      obtain⟨k2,h6⟩:=o5
      exact⟨k1-k2*x s.col,by dsimp only;grind⟩
   ·nofun
    refine⟨fn,xC es s.col,fs,_,_,_,_,_,rfl,le.trans l1,fT,f1,d1,zeM tk.nd,λp hp=> ?_,λp hp=>tk.cc p (Xe hp).1,by have:=tk.fl;omega,λf hf=> ?_,λx=> ?_⟩
    ·obtain⟨a,b,c⟩:=e1 p hp
     exact⟨a,b,c.mono ⋯⟩
    ·have:=tk.fac f hf
     exact⟨⋯,this.2⟩
    ·have h5:=tk.eq x
     rw[kB x] at h5
     rw[hz] at o5
     obtain⟨k1,h5⟩:=h5
     obtain⟨k2,h6⟩:=o5
     exact⟨k1-k2*x s.col,by grind⟩
  refine⟨dn,_,_,yP hJ,vE,λv hv=> ?_,λhv=> ?_⟩
  ·rw[Xx,z0] at hv
   obtain⟨e,hv,rfl⟩:=hv
   rw[zeP]
   refine go _ e Le.refl (Le.refl.toX).set (yp hJ) (zX hf (λz=>by rw[z,hf] at hJ;cases hJ)) λx=> ?_
   rw[zeL (c:=s.col) tk.nd,hv]
   rfl
  ·rw[Xx,Option.map_eq_none_iff] at hv
   have fe:∀p∈es,p.1≠s.col:=λp hp z=>by
    have:=Vq tk.nd hp
    rw[z,hv] at this
    cases this
   have ho:=zaB fe
   refine go _ 0 Le.refl Le.refl.toX (by rw[ho];exact hJ) hf λx=> ?_
   rw[ho]
   omega
 ·refine⟨_,es0,[],_,_,_,_,_,rfl,Le.refl.app.toX,z5 _,zw,zB hd,nd,λp hp=>⟨(hc p hp).1,by simp[xg],(hc p hp).2.mono ⋯⟩,tX,z5 _,(λf hf=>by cases hf),λx=>⟨0,by rw[Uf];omega⟩⟩
 ·rintro ρ S' ⟨fn,es,fs,a4,a5,a6,a7,a8,rfl,le,fT,hf,hJ,tk⟩
  rw[bO] at tk
  nofun
  exact⟨le,fn,es,fs,rfl,fT,hf,hJ,tk⟩
end
section
variable {fu:Nat} {S S':Sto} {x:Xv}
theorem zhV {es:List (Nat×Int)} {c:Nat} {v:Int} (h:∀p∈es,p.1≠c):Vp es c v=es++[(c,v)]:=if_neg λz=>by
 obtain⟨p,hp,e⟩:=Cr.1 z
 exact h p hp (of_decide_eq_true e)
noncomputable def wZ (m:Int) (es:List (Nat×Int)):List (Nat×Int):=(es.filter λp=>decide (p.2 % m≠0)).map λp=>(p.1,p.2 % m)
theorem zcH {m:Int} {es:List (Nat×Int)} {p:Nat×Int} (h:p∈wZ m es):∃q∈es,q.1=p.1/\q.2 % m=p.2/\p.2≠0:=by
 unfold wZ at h
 obtain⟨q,hq,rfl⟩:=AA.1 h
 rw[D7] at hq
 exact⟨q,hq.1,rfl,rfl,of_decide_eq_true hq.2⟩
theorem zjD {m:Int} {es:List (Nat×Int)} (h:NdE es):NdE (wZ m es):=by
 unfold NdE wZ
 rw[Ci]
 exact (F0.map _).nodup h
theorem zaD {es:List (Nat×Int)}:UV (dkE es)=es.map prt:=by
 unfold UV dkE
 rw[Ci]
 rfl
theorem zjE {m:Int} {dn:Nat} {es:List (Nat×Int)} (hm:0<m) (hd:S[dn]? =some (.dk (dkE es))) (nd:NdE es) (hl:es.length<=100):
  W (vt fu [.ref dn,.int m] S) λv S'=>LeX dn S S'/\∃rn,v= .ref rn/\S.length<=rn/\S'[rn]? =some (.dk (dkE (wZ m es))):=by
 walk_at "wr";unfold vq
 nofun
 refine xK (zhh ?_)
 nofun
 have jw:(S++[.dk []])[dn]? =some (.dk (dkE es)):=zB hd
 have f0:((S++[Ce.dk []]).set dn (.fdk (dkE es)))[dn]? =some (.fdk (dkE es)):=yp jw
 have fa:∀{S1:Sto},S1[dn]? =some (.fdk (dkE es))->UW dn S1=some (es.map prt):=λ{S1} h=>by unfold UW;rw[h];exact congrArg some zaD
 have cE:dn≠S.length:=Ad (vU hd)
 refine⟨dn,_,yP jw,_,fa f0,?_⟩
 refine yN (xs:=es.map prt) (λi ρ S'=>∃a3 a4,ρ=[some (.ref dn),some (.int m),some (.ref S.length),a3,a4]/\LeX dn S S'/\S'[dn]? =some (.fdk (dkE es))/\S'[S.length]? =some (.dk (dkE (wZ m (es.take i))))) ?_ ?_ ?_ ?_
 ·rintro i ρ S' _ ⟨a3,a4,rfl,_,h,_⟩;exact fa h
 ·rintro i y ρ S' hy ⟨a3,a4,rfl,le,hf,hr⟩
  rw[y8,z0] at hy
  obtain⟨p,hy,rfl⟩:=hy
  refine .of rfl ?_
  dsimp only[AK]
  have dy:=(y4.1 hy).1
  have du:∀q∈wZ m (es.take i),q.1≠p.1:=λq hq=>by
   obtain⟨q',cj,e,_⟩:=zcH hq
   rw[<-e]
   obtain⟨j,hj,rfl⟩:=EE.1 cj
   rw[Am] at hj
   rw[Fv]
   intro z
   have:=(C0 (xs:=es.map λq:Nat×Int=>q.1) (i:=j) (j:=i) (h₀:=by rw[y7];omega) (h₁:=by rw[y7];omega) nd).1 (by rw[D1,D1,z,(y4.1 hy).2])
   omega
  refine yG ?_
  nofun
  refine yX hm ?_
  nofun
  refine Wb (λhz=> ?_) (λhz=> ?_)
  ·refine zbc ?_
   nofun
   refine yX hm ?_
   nofun
   refine⟨S.length,_,_,yP hr,vE,by
    unfold dkE wZ
    rw[y7,y7]
    exact yo (A2 (D3 _ _) (by rw[Am];omega)),?_⟩
   rw[zbu,zhV du]
   refine⟨_,_,rfl,le.set' (z5 _),zX hf cE.symm,?_⟩
   rw[yp hr]
   congr 2
   congr 1
   unfold wZ
   rw[AJ,hy,Fp,Bc]
   congr 1
   simp[hz]
  ·nofun
   refine⟨_,_,rfl,le,hf,?_⟩
   rw[hr]
   congr 2
   congr 1
   unfold wZ
   rw[AJ,hy,Fp,Bc]
   simp[hz]
 ·exact⟨_,_,rfl,(Le.refl.app).toX.set,f0,zX zw cE⟩
 ·rintro ρ S' ⟨a3,a4,rfl,le,hf,hr⟩
  nofun
  rw[y7,Ar] at hr
  exact⟨le,_,rfl,z5 _,hr⟩
theorem Vr {es:List (Nat×Int)} {c d:Nat} {v:Int}:(yh es d).isSome=true\/d=c->(yh (Vp es c v) d).isSome=true:=by
 intro h
 have key:∀l:List (Nat×Int),(yh l d).isSome=true↔∃p∈l,p.1=d:=λl=>by
  unfold yh
  rw[Fs,List.find?_isSome]
  simp
 rw[key] at h ⊢
 unfold Vp
 split
 ·rename_i ha
  rcases h with⟨p,hp,rfl⟩|rfl
  ·refine⟨_,AA.2 ⟨p,hp,rfl⟩,?_⟩
   split<;>rfl
  ·obtain⟨p,hp,e⟩:=Cr.1 ha
   refine⟨_,AA.2 ⟨p,hp,rfl⟩,?_⟩
   have e:=of_decide_eq_true e
   rw[if_pos e]
   exact e
 ·rcases h with⟨p,hp,rfl⟩|rfl
  ·exact⟨p,Bw _ hp,rfl⟩
  ·exact⟨_,Ac _ (A4.2 rfl),rfl⟩
theorem zhW {rn many:Nat} {rs:List (List (Nat×Int)×Int)} (h:wD S rn rs) (ok:∀r∈rs,Xg many r) (hm:many<=100) (hl:rs.length<=100):
  W (vp fu [.ref rn] S) λv S'=>Le S S'/\∃cn cs,v= .ref cn/\S.length<=cn/\S'[cn]? =some (.dk (dkE cs))/\∀r∈rs,∀p∈r.1,(yh cs p.1).isSome=true:=by
 obtain⟨ms,h1,h2,h3⟩:=id h
 walk_at "wr";unfold vo
 nofun
 refine xK (vS ?_)
 nofun
 refine⟨_,zb (zB h1),_,zb (zB h1),?_⟩
 refine yN (xs:=ms.map .ref) (λi ρ S'=>∃cs a2 a3 a4,ρ=[some (.ref rn),some (.ref S.length),a2,a3,a4]/\Le S S'/\S'[S.length]? =some (.dk (dkE cs))/\cs.length<=i*100/\∀r∈rs.take i,∀p∈r.1,(yh cs p.1).isSome=true) ?_ ?_ ?_ ?_
 ·rintro i ρ S' _ ⟨cs,a2,a3,a4,rfl,le,_⟩;exact zb (le.2 _ _ h1)
 ·rintro i y ρ S' hy ⟨cs,a2,a3,a4,rfl,le,hc,eT,ck⟩
  rw[y8,z0] at hy
  obtain⟨mi,hy,rfl⟩:=hy
  have hi:i<rs.length:=by rw[<-h2];exact (y4.1 hy).1
  have er:rs[i]? =some rs[i]:=y6 hi
  generalize rs[i]=r at er
  obtain⟨pn,g1,g2⟩:=((h3 i mi r hy er).le le).ex
  have fw:=ok r (z4 er)
  have fc:r.1.length<=100:=A2 (fw.nd.len λp hp=>(fw.lt p hp).1) hm
  refine .of rfl ?_
  dsimp only[AK]
  refine xK (vS (vg ?_))
  nofun
  refine⟨mi,_,.ref pn,rfl,g1,rfl,_,zb g2,_,zb g2,?_⟩
  have sx:S.length≠pn:=λz=>by rw[z,g2] at hc;cases hc
  refine yN (xs:=r.1.map prt) (λk ρ S1=>∃cs a3 a4,ρ=[some (.ref rn),some (.ref S.length),some (.ref mi),a3,a4]/\Le S S1/\S1[pn]? =some (.lst (r.1.map prt))/\S1[S.length]? =some (.dk (dkE cs))/\cs.length<=i*100+k/\(∀r∈rs.take i,∀p∈r.1,(yh cs p.1).isSome=true)/\∀p∈r.1.take k,(yh cs p.1).isSome=true) ?_ ?_ ?_ ?_
  ·rintro k ρ S1 _ ⟨cs,a3,a4,rfl,_,h,_⟩;exact zb h
  ·rintro k z ρ S1 hz ⟨cs,a3,a4,rfl,l1,iG,c1,qN,all1,all2⟩
   rw[y8,z0] at hz
   obtain⟨p,hz,rfl⟩:=hz
   have bZ:=(y4.1 hz).1
   refine .of rfl ?_
   dsimp only[AK]
   refine zbc (Ze (zcc ?_))
   nofun
   refine⟨⟨_,yP c1⟩,?_⟩
   nofun
   refine⟨_,_,_,yP c1,vE,?_⟩
   rw[Xx,show (Ct Xv.int (yh cs p.1)).getD (.int 0)= .int ((yh cs p.1).getD 0) by cases yh cs p.1<;>rfl]
   nofun
   refine⟨_,_,_,yP c1,vE,by unfold dkE;rw[y7];exact yo ⋯,?_⟩
   rw[zbu]
   refine⟨_,_,_,rfl,l1.set (z5 _),zX iG sx,yp c1,A2 zhS ⋯,λr' cY p' eE=>Vr (.inl (all1 r' cY p' eE)),λp' eE=> ?_⟩
   rw[AJ,hz] at eE
   rcases Aa.1 eE with eE|eE
   ·exact Vr (.inl (all2 p' eE))
   ·rw[show p'=p by simpa using eE]
    exact Vr (.inr rfl)
  ·exact⟨cs,_,_,rfl,le,g2,hc,⋯,ck,λp hp=>by simp at hp⟩
  ·rintro ρ S1 ⟨cs,a3,a4,rfl,l1,iG,c1,qN,all1,all2⟩
   rw[y7] at qN all2
   rw[Ar] at all2
   refine⟨cs,_,_,_,rfl,l1,c1,⋯,λr' cY=> ?_⟩
   rw[AJ,er] at cY
   rcases Aa.1 cY with cY|cY
   ·exact all1 r' cY
   ·rw[show r'=r by simpa using cY];exact all2
 ·exact⟨[],_,_,_,rfl,Le.refl.app,zw,z5 _,λr hr=>by simp at hr⟩
 ·rintro ρ S' ⟨cs,a2,a3,a4,rfl,le,hc,eT,ck⟩
  nofun
  rw[y7,h2,Ar] at ck
  exact⟨le,_,cs,rfl,z5 _,hc,ck⟩
theorem xR {f:Str} {v:Xv} {l:List (Str×Xv)} {k:Nat} (h:l.length<=k):(zbf f v l).length<=k+1:=by
 induction l generalizing k with
 |nil=>simp[zbf]
 |cons p r ih=>
  obtain⟨g,y⟩:=p
  unfold zbf
  simp at h
  split
  ·simp;omega
  ·obtain⟨k,rfl⟩:∃k',k=k'+1:=⟨k-1,⋯⟩
   have:=ih (k:=k) ⋯
   simp
   omega
theorem zdP {n:Nat} {a b c d e:Xv} (h:S[n]? =some (.ins "Step" [])):W (vm fu [.ref n,a,b,c,d,e] S) λv S'=>v= .non/\S'=S.set n (.ins "Step" [("row",a),("column",b),("inverse",c),("factors",d),("parts",e)]):=by
 walk_at "wr";unfold vk
 refine zR (Yb ?_)
 nofun
 refine⟨n,_,rfl,h,∅,zR (Yb ?_)⟩
 nofun
 refine⟨n,_,rfl,yp h,Az (xR (z5 0)) ∅,zR (Yb ?_)⟩
 nofun
 rw[CG]
 refine⟨n,_,rfl,yp h,Az (xR (xR (z5 0))) ∅,zR (Yb ?_)⟩
 nofun
 rw[CG]
 refine⟨n,_,rfl,yp h,Az (xR (xR (xR (z5 0)))) ∅,Yb ?_⟩
 nofun
 rw[CG]
 refine⟨n,_,rfl,yp h,Az (xR (xR (xR (xR (z5 0))))) ∅,?_⟩
 rw[CG]
 exact⟨rfl,rfl⟩
theorem zfL {n:Nat} {a b:Xv} (h:S[n]? =some (.ins "WholeRow" [])):W (xQ fu [.ref n,a,b] S) λv S'=>v= .non/\S'=S.set n (.ins "WholeRow" [("parts",a),("last",b)]):=by
 walk_at "wr";unfold xP
 refine zR (Yb ?_)
 nofun
 refine⟨n,_,rfl,h,∅,Yb ?_⟩
 nofun
 refine⟨n,_,rfl,yp h,Az (xR (z5 0)) ∅,?_⟩
 rw[CG]
 exact⟨rfl,rfl⟩
end
section
variable {fu:Nat} {S S':Sto} {x:Xv}
theorem zlK {rn j:Nat} {rs:List (List (Nat×Int)×Int)} {r:List (Nat×Int)×Int} (h:wD S rn rs) (hj:rs[j]? =some r):zcA fu [.ref rn] [.int (j:Int)] S=some (.ok (.int (r.1.length:Int)) S):=by
 obtain⟨ms,h1,h2,h3⟩:=h
 have gZ:j<ms.length:=by rw[h2];exact (y4.1 hj).1
 have em:=y6 gZ
 generalize ms[j]=m at em
 obtain⟨pn,g1,g2⟩:=(h3 j m r em hj).ex
 have:W (zcA fu [.ref rn] [.int (j:Int)] S) λv S'=>v= .int (r.1.length:Int)/\S=S':=by
  refine zeA rfl rfl ?_
  unfold zmX
  refine zem (wL (vg (Ze ?_)))
  nofun
  refine wM (zb h1) (Zt (z:= .ref m) ⋯ (by rw[y8,Ae,em];rfl)) ?_
  refine⟨m,_,.ref pn,rfl,g1,rfl,?_⟩
  nofun
  refine Zf (zb g2) ?_
  rw[y7]
  exact⟨rfl,rfl⟩
 obtain⟨v,S1,e,rfl,rfl⟩:=this
 exact e
theorem zlL {cn:Nat} {cs:List (Nat×Int)} {c:Nat} (h:S[cn]? =some (.dk (dkE cs))) (hc:(yh cs c).isSome=true):zay fu [.ref cn] [.int (c:Int)] S=some (.ok (.tup [.int ((yh cs c).getD 0),.int (c:Int)]) S):=by
 obtain⟨k,hk⟩:=Bg.1 hc
 have:W (zay fu [.ref cn] [.int (c:Int)] S) λv S'=>v= .tup [.int k,.int (c:Int)]/\S=S':=by
  refine zeA rfl rfl ?_
  unfold zmZ
  refine zgZ (wL (zi7 ?_))
  nofun
  refine⟨cn,_,_,.int k,yP h,vE,by rw[Xx,hk];rfl,?_⟩
  nofun
  exact⟨rfl,rfl⟩
 obtain⟨v,S1,e,rfl,rfl⟩:=this
 rw[hk]
 exact e
theorem wb.push {sn m:Nat} {ss:List Stp} {s:Stp} {ms:List Nat} (h1:S[sn]? =some (.lst (ms.map .ref))) (h2:ms.length=ss.length) (h3:∀(i m:Nat) s,ms[i]? =some m->ss[i]? =some s->zcG S m s) (hs:∃fn pn,S[m]? =some (.ins "Step" [("row",.int s.row),("column",.int s.col),("inverse",.int s.inv),("factors",.ref fn),("parts",.ref pn)])/\S[fn]? =some (.lst (s.fac.map prt))/\S[pn]? =some (.lst (s.par.map prt))/\fn≠sn/\pn≠sn):wb (S.set sn (.lst (ms.map .ref++[.ref m]))) sn (ss++[s]):=by
 refine⟨ms++[m],by rw[yp h1];simp,by simp[h2],λi m' s' e1 e2=> ?_⟩
 by_cases hi:i<ms.length
 ·rw[y9 hi] at e1
  rw[y9 ⋯] at e2
  obtain⟨fn,pn,g1,g2,g3⟩:=(h3 i m' s' e1 e2).ex
  have cE:∀(n:Nat) (l:List (Nat×Int)),S[n]? =some (.lst (l.map prt))->sn≠n:=λn l hn z=>by
   rw[<-z,h1] at hn
   injection hn with hn
   injection hn with hn
   cases ms with
   |nil=>simp at hi
   |cons a r=>
    cases l with
    |nil=>cases hn
    |cons b t=>rw[A6,A6] at hn;injection hn with hn;cases hn
  exact⟨fn,pn,zX g1 (λz=>by rw[<-z,h1] at g1;cases g1),zX g2 (cE _ _ g2),zX g3 (cE _ _ g3)⟩
 ·rw[z6 ⋯] at e1 e2
  have:i-ms.length=0:=by
   have:=(y4.1 e1).1
   simp at this
   omega
  rw[this] at e1
  rw[show i-ss.length=0 by omega] at e2
  cases e1
  cases e2
  obtain⟨fn,pn,g1,g2,g3,g4,g5⟩:=hs
  exact⟨fn,pn,zX g1 (λz=>by rw[<-z,h1] at g1;cases g1),zX g2 (AQ g4),zX g3 (AQ g5)⟩
def zkp (rs:List (List (Nat×Int)×Int)) (c:Nat):Prop:=∃r∈rs,∃p∈r.1,p.1=c
structure SoI (q:Nat) (many:Nat) (rs:List (List (Nat×Int)×Int)) (os:List Nat) (S:Sto) (rn cn sn i:Nat) (S':Sto):Prop where
 le:Le S S'
 jo:S.length<=sn
 cnt:∃cs,S'[cn]? =some (.dk (dkE cs))/\∀r∈rs,∀p∈r.1,(yh cs p.1).isSome=true
 st:∃ss,wb S' sn ss/\Sts (q:Int) many rs ss/\(∀s∈ss,zbv s)/\(∀s∈ss,∀p∈s.par,zkp rs p.1)/\∀(k:Nat) o r,k<i->os[k]? =some o->rs[o]? =some r->Spn (q:Int) ss r.1
end
section
variable {fu:Nat} {S S':Sto} {x:Xv}
theorem zjF:∀ps:List (Nat×Int),zdB (ps.map prt)=some (dkE ps):=by
 intro ps
 induction ps with
 |nil=>rfl
 |cons p r ih=>
  rw[A6]
  show (zdB (r.map prt)).map ((.inl (p.1:Int),.int p.2):: ·)=_
  rw[ih]
  rfl
theorem zlM {ps:List (Nat×Int)} (h:NdE ps):((dkE ps).map (·.1)).Nodup:=by
 unfold dkE
 rw[Ci]
 unfold NdE List.Nodup at*
 rw[List.pairwise_map] at h ⊢
 exact h.imp λh z=>h (We.1 z)
theorem zjG {P:Xv->Sto->Prop} {n:Nat} {kvs:List (Key×Xv)} (h:S[n]? =some (.dk kvs)) (k:P (.int kvs.length) S):WO (zcb [.ref n] S) P:= .of (by unfold zcb;dsimp only;rw[yP h];rfl) k
theorem Tf {tw:TwF} {ms:List TwE} {ρ:Rho} {P:Xv->Sto->Prop} (h:W (evL ms ρ S) λds S1=>W (tw ds S1) P):W (UH tw ms ρ S) P:=W.bind (h.imp λds S1 h=>by
 obtain⟨a,S2,e,k⟩:=h
 rw[e]
 exact .of rfl k)
theorem Spn.of {m:Int} {ss:List Stp} {ps fs:List (Nat×Int)} (h1:∀f∈fs,f.1<ss.length) (h:∀x,Cg m (zt ps x) (zt fs (ats ss x))):Spn m ss ps:=⟨fs,h1,h⟩
theorem zjH (hf:Big fu) {q:Nat} (hq:Pr q) (k7:zi 2000 (q:Int)) {rn many:Nat} {rs:List (List (Nat×Int)×Int)} (h:wD S rn rs) (ok:∀r∈rs,Xg many r) (hm:many<=60) (hl:rs.length<64) (cz:S[1]? =some (.tab YO.t)):
  W (YU fu [.ref rn,.int (q:Int)] S) λv S'=>Le S S'/\∃sn ss,v= .ref sn/\S.length<=sn/\wb S' sn ss/\Sts (q:Int) many rs ss/\(∀s∈ss,zbv s)/\∀r∈rs,Spn (q:Int) ss r.1:=by
 have q1:=hq.1
 walk_at "wr";unfold YT
 nofun
 refine (zhW h ok ⋯ ⋯).imp ?_
 rintro _ S1 ⟨e7,cn,cs,rfl,kD,hc,hU⟩
 nofun
 have fG:Le S (S1++[.lst []]):=e7.app
 have h2:=h.le fG
 obtain⟨ms,qa,sE,gU⟩:=id h2
 have jo:(S1++[Ce.lst []])[S1.length]? =some (.lst []):=zw
 have dz:(S1++[Ce.lst []])[cn]? =some (.dk (dkE cs)):=zB hc
 have en:=fG.2 _ _ cz
 have j9:S.length<=S1.length:=e7.1
 generalize qz:S1++[Ce.lst []]=S2 at fG h2 qa gU jo dz en
 refine xK (vS (zfA ?_))
 nofun
 refine Zf (zb qa) ?_
 rw[y7,sE]
 nofun
 refine⟨⟨⋯,⋯⟩,?_⟩
 refine zho en rfl ?_
 refine⟨_,_,_,_,_,rfl,zey,zdD (g:=λj=>((rs[j]?).map λr=>(r.1.length:Int)).getD 0) _ _ λj _ hj=> ?_,?_⟩
 ·have hj:j<rs.length:=by omega
  have er:rs[j]? =some rs[j]:=y6 hj
  rw[zlK h2 er,er]
  rfl
 generalize q8:Yr _=os
 have fN:os.Perm (Bt rs.length):=by
  have:=Xu ((List.range' 0 (rs.length:Int).toNat).map λj=>((rs[j]?).map λr=>(r.1.length:Int)).getD 0) ({}:Shared)
  rw[q8] at this
  simpa using this
 have su:os.length=rs.length:=by rw[fN.length_eq,Fw]
 refine⟨_,zb zw,_,zb zw,?_⟩
 refine yN (xs:=os.map λi:Nat=>Xv.int (i:Int)) (λi ρ S'=>∃a4 a5 a6 a7 a8 a9 dJ,ρ=[some (.ref rn),some (.int (q:Int)),some (.ref cn),some (.ref S1.length),a4,a5,a6,a7,a8,a9,dJ]/\S'[S2.length]? =some (.lst (os.map λi:Nat=>Xv.int (i:Int)))/\SoI q many rs os S rn cn S1.length i S') ?_ ?_ ?_ ?_
 ·rintro i ρ S' _ ⟨a4,a5,a6,a7,a8,a9,dJ,rfl,h,_⟩;exact zb h
 ·rintro i y ρ S' hy ⟨a4,a5,a6,a7,a8,a9,dJ,rfl,kg,so⟩
  rw[y8,z0] at hy
  obtain⟨o,hy,rfl⟩:=hy
  have ho:o<rs.length:=BX.1 (fN.mem_iff.1 (z4 hy))
  have er:rs[o]? =some rs[o]:=y6 ho
  generalize rs[o]=r at er
  have hr:=z4 er
  have fw:=ok r hr
  obtain⟨le,_,⟨cs',dA,iY⟩,ss,eQ,aY,sb,lZ,jh⟩:=so
  obtain⟨ms',nC,sD,nE⟩:=h.le le
  have em:ms'[o]? =some ms'[o]:=y6 ⋯
  generalize ms'[o]=mi at em
  obtain⟨pn,g1,g2⟩:=(nE o mi r em er).ex
  have mY:∃ie:List Nat,S'[S1.length]? =some (.lst (ie.map Xv.ref)):=by obtain⟨ie,e,_⟩:=id eQ;exact⟨ie,e⟩
  refine .of rfl ?_
  dsimp only[AK]
  refine zR (yW (zem (wL (vg (Ze ?_)))))
  nofun
  refine wM (zb nC) (Zt (z:= .ref mi) ⋯ (by rw[y8,Ae,em];rfl)) ?_
  refine⟨mi,_,.ref pn,rfl,g1,rfl,?_⟩
  nofun
  refine zhB (xk g2) (zjF _) (zlM fw.nd) ?_
  have l3:Le S' (S'++[.dk (dkE r.1)]):=Le.refl.app
  have d3:(S'++[.dk (dkE r.1)])[S'.length]? =some (.dk (dkE r.1)):=zw
  refine zR (yW (Tf ?_))
  nofun
  refine (zfK (C:=zkp rs) (many:=many) (rows:=rs) (es0:=r.1) ⟨⋯,k7⟩ d3 ((eQ.le l3).toX d3) aY sb fw.nd fw.lt ⋯ (λp hp=>⟨r,hr,p,hp,rfl⟩) lZ).imp ?_
  rintro _ S4 ⟨l4,fn,es,fs,rfl,fT,t8,d4,tk⟩
  nofun
  refine Tf ?_
  nofun
  have bO:es.length<=many:=tk.nd.len λp hp=>(tk.col p hp).1
  refine (zjE (m:=(q:Int)) ⋯ d4 tk.nd ⋯).imp ?_
  rintro _ S5 ⟨l5,ln,rfl,uW,d5⟩
  have rh:LeX S'.length (S'++[.dk (dkE r.1)]) S5:=l4.trans l5
  have ik:Le S' S5:=(l3.toX.trans rh).le (z5 _)
  have qk:(S'++[Ce.dk (dkE r.1)]).length=S'.length+1:=by rw[A7,Ay]
  have nY:fn≠S'.length:=by omega
  have qp:=l5.2 _ _ nY t8
  have rZ:S1.length<S'.length:=by obtain⟨ie,e⟩:=mY;exact vU e
  have tF:cn<S'.length:=vU dA
  have km:S'.length<=ln:=by have:=l4.1;omega
  have sZ:S'.length<fn:=by omega
  have lj:=zjD (m:=(q:Int)) tk.nd
  have eZ:∀p∈wZ (q:Int) es,p.1<many/\p.1∉xg ss/\0<p.2/\p.2<q/\∃v,(p.1,v)∈es:=λp hp=>by
   obtain⟨q',cj,e1,e2,e3⟩:=zcH hp
   obtain⟨c1,c2,_⟩:=tk.col q' cj
   rw[Ar] at c2
   have b1:=Ao q'.2 (show (0:Int)<q by omega)
   have b2:=AI q'.2 (show (q:Int)≠0 by omega)
   exact⟨by rw[<-e1];exact c1,by rw[<-e1];exact c2,⋯,⋯,q'.2,by rw[<-e1];exact cj⟩
  have jQ:∀x,Cg (q:Int) (zt r.1 x) (zt fs (ats ss x)+zt (wZ (q:Int) es) x):=λx=>(tk.eq x).trans ((Cg.refl).add zjB.symm)
  have gG:∀f∈fs,f.1<ss.length:=λf hf=>(tk.fac f hf).1
  nofun
  refine yG ?_
  nofun
  refine zjG d5 ?_
  nofun
  refine yD (λiD=> ?_) (λhz=> ?_)
  ·-- a new step
   unfold dkE at iD
   rw[y7] at iD
   have mn:S5[1]? =some (.tab zax.t):=ik.2 _ _ (le.2 _ _ cz)
   have o9:S5[cn]? =some (.dk (dkE cs')):=ik.2 _ _ dA
   have eT:cn≠ln:=by omega
   refine zR (yW (zjp ?_))
   nofun
   refine⟨⟨_,yP d5⟩,zho mn rfl ?_⟩
   have eR:VC (zay fu [.ref cn]) (dkE (wZ (q:Int) es)) (S5.set ln (.fdk (dkE (wZ (q:Int) es))))=some ((dkE (wZ (q:Int) es)).map λp=>(match p.1 with| .inl c=>[(yh cs' c.toNat).getD 0,c]|_=>[]),S5.set ln (.fdk (dkE (wZ (q:Int) es)))):=by
    refine zdF (g:=λk=>match k with| .inl c=>[(yh cs' c.toNat).getD 0,c]|_=>[]) _ λp hp=> ?_
    unfold dkE at hp
    obtain⟨p',eE,rfl⟩:=AA.1 hp
    obtain⟨_,_,_,_,v,hv⟩:=eZ p' eE
    obtain⟨r',cY,p2,nr,e2⟩:=tk.cc _ hv
    refine⟨_,zlL (zX o9 (AQ eT)) (by have:=iY r' cY p2 nr;rw[e2] at this;exact this),?_⟩
    show some _=some _
    simp
   have j7:yH ((dkE (wZ (q:Int) es)).map λp=>(match p.1 with| .inl c=>[(yh cs' c.toNat).getD 0,c]|_=>[])) ((dkE (wZ (q:Int) es)).length-1)<(wZ (q:Int) es).length:=by
    have:=Ub (λi j=>ltL (((dkE (wZ (q:Int) es)).map λp=>(match p.1 with| .inl c=>[(yh cs' c.toNat).getD 0,c]|_=>[])).getD i []) (((dkE (wZ (q:Int) es)).map λp=>(match p.1 with| .inl c=>[(yh cs' c.toNat).getD 0,c]|_=>[])).getD j [])) ((dkE (wZ (q:Int) es)).length-1)
    have lL:(dkE (wZ (q:Int) es)).length=(wZ (q:Int) es).length:=y7 ..
    unfold yH
    omega
   generalize tK:yH ((dkE (wZ (q:Int) es)).map λp=>(match p.1 with| .inl c=>[(yh cs' c.toNat).getD 0,c]|_=>[])) ((dkE (wZ (q:Int) es)).length-1)=bi at j7
   generalize uX:wZ (q:Int) es=lf at*
   have e0:lf[bi]? =some lf[bi]:=y6 j7
   generalize lf[bi]=p0 at e0
   have p0m:=z4 e0
   obtain⟨p1,p2,p3,p4,_⟩:=eZ p0 p0m
   have ui:(dkE lf)[bi]? =some ((.inl (p0.1:Int):Key),.int p0.2):=by unfold dkE;rw[y8,e0];rfl
   refine⟨_,_,_,_,_,_,_,((.inl (p0.1:Int):Key),.int p0.2),rfl,zey,yP d5,eR,by rw[tK];exact ui,?_⟩
   have kH:(S5.set ln (.fdk (dkE lf))).set ln (.dk (dkE lf))=S5:=by
    rw[CG]
    apply Dz
    intro n
    rw[Af]
    split
    ·rename_i z
     subst z
     rw[if_pos (vU d5),d5]
    ·rfl
   rw[kH]
   dsimp only[AK]
   refine zR (yW (Tf (wL (zhw ?_))))
   nofun
   refine⟨⟨_,yP d5⟩,?_⟩
   nofun
   refine⟨ln,_,_,.int p0.2,yP d5,vE,by rw[Xx,Vq lj p0m];rfl,?_⟩
   rw[zeP]
   nofun
   have d6:(S5.set ln (.dk (dkE (xC lf p0.1))))[ln]? =some (.dk (dkE (xC lf p0.1))):=yp d5
   have l6:Le S' (S5.set ln (.dk (dkE (xC lf p0.1)))):=ik.set km
   have o4:(S5.set ln (.dk (dkE (xC lf p0.1))))[fn]? =some (.lst (fs.map prt)):=zX qp (λz=>by rw[z,qp] at d5;cases d5)
   generalize S5.set ln (.dk (dkE (xC lf p0.1)))=S6 at d6 l6 o4
   refine (zfJ hf hq k7 p3 p4).imp ?_
   rintro _ _ ⟨rfl,inv,rfl,i1,i2,i3⟩
   nofun
   refine yG ?_
   nofun
   refine Vn ?_
   nofun
   refine⟨nofun,λ_=> ?_⟩
   nofun
   have ib:zi 2000 inv:=k7.abs ⋯
   refine yO (zhh ?_)
   nofun
   have f6:(S6.set ln (.fdk (dkE (xC lf p0.1))))[ln]? =some (.fdk (dkE (xC lf p0.1))):=yp d6
   have fa:UW ln (S6.set ln (.fdk (dkE (xC lf p0.1))))=some ((xC lf p0.1).map prt):=by unfold UW;rw[f6];exact congrArg some zaD
   have l7:Le S' (S6.set ln (.fdk (dkE (xC lf p0.1)))):=l6.set km
   have qo:(S6.set ln (.fdk (dkE (xC lf p0.1))))[fn]? =some (.lst (fs.map prt)):=zX o4 (λz=>by rw[z,o4] at d6;cases d6)
   refine⟨ln,_,yP d6,_,fa,?_⟩
   generalize S6.set ln (.fdk (dkE (xC lf p0.1)))=S7 at fa l7 qo
   have qW:(xC lf p0.1).length<=60:=A2 (A2 (D3 _ _) (lj.len λp hp=>(eZ p hp).1)) hm
   refine yu (xs:=(xC lf p0.1).map prt) (by rw[y7];exact Ag (yo ⋯)) (λj es S8=>S7=S8/\es=(((xC lf p0.1).take j).map λp=>(p.1,p.2*inv % (q:Int))).map prt) ?_ ?_ ?_ ?_
   ·rintro j es S8 _ ⟨rfl,_⟩;exact fa
   ·rintro j y es S8 cU bO ⟨rfl,rfl⟩
    rw[y8,z0] at cU
    obtain⟨p,cU,rfl⟩:=cU
    have sr:=(Xe (z4 cU)).1
    obtain⟨_,_,b3,b4,_⟩:=eZ p sr
    refine .of rfl ?_
    nofun
    refine⟨rfl,?_⟩
    nofun
    refine ye (k7.abs ⋯) ib ∅ ?_
    nofun
    refine yX ⋯ ?_
    nofun
    refine⟨rfl,?_⟩
    rw[AJ,cU]
    simp[prt]
   ·exact⟨rfl,by simp⟩
   ·rintro x3 S8 t9 ⟨rfl,rfl⟩
    rw[y7,Ar]
    generalize iF:(xC lf p0.1).map (λp=>(p.1,p.2*inv % (q:Int)))=par
    have l8:Le S' (S7++[.lst (par.map prt)]):=l7.app
    have pZ:(S7++[Ce.lst (par.map prt)])[S7.length]? =some (.lst (par.map prt)):=zw
    have qm:(S7++[Ce.lst (par.map prt)])[fn]? =some (.lst (fs.map prt)):=zB qo
    have nj:S1.length≠S7.length:=by have:=l7.1;omega
    nofun
    generalize v9:S7++[Ce.lst (par.map prt)]=S8 at l8 pZ qm
    obtain⟨ie,m1,m2,m3⟩:=eQ.le l8
    refine Yp ?_
    nofun
    refine⟨⟨_,zb m1⟩,?_⟩
    refine wL (zev ?_)
    nofun
    refine (zdP zw).imp ?_
    rintro _ _ ⟨rfl,rfl⟩
    refine⟨rfl,?_⟩
    have iC:(S8++[Ce.ins "Step" []]).set S8.length (.ins "Step" [("row",.int (o:Int)),("column",.int (p0.1:Int)),("inverse",.int inv),("factors",.ref fn),("parts",.ref S7.length)])=S8++[.ins "Step" [("row",.int (o:Int)),("column",.int (p0.1:Int)),("inverse",.int inv),("factors",.ref fn),("parts",.ref S7.length)]]:=by simp
    rw[show kX (.inl (p0.1:Int))= .int (p0.1:Int) from rfl,iC]
    have uI:ie.length=ss.length:=m2
    have ssl:ss.length<=many:=aY.le
    refine zdi ?_
    refine yY (xk (zB m1)) (by rw[y7];exact yo ⋯) ?_
    have k8:=wb.push (S:=S8++[.ins "Step" [("row",.int (o:Int)),("column",.int (p0.1:Int)),("inverse",.int inv),("factors",.ref fn),("parts",.ref S7.length)]]) (m:=S8.length) (s:=⟨o,p0.1,inv,fs,par⟩) (zB m1) m2 (λi m s e1 e2=>(m3 i m s e1 e2).le Le.refl.app) ⟨fn,S7.length,zw,zB qm,zB pZ,⋯,AQ nj⟩
    have kx:∀(n:Nat) c,n≠S1.length->S'[n]? =some c->((S8++[Ce.ins "Step" [("row",.int (o:Int)),("column",.int (p0.1:Int)),("inverse",.int inv),("factors",.ref fn),("parts",.ref S7.length)]]).set S1.length (.lst (ie.map Xv.ref++[Xv.ref S8.length])))[n]? =some c:=λn c hn e=>zX (zB (l8.2 _ _ e)) (AQ hn)
    have jz:∀x,Cg (q:Int) (zt r.1 x) (zt fs (ats ss x)+p0.2*(⟨o,p0.1,inv,fs,par⟩:Stp).at x):=λx=>by
     have h5:=jQ x
     rw[zeL (c:=p0.1) lj,Vq lj p0m] at h5
     have h6:Cg (q:Int) (zt par x) (inv*zt (xC lf p0.1) x):=by rw[<-iF];exact zhQ
     unfold Stp.at
     obtain⟨k1,h5⟩:=h5
     obtain⟨k2,h6⟩:=h6
     obtain⟨k3,i3⟩:=i3
     exact⟨k1-p0.2*k2-k3*zt (xC lf p0.1) x,by dsimp only[FH] at*;grind⟩
    have i9:∀p∈par,∃p'∈lf,p'.1=p.1/\p.1≠p0.1/\0<=p.2/\p.2<q:=λp hp=>by
     rw[<-iF] at hp
     obtain⟨p',eE,rfl⟩:=AA.1 hp
     obtain⟨a,b⟩:=Xe eE
     exact⟨p',a,rfl,b,AI _ ⋯,Ao _ ⋯⟩
    refine⟨_,_,_,_,_,_,_,rfl,kx _ _ (by rw[<-qz,A7];simp) kg,⟨A2 le.1 (by simpa using A2 l8.1 (B5 _)),λn c e=>kx n c (by have:=vU e;omega) (le.2 _ _ e)⟩,j9,⟨cs',kx _ _ (λz=>by obtain⟨mm,e,_⟩:=id eQ;rw[z,e] at dA;cases dA) dA,iY⟩,ss++[⟨o,p0.1,inv,fs,par⟩],k8,.snoc aY ⟨⟨p1,p2⟩,λp hp=> ?_,gG,r.1,r.2,p0.2,er,i3,jz⟩,λs hs=> ?_,λs hs p hp=> ?_,λk o' r' hk e1 e2=> ?_⟩
    ·obtain⟨p',a,b,c,_⟩:=i9 p hp
     obtain⟨d1,d2,_⟩:=eZ p' a
     rw[b] at d1 d2
     exact⟨d1,c,d2⟩
    ·rcases Aa.1 hs with hs|hs
     ·exact sb s hs
     ·rw[A4.1 hs]
      refine⟨ib,⟨A2 tk.fl ⋯,λp hp=>(tk.fac p hp).2⟩,⟨by show par.length<=100;rw[<-iF,y7];omega,λp hp=> ?_⟩⟩
      obtain⟨_,_,_,_,c1,c2⟩:=i9 p hp
      exact k7.abs ⋯
    ·rcases Aa.1 hs with hs|hs
     ·exact lZ s hs p hp
     ·rw[A4.1 hs] at hp
      obtain⟨p',a,b,_⟩:=i9 p hp
      obtain⟨_,_,_,_,v,hv⟩:=eZ p' a
      have:=tk.cc _ hv
      rw[b] at this
      exact this
    ·by_cases gY:k<i
     ·exact (jh k o' r' gY e1 e2).app
     ·obtain rfl:k=i:=by omega
      rw[hy] at e1
      cases e1
      rw[er] at e2
      cases e2
      refine Spn.of (fs:=fs++[(ss.length,p0.2)]) (λf hf=> ?_) λx=> ?_
      ·rw[A7]
       rcases Aa.1 hf with hf|hf
       ·have:=gG f hf;omega
       ·rw[A4.1 hf];simp
      ·rw[Ug,Uh,WJ,yK (y:=ats ss x) λp hp=>WI (gG p hp)]
       exact jz x
  ·-- cS row is made by cS steps eU are
   have nA:wZ (q:Int) es=[]:=by
    unfold dkE at hz
    rw[y7] at hz
    exact DY.1 ⋯
   nofun
   refine⟨_,_,_,_,_,_,_,rfl,ik.2 _ _ kg,le.trans ik,j9,⟨cs',ik.2 _ _ dA,iY⟩,ss,eQ.le ik,aY,sb,lZ,λk o' r' hk e1 e2=> ?_⟩
   by_cases gY:k<i
   ·exact jh k o' r' gY e1 e2
   ·obtain rfl:k=i:=by omega
    rw[hy] at e1
    cases e1
    rw[er] at e2
    cases e2
    refine Spn.of gG λx=> ?_
    have:=jQ x
    rwa [nA,Uf,DP] at this
 ·refine⟨_,_,_,_,_,_,_,rfl,zw,fG.app,j9,⟨cs,zB dz,hU⟩,[],⟨[],zB jo,rfl,λi m s e=>by simp at e⟩,.nil,(λs hs=>by cases hs),(λs hs=>by cases hs),λk o r hk=>by omega⟩
 ·rintro ρ S' ⟨a4,a5,a6,a7,a8,a9,dJ,rfl,_,le,_,_,ss,eQ,aY,sb,_,jh⟩
  nofun
  refine⟨le,_,ss,rfl,j9,eQ,aY,sb,λr hr=> ?_⟩
  obtain⟨o,ho⟩:=AH hr
  have lE:o∈os:=fN.mem_iff.2 (BX.2 (y4.1 ho).1)
  obtain⟨k,hk⟩:=AH lE
  exact jh k o r (by rw[y7];exact (y4.1 hk).1) hk ho
end
section
variable {fu:Nat} {S S':Sto} {x:Xv}
theorem zlN {ρ:Rho} {m:TwE} {Q':(Sto->Option (List Xv))->Sto->Prop} (h:W (m ρ S) λx S1=>∃l,zv S1 x=some l/\Q' (λS=>(zv S x).bind λl2=>if l2.length=l.length then some l2.reverse else none) S1):W (iRv m ρ S) Q':=W.bind (h.imp λx S1 h=>by
 obtain⟨l,e,k⟩:=h
 rw[e]
 exact .of rfl k)
theorem Zl {l k:List Xv} {i:Nat} {y:Xv} (h:(ZO l k)[i]? =some y):∃a b,l[i]? =some a/\k[i]? =some b/\y= .tup [a,b]:=by
 unfold ZO at h
 rw[y8,z0] at h
 obtain⟨⟨a,b⟩,h1,rfl⟩:=h
 rw[Ba] at h1
 exact⟨a,b,h1.1,h1.2,rfl⟩
theorem vC {l k:List Xv} (h:l.length=k.length):(ZO l k).length=l.length:=by unfold ZO;rw[y7,Ef,h,DL]
theorem zhX {l k:List Xv} (h:l.length=k.length):(TB l k).length=l.length:=by unfold TB;rw[y7,Ef,h,DL]
theorem zeQ {vs:List Int} {v:Int} {i:Nat} (h:i<vs.length):vec (vs++[v]) i=vec vs i:=by unfold vec;rw[z8,y9 h,z8]
theorem zhY {vs:List Int} {v:Int}:vec (vs++[v]) vs.length=v:=by unfold vec;rw[z8,z6 (z5 _),AG];rfl
theorem zjI {vs:List Int} {c d:Nat} {v:Int} (h:c<vs.length):vec (vs.set c v) d=TH (vec vs) c v d:=by
 unfold vec TH
 rw[z8,Af]
 by_cases e:d=c
 ·subst e;rw[if_pos rfl,if_pos h,if_pos rfl];rfl
 ·rw[if_neg (AQ e),if_neg e]
  exact (z8 ..).symm
theorem Xy {vs:List Int} {c:Nat} (h:vs.length<=c):vec vs c=0:=by unfold vec;rw[z8,Aq h];rfl
theorem zm3:∀n:Nat,(z9 n [Xv.int 0]).flatten=(z9 n (0:Int)).map .int:=by
 intro n
 induction n with
 |zero=>rfl
 |succ n ih=>rw[B1,BD,B1,A6,<-ih];rfl
theorem zeR {l c:Nat} (h:c<l):ixN l (c:Int)=some c:=by
 unfold ixN
 rw[if_pos ⋯,if_pos ⋯,Ae]
theorem zfM {m:Int} {many sn ln:Nat} {rows:List (List (Nat×Int)×Int)} {ss:List Stp} {ls:List Int} (hm:0<m/\zi 2000 m) (hs:wb S sn ss) (aY:Sts m many rows ss) (sb:∀s∈ss,zbv s) (hl:S[ln]? =some (.lst (ls.map .int))) (jt:ls.length=ss.length) (dw:many<=60):
  W (yF fu [.ref sn,.ref ln,.int many,.int m] S) λv S'=>Le S S'/\∃nn ns,v= .ref nn/\S'[nn]? =some (.lst (ns.map .int))/\ns.length=many/\(∀n∈ns,0<=n/\n<m)/\(∀c,c∉xg ss->vec ns c=0)/\∀(i:Nat) s ps l,ss[i]? =some s->rows[s.row]? =some (ps,l)->Cg m (zt ps (vec ns)) (vec ls i):=by
 obtain⟨ms,h1,h2,h3⟩:=id hs
 have mZ:ss.length<=60:=A2 aY.le dw
 have mb:∀z:Int,0<=z->z<m->zi 2000 z:=λz a b=>hm.2.abs ⋯
 walk_at "wr";unfold xw
 nofun
 refine xK (Xq ?_)
 nofun
 refine⟨⟨_,zb (zB h1)⟩,⟨_,zb (zB hl)⟩,_,wj (zb (zB h1)) (zb (zB hl)),?_⟩
 have eP:(ZO (ms.map Xv.ref) (ls.map Xv.int)).length=ss.length:=by rw[vC (by simp[h2,jt]),y7,h2]
 refine YC (λρ S'=>∃vs a5 a6 a7,ρ=[some (.ref sn),some (.ref ln),some (.int many),some (.int m),some (.ref S.length),a5,a6,a7,none,none]/\Le S S'/\S'[S.length]? =some (.lst (vs.map .int))/\vs.length=ss.length/\(∀v∈vs,0<=v/\v<m)/\∀(j:Nat) s,ss[j]? =some s->Cg m (vec vs j) ((vec ls j-zt s.fac (vec vs))*s.inv)) ?_ ?_
 ·refine yN (xs:=ZO (ms.map Xv.ref) (ls.map Xv.int)) (λi ρ S'=>∃vs a5 a6 a7,ρ=[some (.ref sn),some (.ref ln),some (.int many),some (.int m),some (.ref S.length),a5,a6,a7,none,none]/\Le S S'/\S'[S.length]? =some (.lst (vs.map .int))/\vs.length=i/\(∀v∈vs,0<=v/\v<m)/\∀(j:Nat) s,j<i->ss[j]? =some s->Cg m (vec vs j) ((vec ls j-zt s.fac (vec vs))*s.inv)) ?_ ?_ ?_ ?_
  ·rintro i ρ S' _ ⟨vs,a5,a6,a7,rfl,le,_⟩
   exact wj (zb (le.2 _ _ h1)) (zb (le.2 _ _ hl))
  ·rintro i y ρ S' hy ⟨vs,a5,a6,a7,rfl,le,hv,fJ,jn,jm⟩
   obtain⟨a,b,e1,e2,rfl⟩:=Zl hy
   rw[y8,z0] at e1 e2
   obtain⟨mi,e1,rfl⟩:=e1
   obtain⟨l,e2,rfl⟩:=e2
   have hi:i<ss.length:=by rw[<-h2];exact (y4.1 e1).1
   have es:ss[i]? =some ss[i]:=y6 hi
   generalize ss[i]=s at es
   have so:=aY.at i s es
   have sb':=sb s (z4 es)
   obtain⟨fn,pn,g1,g2,g3⟩:=((h3 i mi s e1 es).le le).ex
   have cA:∀p∈s.fac,p.1<vs.length/\zi 2000 p.2:=λp hp=>⟨by have:=so.fac p hp;rw[Am] at this;omega,sb'.fac.2 p hp⟩
   have jU:∀v∈vs,zi 2000 v:=λv hv=>mb v (jn v hv).1 (jn v hv).2
   refine .of rfl ?_
   dsimp only[AK]
   refine zR (yW (zhU (pn:=fn) (vn:=S.length) (n:=2000) (m:=2000) (ps:=s.fac) (vs:=vs) (vg ?_) rfl g2 hv (by have:=sb'.fac.1;omega) cA jU ∅ λT=> ?_))
   ·nofun
    exact⟨mi,_,.ref fn,rfl,g1,rfl,rfl,rfl⟩
   ·dsimp only[AK]
    have iy:(S'++[T])[S.length]? =some (.lst (vs.map .int)):=zB hv
    refine vX (Yp ?_)
    nofun
    refine⟨⟨_,zb iy⟩,?_⟩
    refine wL (Ze (Ze (Ze ?_)))
    nofun
    refine yX hm.1 ?_
    nofun
    refine vg ?_
    nofun
    refine⟨mi,_,.int s.inv,rfl,zB g1,rfl,?_⟩
    have b1:zi 2000 (l % m):=mb _ (AI _ ⋯) (Ao _ hm.1)
    have b2:zi 4100 (zt s.fac (vec vs)):=(zcF cA jU sb'.fac.1).mono ∅
    refine ye (n:=4101) (m:=2000) (zi.sub (n:=4100) (b1.mono ∅) b2 ∅) sb'.inv ∅ ?_
    nofun
    refine yX hm.1 ?_
    nofun
    refine yY (xk iy) (by rw[y7];exact yo ⋯) ?_
    refine⟨vs++[(l % m-zt s.fac (vec vs))*s.inv % m],_,_,_,rfl,le.app.set (z5 _),by rw[yp iy];simp,by simp[fJ],λv hv=> ?_,λj s' hj es'=> ?_⟩
    ·rcases Aa.1 hv with hv|hv
     ·exact jn v hv
     ·rw[A4.1 hv]
      exact⟨AI _ ⋯,Ao _ hm.1⟩
    ·have t4:∀p∈s'.fac,p.1<vs.length:=λp hp=>by
      have:=(aY.at j s' es').fac p hp
      rw[Am] at this
      omega
     rw[yK (y:=vec vs) λp hp=>zeQ (t4 p hp)]
     by_cases sS:j<i
     ·rw[zeQ ⋯]
      exact jm j s' sS es'
     ·obtain rfl:j=i:=by omega
      rw[es] at es'
      cases es'
      rw[show j=vs.length from fJ.symm,zhY,fJ]
      have hl2:vec ls j=l:=by unfold vec;rw[z8,e2];rfl
      rw[hl2]
      exact (Cg.mod m _).trans (((Cg.mod m l).sub .refl).mul .refl)
  ·exact⟨[],_,_,_,rfl,Le.refl.app,zw,rfl,(λv hv=>by cases hv),λj s hj=>by omega⟩
  ·rintro ρ S' ⟨vs,a5,a6,a7,rfl,le,hv,fJ,jn,jm⟩
   rw[eP] at fJ jm
   exact⟨vs,a5,a6,a7,rfl,le,hv,fJ,jn,λj s es=>jm j s (y4.1 es).1 es⟩
 ·rintro ρ S2 ⟨vs,a5,a6,a7,rfl,le,hv,fJ,jn,jm⟩
  nofun
  refine zeF (zb zw) ⟨⋯,⋯,by simp;exact Ag (yo ⋯)⟩ ?_
  nofun
  have n8:(z9 (many:Int).toNat [Xv.int 0]).flatten=(z9 many (0:Int)).map .int:=by rw[Ae];exact zm3 many
  rw[n8]
  have l3:Le S (S2++[.lst [.int 0]]++[.lst ((z9 many (0:Int)).map .int)]):=le.app.app
  have pM:(S2++[.lst [.int 0]]++[.lst ((z9 many (0:Int)).map .int)])[S.length]? =some (.lst (vs.map .int)):=zB (zB hv)
  have ki:(S2++[.lst [.int 0]]++[.lst ((z9 many (0:Int)).map .int)])[(S2++[Ce.lst [.int 0]]).length]? =some (.lst ((z9 many (0:Int)).map .int)):=zw
  have iV:S.length<=(S2++[Ce.lst [.int 0]]).length:=le.app.1
  generalize (S2++[Ce.lst [.int 0]]).length=nn at ki iV
  generalize (S2++[.lst [.int 0]]++[.lst ((z9 many (0:Int)).map .int)])=S3 at l3 pM ki
  refine xK (zlN (zhM ?_))
  nofun
  have fY:(TB (ms.map Xv.ref) (vs.map Xv.int)).length=ss.length:=by rw[zhX (by simp[h2,fJ]),y7,h2]
  refine⟨_,_,_,_,rfl,zb (l3.2 _ _ h1),zb pM,by simp[h2,fJ],_,zb zw,(TB (ms.map Xv.ref) (vs.map Xv.int)).reverse,?_,?_⟩
  ·dsimp only
   rw[zb zw,A1,if_pos rfl]
  refine yN (xs:=(TB (ms.map Xv.ref) (vs.map Xv.int)).reverse) (λi ρ S'=>∃ns a5 a7 a9,ρ=[some (.ref sn),some (.ref ln),some (.int many),some (.int m),some (.ref S.length),a5,a6,a7,some (.ref nn),a9]/\Le S S'/\S'[S3.length]? =some (.lst (TB (ms.map Xv.ref) (vs.map Xv.int)))/\S'[nn]? =some (.lst (ns.map .int))/\ns.length=many/\(∀n∈ns,0<=n/\n<m)/\Bk m ss (vec vs) (ss.length-i) (vec ns)) ?_ ?_ ?_ ?_
  ·rintro i ρ S' _ ⟨ns,a5,a7,a9,rfl,_,h,_⟩
   rw[zb h,A1,if_pos rfl]
  ·rintro i y ρ S' hy ⟨ns,b5,b7,b9,rfl,l4,lu,iO,fg,g7,bk⟩
   have hi:i<ss.length:=by have:=(y4.1 hy).1;rw[F1,fY] at this;exact this
   rw[EB (by rw[fY];exact hi),fY] at hy
   generalize hk:ss.length-1-i=k at hy
   have bZ:k<ss.length:=by omega
   unfold TB at hy
   rw[y8,z0] at hy
   obtain⟨⟨a,b⟩,hy,rfl⟩:=hy
   rw[Ba,y8,y8,z0,z0] at hy
   obtain⟨⟨mi,e1,rfl⟩,v,e2,rfl⟩:=hy
   have es:ss[k]? =some ss[k]:=y6 bZ
   generalize ss[k]=s at es
   have so:=aY.at k s es
   have sb':=sb s (z4 es)
   obtain⟨fn,pn,g1,g2,g3⟩:=((h3 k mi s e1 es).le l4).ex
   have cA:∀p∈s.par,p.1<ns.length/\zi 2000 p.2:=λp hp=>⟨by rw[fg];exact (so.par p hp).1,sb'.par.2 p hp⟩
   have nB:∀v∈ns,zi 2000 v:=λv hv=>mb v (g7 v hv).1 (g7 v hv).2
   have kD:s.col<ns.length:=by rw[fg];exact so.col.1
   refine .of rfl ?_
   dsimp only[AK]
   refine zR (yW (zhU (pn:=pn) (vn:=nn) (n:=2000) (m:=2000) (ps:=s.par) (vs:=ns) (vg ?_) rfl g3 iO (by have:=sb'.par.1;omega) cA nB ∅ λT=> ?_))
   ·nofun
    exact⟨mi,_,.ref pn,rfl,g1,rfl,rfl,rfl⟩
   ·dsimp only[AK]
    refine zcd ?_
    nofun
    refine yX hm.1 ?_
    nofun
    refine vg ?_
    nofun
    refine⟨mi,_,.int (s.col:Int),rfl,zB g1,rfl,nn,_,_,s.col,xk (zB iO),rfl,by rw[y7];exact zeR kD,?_⟩
    have cE:nn≠S3.length:=λz=>by
     have:=vU ki
     omega
    refine⟨ns.set s.col ((v-zt s.par (vec ns)) % m),_,_,_,rfl,l4.app.set iV,zX (zB lu) cE,by rw[yp (zB iO),Gr],by rw[E9];exact fg,λn hn=> ?_,?_⟩
    ·rcases DC hn with hn|rfl
     ·exact g7 n hn
     ·exact⟨AI _ ⋯,Ao _ hm.1⟩
    ·have rQ:vec vs k=v:=by unfold vec;rw[z8,e2];rfl
     rw[show ss.length-(i+1)=k by omega,show vec (ns.set s.col ((v-zt s.par (vec ns)) % m))=TH (vec ns) s.col ((v-zt s.par (vec ns)) % m) from funext λd=>zjI kD]
     refine aY.back es (by rw[show k+1=ss.length-i by omega];exact bk) ?_
     rw[rQ]
     exact Cg.mod m _
  ·refine⟨z9 many 0,_,_,_,rfl,l3.app,zw,zB ki,by simp,λn hn=> ?_,λj hj gZ=>by omega,λc _=> ?_⟩
   ·rw[CH hn];exact⟨⋯,⋯⟩
   ·unfold vec
    rw[z8,BF]
    split<;>rfl
  ·rintro ρ S' ⟨ns,b5,b7,b9,rfl,l4,lu,iO,fg,g7,bk⟩
   rw[F1,fY,AG] at bk
   nofun
   refine⟨l4,nn,ns,rfl,iO,fg,g7,λc hc=>bk.2 c (by rw[G9];exact hc),λi s ps l es er=> ?_⟩
   exact aY.solve (vs:=vec vs) (lasts:=vec ls) jm (λj hj=>bk.1 j (Bi _) hj) es er
end
section
variable {fu:Nat} {S S':Sto} {x:Xv}
noncomputable def chs (rows:List (List (Nat×Int)×Int)) (ss:List Stp):List (List (Nat×Int)×Int):=ss.map λs=>(rows[s.row]?).getD ([],0)
theorem zbw {m:Int} {many:Nat} {rows:List (List (Nat×Int)×Int)} {ss:List Stp} (aY:Sts m many rows ss) {i:Nat} {s:Stp} (h:ss[i]? =some s):∃r,rows[s.row]? =some r/\(chs rows ss)[i]? =some r:=by
 obtain⟨ps,l,u,e,_⟩:=(aY.at i s h).eq
 refine⟨_,e,?_⟩
 unfold chs
 rw[y8,h]
 show some ((rows[s.row]?).getD ([],0))=_
 rw[e]
 rfl
theorem WK {m:Int} {many:Nat} {rows:List (List (Nat×Int)×Int)} {ss:List Stp} (aY:Sts m many rows ss) {r:List (Nat×Int)×Int} (h:r∈chs rows ss):r∈rows:=by
 unfold chs at h
 obtain⟨s,hs,rfl⟩:=AA.1 h
 obtain⟨i,hi⟩:=AH hs
 obtain⟨ps,l,u,e,_⟩:=(aY.at i s hi).eq
 rw[e]
 exact z4 e
structure Sol (q many:Nat) (rows:List (List (Nat×Int)×Int)) (X:Nat->Int) (D:Int):Prop where
 pos:0<D/\D<=(q:Int)^2
 bd:∀c, -((q:Int)^2)<=X c/\X c<=(q:Int)^2
 out:∀c,many<=c->X c=0
 eq:∀r∈rows,zt r.1 X=r.2*D
noncomputable def pws (m:Int) (k:Nat):List Int:=(Bt (k+1)).map λi=>m^i
structure LfI (q many:Nat) (rows:List (List (Nat×Int)×Int)) (ss:List Stp) (cn k:Nat) (S:Sto) (ln nn pn:Nat) (S':Sto):Prop where
 le:Le S S'
 ch:wD S' cn (chs rows ss)
 hp:S.length<=pn/\S'[pn]? =some (.lst ((pws q k).map .int))
 ls:∃ls:List Int,S'[ln]? =some (.lst (ls.map .int))/\ls.length=ss.length/\(∀l∈ls,zi (4200+k) l)/\
  ∃ns:List Int,S'[nn]? =some (.lst (ns.map .int))/\ns.length=many/\(∀n∈ns,0<=n/\n<(q:Int)^k)/\∀(i:Nat) r,(chs rows ss)[i]? =some r->zt r.1 (vec ns)+(q:Int)^k*vec ls i=r.2
def LfR (many:Nat) (rows:List (List (Nat×Int)×Int)) (ss:List Stp) (S:Sto) (v:Xv) (S':Sto):Prop:=Le S S'/\∃(tn:Nat) (ts:List Int) (b:Int),v= .tup [.ref tn,.int b]/\S'[tn]? =some (.lst (ts.map .int))/\ts.length=many/\0<b/\zi 2000 b/\(∀t∈ts,zi 300000 t)/\∀r∈chs rows ss,zt r.1 (vec ts)=r.2*b
theorem Ui {m:Int} {k:Nat}:(pws m k).length=k+1:=by simp[pws]
theorem zhZ {m:Int} {k i:Nat} (h:i<=k):(pws m k)[i]? =some (m^i):=by
 unfold pws
 rw[y8,B7 ⋯]
 rfl
theorem zh0 {l:List Xv} {y:Xv} (h:l[l.length-1]? =some y) (h0:0<l.length):atI l (-1)=some y:=by
 unfold atI ixN
 rw[if_neg ⋯,if_pos ⋯,A1,show ((-1:Int)+(l.length:Int)).toNat=l.length-1 by omega]
 exact h
theorem zcI {q n:Nat} (hb:zi n (q:Int)):∀k:Nat,zi (n*k+1) ((q:Int)^k):=by
 intro k
 induction k with
 |zero=>rw[Di];unfold zi;rw[Nat.mul_zero];decide
 |succ k ih=>
  rw[Bs]
  exact (ih.mul hb).mono (by rw[Nat.mul_succ];omega)
theorem Tg {q:Nat} (h:1<q):∀k:Nat,0<(q:Int)^k:=λk=>FC ⋯
theorem zeS {q k:Nat} (h:2<q):2*((q:Int)^k*(q:Int)^k)<(q:Int)^(2*k+1):=by
 rw[Bs,Nat.two_mul,Int.pow_add]
 have h1:0<(q:Int)^k*(q:Int)^k:=C7 (FC ⋯) (FC ⋯)
 have:=Int.mul_lt_mul_of_pos_left (show (2:Int)<q by omega) h1
 rw[B4 2]
 exact this
theorem zjJ {q many:Nat} {rows:List (List (Nat×Int)×Int)} {ss:List Stp} {X:Nat->Int} {D:Int} (aY:Sts (q:Int) many rows ss) (sol:Sol q many rows X D) {ts:List Int} {b e:Int} (hl:ts.length=many) (h1:D=e*b) (h2:∀(i:Nat) t,ts[i]? =some t->X i=e*t):∀r∈chs rows ss,zt r.1 (vec ts)=r.2*b:=by
 intro r hr
 have h3:∀c,X c=e*vec ts c:=λc=>by
  by_cases hc:c<ts.length
  ·exact h2 c _ (Wd hc)
  ·rw[sol.out c ⋯,Xy ⋯,DM]
 have h4:=sol.eq r (WK aY hr)
 rw[yK (y:=λc=>e*vec ts c) λp _=>h3 p.1,Xw,h1,<-Cv,B4 r.2,Cv] at h4
 have e0:e≠0:=λz=>by have:=sol.pos.1;rw[h1,z,Fo] at this;omega
 exact Be e0 h4
end
section
variable {fu:Nat} {S S':Sto} {x:Xv}
theorem wD.set {cn pn:Nat} {rs:List (List (Nat×Int)×Int)} {a:Int} {l:List Xv} {c:Ce} (h:wD S cn rs) (hp:S[pn]? =some (.lst (.int a::l))):wD (S.set pn c) cn rs:=by
 obtain⟨ms,h1,h2,h3⟩:=h
 refine⟨ms,zX h1 λz=> ?_,h2,λi m r e1 e2=> ?_⟩
 ·rw[<-z,hp] at h1
  cases ms<;>cases h1
 ·obtain⟨pn',g1,g2⟩:=(h3 i m r e1 e2).ex
  refine⟨pn',zX g1 λz=> ?_,zX g2 λz=> ?_⟩
  ·rw[<-z,hp] at g1;cases g1
  ·rw[<-z,hp] at g2
   cases e:r.1 with
   |nil=>rw[e] at g2;cases g2
   |cons p t=>rw[e] at g2;cases g2
noncomputable def rng (n:Nat) (f:Nat->Int):List Int:=(Bt n).map f
theorem Zb {n:Nat} {f:Nat->Int}:(rng n f).length=n:=by simp[rng]
theorem vF {n:Nat} {f:Nat->Int}:rng (n+1) f=rng n f++[f n]:=by simp[rng,G4]
theorem zdQ {n i:Nat} {f:Nat->Int} (h:i<n):vec (rng n f) i=f i:=by
 unfold vec rng
 rw[z8,y8,B7 h]
 rfl
theorem Uj {n:Nat} {f:Nat->Int} {v:Int} (h:v∈rng n f):∃i,i<n/\v=f i:=by
 obtain⟨i,hi,rfl⟩:=AA.1 h
 exact⟨i,BX.1 hi,rfl⟩
theorem WL {vs:List Int} {i:Nat} (h:i<vs.length):vec vs i∈vs:=z4 (Wd h)
theorem ZB {vs:List Int} {i:Nat} {v:Int} (h:vs[i]? =some v):vec vs i=v:=by unfold vec;rw[z8,h];rfl
theorem zh1 {m:Int} {k:Nat}:pws m (k+1)=pws m k++[m^(k+1)]:=by simp[pws,G4]
theorem Th {m:Int} {k:Nat}:atI ((pws m k).map Xv.int) (-1)=some (.int (m^k)):=by
 have hl:((pws m k).map Xv.int).length=k+1:=by rw[y7,Ui]
 exact zh0 (by rw[hl,CI,y8,zhZ (z5 _)];rfl) ⋯
theorem zh2 {m:Int} {k:Nat}:∃l,(pws m k).map Xv.int= .int 1::l:=by
 unfold pws
 rw[Ek,A6,A6,Di]
 exact⟨_,rfl⟩
abbrev lfA (fu:Nat) (rest:TwS):TwS:=(zl (zr (zH (yF fu) [(za 1),(za 5),(za 2),(za 3)]) (gN 9)) (zl (zr (xy [none,none,some 7] (Tu (za 6) (za 9)) (gT 2 (zJ (gN 0) (zJ (gN 1) xG))) xH (eOp xB (za 0) (eOp yk (eOp vH (za 2) (eUn WY (eC (.int 1)))) (za 1)))) (gN 6)) (zl (zr (xy [none,none,some 3,some 9] (Tu (za 4) (za 5)) (gT 2 (zJ (gN 0) (zJ (gN 1) xG))) xH (eOp wK (eOp Ya (za 1) (zH (ZP fu) [(za 0),(za 3)])) (za 2))) (gN 5)) (zl (vR (eMt yw (za 7) [(eOp yk (eOp vH (za 7) (eUn WY (eC (.int 1)))) (za 3))])) rest))))
abbrev lfB (fu:Nat):TwS:=(sIf (bE (eOp dGt (eFn XS [(za 7)]) (za 8))) (zl (zr (zH (yT fu) [(za 6),(eOp vH (za 7) (eUn WY (eC (.int 1)))),(eOp vH (za 7) (eOp Vz (eOp Ya (za 8) (eC (.int 1))) (eC (.int 2))))]) (gN 10)) (zl (sIf (ziP (bE (eUn zed (za 10))) (bE (zH (vD fu) [(za 4),(eOp zde (za 10) (eC (.int 0))),(eOp zde (za 10) (eC (.int 1)))]))) (yB (za 10)) yt) (zr (eOp xB (za 8) (eOp UJ (eC (.int 2)) (eOp xB (eOp Vz (za 8) (eC (.int 8))) (eC (.int 1))))) (gN 8)))) yt)
theorem zeT {q many rn sn cn k ln nn pn:Nat} {rows:List (List (Nat×Int)×Int)} {ss:List Stp} {look:Xv} {a9 dJ:Option Xv} {rest:TwS} {N:Rho->Sto->Prop} {R:Xv->Sto->Prop} (hq:2<q/\zi 150 (q:Int)) (hs:wb S sn ss) (aY:Sts (q:Int) many rows ss) (sb:∀s∈ss,zbv s) (ok:∀r∈rows,Xg many r) (hm:many<=60) (hk:k<=4) (I:LfI q many rows ss cn k S ln nn pn S')
  (next:∀ln nn a9 S',LfI q many rows ss cn (k+1) S ln nn pn S'->WS (rest [some (.ref rn),some (.ref sn),some (.int many),some (.int (q:Int)),some (.ref cn),some (.ref ln),some (.ref nn),some (.ref pn),some look,a9,dJ] S') N R):
  WS (lfA fu rest [some (.ref rn),some (.ref sn),some (.int many),some (.int (q:Int)),some (.ref cn),some (.ref ln),some (.ref nn),some (.ref pn),some look,a9,dJ] S') N R:=by
 obtain⟨le,ch,⟨lC,hp⟩,ls,gX,jt,nL,ns,cO,fg,g7,heq⟩:=I
 have lB:(0:Int)<q:=by omega
 have m5:zi 2000 (q:Int):=hq.2.mono ∅
 have qd:zi 2000 ((q:Int)^k):=(zcI hq.2 k).mono ⋯
 have mZ:ss.length<=60:=A2 aY.le hm
 unfold lfA
 nofun
 refine (zfM ⟨lB,m5⟩ (hs.le le) aY sb gX jt hm).imp ?_
 rintro _ S1 ⟨e7,dn,ds,rfl,lK,lL,g8,v3,tu⟩
 have fV:∀v∈ds,zi 2000 v:=λv hv=>m5.abs (by have:=g8 v hv;omega)
 nofun
 refine yO (Xq ?_)
 nofun
 have iK:=e7.2 _ _ cO
 have iG:=e7.2 _ _ hp
 refine⟨⟨_,zb iK⟩,⟨_,zb lK⟩,_,wj (zb iK) (zb lK),?_⟩
 have eP:(ZO (ns.map Xv.int) (ds.map Xv.int)).length=many:=by rw[vC (by simp[fg,lL]),y7,fg]
 refine yu (by rw[eP];exact Ag (yo ⋯)) (λj es S2=>S1=S2/\es=(rng j λi=>vec ns i+(q:Int)^k*vec ds i).map .int) ?_ ?_ ?_ ?_
 ·rintro j es S2 _ ⟨rfl,_⟩;exact wj (zb iK) (zb lK)
 ·rintro j y es S2 hy bO ⟨rfl,rfl⟩
  obtain⟨a,b,e1,e2,rfl⟩:=Zl hy
  rw[y8,z0] at e1 e2
  obtain⟨n,e1,rfl⟩:=e1
  obtain⟨d,e2,rfl⟩:=e2
  refine .of rfl ?_
  nofun
  refine⟨rfl,?_⟩
  nofun
  refine wM (zb iG) Th ?_
  nofun
  refine ye qd (fV d (z4 e2)) ∅ ?_
  nofun
  refine⟨rfl,?_⟩
  rw[vF,ZB e1,ZB e2]
  simp
 ·exact⟨rfl,rfl⟩
 ·rintro es S2 bO ⟨rfl,rfl⟩
  rw[eP]
  generalize gq:(rng many λi=>vec ns i+(q:Int)^k*vec ds i)=ns'
  have iy:∀c,vec ns' c=vec ns c+(q:Int)^k*vec ds c:=λc=>by
   by_cases hc:c<many
   ·rw[<-gq];exact zdQ hc
   ·rw[Xy (by rw[<-gq,Zb];omega),Xy ⋯,Xy ⋯];simp
  have nz:ns'.length=many:=by rw[<-gq,Zb]
  have iN:(S1++[Ce.lst (ns'.map Xv.int)])[S1.length]? =some (.lst (ns'.map .int)):=zw
  have l2:Le S' (S1++[Ce.lst (ns'.map Xv.int)]):=e7.app
  have hd2:(S1++[Ce.lst (ns'.map Xv.int)])[dn]? =some (.lst (ds.map .int)):=zB lK
  have nq:pn<S1.length:=vU iG
  generalize S1.length=nn' at iN nq ⊢
  generalize S1++[Ce.lst (ns'.map Xv.int)]=S2 at l2 iN hd2 ⊢
  nofun
  refine yO (Xq ?_)
  nofun
  obtain⟨ms,c1,c2,c3⟩:=ch.le l2
  have iR:=l2.2 _ _ gX
  refine⟨⟨_,zb c1⟩,⟨_,zb iR⟩,_,wj (zb c1) (zb iR),?_⟩
  have eT:(chs rows ss).length=ss.length:=by unfold chs;rw[y7]
  have jS:(ZO (ms.map Xv.ref) (ls.map Xv.int)).length=ss.length:=by rw[vC (by simp[c2,jt,eT]),y7,c2,eT]
  refine yu (by rw[jS];exact Ag (yo ⋯)) (λj es S3=>Le S2 S3/\es=(rng j λi=>(vec ls i-zt (((chs rows ss)[i]?).getD ([],0)).1 (vec ds)) / (q:Int)).map .int) ?_ ?_ ?_ ?_
  ·rintro j es S3 _ ⟨gj,_⟩;exact wj (zb (gj.2 _ _ c1)) (zb (gj.2 _ _ iR))
  ·rintro j y es S3 hy bO ⟨gj,rfl⟩
   obtain⟨a,b,e1,e2,rfl⟩:=Zl hy
   rw[y8,z0] at e1 e2
   obtain⟨mi,e1,rfl⟩:=e1
   obtain⟨l,e2,rfl⟩:=e2
   have hj:j<(chs rows ss).length:=by rw[<-c2];exact (y4.1 e1).1
   have er:(chs rows ss)[j]? =some (chs rows ss)[j]:=y6 hj
   generalize (chs rows ss)[j]=r at er
   refine .of rfl ?_
   nofun
   refine⟨rfl,?_⟩
   nofun
   refine (zeO ((c3 j mi r e1 er).le gj) (ok r (WK aY (z4 er))) (gj.2 _ _ hd2) lL ⋯ fV ∅).imp ?_
   rintro _ S4 ⟨rfl,rg⟩
   nofun
   refine zbr lB (hq.2.mono ∅) ?_
   refine⟨gj.trans rg,?_⟩
   rw[vF,ZB e2,er]
   simp
  ·exact⟨.refl,rfl⟩
  ·rintro es S3 bO ⟨gj,rfl⟩
   rw[jS]
   generalize iS:(rng ss.length λi=>(vec ls i-zt (((chs rows ss)[i]?).getD ([],0)).1 (vec ds)) / (q:Int))=ls'
   have nH:ls'.length=ss.length:=by rw[<-iS,Zb]
   have gu:(S3++[Ce.lst (ls'.map Xv.int)])[S3.length]? =some (.lst (ls'.map .int)):=zw
   have l4:Le S2 (S3++[Ce.lst (ls'.map Xv.int)]):=gj.app
   have nG:pn<S3.length:=A0 (by have:=vU (l2.2 _ _ hp);omega) gj.1
   generalize S3.length=ln' at gu nG ⊢
   generalize S3++[Ce.lst (ls'.map Xv.int)]=S4 at l4 gu ⊢
   have jj:=l2.trans l4
   have kc:=jj.2 _ _ hp
   nofun
   refine Yp ?_
   nofun
   refine⟨⟨_,zb kc⟩,?_⟩
   refine wL (Ze ?_)
   nofun
   refine wM (zb kc) Th ?_
   nofun
   refine ye qd m5 ∅ ?_
   nofun
   refine yY (xk kc) (by rw[y7,Ui];exact yo ⋯) ?_
   obtain⟨pl,uh⟩:=zh2 (m:=(q:Int)) (k:=k)
   refine next ln' nn' _ _ ⟨(le.trans jj).set lC,(ch.le jj).set (by rw[kc,uh]),⟨lC,?_⟩,ls',zX gu ⋯,nH,λl hl=> ?_,ns',zX (l4.2 _ _ iN) ⋯,nz,λn hn=> ?_,λi r er=> ?_⟩
   ·rw[yp kc,zh1,Bc,Bs];rfl
   ·rw[<-iS] at hl
    obtain⟨i,hi,rfl⟩:=Uj hl
    have er:(chs rows ss)[i]? =some (chs rows ss)[i]:=y6 ⋯
    rw[er]
    generalize (chs rows ss)[i]=r at er
    have fw:=ok r (WK aY (z4 er))
    have h1:zi (4200+k) (vec ls i):=nL _ (WL ⋯)
    have h2:zi (4200+k) (zt r.1 (vec ds)):=(zcF (n:=2000) (m:=2000) (k:=60) (λp hp=>⟨by rw[lL];exact (fw.lt p hp).1,(fw.lt p hp).2⟩) fV (A2 (fw.nd.len λp hp=>(fw.lt p hp).1) hm)).mono ⋯
    exact (h1.sub h2 (z5 _)).abs (BV _ _)
   ·rw[<-gq] at hn
    obtain⟨i,hi,rfl⟩:=Uj hn
    obtain⟨a1,a2⟩:=g7 _ (WL (vs:=ns) (by omega:i<ns.length))
    obtain⟨b1,b2⟩:=g8 _ (WL (vs:=ds) (by omega:i<ds.length))
    have pY:=Tg (q:=q) ⋯ k
    have h1:=BZ (Br pY) b1
    have h2:=Ab (show vec ds i<=q-1 by omega) (Br pY)
    rw[Bs]
    rw[FA] at h2
    exact⟨⋯,⋯⟩
   ·have hi:i<ss.length:=by rw[<-eT];exact (y4.1 er).1
    have jV:zt r.1 (vec ns')=zt r.1 (vec ns)+(q:Int)^k*zt r.1 (vec ds):=by
     have:=zbt (ps:=r.1) (x:=vec ns) (y:=vec ds) (a:=1) (b:=(q:Int)^k)
     rw[FD] at this
     rw[<-this]
     exact yK λp _=>by rw[iy,FD]
    have hl1:vec ls' i=(vec ls i-zt r.1 (vec ds)) / (q:Int):=by rw[<-iS,zdQ hi,er];rfl
    have es:ss[i]? =some ss[i]:=y6 hi
    obtain⟨r',g1,g2⟩:=zbw aY es
    rw[er] at g2
    cases g2
    have jx:=tu i _ r.1 r.2 es g1
    have tq:(q:Int)*vec ls' i=vec ls i-zt r.1 (vec ds):=by
     rw[hl1]
     obtain⟨t,ht⟩:=jx
     exact EI ⟨-t,by rw[ht,CY];omega⟩
    have:=heq i r er
    rw[jV,Bs,Cv,tq,FA]
    omega
end
section
variable {fu:Nat} {S S':Sto} {x:Xv}
theorem zh3 {P:Xv->Sto->Prop} {l:List Xv} {i:Int} {z:Xv} (h:atI l i=some z) (k:P z S):WO (zde (.tup l) (.int i) S) P:= .of (show (atI l i).map (λz=>(z,S))=_ by rw[h];rfl) k
abbrev Ti (fu:Nat):TwS:=lfA fu (lfB fu)
theorem zbx {q many rn sn cn k ln nn pn n lk:Nat} {rows:List (List (Nat×Int)×Int)} {ss:List Stp} {a9 dJ:Option Xv} {N:Rho->Sto->Prop} {R:Xv->Sto->Prop} (hq:2<q/\zi 150 (q:Int)) (hs:wb S sn ss) (aY:Sts (q:Int) many rows ss) (sb:∀s∈ss,zbv s) (ok:∀r∈rows,Xg many r) (hm:many<=60) (hk:k<=4) (lF:k+2<=lk) (I:LfI q many rows ss cn k S ln nn pn S')
  (next:∀ln nn a9 S',LfI q many rows ss cn (k+1) S ln nn pn S'->WS (Yz (bE (eC (.bl true))) (Ti fu) n [some (.ref rn),some (.ref sn),some (.int many),some (.int (q:Int)),some (.ref cn),some (.ref ln),some (.ref nn),some (.ref pn),some (.int (lk:Int)),a9,dJ] S') N R):
  WS (Yz (bE (eC (.bl true))) (Ti fu) (n+1) [some (.ref rn),some (.ref sn),some (.int many),some (.int (q:Int)),some (.ref cn),some (.ref ln),some (.ref nn),some (.ref pn),some (.int (lk:Int)),a9,dJ] S') N R:=by
 refine Xp ?_
 nofun
 refine⟨λ_=> ?_,nofun⟩
 refine zeT hq hs aY sb ok hm hk I λln nn a9 S' I=> ?_
 unfold lfB
 refine yG ?_
 nofun
 refine Zf (zb I.hp.2) ?_
 nofun
 rw[y7,Ui]
 refine yD (λz=>by omega) (λ_=> ?_)
 nofun
 exact next _ _ _ _ I
theorem zeU {q many rn sn cn ln nn pn n h:Nat} {rows:List (List (Nat×Int)×Int)} {ss:List Stp} {a9 dJ:Option Xv} {N:Rho->Sto->Prop} (hf:Big fu) (hq:2<q/\zi 150 (q:Int)) (hs:wb S sn ss) (aY:Sts (q:Int) many rows ss) (sb:∀s∈ss,zbv s) (ok:∀r∈rows,Xg many r) (hm:many<=60) (hh:1<=h/\h<=2) (full:∀c,c<many->c∈xg ss) {X:Nat->Int} {D:Int} (sol:Sol q many rows X D) (I:LfI q many rows ss cn (2*h) S ln nn pn S')
  (next:¬(D<=(q:Int)^h/\∀c, -((q:Int)^h)<=X c/\X c<=(q:Int)^h)->∀ln nn a9 dJ S',LfI q many rows ss cn (2*h+1) S ln nn pn S'->WS (Yz (bE (eC (.bl true))) (Ti fu) n [some (.ref rn),some (.ref sn),some (.int many),some (.int (q:Int)),some (.ref cn),some (.ref ln),some (.ref nn),some (.ref pn),some (.int ((2*h+3:Nat):Int)),a9,dJ] S') N (LfR many rows ss S)):
  WS (Yz (bE (eC (.bl true))) (Ti fu) (n+1) [some (.ref rn),some (.ref sn),some (.int many),some (.int (q:Int)),some (.ref cn),some (.ref ln),some (.ref nn),some (.ref pn),some (.int ((2*h+1:Nat):Int)),a9,dJ] S') N (LfR many rows ss S):=by
 refine Xp ?_
 nofun
 refine⟨λ_=> ?_,nofun⟩
 refine zeT hq hs aY sb ok hm ⋯ I λln nn a9 S' I=> ?_
 obtain⟨le,ch,⟨lC,hp⟩,ls,gX,jt,nL,ns,cO,fg,g7,heq⟩:=id I
 have tT:=Tg (q:=q) ⋯ (2*h+1)
 have oq:zi 2000 ((q:Int)^(2*h+1)):=(zcI hq.2 (2*h+1)).mono ⋯
 have tY:=Tg (q:=q) ⋯ h
 have jL:∀v∈ns,zi 2000 v:=λv hv=>oq.abs (by have:=g7 v hv;omega)
 have ra:(D<=(q:Int)^h/\∀c, -((q:Int)^h)<=X c/\X c<=(q:Int)^h)->RaL ((q:Int)^(2*h+1)) ((q:Int)^h) ns X D:=λ⟨d1,d2⟩=>by
  refine⟨sol.pos.1,d1,λi N hN=>⟨(d2 i).1,(d2 i).2,?_⟩⟩
  have hz:=aY.pow ⋯ (2*h+1) (λc=>D*vec ns c+(-1)*X c) (λc hc=>by
   have:many<=c:=DI λz=>hc (full c z)
   rw[Xy ⋯,sol.out c this];simp) (λs mX ps l er=>by
   obtain⟨j,hj⟩:=AH mX
   obtain⟨r',g1,g2⟩:=zbw aY hj
   rw[er] at g1
   cases g1
   have h1:=heq j _ g2
   have h2:=sol.eq _ (z4 er)
   rw[zbt]
   exact⟨-(D*vec ls j),by dsimp only at h1 h2;rw[h2,<-h1];grind⟩) i
  obtain⟨t,ht⟩:=hz
  rw[ZB hN] at ht
  exact⟨t,⋯⟩
 unfold lfB
 refine yG ?_
 nofun
 refine Zf (zb hp) ?_
 nofun
 rw[y7,Ui]
 refine yD (λ_=> ?_) (λz=>by omega)
 nofun
 refine wM (zb hp) Th ?_
 nofun
 refine zen ∅ ?_
 refine wM (zb hp) (Zt (z:=Xv.int ((q:Int)^h)) (k:=(((2*h+1:Nat):Int)-1) / 2) ⋯ (by rw[y8,show ((((2*h+1:Nat):Int)-1) / 2).toNat=h by omega,zhZ ⋯];rfl)) ?_
 nofun
 refine (zjC hf ⟨tT,oq⟩ ⋯ (zeS hq.1) cO ⋯ jL).imp ?_
 have go:∀(dJ:Option Xv) (S2:Sto),Le S' S2->¬(D<=(q:Int)^h/\∀c, -((q:Int)^h)<=X c/\X c<=(q:Int)^h)->WS (zr (eOp xB (za 8) (eOp UJ (eC (.int 2)) (eOp xB (eOp Vz (za 8) (eC (.int 8))) (eC (.int 1))))) (gN 8) [some (.ref rn),some (.ref sn),some (.int many),some (.int (q:Int)),some (.ref cn),some (.ref ln),some (.ref nn),some (.ref pn),some (.int ((2*h+1:Nat):Int)),a9,dJ] S2) (λρ2 S2=>WS (Yz (bE (eC (.bl true))) (Ti fu) n ρ2 S2) N (LfR many rows ss S)) (LfR many rows ss S):=by
  intro dJ S2 l2 fe
  nofun
  refine zen ∅ ?_
  nofun
  rw[show ((2*h+1:Nat):Int)+2*(((2*h+1:Nat):Int) / 8+1)=((2*h+3:Nat):Int) by omega]
  exact next fe _ _ _ _ _ ⟨le.trans l2,ch.le l2,⟨lC,l2.2 _ _ hp⟩,ls,l2.2 _ _ gX,jt,nL,ns,l2.2 _ _ cO,fg,g7,heq⟩
 rintro v S2 ⟨l2,⟨rfl,fe⟩|⟨tn,ts,b,rfl,dj,fj,b0,bB,tb,k5⟩⟩
 ·nofun
  refine yG (zgY ?_)
  nofun
  refine zeK ?_
  nofun
  refine⟨nofun,λ_=> ?_⟩
  refine⟨nofun,λ_=> ?_⟩
  refine yx ?_
  exact go _ _ l2 λz=>fe _ _ (ra z)
 ·nofun
  refine yG (zgY ?_)
  nofun
  refine zeK ?_
  nofun
  refine⟨λ_=> ?_,nofun⟩
  nofun
  have bb:zi 2000 b:=oq.abs (by
   have:=zeS (q:=q) (k:=h) hq.1
   have:=Ab (show 1<=(q:Int)^h by omega) (Br tY)
   omega)
  refine zh3 zki ?_
  nofun
  refine zh3 (z:= .int b) rfl ?_
  nofun
  refine (zaC (ch.le l2) (λr hr=>ok r (WK aY hr)) dj (fj.trans fg) ⋯ tb ∅ (bb.mono ∅)).imp ?_
  rintro _ S3 ⟨rfl,l3⟩
  nofun
  refine yD (λck=> ?_) (λfe=> ?_)
  ·nofun
   exact⟨le.trans (l2.trans l3),tn,ts,b,rfl,l3.2 _ _ dj,fj.trans fg,b0,bb,tb,ck⟩
  ·refine yx ?_
   refine go _ _ (l2.trans l3) λz=>fe ?_
   obtain⟨e,e1,e2⟩:=k5 X D (ra z)
   exact zjJ aY sol (fj.trans fg) e1 e2
theorem zh4 (hf:Big fu) {q many rn sn:Nat} {rows:List (List (Nat×Int)×Int)} {ss:List Stp} (hq:2<q/\zi 150 (q:Int)) (hr:wD S rn rows) (hs:wb S sn ss) (aY:Sts (q:Int) many rows ss) (sb:∀s∈ss,zbv s) (ok:∀r∈rows,Xg many r) (hm:many<=60) (full:∀c,c<many->c∈xg ss) {X:Nat->Int} {D:Int} (sol:Sol q many rows X D):
  W (Vk fu [.ref rn,.ref sn,.int many,.int (q:Int)] S) (LfR many rows ss S):=by
 have mZ:ss.length<=60:=A2 aY.le hm
 have eT:(chs rows ss).length=ss.length:=by unfold chs;rw[y7]
 obtain⟨ms,r1,r2,r3⟩:=id hr
 obtain⟨st,s1,s2,s3⟩:=id hs
 walk_at "wr";unfold zaA
 refine zR (yW (yO (vS ?_)))
 nofun
 refine⟨_,zb s1,_,zb s1,?_⟩
 refine yu (xs:=st.map .ref) (by rw[y7];exact Ag (yo ⋯)) (λj es S1=>S=S1/\∃cs:List Nat,es=cs.map .ref/\cs.length=j/\∀(i m:Nat) r,cs[i]? =some m->(chs rows ss)[i]? =some r->VH S m r) ?_ ?_ ?_ ?_
 ·rintro j es S1 _ ⟨rfl,_⟩;exact zb s1
 ·rintro j y es S1 hy bO ⟨rfl,cs,rfl,iZ,dz⟩
  rw[y8,z0] at hy
  obtain⟨mi,hy,rfl⟩:=hy
  have hj:j<ss.length:=by rw[<-s2];exact (y4.1 hy).1
  have es:ss[j]? =some ss[j]:=y6 hj
  generalize ss[j]=s at es
  obtain⟨r,g1,g2⟩:=zbw aY es
  obtain⟨fn,pn,f1,f2,f3⟩:=(s3 j mi s hy es).ex
  have eD:s.row<ms.length:=by rw[r2];exact (y4.1 g1).1
  have em:ms[s.row]? =some ms[s.row]:=y6 eD
  generalize ms[s.row]=ri at em
  refine .of rfl ?_
  nofun
  refine⟨rfl,?_⟩
  refine Ze ?_
  nofun
  refine vg ?_
  nofun
  refine⟨mi,_,.int (s.row:Int),rfl,f1,rfl,?_⟩
  refine wM (zb r1) (Zt (z:= .ref ri) ⋯ (by rw[y8,Ae,em];rfl)) ?_
  refine⟨rfl,cs++[ri],by simp,by simp[iZ],λi m r' e1 e2=> ?_⟩
  by_cases hi:i<cs.length
  ·rw[y9 hi] at e1
   exact dz i m r' e1 e2
  ·have eF:i=j:=by
    have:=(y4.1 e1).1
    rw[A7,Ay] at this
    omega
   subst eF
   rw[z6 ⋯,iZ,AG] at e1
   cases e1
   rw[g2] at e2
   cases e2
   exact r3 _ _ _ em g1
 ·exact⟨rfl,[],rfl,rfl,λi m r e=>by simp at e⟩
 rintro es S1 bO ⟨rfl,cs,rfl,iZ,dz⟩
 rw[y7,s2] at iZ
 have ch:wD (S++[.lst (cs.map .ref)]) S.length (chs rows ss):=⟨cs,zw,by rw[iZ,eT],λi m r e1 e2=>(dz i m r e1 e2).le Le.refl.app⟩
 have l1:Le S (S++[.lst (cs.map .ref)]):=Le.refl.app
 generalize qz:S++[.lst (cs.map .ref)]=S2 at ch l1 ⊢
 generalize S.length=cn at ch ⊢
 dsimp only[AK]
 obtain⟨cs',k1,k2,k3⟩:=id ch
 refine zR (yW (yO (vS ?_)))
 nofun
 refine⟨_,zb k1,_,zb k1,?_⟩
 refine yu (xs:=cs'.map .ref) (by rw[y7];exact Ag (yo ⋯)) (λj es S1=>S2=S1/\es=(rng j λi=>(((chs rows ss)[i]?).getD ([],0)).2).map .int) ?_ ?_ ?_ ?_
 ·rintro j es S1 _ ⟨rfl,_⟩;exact zb k1
 ·rintro j y es S1 hy bO ⟨rfl,rfl⟩
  rw[y8,z0] at hy
  obtain⟨mi,hy,rfl⟩:=hy
  have hj:j<(chs rows ss).length:=by rw[<-k2];exact (y4.1 hy).1
  have er:(chs rows ss)[j]? =some (chs rows ss)[j]:=y6 hj
  generalize (chs rows ss)[j]=r at er
  obtain⟨pn,g1,g2⟩:=(k3 j mi r hy er).ex
  refine .of rfl ?_
  nofun
  refine⟨rfl,?_⟩
  refine vg ?_
  nofun
  refine⟨mi,_,.int r.2,rfl,g1,rfl,?_⟩
  refine⟨rfl,?_⟩
  rw[vF,er]
  simp
 ·exact⟨rfl,rfl⟩
 rintro es S1 bO ⟨rfl,rfl⟩
 rw[y7,k2,eT]
 generalize gX:(rng ss.length λi=>(((chs rows ss)[i]?).getD ([],0)).2)=ls
 have gu:(S2++[Ce.lst (ls.map Xv.int)])[S2.length]? =some (.lst (ls.map .int)):=zw
 have l3:Le S2 (S2++[Ce.lst (ls.map Xv.int)]):=Le.refl.app
 generalize w5:S2++[Ce.lst (ls.map Xv.int)]=S3 at gu l3 ⊢
 generalize S2.length=ln at gu ⊢
 nofun
 refine zeF (zb zw) ⟨⋯,⋯,by simp;exact Ag (yo ⋯)⟩ ?_
 rw[show (z9 (many:Int).toNat [Xv.int 0]).flatten=(z9 many (0:Int)).map .int by rw[Ae];exact zm3 many]
 have l4:Le S3 (S3++[Ce.lst [.int 0]]++[Ce.lst ((z9 many (0:Int)).map .int)]):=Le.refl.app.app
 have iN:(S3++[Ce.lst [.int 0]]++[Ce.lst ((z9 many (0:Int)).map .int)])[(S3++[Ce.lst [.int 0]]).length]? =some (.lst ((z9 many (0:Int)).map .int)):=zw
 generalize (S3++[Ce.lst [.int 0]]).length=nn at iN ⊢
 generalize S3++[Ce.lst [.int 0]]++[Ce.lst ((z9 many (0:Int)).map .int)]=S4 at l4 iN ⊢
 have jj:Le S S4:=l1.trans (l3.trans l4)
 nofun
 have I0:LfI q many rows ss cn 0 S ln nn S4.length (S4++[Ce.lst [.int 1]]):=by
  refine⟨jj.app,(ch.le (l3.trans l4)).le Le.refl.app,⟨jj.1,zw⟩,ls,zB (l4.2 _ _ gu),by rw[<-gX,Zb],λl hl=> ?_,z9 many 0,zB iN,by simp,λn hn=>by rw[CH hn,Di];decide,λi r er=> ?_⟩
  ·rw[<-gX] at hl
   obtain⟨i,hi,rfl⟩:=Uj hl
   have er:(chs rows ss)[i]? =some (chs rows ss)[i]:=y6 ⋯
   rw[er]
   exact ((ok _ (WK aY (DN _))).last).mono ⋯
  ·have hi:i<ss.length:=by rw[<-eT];exact (y4.1 er).1
   rw[<-gX,zdQ hi,er,Di,yK (y:=λ_=>0) λp _=>by
    unfold vec
    rw[z8,BF]
    split<;>rfl]
   rw[WH]
   simp
 obtain⟨n,rfl⟩:∃n,fu=n+5:=⟨fu-5,by have:=hf.bits (n:=10) (p:=5) (by unfold zi;decide) ∅;omega⟩
 refine YC (λ_ _=>False) ?_ (λ_ _ z=>z.elim)
 refine zbx (lk:=3) hq hs aY sb ok hm ⋯ ⋯ I0 λ_ _ _ _ I1=> ?_
 refine zbx (lk:=3) hq hs aY sb ok hm ⋯ ⋯ I1 λ_ _ _ _ I2=> ?_
 refine zeU (h:=1) hf hq hs aY sb ok hm ⋯ full sol I2 λ_ _ _ _ _ _ I3=> ?_
 refine zbx (lk:=5) hq hs aY sb ok hm ⋯ ⋯ I3 λ_ _ _ _ I4=> ?_
 refine zeU (h:=2) hf hq hs aY sb ok hm ⋯ full sol I4 λfe=> ?_
 exact absurd ⟨sol.pos.2,sol.bd⟩ fe
end
section
variable {fu:Nat} {S S':Sto} {x y:Xv}
abbrev Q2:=Int×Int
noncomputable def qv (q:Q2):Xv:= .tup [.int q.1,.int q.2]
noncomputable def yR (t b:Int):Q2:=(t / (Bo t b:Int),b / (Bo t b:Int))
def Gst:Nat->Nat->Nat->Prop
 |0,_,_=>False
 |n+1,a,b=>b=0\/Gst n b (a % b)
theorem zlO:∀(n k1 k2 a b:Nat),b<=a->a<2^k1->b<2^k2->k1+k2<n->Gst n a b:=by
 intro n
 induction n with
 |zero=>intro k1 k2 a b _ _ _ h;omega
 |succ n ih=>
  intro k1 k2 a b fq h1 h2 h
  rcases Fq b with z|z
  ·exact .inl z
  ·refine .inr ?_
   cases k1 with
   |zero=>rw[Nat.pow_zero] at h1;omega
   |succ k1=>
    have hr:=EH a z
    have hq:b+a % b<=a:=by
     have e:=Eg a b
     have:b*1<=b*(a / b):=Dk _ (Nat.div_pos fq z)
     omega
    rw[Fd] at h1
    exact ih k2 k1 b (a % b) ⋯ h2 ⋯ ⋯
theorem zlP {n k a b:Nat} (hb:b<2^k) (h:2*k+1<n):Gst n a b:=by
 obtain⟨n,rfl⟩:∃m,n=m+1:=⟨n-1,⋯⟩
 rcases Fq b with z|z
 ·exact .inl z
 ·have hr:=EH a z
  exact .inr (zlO n k k b (a % b) ⋯ hb ⋯ ⋯)
theorem zi.fuel {n:Nat} {p t:Int} (hb:Big fu) (h:zi n p) (hn:n<=4000):Gst fu t.natAbs p.natAbs:=by
 refine zlP h ?_
 have h2:2^14<=fu:=A2 (Dh ∅ ∅) hb
 have h1:2^14=16384:=by decide
 omega
theorem zh5 {t b:Int} (h0:0<b):((BE t.natAbs b.natAbs:Nat):Int)≠0:=by
 have g0:0<BE t.natAbs b.natAbs:=DQ _ ⋯
 omega
theorem zcJ {t b:Int}:qv (yR t b)= .tup [.int (t.fdiv ((BE t.natAbs b.natAbs:Nat):Int)),.int (b.fdiv ((BE t.natAbs b.natAbs:Nat):Int))]:=by
 rw[BQ _ ⋯,BQ _ ⋯]
 rfl
theorem zfN:∀(n:Nat) (one other:Nat) (a2:Option Xv),Gst n one other->
  WS (Yz (bE (eOp UK (za 1) (eC (.int 0)))) (zl (zr (eOp wX (za 0) (za 1)) (gN 2)) (zl (zr (za 1) (gN 0)) (zr (za 2) (gN 1)))) n [some (.int one),some (.int other),a2] S) (λρ S'=>∃a2,ρ=[some (.int (BE one other:Nat)),some (.int 0),a2]/\S=S') (λ_ _=>False):=by
 intro n
 induction n with
 |zero=>intro one other a2 h;exact h.elim
 |succ n ih=>
  intro one other a2 hg
  refine Xp ?_
  nofun
  rw[show (!decide ((other:Int)=0))=decide (¬(other:Int)=0) by simp]
  refine yD (λh=> ?_) (λh=> ?_)
  ·have h0:0<other:=by omega
   nofun
   refine yX ⋯ ?_
   nofun
   have:=ih other (one % other) (some (.int ((one % other:Nat):Int))) (hg.resolve_left ⋯)
   rw[show BE other (one % other)=BE one other by rw[DR other,<-Nat.gcd_rec,DR]] at this
   rw[FQ] at this
   exact this
  ·have:other=0:=by omega
   subst this
   exact⟨a2,by simp,rfl⟩
theorem zh6:∀(n:Nat) (t b:Xv) (one other:Nat),Gst n one other->
  WS (Yz (bE (eOp dGt (za 3) (eC (.int 0)))) (ziV 2 3 [(za 3),(eOp wX (za 2) (za 3))]) n [some t,some b,some (.int one),some (.int other)] S) (λρ S'=>ρ=[some t,some b,some (.int (BE one other:Nat)),some (.int 0)]/\S=S') (λ_ _=>False):=by
 intro n
 induction n with
 |zero=>intro t b one other h;exact h.elim
 |succ n ih=>
  intro t b one other hg
  refine Xp ?_
  nofun
  refine yD (λh=> ?_) (λh=> ?_)
  ·have h0:0<other:=by omega
   refine zg3 ?_
   nofun
   refine yX ⋯ ?_
   nofun
   refine⟨_,_,rfl,?_⟩
   have:=ih t b other (one % other) (hg.resolve_left ⋯)
   rw[show BE other (one % other)=BE one other by rw[DR other,<-Nat.gcd_rec,DR]] at this
   rw[FQ] at this
   exact this
  ·have:other=0:=by omega
   subst this
   exact⟨by simp,rfl⟩
theorem Tj {t b:Int} {n:Nat} (h0:0<b) (hb:zi n b):zi n ((BE t.natAbs b.natAbs:Nat):Int):=hb.abs (by rw[CJ];exact Nat.gcd_le_right _ ⋯)
theorem WM (bN:Big fu) {t b:Int} (h0:0<b) (hb:zi 4000 b):W (xc fu [.int t,.int b] S) λv S'=>v=qv (yR t b)/\S=S':=by
 have gb:=zh5 (t:=t) h0
 have gc:=(Tj (t:=t) h0 hb).mono (m:=9000) ∅
 walk_at "wr";unfold Zj
 nofun
 refine Vm ?_
 nofun
 refine Vm ?_
 nofun
 refine zg4 ?_
 rcases zh6 (S:=S) fu (.int t) (.int b) t.natAbs b.natAbs (zi.fuel bN hb ∅) with⟨ρ,S',e,rfl,rfl⟩|⟨_,_,_,z⟩
 rotate_left
 ·exact z.elim
 refine .nx e ?_
 nofun
 refine YD ⟨gb,gc.le⟩ ?_
 nofun
 refine YD ⟨gb,gc.le⟩ ?_
 nofun
 exact⟨zcJ.symm,rfl⟩
theorem zh7 (bN:Big fu) {t b:Int} (hb:zi 4000 b):W (wV fu [.int t,.int b] S) λv S'=>v= .int (BE t.natAbs b.natAbs:Nat)/\S=S':=by
 walk_at "wr";unfold Zi;nofun
 refine Vm ?_
 nofun
 refine Vm ?_
 nofun
 refine zg4 ?_
 rcases zfN (S:=S) fu t.natAbs b.natAbs none (zi.fuel bN hb ∅) with⟨ρ,S',e,a2,rfl,rfl⟩|⟨_,_,_,z⟩
 ·refine .nx e ?_
  nofun
  exact⟨rfl,rfl⟩
 ·exact z.elim
theorem zh8 (bN:Big fu) {t b:Int} (h0:0<b) (hb:zi 4000 b):W (Vh fu [.int t,.int b] S) λv S'=>v=qv (yR t b)/\S=S':=by
 have gb:=zh5 (t:=t) h0
 have gc:=(Tj (t:=t) h0 hb).mono (m:=9000) ∅
 walk_at "wr";unfold Vg
 nofun
 refine (zh7 bN hb).imp ?_
 rintro _ _ ⟨rfl,rfl⟩
 nofun
 refine yG ?_
 nofun
 refine yD (λh=>absurd h ⋯) (λ_=>yx ?_)
 nofun
 refine YD ⟨gb,gc.le⟩ ?_
 nofun
 refine YD ⟨gb,gc.le⟩ ?_
 nofun
 exact⟨zcJ.symm,rfl⟩
theorem zeV {i:Int}:W (Zq fu [.int i] S) λv S'=>v= .bl true/\S=S':=by
 walk_at "wr";unfold YV
 refine YB (zi6 ?_)
 nofun
 refine zg5 (v:=true) rfl ?_
 refine⟨_,rfl,λ_=> ?_,λz=>(by cases z)⟩
 nofun
 refine zg5 (v:=false) rfl ?_
 exact⟨_,rfl,rfl,rfl⟩
theorem zdR (bN:Big fu) {t b:Int} (h0:0<b) (hb:zi 4000 b):W (YY fu [.int t,.int b] S) λv S'=>v=qv (yR t b)/\S=S':=by
 walk_at "wr";unfold YX
 refine zR (yG (zel ?_))
 nofun
 refine zeV.imp ?_
 rintro _ _ ⟨rfl,rfl⟩
 nofun
 refine⟨nofun,λ_=> ?_⟩
 nofun
 refine zeV.imp ?_
 rintro _ _ ⟨rfl,rfl⟩
 nofun
 refine⟨nofun,λ_=>yx ?_⟩
 refine zR (yG ?_)
 nofun
 refine yD (λh=>absurd h ⋯) (λ_=>yx ?_)
 nofun
 exact zh8 bN h0 hb
structure IsL (t b:Int) (q:Q2):Prop where
 pos:0<q.2/\q.2<=b
 eq:q.1*b=t*q.2
 co:Bo q.1 q.2=1
 ab:q.1.natAbs<=t.natAbs
theorem Xh {t b:Int} (hb:0<b):IsL t b (yR t b):=by
 have g0:0<Bo t b:=Int.gcd_pos_of_ne_zero_right _ ⋯
 obtain⟨t',et⟩:(Bo t b:Int)∣t:=Int.gcd_dvd_left ..
 obtain⟨b',eb⟩:(Bo t b:Int)∣b:=Int.gcd_dvd_right ..
 have gz:((Bo t b:Int))≠0:=by omega
 have gp:(0:Int)<(Bo t b:Int):=by omega
 have co:Bo t' b'=1:=by
  have h1:Bo t b=Bo t b*Bo t' b':=by
   have:=Int.gcd_mul_left (Bo t b:Int) t' b'
   rw[<-et,<-eb] at this
   simpa using this
  exact Nat.eq_of_mul_eq_mul_left g0 (by rw[Nat.mul_one];exact h1.symm)
 unfold yR
 rw[show t / (Bo t b:Int)=t' from Bn gz et,show b / (Bo t b:Int)=b' from Bn gz eb]
 generalize (Bo t b:Int)=g at*
 have dB:0<b':=by
  rcases Int.lt_trichotomy b' 0 with h|h|h
  ·have:=Int.mul_neg_of_pos_of_neg gp h;omega
  ·subst h;simp at eb;omega
  ·exact h
 refine⟨⟨dB,?_⟩,?_,co,?_⟩
 ·have:=As (show 1<=g by omega) (Br dB)
  rw[eb];dsimp only;omega
 ·rw[et,eb];dsimp only;grind
 ·dsimp only
  rw[et,Bm]
  exact Ep _ ⋯
theorem zh9 {t b:Int} {q:Q2} (hb:0<b) (h0:0<q.2) (hc:Bo q.1 q.2=1) (e:t*q.2=b*q.1):yR t b=q:=by
 have l:=Xh (t:=t) hb
 generalize yR t b=r at l
 obtain⟨⟨r0,_⟩,r1,r2,_⟩:=l
 have x:r.1*q.2=q.1*r.2:=by
  have:b*(r.1*q.2)=b*(q.1*r.2):=by
   rw[show b*(r.1*q.2)=(r.1*b)*q.2 by grind,r1,show t*r.2*q.2=(t*q.2)*r.2 by grind,e]
   grind
  exact Be ⋯ this
 have d1:q.2.natAbs∣r.2.natAbs:=by
  have:q.2.natAbs∣q.1.natAbs*r.2.natAbs:=⟨r.1.natAbs,by rw[<-Bm,<-Bm,<-x,B4]⟩
  exact (show Fz q.2.natAbs q.1.natAbs by rw[FR];exact hc).dvd_of_dvd_mul_left this
 have d2:r.2.natAbs∣q.2.natAbs:=by
  have:r.2.natAbs∣r.1.natAbs*q.2.natAbs:=⟨q.1.natAbs,by rw[<-Bm,<-Bm,x,B4]⟩
  exact (show Fz r.2.natAbs r.1.natAbs by rw[FR];exact r2).dvd_of_dvd_mul_left this
 have e2:r.2=q.2:=by have:=Nat.dvd_antisymm d1 d2;omega
 have e1:r.1=q.1:=by rw[e2] at x;exact Int.eq_of_mul_eq_mul_right ⋯ x
 exact Prod.ext e1 e2
end
section
variable {fu:Nat} {S S':Sto} {x y:Xv}
noncomputable def dv:List Int->(Nat->Int)->Int
 |[],_=>0
 |a::l,y=>a*y 0+dv l λi=>y (i+1)
theorem Vs:∀(l k:List Int) (y:Nat->Int),dv (l++k) y=dv l y+dv k λi=>y (i+l.length)
 |[],k,y=>by simp[dv]
 |a::l,k,y=>by
  rw[D2,dv,dv,Vs l k]
  simp only[Ah,Gd,DH 1]
  omega
theorem Tk:∀(l:List Int) (y z:Nat->Int),(∀i,i<l.length->y i=z i)->dv l y=dv l z
 |[],_,_,_=>rfl
 |a::l,y,z,h=>by rw[dv,dv,h 0 (by simp),Tk l _ _ λi hi=>h (i+1) (by simpa using hi)]
theorem zkq {m:Int}:∀(l:List Int) (y:Nat->Int),(∀i,i<l.length->Cg m (y i) 0)->Cg m (dv l y) 0
 |[],_,_=> .refl
 |a::l,y,h=>by
  rw[dv]
  have h1:=(Cg.refl (a:=a)).mul (h 0 (by simp))
  rw[DM] at h1
  have:=h1.add (zkq l _ λi hi=>h (i+1) (by simpa using hi))
  rwa [DP] at this
noncomputable def ptE:Nat->List Int->List (Nat×Int)
 |_,[]=>[]
 |k,t::r=>if t≠0 then (k,t)::ptE (k+1) r else ptE (k+1) r
theorem zia:∀(ts:List Int) (k:Nat) (X:Nat->Int),zt (ptE k ts) X=dv ts λi=>X (i+k)
 |[],_,_=>rfl
 |t::r,k,X=>by
  have ih:=zia r (k+1) X
  rw[dv,ptE]
  have e:(λi=>X (i+(k+1)))=λi=>X (i+1+k):=funext λi=>by rw[Gd,DH 1 k]
  rw[e] at ih
  by_cases h:t=0
  ·rw[if_neg (by simpa using h),ih,h];simp
  ·rw[if_pos h,yf,ih];simp
theorem zib:∀(l r:List Int) (k:Nat),ptE k (l++r)=ptE k l++ptE (k+l.length) r
 |[],r,k=>rfl
 |t::l,r,k=>by
  rw[D2,ptE,ptE,zib l r,Ah,show k+1+l.length=k+(l.length+1) by omega]
  split<;>rfl
theorem zdS:∀(ts:List Int) (k:Nat) (p:Nat×Int),p∈ptE k ts->k<=p.1/\p.1<k+ts.length/\p.2∈ts
 |[],_,_,h=>nomatch h
 |t::r,k,p,h=>by
  rw[ptE] at h
  have go:p∈ptE (k+1) r->k<=p.1/\p.1<k+(t::r).length/\p.2∈t::r:=λh=>by
   obtain⟨h1,h2,h3⟩:=zdS r (k+1) p h
   rw[Ah]
   exact⟨⋯,⋯,.tail _ h3⟩
  split at h
  ·rcases Ak.1 h with rfl|h
   ·exact⟨z5 _,by simp,.head _⟩
   ·exact go h
  ·exact go h
theorem zkr:∀(ts:List Int) (k:Nat),NdE (ptE k ts)
 |[],_=>EC
 |t::r,k=>by
  have ih:=zkr r (k+1)
  rw[ptE]
  split
  ·refine B9.2 ⟨λz=> ?_,ih⟩
   obtain⟨p,hp,e⟩:=AA.1 z
   have:=(zdS r (k+1) p hp).1
   dsimp only at e
   omega
  ·exact ih
noncomputable def we:List Q2->Int
 |[]=>1
 |q::r=>q.2*we r
theorem Vt:∀(l r:List Q2),we (l++r)=we l*we r
 |[],r=>by simp[we]
 |q::l,r=>by rw[D2,we,we,Vt l r,Cv]
theorem Vu:∀l:List Q2,(∀q∈l,0<q.2)->0<we l
 |[],_=>by decide
 |q::l,h=>C7 (h q (.head _)) (Vu l λp hp=>h p (.tail _ hp))
theorem zcK {m:Int}:∀l:List Q2,(∀q∈l,0<q.2/\q.2<=m)->we l<=m^l.length
 |[],_=>by simp[we]
 |q::l,h=>by
  have h1:=h q (.head _)
  have h2:=zcK l λp hp=>h p (.tail _ hp)
  have h3:=Vu l λp hp=>(h p (.tail _ hp)).1
  rw[we,Ah,Bs,B4]
  exact CO h2 h1.2 ⋯ ⋯
theorem zic (bN:Big fu) {rn:Nat} {qs:List Q2} (hr:S[rn]? =some (.lst (qs.map qv))) (hq:∀q∈qs,0<q.2/\zi 40 q.2) (hl:qs.length<=10):
  W (vx fu [.ref rn] S) λv S'=>S=S'/\∃B,v= .int B/\0<B/\(∀q∈qs,q.2∣B)/\B<=we qs:=by
 walk_at "wr";unfold vw
 nofun
 refine xK (vS ?_)
 nofun
 refine⟨_,zb hr,_,zb hr,?_⟩
 refine yN (xs:=qs.map qv) (λi ρ S'=>∃(B:Int) (a2:Option Xv),ρ=[some (.ref rn),some (.int B),a2]/\S=S'/\0<B/\zi (40*i+1) B/\(∀q∈qs.take i,q.2∣B)/\B<=we (qs.take i)) ?_ ?_ ?_ ?_
 ·rintro i ρ S' _ ⟨B,a2,rfl,rfl,_⟩;exact zb hr
 ·rintro i y ρ S' hy ⟨B,a2,rfl,rfl,B0,Bb,Bd,Bl⟩
  rw[y8,z0] at hy
  obtain⟨q,hy,rfl⟩:=hy
  have hi:i<qs.length:=(y4.1 hy).1
  obtain⟨q0,qb⟩:=hq q (z4 hy)
  have jo:∀B':Int,q.2∣B'->B∣B'->∀p∈qs.take (i+1),p.2∣B':=λB' h1 h2 p hp=>by
   rw[AJ,hy] at hp
   rcases Aa.1 hp with hp|hp
   ·exact Dw (Bd p hp) h2
   ·rw[show p=q by simpa using hp];exact h1
  have pX:we (qs.take (i+1))=we (qs.take i)*q.2:=by
   rw[AJ,hy,Vt]
   simp[we]
  have jr:=CO Bl (El q.2) ⋯ ⋯
  refine .of rfl ?_
  dsimp only[AK]
  refine yG ?_
  nofun
  refine vf (z:= .int q.2) rfl rfl ?_
  nofun
  refine yX q0 ?_
  nofun
  refine Wb (λcE=> ?_) (λhe=> ?_)
  ·nofun
   refine vf (z:= .int q.2) rfl rfl ?_
   nofun
   refine (zh7 bN (qb.mono ∅)).imp ?_
   rintro _ _ ⟨rfl,rfl⟩
   have g0:0<BE B.natAbs q.2.natAbs:=DQ _ ⋯
   have gB:=Tj (t:=B) q0 qb
   have d1:((BE B.natAbs q.2.natAbs:Nat):Int)∣B:=Cj.1 (by rw[CJ];exact FK _ _)
   have d2:((BE B.natAbs q.2.natAbs:Nat):Int)∣q.2:=Cj.1 (by rw[CJ];exact Fx _ _)
   generalize BE B.natAbs q.2.natAbs=g at*
   nofun
   refine zbr ⋯ (gB.mono ∅) ?_
   nofun
   refine vf (z:= .int q.2) rfl rfl ?_
   have b1:zi (40*i+1) (B / (g:Int)):=Bb.abs (BV _ _)
   refine ye b1 qb ⋯ ?_
   obtain⟨u,hu⟩:=d1
   obtain⟨w,hw⟩:=d2
   have eu:B / (g:Int)=u:=Bn ⋯ hu
   have u0:0<B / (g:Int):=Int.ediv_pos_of_pos_of_dvd B0 ⋯ ⟨u,hu⟩
   have e1:B / (g:Int)*q.2=B*w:=by rw[eu,hu,hw];grind
   refine⟨_,_,rfl,rfl,C7 u0 q0,(b1.mul qb).mono ⋯,jo _ ⟨B / (g:Int),B4 ..⟩ ⟨w,e1⟩,?_⟩
   rw[pX]
   refine BM (As (FO _ ⋯) ⋯) jr
  ·refine yx ?_
   have dq:q.2∣B:=Int.dvd_of_emod_eq_zero he
   refine⟨_,_,rfl,rfl,B0,Bb.mono ⋯,jo _ dq (Fj _),?_⟩
   rw[pX]
   refine BM ?_ jr
   have:=Ab (show 1<=q.2 by omega) (Br B0)
   omega
 ·exact⟨1,_,rfl,rfl,∅,by unfold zi;decide,λq hq=>by simp at hq,by simp[we]⟩
 ·rintro ρ S' ⟨B,a2,rfl,rfl,B0,Bb,Bd,Bl⟩
  nofun
  rw[y7,Ar] at Bd Bl
  exact⟨rfl,B,rfl,B0,Bd,Bl⟩
noncomputable def xh (qs:List Q2) (B:Int):List Int:=qs.map λq=>q.1*(B / q.2)
theorem zlQ {rn:Nat} {qs:List Q2} {B:Int} (hr:S[rn]? =some (.lst (qs.map qv))) (hq:∀q∈qs,0<q.2/\zi 40 q.2/\zi 1000 q.1) (hl:qs.length<=10) (hB:zi 100 B):
  W (Yh fu [.ref rn,.int B] S) λv S'=>v= .ref S.length/\S'=S++[.lst ((xh qs B).map .int)]:=by
 walk_at "wr";unfold Yg
 refine YB (yO (vS ?_))
 nofun
 refine⟨_,zb hr,_,zb hr,?_⟩
 refine yu (xs:=qs.map qv) (by rw[y7];exact Ag (yo ⋯)) (λj es S1=>S=S1/\es=(xh (qs.take j) B).map .int) ?_ ?_ ?_ ?_
 ·rintro j es S1 _ ⟨rfl,_⟩;exact zb hr
 ·rintro j y es S1 hy bO ⟨rfl,rfl⟩
  rw[y8,z0] at hy
  obtain⟨q,hy,rfl⟩:=hy
  obtain⟨q0,qb,qt⟩:=hq q (z4 hy)
  refine .of rfl ?_
  nofun
  refine⟨rfl,?_⟩
  nofun
  refine vf (z:= .int q.1) rfl rfl ?_
  nofun
  refine vf (z:= .int q.2) rfl rfl ?_
  refine zbr q0 (qb.mono ∅) ?_
  refine ye qt (hB.abs (BV _ _)) ∅ ?_
  refine⟨rfl,?_⟩
  rw[AJ,hy]
  simp[xh]
 ·exact⟨rfl,rfl⟩
 ·rintro es S1 bO ⟨rfl,rfl⟩
  rw[y7,Ar]
  exact⟨rfl,rfl⟩
end
section
variable {fu:Nat} {S S':Sto} {x y:Xv}
structure RwS (many:Nat) (X:Nat->Int) (D:Int) (row:List Q2) (a:List Int):Prop where
 ex:∃(l:Q2) (part:Int),row=a.map (yR · part)++[l]/\1<=part/\part<=4/\0<l.2/\l.2<=60466176/\zi 1000 l.1/\part*D*l.1=l.2*dv a X
 len:a.length=many
 bit:∀v∈a,zi 60 v
structure WOk (many:Nat) (X:Nat->Int) (D:Int) (a:List Int) (r:List (Nat×Int)×Int):Prop where
 ok:Xg many r
 kr:∃part B:Int,0<part/\0<B/\B<(pN:Int)/\∀y,part*zt r.1 y=B*dv a y
 so:zt r.1 X=r.2*D
theorem zjK {many:Nat} (hm:many<=5):(4:Int)^many<=1024:=by
 match many,hm with
 |0,_=>decide
 |1,_=>decide
 |2,_=>decide
 |3,_=>decide
 |4,_=>decide
 |5,_=>decide
theorem zks {many:Nat} {X:Nat->Int} {D B:Int} {row:List Q2} {a:List Int} (hm:many<=5) (h:RwS many X D row a) (B0:0<B) (Bl:B<=we row):B<=61917364224:=by
 obtain⟨⟨l,part,rfl,p1,p4,l0,lm,lb,le⟩,al,ab⟩:=h
 have hq:∀q∈a.map (yR · part),0<q.2/\q.2<=4:=λq hq=>by
  obtain⟨v,_,rfl⟩:=AA.1 hq
  have:=(Xh (t:=v) (show 0<part by omega)).pos
  omega
 rw[Vt] at Bl
 have h1:=zcK _ hq
 have h2:=Vu _ λq h=>(hq q h).1
 rw[y7,al] at h1
 have h3:=zjK hm
 have h4:we [l]=l.2:=by simp[we]
 rw[h4] at Bl
 have:=CO (BM h1 h3) lm ⋯ ∅
 omega
theorem zid {B:Int} (h0:0<B) (h:B<=61917364224):zi 100 B:=by
 unfold zi
 have:(61917364224:Nat)<2^100:=by decide
 omega
theorem zeW {part B:Int} (hp:0<part):∀(a:List Int) (y:Nat->Int),(∀v∈a,(yR v part).2∣B)->part*dv (xh (a.map (yR · part)) B) y=B*dv a y
 |[],_,_=>by simp[xh,dv]
 |v::a,y,h=>by
  have ih:=zeW hp a (λi=>y (i+1)) λw hw=>h w (.tail _ hw)
  obtain⟨k,hk⟩:=h v (.head _)
  have l:=Xh (t:=v) hp
  unfold xh at ih ⊢
  rw[A6,A6,dv,dv,Int.mul_add,ih,Int.mul_add]
  congr 1
  obtain⟨⟨l0,_⟩,l1,_,_⟩:=l
  generalize yR v part=q at*
  have:B / q.2=k:=Bn ⋯ hk
  rw[this,hk]
  have:part*(q.1*k*y 0)=(q.1*part)*k*y 0:=by grind
  rw[this,l1]
  grind
theorem zie {many:Nat} {X:Nat->Int} {D B:Int} {row:List Q2} {a:List Int} (hm:many<=5) (h:RwS many X D row a) (B0:0<B) (Bd:∀q∈row,q.2∣B) (Bl:B<=we row):∃l:Q2,row.length=many+1/\(xh row B)=xh row.dropLast B++[l.1*(B / l.2)]/\(xh row.dropLast B).length=many/\WOk many X D a (ptE 0 (xh row.dropLast B),l.1*(B / l.2)):=by
 have hB:=zks hm h B0 Bl
 obtain⟨⟨l,part,rfl,p1,p4,l0,lm,lb,le⟩,al,ab⟩:=h
 have hd:(a.map (yR · part)++[l]).dropLast=a.map (yR · part):=by simp
 have qK:∀y,part*dv (xh (a.map (yR · part)) B) y=B*dv a y:=λy=>zeW ⋯ a y λv hv=>Bd _ (Bw _ (AA.2 ⟨v,hv,rfl⟩))
 rw[hd]
 have k9:∀y,zt (ptE 0 (xh (a.map (yR · part)) B)) y=dv (xh (a.map (yR · part)) B) y:=λy=>zia _ 0 y
 have Bb:zi 100 B:=zid B0 hB
 have bd:∀z:Int,zi 100 (B / z):=λz=>Bb.abs (BV _ _)
 refine⟨l,by simp[al],by simp[xh],by simp[xh,al],⟨zkr _ _,λp hp=> ?_,(lb.mul (bd _)).mono ∅⟩,⟨part,B,⋯,B0,?_,λy=>by rw[k9];exact qK y⟩,?_⟩
 ·obtain⟨_,h2,h3⟩:=zdS _ _ _ hp
  refine⟨by simpa [xh,al] using h2,?_⟩
  unfold xh at h3
  rw[Ci] at h3
  obtain⟨v,hv,e⟩:=AA.1 h3
  rw[<-e]
  have:=Xh (t:=v) (show 0<part by omega)
  exact (((ab v hv).abs this.ab).mul (bd _)).mono ∅
 ·exact Int.lt_of_le_of_lt hB ∅
 ·show zt (ptE 0 (xh (a.map (yR · part)) B)) X=l.1*(B / l.2)*D
  obtain⟨k,hk⟩:=Bd l (Ac _ (.head _))
  have e1:B / l.2=k:=Bn ⋯ hk
  have h1:=qK X
  rw[<-k9] at h1
  refine Be (show part≠0 by omega) (h1.trans ?_)
  rw[e1,hk,show part*(l.1*k*D)=(part*D*l.1)*k by grind,le]
  grind
theorem zlR (bN:Big fu) {rn many:Nat} {row:List Q2} {X:Nat->Int} {D:Int} {a:List Int} (hm:many<=5) (hr:S[rn]? =some (.lst (row.map qv))) (h:RwS many X D row a):
  W (Yj fu [.ref rn] S) λv S'=>Le S S'/\∃m r,v= .ref m/\VH S' m r/\WOk many X D a r:=by
 have hq:∀q∈row,0<q.2/\zi 40 q.2/\zi 1000 q.1:=λq hq=>by
  obtain⟨⟨l,part,rfl,p1,p4,l0,lm,lb,le⟩,al,ab⟩:=h
  rcases Aa.1 hq with hq|hq
  ·obtain⟨v,hv,rfl⟩:=AA.1 hq
   have:=Xh (t:=v) (show 0<part by omega)
   exact⟨this.pos.1,zi.small (by have:=this.pos;omega) ∅,((ab v hv).abs this.ab).mono ∅⟩
  ·rw[A4.1 hq]
   refine⟨l0,?_,lb⟩
   unfold zi
   have:(60466176:Nat)<2^40:=by decide
   omega
 have hl:row.length<=10:=by
  obtain⟨⟨l,part,rfl,_⟩,al,_⟩:=h
  simp[al]
  omega
 walk_at "wr";unfold Yi
 nofun
 refine (zic bN hr (λq h=>⟨(hq q h).1,(hq q h).2.1⟩) hl).imp ?_
 rintro _ _ ⟨rfl,B,rfl,B0,Bd,Bl⟩
 nofun
 obtain⟨l,e0,e1,e2,wo⟩:=zie hm h B0 Bd Bl
 have Bb:zi 100 B:=zid B0 (zks hm h B0 Bl)
 refine (zlQ hr hq hl Bb).imp ?_
 rintro _ _ ⟨rfl,rfl⟩
 have dj:(S++[Ce.lst ((xh row B).map .int)])[S.length]? =some (.lst ((xh row B).map .int)):=zw
 nofun
 refine Yp ?_
 nofun
 refine⟨⟨_,zb dj⟩,?_⟩
 nofun
 generalize rT:xh row.dropLast B=ts at e1 e2 wo
 refine WO.of (show zgJ (.ref S.length) [] (S ++ [Ce.lst ((xh row B).map .int)]) = some (.int (l.1 * (B / l.2)), (S ++ [Ce.lst ((xh row B).map .int)]).set S.length (.lst (ts.map .int))) by
  unfold zgJ
  rw[xk dj]
  dsimp only
  rw[e1,Bc,A7,Du,Ay,CI,z6 (z5 _),AG,List.dropLast_concat]
  rfl) ?_
 have l2:Le S ((S++[Ce.lst ((xh row B).map .int)]).set S.length (.lst (ts.map .int))):=Le.refl.app.set (z5 _)
 have gk:((S++[Ce.lst ((xh row B).map .int)]).set S.length (.lst (ts.map .int)))[S.length]? =some (.lst (ts.map .int)):=yp dj
 generalize (S++[Ce.lst ((xh row B).map .int)]).set S.length (.lst (ts.map .int))=S2 at l2 gk
 nofun
 refine zev ?_
 nofun
 refine yO (zdj ?_)
 nofun
 refine⟨_,zb gk,xJ (ts.map .int),congrArg (Ct xJ) (zb gk),?_⟩
 have bO:(xJ (ts.map Xv.int)).length=many:=by simp[xJ,e2]
 refine zhf (by rw[bO];exact Ag (yo ⋯)) (λj es S3=>S2=S3/\es=(ptE 0 (ts.take j)).map prt) ?_ ?_ ?_ ?_
 ·rintro j es S3 _ ⟨rfl,_⟩;exact congrArg (Ct xJ) (zb gk)
 ·rintro j y es S3 hy _ ⟨rfl,rfl⟩
  unfold xJ at hy
  rw[y8,z0] at hy
  obtain⟨⟨v,k⟩,hy,rfl⟩:=hy
  rw[Dg,z0] at hy
  obtain⟨v',hy,e⟩:=hy
  cases e
  rw[y8,z0] at hy
  obtain⟨t,hy,rfl⟩:=hy
  have hj:=(y4.1 hy).1
  have k9:ptE 0 (ts.take (j+1))=ptE 0 (ts.take j)++if t≠0 then [(j,t)] else []:=by
   rw[AJ,hy,zib,Am,Cy (Ag hj),Cb]
   rfl
  refine .of rfl ?_
  nofun
  refine Wb (λcE=> ?_) (λhe=> ?_)
  ·nofun
   refine⟨rfl,?_⟩
   rw[k9,if_pos cE,Bc,Cb]
   rfl
  ·refine⟨rfl,?_⟩
   rw[k9,if_neg (by simpa using he),Bx]
 ·exact⟨rfl,rfl⟩
 ·rintro es S3 _ ⟨rfl,rfl⟩
  rw[bO,Er ⋯]
  nofun
  refine (zfL zw).imp ?_
  rintro _ _ ⟨rfl,rfl⟩
  refine⟨rfl,?_⟩
  refine⟨l2.app.app.set (A2 l2.1 (by simp)),_,_,rfl,⟨S2.length,yp zw,zX (zB zw) (by simp)⟩,wo⟩
end
section
variable {fu:Nat} {S S':Sto} {x y:Xv}
def Xi (S:Sto) (n:Nat) (rws:List (List Q2)):Prop:=∃ms:List Nat,S[n]? =some (.lst (ms.map .ref))/\ms.length=rws.length/\∀(i m:Nat) row,ms[i]? =some m->rws[i]? =some row->S[m]? =some (.lst (row.map qv))
theorem Xi.le {n:Nat} {rws:List (List Q2)} (h:Xi S n rws) (l:Le S S'):Xi S' n rws:=by
 obtain⟨ms,h1,h2,h3⟩:=h
 exact⟨ms,l.2 _ _ h1,h2,λi m r e1 e2=>l.2 _ _ (h3 i m r e1 e2)⟩
structure Ask (many:Nat) (X:Nat->Int) (D:Int) (xs:List Q2) (rws:List (List Q2)) (as:List (List Int)):Prop where
 hm:many<=5
 hl:rws.length=as.length/\rws.length<=10
 rw:∀(i:Nat) row a,rws[i]? =some row->as[i]? =some a->RwS many X D row a
 ker:∀y,(∀a∈as,Cg (pN:Int) (dv a y) 0)->∀c,c<many->Cg (pN:Int) (y c) 0
 pos:0<D/\D<=(pN:Int)^2
 bd:∀c, -((pN:Int)^2)<=X c/\X c<=(pN:Int)^2
 out:∀c,many<=c->X c=0
 xl:xs.length=many
 xs:∀(c:Nat) q,xs[c]? =some q->0<q.2/\Bo q.1 q.2=1/\q.1*D=X c*q.2
theorem zjL (bN:Big fu) {rn many:Nat} {X:Nat->Int} {D:Int} {xs:List Q2} {rws:List (List Q2)} {as:List (List Int)} (A:Ask many X D xs rws as) (h:Xi S rn rws):
  W (Zz fu [.ref rn] S) λv S'=>Le S S'/\∃wn rs,v= .ref wn/\wD S' wn rs/\rs.length=as.length/\∀(i:Nat) r a,rs[i]? =some r->as[i]? =some a->WOk many X D a r:=by
 obtain⟨ms,h1,h2,h3⟩:=id h
 walk_at "wr";unfold Zy
 refine YB (yO (vS ?_))
 nofun
 refine⟨_,zb h1,_,zb h1,?_⟩
 refine yu (xs:=ms.map .ref) (by rw[y7];exact Ag (yo (by have:=A.hl;omega))) (λj es S1=>Le S S1/\∃(ks:List Nat) (rs:List (List (Nat×Int)×Int)),es=ks.map .ref/\ks.length=j/\rs.length=j/\(∀(i m:Nat) r,ks[i]? =some m->rs[i]? =some r->VH S1 m r)/\∀(i:Nat) r a,rs[i]? =some r->as[i]? =some a->WOk many X D a r) ?_ ?_ ?_ ?_
 ·rintro j es S1 _ ⟨le,_⟩;exact zb (le.2 _ _ h1)
 ·rintro j y es S1 hy bO ⟨le,ks,rs,rfl,kl,rl,kr,ko⟩
  rw[y8,z0] at hy
  obtain⟨m,hy,rfl⟩:=hy
  have hj:j<rws.length:=by rw[<-h2];exact (y4.1 hy).1
  have er:rws[j]? =some rws[j]:=y6 hj
  have ea:as[j]? =some (as[j]'(by have:=A.hl;omega)):=y6 _
  generalize rws[j]=row at er
  generalize as[j]'(by have:=A.hl;omega)=a at ea
  refine .of rfl ?_
  nofun
  refine⟨rfl,?_⟩
  nofun
  refine (zlR bN A.hm (le.2 _ _ (h3 j m row hy er)) (A.rw j row a er ea)).imp ?_
  rintro _ S2 ⟨l2,m2,r2,rfl,ra,wo⟩
  refine⟨le.trans l2,ks++[m2],rs++[r2],by simp,by simp[kl],by simp[rl],λi m r e1 e2=> ?_,λi r a' e1 e2=> ?_⟩
  ·by_cases hi:i<ks.length
   ·rw[y9 hi] at e1
    rw[y9 ⋯] at e2
    exact (kr i m r e1 e2).le l2
   ·have eF:i=j:=by
     have:=(y4.1 e1).1
     rw[A7,Ay] at this
     omega
    subst eF
    rw[z6 ⋯,kl,AG] at e1
    rw[z6 ⋯,rl,AG] at e2
    cases e1
    cases e2
    exact ra
  ·by_cases hi:i<rs.length
   ·rw[y9 hi] at e1
    exact ko i r a' e1 e2
   ·have eF:i=j:=by
     have:=(y4.1 e1).1
     rw[A7,Ay] at this
     omega
    subst eF
    rw[z6 ⋯,rl,AG] at e1
    cases e1
    rw[ea] at e2
    cases e2
    exact wo
 ·exact⟨.refl,[],[],rfl,rfl,rfl,λi m r e=>by simp at e,λi r a e=>by simp at e⟩
 ·rintro es S1 bO ⟨le,ks,rs,rfl,kl,rl,kr,ko⟩
  rw[y7,h2,A.hl.1] at kl rl
  exact⟨le.app,S1.length,rs,rfl,⟨ks,zw,⋯,λi m r e1 e2=>(kr i m r e1 e2).le Le.refl.app⟩,rl,ko⟩
theorem zif:2<pN/\zi 150 ((pN:Nat):Int):=⟨∅,by unfold zi;decide⟩
theorem zm4:¬Cg (pN:Int) 1 0:=λh=>by
 have:=h.small ∅ ∅
 omega
theorem Ask.sol {many:Nat} {X:Nat->Int} {D:Int} {xs:List Q2} {rws:List (List Q2)} {as:List (List Int)} (A:Ask many X D xs rws as) {rs:List (List (Nat×Int)×Int)} (rl:rs.length=as.length) (ro:∀(i:Nat) r a,rs[i]? =some r->as[i]? =some a->WOk many X D a r):
  (∀r∈rs,Xg many r)/\Sol pN many rs X D/\∀y,(∀r∈rs,Cg (pN:Int) (zt r.1 y) 0)->∀c,c<many->Cg (pN:Int) (y c) 0:=by
 have at':∀r∈rs,∃a∈as,WOk many X D a r:=λr hr=>by
  obtain⟨i,hi⟩:=AH hr
  have ea:as[i]? =some (as[i]'(by have:=(y4.1 hi).1;omega)):=y6 _
  exact⟨_,z4 ea,ro i r _ hi ea⟩
 refine⟨λr hr=> ?_,⟨A.pos,A.bd,A.out,λr hr=> ?_⟩,λy hy=>A.ker y λa ha=> ?_⟩
 ·obtain⟨a,_,w⟩:=at' r hr;exact w.ok
 ·obtain⟨a,_,w⟩:=at' r hr;exact w.so
 ·obtain⟨i,hi⟩:=AH ha
  have er:rs[i]? =some (rs[i]'(by have:=(y4.1 hi).1;omega)):=y6 _
  generalize rs[i]'(by have:=(y4.1 hi).1;omega)=r at er
  obtain⟨part,B,p0,B0,Bp,e⟩:=(ro i r a er hi).kr
  have h1:(pN:Int)∣B*dv a y:=by rw[<-e y];exact Dw (Cg.dvd.1 (hy r (z4 er))) ⟨part,B4 ..⟩
  rcases zhP zbs h1 with h|h
  ·exact absurd (Gc B0 h) ⋯
  ·exact Cg.dvd.2 h
theorem zlS (bN:Big fu) {wn sn many:Nat} {X:Nat->Int} {D:Int} {xs:List Q2} {rws:List (List Q2)} {as:List (List Int)} (A:Ask many X D xs rws as) {rs:List (List (Nat×Int)×Int)} {ss:List Stp} (hr:wD S wn rs) (ok:∀r∈rs,Xg many r) (sol:Sol pN many rs X D) (hs:wb S sn ss) (aY:Sts ((pN:Nat):Int) many rs ss) (sb:∀s∈ss,zbv s) (full:∀c,c<many->c∈xg ss):
  W (vP fu [.ref wn,.ref sn,.int many,.int ((pN:Nat):Int)] S) λv S'=>Le S S'/\∃xn,v= .ref xn/\S.length<=xn/\S'[xn]? =some (.lst (xs.map qv)):=by
 have hm:=A.hm
 walk_at "wr";unfold vO
 nofun
 refine (zh4 bN zif hr hs aY sb ok ⋯ full sol).imp ?_
 rintro _ S1 ⟨le,tn,ts,b,rfl,ht,fj,b0,bb,tb,heq⟩
 have only:∀c,D*vec ts c=b*X c:=λc=>by
  have:=aY.only ∅ (x:=λc=>D*vec ts c+(-b)*X c) (λc hc=>by
   have:many<=c:=DI λz=>hc (full c z)
   rw[Xy ⋯,sol.out c this];simp) (λs mX ps l er=>by
   obtain⟨j,hj⟩:=AH mX
   obtain⟨r',g1,g2⟩:=zbw aY hj
   rw[er] at g1
   cases g1
   have h1:=heq _ (z4 g2)
   have h2:=sol.eq _ (z4 er)
   dsimp only at h1 h2
   rw[zbt,h1,h2]
   grind) c
  rw[Dq] at this
  omega
 have all:∀r∈rs,zt r.1 (vec ts)=r.2*b:=λr hr=>by
  have h1:D*zt r.1 (vec ts)=b*zt r.1 X:=by
   rw[<-Xw,<-Xw]
   exact yK λp _=>only p.1
  rw[sol.eq r hr] at h1
  refine Be (show D≠0 by have:=sol.pos;omega) (h1.trans ?_)
  grind
 nofun
 refine yG ?_
 nofun
 refine (zaC (hr.le le) ok ht fj ⋯ tb ∅ (bb.mono ∅)).imp ?_
 rintro _ S2 ⟨rfl,l2⟩
 nofun
 refine Wb (λfe=>absurd all fe) (λ_=> ?_)
 refine yx ?_
 refine YB (yO (vS ?_))
 nofun
 have en:=l2.2 _ _ ht
 refine⟨_,zb en,_,zb en,?_⟩
 refine yu (xs:=ts.map .int) (by rw[y7];exact Ag (yo ⋯)) (λj es S3=>S2=S3/\es=(xs.take j).map qv) ?_ ?_ ?_ ?_
 ·rintro j es S3 _ ⟨rfl,_⟩;exact zb en
 ·rintro j y es S3 hy bO ⟨rfl,rfl⟩
  rw[y8,z0] at hy
  obtain⟨t,hy,rfl⟩:=hy
  have hj:j<xs.length:=by rw[A.xl,<-fj];exact (y4.1 hy).1
  have ex:xs[j]? =some xs[j]:=y6 hj
  generalize xs[j]=q at ex
  obtain⟨q0,qc,qe⟩:=A.xs j q ex
  refine .of rfl ?_
  nofun
  refine⟨rfl,?_⟩
  nofun
  refine (zdR bN b0 (bb.mono ∅)).imp ?_
  rintro _ _ ⟨rfl,rfl⟩
  have e1:=only j
  rw[ZB hy] at e1
  have:yR t b=q:=zh9 b0 q0 qc (Be (show D≠0 by have:=sol.pos;omega) (by
   rw[show D*(t*q.2)=(D*t)*q.2 by grind,e1,show D*(b*q.1)=b*(q.1*D) by grind,qe]
   grind))
  rw[this]
  refine⟨rfl,?_⟩
  rw[AJ,ex]
  simp
 ·exact⟨rfl,by simp⟩
 ·rintro es S3 bO ⟨rfl,rfl⟩
  rw[y7,fj,<-A.xl,Ar]
  exact⟨(le.trans l2).app,_,rfl,A2 le.1 l2.1,zw⟩
def zm5 (xs:List Q2) (S:Sto) (v:Xv) (S':Sto):Prop:=Le S S'/\∃xn,v= .tup [.str "one",.ref xn]/\S.length<=xn/\S'[xn]? =some (.lst (xs.map qv))
theorem znm (bN:Big fu) {rn many:Nat} {X:Nat->Int} {D:Int} {xs:List Q2} {rws:List (List Q2)} {as:List (List Int)} (A:Ask many X D xs rws as) (h:Xi S rn rws) (cz:S[1]? =some (.tab YO.t)):
  W (Za fu [.ref rn,.int many,.int ((pN:Nat):Int)] S) (zm5 xs S):=by
 have hm:=A.hm
 have hl:=A.hl
 walk_at "wr";unfold Yk
 nofun
 refine (zjL bN A h).imp ?_
 rintro _ S1 ⟨l1,wn,rs,rfl,hr,rl,ro⟩
 obtain⟨ok,sol,ker⟩:=A.sol rl ro
 nofun
 refine (zjH bN zbs (zif.2.mono ∅) hr ok ⋯ ⋯ (l1.2 _ _ cz)).imp ?_
 rintro _ S2 ⟨l2,sn,ss,rfl,_,hs,aY,sb,jh⟩
 have full:=aY.full zm4 ker jh
 nofun
 refine yG ?_
 nofun
 refine Vn ?_
 nofun
 refine⟨nofun,λ_=>yx ?_⟩
 nofun
 refine (zlS bN A (hr.le l2) ok sol hs aY sb full).imp ?_
 rintro _ S3 ⟨l3,xn,rfl,rJ,hx⟩
 nofun
 refine yG ?_
 nofun
 refine Vn ?_
 nofun
 refine⟨nofun,λ_=>yx ?_⟩
 obtain⟨st,s1,s2,_⟩:=id (hs.le l3)
 refine zR (yG ?_)
 nofun
 refine Zf (zb s1) ?_
 nofun
 rw[y7,s2,aY.len full]
 refine yD (λ_=> ?_) (λz=>absurd rfl z)
 nofun
 exact⟨l1.trans (l2.trans l3),xn,rfl,A2 l1.1 (A2 l2.1 rJ),hx⟩
theorem zcL (bN:Big fu) {rn many:Nat} {X:Nat->Int} {D:Int} {xs:List Q2} {rws:List (List Q2)} {as:List (List Int)} (A:Ask many X D xs rws as) (h:Xi S rn rws) (cz:S[1]? =some (.tab YO.t)):
  W (xW fu [.ref rn,.int many] S) (zm5 xs S):=by
 walk_at "wr";unfold Yl
 nofun
 refine (znm bN A h cz).imp ?_
 rintro _ S1 ⟨l1,xn,rfl,h2,h3⟩
 nofun
 obtain⟨n,rfl⟩:∃n,fu=n+1:=⟨fu-1,by have:=bN.bits (n:=10) (p:=5) (by unfold zi;decide) ∅;omega⟩
 refine zg4 (Xp ?_)
 nofun
 refine Vn ?_
 nofun
 refine⟨nofun,λ_=> ?_⟩
 nofun
 exact⟨l1,xn,rfl,h2,h3⟩
end
section
variable {fu:Nat} {S S':Sto} {x y:Xv} {ns:List Int}
def Scr (ns:List Int) (S:Sto):Prop:=S[0]? =some (.frz (ns.map .int))
theorem Scr.le (h:Scr ns S) (l:Le S S'):Scr ns S':=l.2 _ _ h
theorem Scr.lst (h:Scr ns S):zv S (.ref 0)=some (ns.map .int):=by unfold Scr at h;simp[zv,h]
theorem zig {k:Int} (hk:0<=k) (hn:0<ns.length):∃c,atI (ns.map Xv.int) (k % (ns.length:Int))=some (.int c):=by
 have h1:=AI k (show (ns.length:Int)≠0 by omega)
 have h2:=Ao k (show (0:Int)<ns.length by omega)
 have hi:(k % (ns.length:Int)).toNat<ns.length:=by omega
 exact⟨_,Zt h1 (by rw[y8,y6 hi];rfl)⟩
theorem wc (hs:Scr ns S) {k p m:Int} (hk:0<=k/\k<=500) (hp:0<p) (hm:0<m):W (zG fu [.ref 0,.int k,.int p,.int m] S) λv S'=>S=S'/\∃d,v= .int d/\0<=d/\d<m:=by
 have fin:∀c:Int,W (eOp wX (eOp wX (eOp xB (eOp UJ (eOp xB (za 4) (eOp yk (za 1) (za 1))) (eC (.int 48271))) (eC (.int 11))) (za 2)) (za 3) [some (.ref 0),some (.int k),some (.int p),some (.int m),some (.int c)] S) λv S'=>S=S'/\∃d,v= .int d/\0<=d/\d<m:=λc=>by
  nofun
  refine ye (n:=10) (m:=10) (zi.small ⋯ ∅) (zi.small ⋯ ∅) ∅ ?_
  nofun
  refine yX hp ?_
  nofun
  refine yX hm ?_
  exact⟨rfl,_,rfl,AI _ ⋯,Ao _ hm⟩
 walk_at "wr";unfold Ym
 nofun
 refine yG ?_
 nofun
 refine Zf hs.lst ?_
 rw[y7]
 nofun
 refine yD (λh=> ?_) (λh=> ?_)
 ·refine yW ?_
  nofun
  refine Zf hs.lst ?_
  rw[y7]
  nofun
  refine yX ⋯ ?_
  obtain⟨c,hc⟩:=zig (ns:=ns) hk.1 ⋯
  refine wM hs.lst hc ?_
  refine YB ?_
  exact fin c
 ·refine yx (YB ?_)
  exact fin 0
theorem zlT (hs:Scr ns S) {k:Int} (hk:0<=k):W (Yo fu [.ref 0,.int k] S) λv S'=>S=S'/\∃c,v= .int c:=by
 walk_at "wr";unfold Yn
 refine zR (yG ?_)
 nofun
 refine Zf hs.lst ?_
 rw[y7]
 nofun
 refine yD (λh=> ?_) (λh=>yx ?_)
 ·nofun
  refine Zf hs.lst ?_
  rw[y7]
  nofun
  refine yX ⋯ ?_
  obtain⟨c,hc⟩:=zig (ns:=ns) hk ⋯
  refine wM hs.lst hc ?_
  exact⟨rfl,c,rfl⟩
 ·nofun
  exact⟨rfl,0,rfl⟩
structure FrX (q:Q2):Prop where
 pos:0<q.2/\q.2<=9
 co:Bo q.1 q.2=1
 ab:zi 200 q.1
theorem FrX.low {t b:Int} (hb:0<b/\b<=9) (ht:zi 200 t):FrX (yR t b):=by
 have l:=Xh (t:=t) hb.1
 exact⟨⟨l.pos.1,BM l.pos.2 hb.2⟩,l.co,ht.abs l.ab⟩
theorem zjM (bN:Big fu) (hs:Scr ns S) {k:Int} (hk:0<=k/\k<=500):W (vz fu [.ref 0,.int k] S) λv S'=>S=S'/\∃q,v=qv q/\FrX q:=by
 walk_at "wr";unfold vy
 nofun
 refine (wc hs hk ∅ ∅).imp ?_
 rintro _ _ ⟨rfl,w,rfl,w0,w4⟩
 nofun
 refine (wc hs hk ∅ ∅).imp ?_
 rintro _ _ ⟨rfl,b,rfl,b0,b9⟩
 nofun
 refine yG ?_
 nofun
 refine yD (λ_=> ?_) (λ_=>yx ?_)
 ·nofun
  exact⟨rfl,(0,1),rfl,⟨∅,∅⟩,∅,by unfold zi;decide⟩
 refine zR (yG ?_)
 nofun
 have bb:zi 4000 (1+b):=zi.small ⋯ ∅
 refine yD (λ_=> ?_) (λ_=>yx ?_)
 ·nofun
  refine (zlT hs hk.1).imp ?_
  rintro _ _ ⟨rfl,c,rfl⟩
  nofun
  refine yX ∅ ?_
  nofun
  refine (WM bN ⋯ bb).imp ?_
  rintro _ _ ⟨rfl,rfl⟩
  refine⟨rfl,_,rfl,.low ⟨⋯,⋯⟩ ?_⟩
  have h1:=AI c (show (2*10^(59:Int).toNat:Int)≠0 by decide)
  have h2:=Ao c (show (0:Int)<2*10^(59:Int).toNat by decide)
  unfold zi
  have h3:(10^(59:Int).toNat:Int)=100000000000000000000000000000000000000000000000000000000000:=by decide
  have h4:(100000000000000000000000000000000000000000000000000000000001:Nat)<2^200:=by decide
  rw[h3] at h1 h2 ⊢
  omega
 ·nofun
  refine (wc hs hk ∅ ∅).imp ?_
  rintro _ _ ⟨rfl,d,rfl,d0,d9⟩
  nofun
  refine (WM bN ⋯ bb).imp ?_
  rintro _ _ ⟨rfl,rfl⟩
  exact⟨rfl,_,rfl,.low ⟨⋯,⋯⟩ (zi.small ⋯ ∅)⟩
theorem Uk {l:List Int} {v:Int} {X:Nat->Int}:dv (l++[v]) X=dv l X+v*X l.length:=by
 rw[Vs,dv,dv,Cb]
 omega
theorem zih (bN:Big fu) {rn xn:Nat} {a:List Int} {xs:List Q2} {part D:Int} {X:Nat->Int} (hr:S[rn]? =some (.lst ((a.map (yR · part)).map qv))) (hx:S[xn]? =some (.lst (xs.map qv))) (hp:1<=part/\part<=4) (hl:a.length=xs.length/\a.length<=5) (ha:∀v∈a,zi 60 v) (fx:∀q∈xs,FrX q) (hX:∀(c:Nat) q,xs[c]? =some q->q.1*D=X c*q.2):
  W (Xd fu [.ref rn,.ref xn] S) λv S'=>S=S'/\∃l:Q2,v=qv l/\0<l.2/\l.2<=60466176/\zi 1000 l.1/\part*D*l.1=l.2*dv a X:=by
 walk_at "wr";unfold Xc
 nofun
 refine xK (Xq ?_)
 nofun
 refine⟨⟨_,zb hr⟩,⟨_,zb hx⟩,_,wj (zb hr) (zb hx),?_⟩
 have eP:(ZO ((a.map (yR · part)).map qv) (xs.map qv)).length=a.length:=by rw[vC (by simp[hl.1]),y7,y7]
 refine yN (xs:=ZO ((a.map (yR · part)).map qv) (xs.map qv)) (λi ρ S'=>∃(top bot:Int) (a4 a5:Option Xv),ρ=[some (.ref rn),some (.ref xn),some (.int top),some (.int bot),a4,a5]/\S=S'/\0<bot/\bot<=36^i/\zi (7*i+1) bot/\zi (300+8*i) top/\part*D*top=bot*dv (a.take i) X) ?_ ?_ ?_ ?_
 ·rintro i ρ S' _ ⟨top,bot,a4,a5,rfl,rfl,_⟩;exact wj (zb hr) (zb hx)
 ·rintro i y ρ S' hy ⟨top,bot,a4,a5,rfl,rfl,b0,bl,bb,tb,eq⟩
  obtain⟨u,w,e1,e2,rfl⟩:=Zl hy
  rw[y8,z0] at e1 e2
  obtain⟨q,e1,rfl⟩:=e1
  obtain⟨z,e2,rfl⟩:=e2
  rw[y8,z0] at e1
  obtain⟨v,e1,rfl⟩:=e1
  have hi:=(y4.1 e1).1
  have l:=Xh (t:=v) (show 0<part by omega)
  have vb:=ha v (z4 e1)
  have f:=fx z (z4 e2)
  have ez:=hX i z e2
  generalize yR v part=q at l
  have q1:zi 60 q.1:=vb.abs l.ab
  have q2:zi 3 q.2:=by unfold zi;have:=l.pos;omega
  have z2:zi 4 z.2:=by unfold zi;have:=f.pos;omega
  have z1:=f.ab
  refine .of rfl ?_
  dsimp only[AK]
  nofun
  refine vf (z:= .int q.2) rfl rfl ?_
  refine ye tb q2 ⋯ ?_
  nofun
  refine vf (z:= .int z.2) rfl rfl ?_
  refine ye (tb.mul q2) z2 ⋯ ?_
  nofun
  refine vf (z:= .int q.1) rfl rfl ?_
  nofun
  refine vf (z:= .int z.1) rfl rfl ?_
  refine ye q1 z1 ⋯ ?_
  nofun
  refine ye (q1.mul z1) bb ⋯ ?_
  nofun
  refine vf (z:= .int q.2) rfl rfl ?_
  refine ye bb q2 ⋯ ?_
  nofun
  refine vf (z:= .int z.2) rfl rfl ?_
  refine ye (bb.mul q2) z2 ⋯ ?_
  refine⟨_,_,_,_,rfl,rfl,C7 (C7 b0 l.pos.1) f.pos.1,?_,((bb.mul q2).mul z2).mono ⋯,zi.add (n:=300+8*i+7) (((tb.mul q2).mul z2).mono ⋯) (((q1.mul z1).mul bb).mono ⋯) ⋯,?_⟩
  ·rw[Bs,Cv]
   have h1:=CO (show q.2<=4 by have:=l.pos;omega) f.pos.2 (by have:=f.pos;omega) ∅
   have h0:=C7 l.pos.1 f.pos.1
   exact CO bl ⋯ ⋯ ⋯
  ·rw[AJ,e1]
   dsimp only[Option.toList]
   rw[Uk,Am,Cy ⋯]
   have l1:=l.eq
   have:part*D*(top*q.2*z.2+q.1*z.1*bot)=(part*D*top)*q.2*z.2+(q.1*part)*(z.1*D)*bot:=by grind
   rw[this,eq,l1,ez]
   grind
 ·exact⟨0,1,_,_,rfl,rfl,∅,∅,by unfold zi;decide,by unfold zi;exact Nat.pow_pos ∅,by simp[dv]⟩
 ·rintro ρ S' ⟨top,bot,a4,a5,rfl,rfl,b0,bl,bb,tb,eq⟩
  rw[eP] at bl bb tb eq
  rw[Ar] at eq
  nofun
  refine (WM bN b0 (bb.mono ⋯)).imp ?_
  rintro _ _ ⟨rfl,rfl⟩
  have l:=Xh (t:=top) b0
  generalize yR top bot=q at l
  refine⟨rfl,q,rfl,l.pos.1,BM l.pos.2 (BM bl ?_),(tb.abs l.ab).mono ⋯,?_⟩
  ·obtain⟨n,hn⟩:∃n,n=a.length:=⟨_,rfl⟩
   rw[<-hn] at hl ⊢
   obtain⟨_,h5⟩:=hl
   match n,h5 with
   |0,_=>decide
   |1,_=>decide
   |2,_=>decide
   |3,_=>decide
   |4,_=>decide
   |5,_=>decide
  ·refine Be (show bot≠0 by omega) ?_
   have l1:=l.eq
   rw[show bot*(part*D*q.1)=part*D*(q.1*bot) by grind,l1,show part*D*(top*q.2)=(part*D*top)*q.2 by grind,eq]
   grind
end
section
variable {fu:Nat} {S S':Sto} {x y:Xv} {ns:List Int}
theorem zlU {ρ:Rho} {m n:TwE} {Q':(Sto->Option (List Xv))->Sto->Prop} (h:W (m ρ S) λx S1=>W (n ρ S1) λy S2=>∃i j:Int,x= .int i/\y= .int j/\(-(2^62)<=i/\i<2^62/\ -(2^62)<=j/\j<2^62)/\Q' (λ_=>some (yC i (j-i).toNat)) S2):W (iR2 m n ρ S) Q':=W.bind (h.imp λx S1 h=>W.bind (h.imp λy S2 h=>by
 obtain⟨i,j,rfl,rfl,hk,q⟩:=h
 dsimp only
 rw[if_pos hk]
 exact .of rfl q))
def wf (S:Sto) (n:Nat) (R:List (List Int)):Prop:=∃ms:List Nat,S[n]? =some (.lst (ms.map .ref))/\ms.length=R.length/\∀(i m:Nat) r,ms[i]? =some m->R[i]? =some r->m≠n/\S[m]? =some (.lst (r.map .int))
theorem wf.le {n:Nat} {R:List (List Int)} (h:wf S n R) (l:Le S S'):wf S' n R:=by
 obtain⟨ms,h1,h2,h3⟩:=h
 exact⟨ms,l.2 _ _ h1,h2,λi m r e1 e2=>⟨(h3 i m r e1 e2).1,l.2 _ _ (h3 i m r e1 e2).2⟩⟩
theorem wf.at {n i:Nat} {R:List (List Int)} {r:List Int} (h:wf S n R) (e:R[i]? =some r):∃(ms:List Nat) (m:Nat),S[n]? =some (.lst (ms.map .ref))/\ms.length=R.length/\ms[i]? =some m/\m≠n/\S[m]? =some (.lst (r.map .int)):=by
 obtain⟨ms,h1,h2,h3⟩:=h
 have hi:=(y4.1 e).1
 have em:ms[i]? =some (ms[i]'⋯):=y6 _
 exact⟨ms,_,h1,h2,em,h3 i _ r em e⟩
theorem wf.push {n k:Nat} {R:List (List Int)} {r:List Int} {ms:List Nat} (h:wf S n R) (hm:S[n]? =some (.lst (ms.map .ref))) (hk:k≠n) (hr:S[k]? =some (.lst (r.map .int))):wf (S.set n (.lst (ms.map .ref++[.ref k]))) n (R++[r]):=by
 obtain⟨ms',h1,h2,h3⟩:=h
 have:ms'=ms:=by
  rw[hm] at h1
  simp only[Al,Ce.lst.injEq] at h1
  exact ((CK (λa b h=>by cases h;rfl)).1 h1).symm
 subst this
 refine⟨ms'++[k],by rw[yp hm];simp,by simp[h2],λi m r' e1 e2=> ?_⟩
 by_cases hi:i<ms'.length
 ·rw[y9 hi] at e1
  rw[y9 ⋯] at e2
  obtain⟨a,b⟩:=h3 i m r' e1 e2
  exact⟨a,zX b (AQ a)⟩
 ·have eF:i=ms'.length:=by
   have:=(y4.1 e1).1
   rw[A7,Ay] at this
   omega
  subst eF
  rw[z6 (z5 _),AG] at e1
  rw[z6 ⋯,h2,AG] at e2
  cases e1
  cases e2
  exact⟨hk,zX hr (AQ hk)⟩
theorem wf.store {n k j:Nat} {R:List (List Int)} {r:List Int} {ms:List Nat} (h:wf S n R) (hm:S[n]? =some (.lst (ms.map .ref))) (hk:k≠n) (hr:S[k]? =some (.lst (r.map .int))):wf (S.set n (.lst ((ms.map .ref).set j (.ref k)))) n (R.set j r):=by
 obtain⟨ms',h1,h2,h3⟩:=h
 have:ms'=ms:=by
  rw[hm] at h1
  simp only[Al,Ce.lst.injEq] at h1
  exact ((CK (λa b h=>by cases h;rfl)).1 h1).symm
 subst this
 refine⟨ms'.set j k,by rw[yp hm,Gr],by simp[h2],λi m r' e1 e2=> ?_⟩
 rw[Af] at e1 e2
 by_cases hi:j=i
 ·rw[if_pos hi] at e1 e2
  split at e1
  ·split at e2
   ·cases e1;cases e2;exact⟨hk,zX hr (AQ hk)⟩
   ·cases e2
  ·cases e1
 ·rw[if_neg hi] at e1 e2
  obtain⟨a,b⟩:=h3 i m r' e1 e2
  exact⟨a,zX b (AQ a)⟩
structure Dia (many i:Nat) (r:List Int):Prop where
 len:r.length=many
 nul:∀c,c<i->vec r c=0
 lead:vec r i≠0/\(vec r i).natAbs<pN
 bit:∀v∈r,zi 31 v
theorem zjN (hs:Scr ns S) {many:Nat} (hm:many<=5):
  W (wA fu [.ref 0,.int many] S) λv S'=>Le S S'/\∃rn R,v= .ref rn/\S.length<=rn/\wf S' rn R/\R.length=many/\∀(i:Nat) r,R[i]? =some r->Dia many i r:=by
 walk_at "wr";unfold wx
 nofun
 refine xK (UT ?_)
 nofun
 refine⟨⟨⋯,⋯⟩,yC 0 many,by rw[Ae],?_⟩
 refine yN (xs:=yC 0 many) (λi ρ S'=>∃(R:List (List Int)) (a3 a4 a5 a6:Option Xv),ρ=[some (.ref 0),some (.int many),some (.ref S.length),a3,a4,a5,a6]/\Le S S'/\wf S' S.length R/\R.length=i/\∀(i:Nat) r,R[i]? =some r->Dia many i r) ?_ ?_ ?_ ?_
 ·rintro i ρ S' _ _;rw[Ae]
 ·rintro i y ρ S' hy ⟨R,a3,a4,a5,a6,rfl,le,hR,Rl,Rd⟩
  obtain⟨hi,rfl⟩:=ZN hy
  rw[CF]
  refine .of rfl ?_
  dsimp only[AK]
  refine zR (yW (yO (UT ?_)))
  nofun
  refine⟨⟨⋯,⋯⟩,yC 0 i,by rw[Ae],?_⟩
  refine yu (xs:=yC 0 i) (by rw[xL];exact Ag (yo ⋯)) (λj es S1=>S'=S1/\es=(z9 j (0:Int)).map .int) ?_ ?_ ?_ ?_
  ·rintro j es S1 _ _;rw[Ae]
  ·rintro j y es S1 cU bO ⟨rfl,rfl⟩
   refine .of rfl ?_
   nofun
   refine⟨rfl,?_⟩
   nofun
   refine⟨rfl,?_⟩
   rw[List.replicate_succ',Bc]
   rfl
  ·exact⟨rfl,rfl⟩
  rintro es S1 bO ⟨rfl,rfl⟩
  rw[xL]
  have eD:(S'++[Ce.lst ((z9 i (0:Int)).map .int)])[S'.length]? =some (.lst ((z9 i (0:Int)).map .int)):=zw
  have l1:Le S (S'++[Ce.lst ((z9 i (0:Int)).map .int)]):=le.app
  have lR:wf (S'++[Ce.lst ((z9 i (0:Int)).map .int)]) S.length R:=hR.le Le.refl.app
  have gA:S'.length≠S.length:=λz=>by
   obtain⟨ms,e,_⟩:=id hR
   have:=vU e
   omega
  have iW:∀(j m:Nat) r,(∃ms:List Nat,S'[S.length]? =some (.lst (ms.map .ref))/\ms[j]? =some m)->R[j]? =some r->m<S'.length:=λj m r ⟨ms,e1,e2⟩ e3=>by
   obtain⟨ms',m',f1,f2,f3,f4,f5⟩:=hR.at e3
   rw[e1] at f1
   simp only[Al,Ce.lst.injEq] at f1
   rw[<-(CK (λa b h=>by cases h;rfl)).1 f1,e2] at f3
   cases f3
   exact vU f5
  generalize j9:S'++[Ce.lst ((z9 i (0:Int)).map .int)]=S1 at eD l1 lR
  generalize n6:S'.length=rw' at eD gA iW
  have kI:(7:Int)+(i:Int)<=500:=by omega
  nofun
  refine (wc (hs.le l1) ⟨⋯,⋯⟩ ∅ ∅).imp ?_
  rintro _ _ ⟨rfl,d1,rfl,qM,qL⟩
  nofun
  refine YC (λρ S2=>S1=S2/\∃ld:Int,ρ=[some (.ref 0),some (.int many),some (.ref S.length),some (.int (i:Int)),some (.ref rw'),some (.int ld),a6]/\1<=ld/\ld<=1000000007) (yG ?_) ?_
  ·nofun
   refine (wc (hs.le l1) ⟨⋯,⋯⟩ ∅ ∅).imp ?_
   rintro _ _ ⟨rfl,d2,rfl,lW,lV⟩
   nofun
   refine yD (λ_=> ?_) (λ_=>yx ?_)
   ·nofun
    exact⟨rfl,_,rfl,∅,∅⟩
   ·exact⟨rfl,_,rfl,⋯,⋯⟩
  rintro _ _ ⟨rfl,ld,rfl,uK,uJ⟩
  refine zR (YC (λρ S2=>S1=S2/\∃ld:Int,ρ=[some (.ref 0),some (.int many),some (.ref S.length),some (.int (i:Int)),some (.ref rw'),some (.int ld),a6]/\ld≠0/\ld.natAbs<=1000000007) (yG ?_) ?_)
  ·nofun
   refine (wc (hs.le l1) ⟨⋯,⋯⟩ ∅ ∅).imp ?_
   rintro _ _ ⟨rfl,d2,rfl,lW,lV⟩
   nofun
   refine yD (λ_=> ?_) (λ_=>yx ?_)
   ·nofun
    exact⟨rfl,_,rfl,⋯,⋯⟩
   ·exact⟨rfl,_,rfl,⋯,⋯⟩
  rintro _ _ ⟨rfl,ld,rfl,ldn,p9⟩
  refine zR (vX (Yp ?_))
  nofun
  refine⟨⟨_,zb eD⟩,?_⟩
  nofun
  refine yY (xk eD) (by simp;exact yo ⋯) ?_
  refine zR (xK (zlU ?_))
  nofun
  refine⟨_,_,rfl,rfl,⟨⋯,⋯,⋯,⋯⟩,yC ((i:Int)+1) (many-(i+1)),by rw[show ((many:Int)-((i:Int)+1)).toNat=many-(i+1) by omega],?_⟩
  have vr:∀c,c<i->∀t:List Int,vec (z9 i 0++t) c=0:=λc hc t=>by
   unfold vec
   rw[z8,y9 (by simpa using hc),BF,if_pos hc]
   rfl
  refine YC (λρ S2=>∃(t:List Int) (a6:Option Xv),ρ=[some (.ref 0),some (.int many),some (.ref S.length),some (.int (i:Int)),some (.ref rw'),some (.int ld),a6]/\Le S S2/\wf S2 S.length R/\S2[rw']? =some (.lst ((z9 i (0:Int)++ld::t).map .int))/\t.length=many-(i+1)/\∀v∈t,zi 31 v) ?_ ?_
  ·refine yN (xs:=yC ((i:Int)+1) (many-(i+1))) (λj ρ S2=>∃(t:List Int) (a6:Option Xv),ρ=[some (.ref 0),some (.int many),some (.ref S.length),some (.int (i:Int)),some (.ref rw'),some (.int ld),a6]/\Le S S2/\wf S2 S.length R/\(∀n,n<rw'->S2[n]? =S'[n]?)/\S2[rw']? =some (.lst ((z9 i (0:Int)++ld::t).map .int))/\t.length=j/\∀v∈t,zi 31 v) ?_ ?_ ?_ ?_
   ·rintro j ρ S2 _ _;rw[show ((many:Int)-((i:Int)+1)).toNat=many-(i+1) by omega]
   ·rintro j y ρ S2 cU ⟨t,a6,rfl,fG,jy,cX,en,tl,tb⟩
    obtain⟨hj,rfl⟩:=ZN cU
    refine .of rfl ?_
    dsimp only[AK]
    refine vX (Yp ?_)
    nofun
    refine⟨⟨_,zb en⟩,?_⟩
    nofun
    refine (wc (hs.le fG) ⟨⋯,⋯⟩ ∅ ∅).imp ?_
    rintro _ _ ⟨rfl,d2,rfl,lW,lV⟩
    nofun
    refine yY (xk en) (by simp;exact yo ⋯) ?_
    refine⟨t++[d2-2],_,rfl,fG.set (by have:=le.1;omega),?_,λn hn=> ?_,by rw[yp en];simp,by simp[tl],λv hv=> ?_⟩
    ·obtain⟨ms,f1,f2,f3⟩:=id jy
     refine⟨ms,zX f1 gA,f2,λi' m r e1 e2=>⟨(f3 i' m r e1 e2).1,zX (f3 i' m r e1 e2).2 λz=> ?_⟩⟩
     have h1:m<rw':=iW i' m r ⟨ms,by rw[<-cX _ (by have:=le.1;omega)];exact f1,e1⟩ e2
     omega
    ·rw[Af,if_neg ⋯]
     exact cX n hn
    ·rcases Aa.1 hv with hv|hv
     ·exact tb v hv
     ·rw[A4.1 hv]
      exact zi.small ⋯ ∅
   ·refine⟨[],_,rfl,l1.set (by have:=le.1;omega),?_,λn hn=> ?_,by rw[yp eD];simp,rfl,λv hv=>by cases hv⟩
    ·obtain⟨ms,f1,f2,f3⟩:=id lR
     refine⟨ms,zX f1 gA,f2,λi' m r e1 e2=>⟨(f3 i' m r e1 e2).1,zX (f3 i' m r e1 e2).2 λz=> ?_⟩⟩
     have h1:m<rw':=iW i' m r ⟨ms,by rw[<-j9,y9 (by have:=le.1;omega)] at f1;exact f1,e1⟩ e2
     omega
    ·rw[Af,if_neg ⋯,<-j9,y9 ⋯]
   ·rintro ρ S2 ⟨t,a6,rfl,fG,jy,_,en,tl,tb⟩
    rw[xL] at tl
    exact⟨t,a6,rfl,fG,jy,en,tl,tb⟩
  ·rintro _ S2 ⟨t,a6,rfl,fG,jy,en,tl,tb⟩
   obtain⟨ms,f1,f2,f3⟩:=id jy
   refine vX (Yp ?_)
   nofun
   refine⟨⟨_,zb f1⟩,?_⟩
   nofun
   refine yY (xk f1) (by rw[y7];exact yo ⋯) ?_
   refine⟨R++[z9 i 0++ld::t],_,_,_,_,rfl,fG.set (z5 _),jy.push f1 gA en,by simp[Rl],λi' r e=> ?_⟩
   by_cases fR:i'<R.length
   ·rw[y9 fR] at e
    exact Rd i' r e
   ·have eF:i'=i:=by
     have:=(y4.1 e).1
     rw[A7,Ay] at this
     omega
    subst eF
    rw[z6 ⋯,Rl,AG] at e
    cases e
    have hv:vec (z9 i' 0++ld::t) i'=ld:=by
     unfold vec
     rw[z8,z6 (by simp)]
     simp
    refine⟨by simp[tl];omega,λc hc=>vr c hc _,?_,λv hv=> ?_⟩
    ·rw[hv]
     exact⟨ldn,Az p9 ∅⟩
    ·rcases Aa.1 hv with hv|hv
     ·rw[CH hv];unfold zi;decide
     ·rcases Ak.1 hv with rfl|hv
      ·unfold zi
       exact Az p9 ∅
      ·exact tb v hv
 ·exact⟨[],_,_,_,_,rfl,Le.refl.app,⟨[],zw,rfl,λi m r e=>by simp at e⟩,rfl,λi r e=>by simp at e⟩
 ·rintro ρ S' ⟨R,a3,a4,a5,a6,rfl,le,hR,Rl,Rd⟩
  rw[xL] at Rl
  nofun
  exact⟨le,_,R,rfl,z5 _,hR,Rl,Rd⟩
end
section
variable {fu:Nat} {S S':Sto} {x y:Xv} {ns:List Int}
def Ker (many:Nat) (R:List (List Int)):Prop:=∀y,(∀r∈R,Cg (pN:Int) (dv r y) 0)->∀c,c<many->Cg (pN:Int) (y c) 0
theorem zii {r:List Int} {i:Nat} {y:Nat->Int} (hi:i<r.length) (h0:∀c,c<i->vec r c=0) (h1:∀c,i<c->c<r.length->Cg (pN:Int) (y c) 0):Cg (pN:Int) (dv r y) (vec r i*y i):=by
 have e:r=r.take i++([vec r i]++r.drop (i+1)):=by
  have h2:r[i]=vec r i:=by
   have:=Wd hi
   rw[y6 hi] at this
   exact AW this
  rw[<-h2]
  exact (by rw[List.singleton_append,<-Cw hi,D6])
 have z:dv (r.take i) y=0:=by
  have oH:∀(l:List Int) (y:Nat->Int),(∀v∈l,v=0)->dv l y=0:=by
   intro l
   induction l with
   |nil=>intro y _;rfl
   |cons a l ih=>intro y h;rw[dv,h a (.head _),ih _ λv hv=>h v (.tail _ hv)];simp
  refine oH _ _ λv hv=> ?_
  obtain⟨c,hc⟩:=AH hv
  have qw:c<i:=by have:=(y4.1 hc).1;rw[Am] at this;omega
  rw[By qw] at hc
  rw[<-ZB hc]
  exact h0 c qw
 have w:Cg (pN:Int) (dv (r.drop (i+1)) λk=>y (k+1+i)) 0:=zkq _ _ λk hk=>by
  rw[B3] at hk
  exact h1 _ ⋯ ⋯
 conv=>lhs;rw[e]
 generalize vec r i=u at*
 rw[Vs,z,Vs,Am,Cy (Ag hi),Ay]
 rw[dv,dv,Cb,CF,DP]
 have:=(Cg.refl (m:=(pN:Int)) (a:=u*y i)).add w
 rwa [DP] at this
theorem zjO {many:Nat} {R:List (List Int)} (hl:R.length=many) (h:∀(i:Nat) r,R[i]? =some r->Dia many i r):Ker many R:=by
 intro y hy
 have:∀k,k<=many->∀c,many-k<=c->c<many->Cg (pN:Int) (y c) 0:=by
  intro k
  induction k with
  |zero=>intro _ c h1 h2;omega
  |succ k ih=>
   intro hk c h1 h2
   by_cases hc:many-k<=c
   ·exact ih ⋯ c hc h2
   ·have er:R[c]? =some (R[c]'⋯):=y6 _
    generalize R[c]'⋯=r at er
    have d:=h c r er
    have h3:=zii (r:=r) (i:=c) (y:=y) (by rw[d.len];exact h2) d.nul λc' h4 h5=>ih ⋯ c' ⋯ (by rw[d.len] at h5;exact h5)
    have h4:=Cg.dvd.1 (h3.symm.trans (hy r (z4 er)))
    rcases zhP zbs h4 with h5|h5
    ·have h6:=Cj.2 h5
     have h7:=EV (Int.natAbs_pos.2 d.lead.1) h6
     rw[CJ] at h7
     have:=d.lead.2
     exact absurd h7 ⋯
    ·exact Cg.dvd.2 h5
 exact λc hc=>this many (z5 _) c ⋯ hc
noncomputable def zdT (many:Nat) (t:Int) (a b:List Int):List Int:=rng many λc=>vec a c+t*vec b c
theorem zij:∀(l:List Int) (y:Nat->Int),dv l y=dv (rng l.length (vec l)) y:=by
 intro l y
 congr 1
 apply Dz
 intro i
 by_cases h:i<l.length
 ·rw[Wd h]
  unfold rng
  rw[y8,B7 h]
  rfl
 ·rw[Aq ⋯,Aq (by rw[Zb];omega)]
theorem zlV {f g:Nat->Int} {t:Int} {y:Nat->Int}:∀n,dv (rng n λc=>f c+t*g c) y=dv (rng n f) y+t*dv (rng n g) y:=by
 intro n
 induction n with
 |zero=>simp[rng,dv]
 |succ n ih=>
  rw[vF,vF,vF,Uk,Uk,Uk,ih,Zb,Zb,Zb]
  grind
theorem zlW {many:Nat} {t:Int} {a b:List Int} {y:Nat->Int} (ha:a.length=many) (hb:b.length=many):dv (zdT many t a b) y=dv a y+t*dv b y:=by
 unfold zdT
 rw[zlV,zij a,zij b,ha,hb]
theorem zjP {many i j:Nat} {t:Int} {R:List (List Int)} {a b:List Int} (fQ:i≠j) (ha:R[i]? =some a) (hb:R[j]? =some b) (la:a.length=many) (lb:b.length=many) (h:Ker many R):Ker many (R.set i (zdT many t a b)):=by
 intro y hy
 refine h y λr hr=> ?_
 have hi:=(y4.1 ha).1
 have yb:Cg (pN:Int) (dv b y) 0:=hy b (z4 (i:=j) (by rw[Af,if_neg fQ];exact hb))
 have ym:=hy (zdT many t a b) (z4 (i:=i) (by rw[Af,if_pos rfl,if_pos hi]))
 obtain⟨k,hk⟩:=AH hr
 by_cases gY:k=i
 ·subst gY
  rw[ha] at hk
  cases hk
  rw[zlW la lb] at ym
  have:=ym.sub ((Cg.refl (a:=t)).mul yb)
  rwa [Int.add_sub_cancel,DM,Fh] at this
 ·exact hy r (z4 (i:=k) (by rw[Af,if_neg (AQ gY)];exact hk))
theorem zjQ {many:Nat} {R Q:List (List Int)} (h:Ker many R):Ker many (R++Q):=λy hy=>h y λr hr=>hy r (Bw _ hr)
structure MxR (many n:Nat) (r:List Int):Prop where
 len:r.length=many
 bit:∀v∈r,zi n v
theorem zik {many n:Nat} {t:Int} {a b:List Int} (ha:MxR many n a) (hb:MxR many n b) (ht:zi 2 t):MxR many (n+3) (zdT many t a b):=by
 refine⟨Zb,λv hv=> ?_⟩
 obtain⟨c,hc,rfl⟩:=Uj hv
 exact zi.add (n:=n+2) ((ha.bit _ (WL (by rw[ha.len];exact hc))).mono ⋯) ((ht.mul (hb.bit _ (WL (by rw[hb.len];exact hc)))).mono ⋯) ⋯
theorem zjR (hs:Scr ns S) {many rn:Nat} {R0:List (List Int)} (hm:many<=5) (lS:wf S rn R0) (nM:R0.length=many) (hd:∀(i:Nat) r,R0[i]? =some r->Dia many i r) (n6:0<rn):
  W (wC fu [.ref 0,.ref rn] S) λv S'=>LeX rn S S'/\v= .ref rn/\∃R,wf S' rn R/\R.length<=many+2/\(many=0->R=[])/\(∀r∈R,MxR many 60 r)/\Ker many R:=by
 have k0:∀S',LeX rn S S'->Scr ns S':=λS' l=>l.2 _ _ ⋯ hs
 walk_at "wr";unfold wB
 nofun
 obtain⟨uH,f1,f2,f3⟩:=id lS
 refine Zf (zb f1) ?_
 rw[y7,f2,nM]
 nofun
 refine YC (λρ S'=>∃(R:List (List Int)) (a3 a4 a5 a6 a7:Option Xv),ρ=[some (.ref 0),some (.ref rn),some (.int many),a3,a4,a5,a6,a7]/\LeX rn S S'/\wf S' rn R/\R.length=many/\(∀r∈R,MxR many 50 r)/\Ker many R) (xK (UT ?_)) ?_
 ·nofun
  refine⟨⟨⋯,⋯⟩,yC 0 many,by rw[Ae],?_⟩
  refine yN (xs:=yC 0 many) (λi ρ S'=>∃(R:List (List Int)) (a3 a4 a5 a6 a7:Option Xv),ρ=[some (.ref 0),some (.ref rn),some (.int many),a3,a4,a5,a6,a7]/\LeX rn S S'/\wf S' rn R/\R.length=many/\(∀r∈R,MxR many (31+3*i) r)/\Ker many R) ?_ ?_ ?_ ?_
  ·rintro i ρ S' _ _;rw[Ae]
  ·rintro i y ρ S' hy ⟨R,a3,a4,a5,a6,a7,rfl,le,hR,Rl,Rm,Rk⟩
   obtain⟨hi,rfl⟩:=ZN hy
   rw[CF]
   refine .of rfl ?_
   dsimp only[AK]
   nofun
   refine (wc (k0 _ le) ⟨⋯,⋯⟩ ∅ ⋯).imp ?_
   rintro _ _ ⟨rfl,d1,rfl,qM,qL⟩
   obtain⟨j,rfl⟩:∃j:Nat,d1=j:=⟨d1.toNat,⋯⟩
   nofun
   refine (wc (k0 _ le) ⟨⋯,⋯⟩ ∅ ∅).imp ?_
   rintro _ _ ⟨rfl,d2,rfl,lW,lV⟩
   nofun
   refine yG ?_
   nofun
   have tb:zi 2 (d2-2):=by unfold zi;omega
   generalize d2-2=t at tb
   refine Wb (λcE=> ?_) (λhe=>yx ?_)
   ·have ei:R[i]? =some (R[i]'⋯):=y6 _
    have ej:R[j]? =some (R[j]'⋯):=y6 _
    generalize R[i]'⋯=ra at ei
    generalize R[j]'⋯=rb' at ej
    obtain⟨ms,mi,g1,g2,g3,g4,g5⟩:=hR.at ei
    obtain⟨ms',mj,oA,ua,oz,u9,jb⟩:=hR.at ej
    have gW:=Rm _ (z4 ei)
    have iQ:=Rm _ (z4 ej)
    refine zcd (yO (Xq ?_))
    nofun
    refine wM (zb g1) (Zt (z:= .ref mi) ⋯ (by rw[y8,Ae,g3];rfl)) ?_
    nofun
    refine wM (zb oA) (Zt (z:= .ref mj) ⋯ (by rw[y8,Ae,oz];rfl)) ?_
    refine⟨⟨_,zb g5⟩,⟨_,zb jb⟩,_,wj (zb g5) (zb jb),?_⟩
    have eP:(ZO (ra.map Xv.int) (rb'.map Xv.int)).length=many:=by rw[vC (by simp[gW.len,iQ.len]),y7,gW.len]
    refine yu (by rw[eP];exact Ag (yo ⋯)) (λk es S2=>S'=S2/\es=(rng k λc=>vec ra c+t*vec rb' c).map .int) ?_ ?_ ?_ ?_
    ·rintro k es S2 _ ⟨rfl,_⟩;exact wj (zb g5) (zb jb)
    ·rintro k y es S2 cU bO ⟨rfl,rfl⟩
     obtain⟨u,w,e1,e2,rfl⟩:=Zl cU
     rw[y8,z0] at e1 e2
     obtain⟨u,e1,rfl⟩:=e1
     obtain⟨w,e2,rfl⟩:=e2
     refine .of rfl ?_
     nofun
     refine⟨rfl,?_⟩
     nofun
     refine ye tb (iQ.bit w (z4 e2)) ⋯ ?_
     nofun
     refine⟨rfl,?_⟩
     rw[vF,ZB e1,ZB e2]
     simp
    ·exact⟨rfl,rfl⟩
    rintro es S2 bO ⟨rfl,rfl⟩
    rw[eP]
    nofun
    have cA:i<(ms.map Xv.ref).length:=by rw[y7,g2];omega
    refine⟨rn,_,(i:Int),i,xk (zB g1),rfl,zeR cA,?_⟩
    refine⟨R.set i (zdT many t ra rb'),_,_,_,_,_,rfl,le.app.set,(hR.le Le.refl.app).store (zB g1) (λz=>by have:=vU g1;omega) zw,by simp[Rl],λr hr=> ?_,zjP (λz=>cE (by rw[z])) ei ej gW.len iQ.len Rk⟩
    rcases DC hr with hr|rfl
    ·have:=Rm r hr
     exact⟨this.len,λv hv=>(this.bit v hv).mono ⋯⟩
    ·have:=zik gW iQ tb
     rwa [show 31+3*(i+1)=31+3*i+3 by omega]
   ·refine⟨R,_,_,_,_,_,rfl,le,hR,Rl,λr hr=> ?_,Rk⟩
    have:=Rm r hr
    exact⟨this.len,λv hv=>(this.bit v hv).mono ⋯⟩
  ·refine⟨R0,_,_,_,_,_,rfl,Le.refl.toX,lS,nM,λr hr=> ?_,zjO nM hd⟩
   obtain⟨i,hi⟩:=AH hr
   have:=hd i r hi
   exact⟨this.len,λv hv=>(this.bit v hv).mono ⋯⟩
  ·rintro ρ S' ⟨R,a3,a4,a5,a6,a7,rfl,le,hR,Rl,Rm,Rk⟩
   rw[xL] at Rm
   exact⟨R,_,_,_,_,_,rfl,le,hR,Rl,λr hr=>⟨(Rm r hr).len,λv hv=>((Rm r hr).bit v hv).mono ⋯⟩,Rk⟩
 rintro _ S1 ⟨R1,a3,a4,a5,a6,a7,rfl,e7,lR,Rl1,Rm1,Rk1⟩
 refine zR (xK (UT ?_))
 nofun
 refine (wc (k0 _ e7) ⟨⋯,⋯⟩ ∅ ∅).imp ?_
 rintro _ _ ⟨rfl,d3,rfl,y2,y0⟩
 obtain⟨e,rfl⟩:∃e:Nat,d3=e:=⟨d3.toNat,⋯⟩
 refine⟨(e:Int),rfl,⟨⋯,⋯⟩,yC 0 e,by rw[Ae],?_⟩
 refine yN (xs:=yC 0 e) (λi ρ S'=>∃(R:List (List Int)) (a3 a4 a5 a6 a7:Option Xv),ρ=[some (.ref 0),some (.ref rn),some (.int many),a3,a4,a5,a6,a7]/\LeX rn S S'/\wf S' rn R/\many<=R.length/\R.length<=many+i/\(many=0->R=[])/\(∀r∈R,MxR many (50+3*i) r)/\Ker many R) ?_ ?_ ?_ ?_
 ·rintro i ρ S' _ _;rw[Ae]
 ·rintro i y ρ S' hy ⟨R,a3,a4,a5,a6,a7,rfl,le,hR,Rl,Ru,Rz,Rm,Rk⟩
  obtain⟨hi,rfl⟩:=ZN hy
  rw[CF]
  refine .of rfl ?_
  dsimp only[AK]
  refine yG ?_
  nofun
  refine yD (λiD=> ?_) (λhz=>yx ?_)
  ·nofun
   refine (wc (k0 _ le) ⟨⋯,⋯⟩ ∅ ⋯).imp ?_
   rintro _ _ ⟨rfl,d1,rfl,qM,qL⟩
   obtain⟨j,rfl⟩:∃j:Nat,d1=j:=⟨d1.toNat,⋯⟩
   have ej:R[j]? =some (R[j]'⋯):=y6 _
   generalize R[j]'⋯=ra at ej
   obtain⟨ms,mi,g1,g2,g3,g4,g5⟩:=hR.at ej
   refine wM (zb g1) (Zt (z:= .ref mi) ⋯ (by rw[y8,Ae,g3];rfl)) ?_
   nofun
   refine (wc (k0 _ le) ⟨⋯,⋯⟩ ∅ ⋯).imp ?_
   rintro _ _ ⟨rfl,d2,rfl,lW,lV⟩
   obtain⟨k,rfl⟩:∃k:Nat,d2=k:=⟨d2.toNat,⋯⟩
   have ek:R[k]? =some (R[k]'⋯):=y6 _
   generalize R[k]'⋯=rb' at ek
   obtain⟨ms',mj,oA,ua,oz,u9,jb⟩:=hR.at ek
   refine wM (zb oA) (Zt (z:= .ref mj) ⋯ (by rw[y8,Ae,oz];rfl)) ?_
   have gW:=Rm _ (z4 ej)
   have iQ:=Rm _ (z4 ek)
   refine vX (Yp ?_)
   nofun
   refine⟨⟨_,zb g1⟩,?_⟩
   refine wL (yO (Xq ?_))
   nofun
   refine⟨⟨_,zb g5⟩,⟨_,zb jb⟩,_,wj (zb g5) (zb jb),?_⟩
   have eP:(ZO (ra.map Xv.int) (rb'.map Xv.int)).length=many:=by rw[vC (by simp[gW.len,iQ.len]),y7,gW.len]
   refine yu (by rw[eP];exact Ag (yo ⋯)) (λk es S2=>S'=S2/\es=(rng k λc=>vec ra c+1*vec rb' c).map .int) ?_ ?_ ?_ ?_
   ·rintro k es S2 _ ⟨rfl,_⟩;exact wj (zb g5) (zb jb)
   ·rintro k y es S2 cU bO ⟨rfl,rfl⟩
    obtain⟨u,w,e1,e2,rfl⟩:=Zl cU
    rw[y8,z0] at e1 e2
    obtain⟨u,e1,rfl⟩:=e1
    obtain⟨w,e2,rfl⟩:=e2
    refine .of rfl ?_
    nofun
    refine⟨rfl,?_⟩
    nofun
    refine⟨rfl,?_⟩
    rw[vF,ZB e1,ZB e2,FD]
    simp
   ·exact⟨rfl,rfl⟩
   rintro es S2 bO ⟨rfl,rfl⟩
   rw[eP]
   nofun
   refine yY (xk (zB g1)) (by rw[y7];exact yo ⋯) ?_
   refine⟨R++[zdT many 1 ra rb'],_,_,_,_,_,rfl,le.app.set,(hR.le Le.refl.app).push (zB g1) (λz=>by have:=vU g1;omega) zw,by simp;omega,by simp;omega,λz=>by omega,λr hr=> ?_,zjQ Rk⟩
   rcases Aa.1 hr with hr|hr
   ·have:=Rm r hr
    exact⟨this.len,λv hv=>(this.bit v hv).mono ⋯⟩
   ·rw[A4.1 hr]
    have:=zik gW iQ (t:=1) (by unfold zi;decide)
    rwa [show 50+3*(i+1)=50+3*i+3 by omega]
  ·refine⟨R,_,_,_,_,_,rfl,le,hR,Rl,⋯,Rz,λr hr=> ?_,Rk⟩
   have:=Rm r hr
   exact⟨this.len,λv hv=>(this.bit v hv).mono ⋯⟩
 ·exact⟨R1,_,_,_,_,_,rfl,e7,lR,⋯,⋯,λz=>DY.1 ⋯,Rm1,Rk1⟩
 ·rintro ρ S' ⟨R,a3,a4,a5,a6,a7,rfl,le,hR,Rl,Ru,Rz,Rm,Rk⟩
  rw[xL] at Ru Rm
  nofun
  exact⟨le,rfl,R,hR,⋯,Rz,λr hr=>⟨(Rm r hr).len,λv hv=>((Rm r hr).bit v hv).mono ⋯⟩,Rk⟩
end
section
variable {fu:Nat} {S S':Sto} {x y:Xv} {ns:List Int}
theorem zil {α:Type} (l:List α) (n:Nat):L2.zb1 l none (some (n:Int))=l.take n:=by
 unfold L2.zb1
 rw[HT.zd3,HT.zbK,G9,Nat.sub_zero,<-List.take_eq_take_min]
theorem zcM {α:Type} (l:List α) (n:Nat):L2.zb1 l (some (n:Int)) none=l.drop n:=by
 unfold L2.zb1
 rw[HT.zd3,HT.zbK]
 by_cases h:n<=l.length
 ·rw[Cy h,Er (by rw[B3];exact z5 _)]
 ·rw[Nat.min_eq_right ⋯,Es (z5 _),Es ⋯,List.take_nil]
theorem zby {P:Xv->Sto->Prop} {a b:List Xv} (h1:zv S x=some a) (h2:zv S y=some b) (h:a.length+b.length<=20000) (k:P (.ref S.length) (S++[.lst (a++b)])):WO (UO x y S) P:= .of (by unfold UO;rw[h1,h2];exact if_pos (Ag (yo h))) k
noncomputable def rot {α:Type} (k:Nat) (l:List α):List α:=l.drop k++l.take k
theorem Xz {α:Type} {k:Nat} {l:List α}:(rot k l).length=l.length:=by
 unfold rot
 rw[A7,B3,Am]
 omega
theorem zbz {α β:Type} {k:Nat} {l:List α} {f:α->β}:(rot k l).map f=rot k (l.map f):=by
 unfold rot
 rw[Bc,List.map_drop,List.map_take]
theorem zbA {α:Type} {k:Nat} {l:List α} {v:α}:v∈rot k l↔v∈l:=by
 unfold rot
 rw[Aa]
 constructor
 ·rintro (h|h)
  ·exact List.mem_of_mem_drop h
  ·exact List.mem_of_mem_take h
 ·intro h
  rw[<-D6 k l] at h
  rcases Aa.1 h with h|h
  ·exact .inr h
  ·exact .inl h
theorem zbB {α:Type} {k i n:Nat} {l:List α} (hl:l.length=n) (hk:k<=n):(rot k l)[i]? =if i<n then l[if i<n-k then i+k else i-(n-k)]? else none:=by
 unfold rot
 by_cases h1:i<n-k
 ·rw[y9 (by rw[B3];omega),List.getElem?_drop,if_pos ⋯,if_pos h1,DH]
 ·rw[z6 (by rw[B3];omega),B3,hl,if_neg h1]
  by_cases h2:i<n
  ·rw[if_pos h2,By ⋯]
  ·rw[if_neg h2,Aq (by rw[Am];omega)]
theorem zjS {many s:Nat} {R:List (List Int)} (hs:s<=many) (hl:∀r∈R,r.length=many) (h:Ker many R):Ker many (R.map (rot s)):=by
 intro y hy
 have:=h (λd=>if d<s then y (d+(many-s)) else y (d-s)) λr hr=>by
  have h1:=hy (rot s r) (AA.2 ⟨r,hr,rfl⟩)
  have h2:=hl r hr
  have e:dv r (λd=>if d<s then y (d+(many-s)) else y (d-s))=dv (rot s r) y:=by
   conv=>lhs;rw[<-D6 s r]
   unfold rot
   rw[Vs,Vs,Int.add_comm,Am,B3,h2,Cy hs]
   congr 1
   ·exact Tk _ _ _ λi hi=>by
     rw[if_neg ⋯,CI]
   ·exact Tk _ _ _ λi hi=>by
     rw[Am] at hi
     rw[if_pos ⋯]
  rw[e]
  exact h1
 intro c hc
 by_cases h1:c<many-s
 ·have h2:=this (c+s) ⋯
  rwa [if_neg ⋯,CI] at h2
 ·have h2:=this (c-(many-s)) ⋯
  rwa [if_pos ⋯,show c-(many-s)+(many-s)=c by omega] at h2
noncomputable def Xf (xs:List Q2) (c:Nat):Int:=((xs[c]?).map λq=>q.1*(2520 / q.2)).getD 0
theorem zm6 {b:Int} (h:0<b/\b<=9):b*(2520 / b)=2520/\(2520 / b).natAbs<2^12:=by
 obtain rfl|rfl|rfl|rfl|rfl|rfl|rfl|rfl|rfl:b=1\/b=2\/b=3\/b=4\/b=5\/b=6\/b=7\/b=8\/b=9:=by omega
 all_goals decide
theorem zkt {xs:List Q2} {c:Nat} {q:Q2} (hf:FrX q) (h:xs[c]? =some q):q.1*2520=Xf xs c*q.2:=by
 unfold Xf
 rw[h]
 show q.1*2520=q.1*(2520 / q.2)*q.2
 have:=(zm6 hf.pos).1
 rw[Cv,B4 _ q.2,this]
theorem zm7 {xs:List Q2} (hf:∀q∈xs,FrX q) (c:Nat): -((pN:Int)^2)<=Xf xs c/\Xf xs c<=(pN:Int)^2:=by
 have h1:(Xf xs c).natAbs<2^212:=by
  unfold Xf
  cases e:xs[c]? with
  |none=>show (0:Int).natAbs<_;decide
  |some q=>
   have f:=hf q (z4 e)
   exact (zi.mul f.ab (zm6 f.pos).2:zi (200+12) (q.1*(2520 / q.2)))
 have h2:(2^212:Int)<=(pN:Int)^2:=by decide
 have h3:((2^212:Nat):Int)=(2^212:Int):=by decide
 generalize (pN:Int)^2=P at*
 generalize (2^212:Nat)=N at*
 omega
noncomputable def qD (q:Q2):D:= .tup [.int q.1,.int q.2]
theorem zlX {n:Nat} (q:Q2):xu S (n+2) (qv q)=some (qD q):=by
 show (wd (xu S (n+1)) [.int q.1,.int q.2]).map D.tup=_
 rfl
theorem zeX {n:Nat}:∀T:List Q2,wd (xu S (n+2)) (T.map qv)=some (T.map qD)
 |[]=>rfl
 |q::T=>by
  rw[A6,A6]
  unfold wd
  rw[zlX,zeX T]
  rfl
noncomputable def zim (row:List Q2):D:= .lst (row.map qD)
theorem zcN {n c:Nat} {T:List Q2} (h:S[c]? =some (.lst (T.map qv))):xu S (n+3) (.ref c)=some (zim T):=by
 show (zv S (.ref c)).bind (λl=>(wd (xu S (n+2)) l).map D.lst)=_
 rw[zb h,A1,zeX T]
 rfl
theorem Tl {n:Nat}:∀(rws:List (List Q2)) (ms:List Nat),ms.length=rws.length->(∀(i m:Nat) row,ms[i]? =some m->rws[i]? =some row->S[m]? =some (.lst (row.map qv)))->wd (xu S (n+3)) (ms.map .ref)=some (rws.map zim)
 |[],[],_,_=>rfl
 |[],_::_,h,_=>by simp at h
 |_::_,[],h,_=>by simp at h
 |row::rws,m::ms,h,g=>by
  rw[A6,A6]
  unfold wd
  rw[zcN (g 0 m row rfl rfl),Tl rws ms (by simpa using h) λi m' r e1 e2=>g (i+1) m' r (by simpa using e1) (by simpa using e2)]
  rfl
theorem zaE {n c:Nat} {rws:List (List Q2)} (h:Xi S c rws):xu S (n+4) (.ref c)=some (.lst (rws.map zim)):=by
 obtain⟨ms,h1,h2,h3⟩:=h
 show (zv S (.ref c)).bind (λl=>(wd (xu S (n+3)) l).map D.lst)=_
 rw[zb h1,A1,Tl rws ms h2 h3]
 rfl
theorem zlY {n:Nat} (q:Q2):eqG (n+2) (qD q) (qD q)=some true:=by
 unfold qD
 show (XD (eqG (n+1)) [.int q.1,.int q.2] [.int q.1,.int q.2]).map (· &&(([D.int q.1,.int q.2]:List D).length==([D.int q.1,.int q.2]:List D).length))=_
 have e1:∀a:Int,eqG (n+1) (.int a) (.int a)=some true:=λa=>by show some (a==a)=_;simp
 simp only[XD,e1,A1,BO]
 simp
theorem zcO {f:D->D->Option Bool}:∀l:List D,(∀d∈l,f d d=some true)->XD f l l=some true
 |[],_=>rfl
 |d::l,h=>by
  unfold XD
  rw[h d (.head _),zcO l λd hd=>h d (.tail _ hd)]
  rfl
theorem zcP {n:Nat} {l:List D} (h:∀d∈l,eqG n d d=some true):eqG (n+1) (.lst l) (.lst l)=some true:=by
 unfold eqG
 dsimp only
 rw[if_pos rfl,zcO l h]
theorem zfO {n:Nat} {rws:List (List Q2)}:eqG (n+4) (.lst (rws.map zim)) (.lst (rws.map zim))=some true:=by
 refine zcP λd hd=> ?_
 obtain⟨row,_,rfl⟩:=AA.1 hd
 refine zcP λd hd=> ?_
 obtain⟨q,_,rfl⟩:=AA.1 hd
 exact zlY q
theorem zku:∀xs:List Q2,(∀q∈xs,FrX q)->∃w e,Sh 200 (xs.map qD) w e/\w=403*xs.length/\e<=1
 |[],_=>⟨0,0,.nil,rfl,∅⟩
 |q::xs,h=>by
  obtain⟨w,e,s,hw,he⟩:=zku xs λq hq=>h q (.tail _ hq)
  have f:=h q (.head _)
  have b2:q.2.natAbs<2^200:=Az (show q.2.natAbs<=9 by have:=f.pos;omega) ∅
  refine⟨_,_,.tup (.int f.ab (.int b2 .nil)) s,?_,?_⟩
  ·rw[hw,Ah];omega
  ·omega
noncomputable def zm8 (xs:List Q2):D:= .tup [.str "one",.lst (xs.map qD)]
theorem zin {xs:List Q2} (hf:∀q∈xs,FrX q) (hl:xs.length<=5):zex (zm8 xs):=by
 obtain⟨w,e,s,hw,he⟩:=zku xs hf
 refine⟨⟨_,.inl rfl⟩,200,_,_,.tup (.str ∅ ∅ (.lst s .nil)) .nil,∅,∅,⋯,⋯⟩
theorem WN {c:Nat} {xs:List Q2} (h:S[c]? =some (.lst (xs.map qv))):xu S 100 (.tup [.str "one",.ref c])=some (zm8 xs):=by
 show (wd (xu S 99) [.str "one",.ref c]).map D.tup=_
 unfold wd
 rw[show xu S 99 (.str "one")=some (.str "one") from rfl,A1]
 unfold wd
 rw[zcN h]
 rfl
def VI (S:Sto) (n:Nat) (rws:List (List Q2)):Prop:=∃ms:List Nat,S[n]? =some (.lst (ms.map .ref))/\ms.length=rws.length/\∀(i m:Nat) row,ms[i]? =some m->rws[i]? =some row->m≠n/\S[m]? =some (.lst (row.map qv))
theorem VI.le {n:Nat} {rws:List (List Q2)} (h:VI S n rws) (l:Le S S'):VI S' n rws:=by
 obtain⟨ms,h1,h2,h3⟩:=h
 exact⟨ms,l.2 _ _ h1,h2,λi m r e1 e2=>⟨(h3 i m r e1 e2).1,l.2 _ _ (h3 i m r e1 e2).2⟩⟩
theorem VI.push {n k:Nat} {R:List (List Q2)} {r:List Q2} {ms:List Nat} (h:VI S n R) (hm:S[n]? =some (.lst (ms.map .ref))) (hk:k≠n) (hr:S[k]? =some (.lst (r.map qv))):VI (S.set n (.lst (ms.map .ref++[.ref k]))) n (R++[r]):=by
 obtain⟨ms',h1,h2,h3⟩:=h
 have:ms'=ms:=by
  rw[hm] at h1
  simp only[Al,Ce.lst.injEq] at h1
  exact ((CK (λa b h=>by cases h;rfl)).1 h1).symm
 subst this
 refine⟨ms'++[k],by rw[yp hm];simp,by simp[h2],λi m r' e1 e2=> ?_⟩
 by_cases hi:i<ms'.length
 ·rw[y9 hi] at e1
  rw[y9 ⋯] at e2
  obtain⟨a,b⟩:=h3 i m r' e1 e2
  exact⟨a,zX b (AQ a)⟩
 ·have eF:i=ms'.length:=by
   have:=(y4.1 e1).1
   rw[A7,Ay] at this
   omega
  subst eF
  rw[z6 (z5 _),AG] at e1
  rw[z6 ⋯,h2,AG] at e2
  cases e1
  cases e2
  exact⟨hk,zX hr (AQ hk)⟩
end
section
variable {fu:Nat} {S S':Sto} {x y:Xv} {ns:List Int}
theorem zeY {P:Xv->Sto->Prop} {neg:Bool} {a:Str} (k:P (.bl (neg !=true)) S):WO (zba neg (.str a) (.str a) S) P:= .of (by show some (Xv.bl (neg !=decide (a=a)),S)=_;rw[decide_eq_true rfl]) k
theorem zm9 (bN:Big fu) {many xn hn rn:Nat} {xs:List Q2} {rws:List (List Q2)} {as:List (List Int)} {a3 a5 a6 a7 a8 a9 uz:Option Xv} {x0:Xv} (A:Ask many (Xf xs) 2520 xs rws as) (fx:∀q∈xs,FrX q) (hx:S[xn]? =some (.lst (xs.map qv))) (hr:Xi S rn rws) (hh:Xi S hn rws) (cz:S[1]? =some (.tab YO.t)) {N:Rho->Sto->Prop}:
  WS ((zl (zr (zH (xW fu) [(za 10),(za 1)]) (gN 11)) (zl (sIf (bOr (bE (eOp (zba true) (eFn vI [(za 11)]) (eFn vI [(ZK [(eC (.str "one")),(za 2)])]))) (bE (eOp (zfs true) (za 10) (za 4)))) (yB (eC (.bl false))) yt) (zl (vR (eMt yw (eOp xY (za 11) (eC (.int 1))) [(ZK [(eC (.int 5)),(eC (.int 1))])])) (yB (eOp (zba false) (eFn vI [(zH (xW fu) [(za 10),(za 1)])]) (eFn vI [(ZK [(eC (.str "one")),(za 2)])])))))) [some x0,some (.int many),some (.ref xn),a3,some (.ref rn),a5,a6,a7,a8,a9,some (.ref hn),uz] S) N (λv _=>v= .bl true):=by
 have sh:=zin fx (by have:=A.xl;have:=A.hm;omega)
 nofun
 refine (zcL bN A hh cz).imp ?_
 rintro _ S1 ⟨l1,oJ,rfl,sy,dP⟩
 nofun
 refine yG (zel ?_)
 nofun
 refine Wx (WN dP) sh ?_
 nofun
 refine Wx (WN (l1.2 _ _ hx)) sh ?_
 refine zeY ?_
 refine⟨_,rfl,nofun,λ_=> ?_⟩
 nofun
 refine zlx (zaE (hh.le l1)) (zaE (hr.le l1)) rfl zfO ?_
 refine⟨_,rfl,nofun,λ_=>yx ?_⟩
 refine zR (vX (Yp ?_))
 nofun
 refine⟨⟨_,zb dP⟩,?_⟩
 nofun
 refine yY (xk dP) (by rw[y7];exact yo (by have:=A.xl;have:=A.hm;omega)) ?_
 have l2:Le S (S1.set oJ (.lst (xs.map qv++[.tup [.int 5,.int 1]]))):=l1.set sy
 generalize S1.set oJ (.lst (xs.map qv++[.tup [.int 5,.int 1]]))=S2 at l2
 nofun
 refine (zcL bN A (hh.le l2) (l2.2 _ _ cz)).imp ?_
 rintro _ S3 ⟨l3,uA,rfl,ki,mL⟩
 nofun
 refine Wx (WN mL) sh ?_
 nofun
 refine Wx (WN (l3.2 _ _ (l2.2 _ _ hx))) sh ?_
 exact zeY rfl
theorem zna (bN:Big fu) (ns:List Int) (hl:ns.length<=63):W (zdL fu [.ref 0] (.frz (ns.map Xv.int)::YQ.map .tab)) λv _=>v= .bl true:=by
 have hs:Scr ns (Ce.frz (ns.map Xv.int)::YQ.map .tab):=rfl
 have cz:(Ce.frz (ns.map Xv.int)::YQ.map Ce.tab)[1]? =some (.tab YO.t):=rfl
 generalize (Ce.frz (ns.map Xv.int)::YQ.map Ce.tab)=S at hs cz
 walk_at "wr";unfold zdK
 refine zR (yW (VX ?_))
 nofun
 refine (wc hs ⟨∅,∅⟩ ∅ ∅).imp ?_
 rintro _ _ ⟨rfl,m0,rfl,m1,m2⟩
 obtain⟨many,rfl⟩:∃many:Nat,m0=many:=⟨m0.toNat,⋯⟩
 have hm:many<=5:=by omega
 dsimp only[AK]
 refine zR (yW (yO (UT ?_)))
 nofun
 refine⟨⟨⋯,⋯⟩,yC 0 many,by rw[Ae],?_⟩
 refine yu (xs:=yC 0 many) (by rw[xL];exact Ag (yo ⋯)) (λj es S1=>S=S1/\∃xs:List Q2,es=xs.map qv/\xs.length=j/\∀q∈xs,FrX q) ?_ ?_ ?_ ?_
 ·rintro j es S1 _ _;rw[Ae]
 ·rintro j y es S1 hy bO ⟨rfl,xs,rfl,xl,fx⟩
  obtain⟨hj,rfl⟩:=ZN hy
  rw[CF]
  refine .of rfl ?_
  nofun
  refine⟨rfl,?_⟩
  nofun
  refine (zjM bN hs ⟨⋯,⋯⟩).imp ?_
  rintro _ _ ⟨rfl,q,rfl,f⟩
  refine⟨rfl,xs++[q],by simp,by simp[xl],λq' hq=> ?_⟩
  rcases Aa.1 hq with hq|hq
  ·exact fx q' hq
  ·rw[A4.1 hq];exact f
 ·exact⟨rfl,[],rfl,rfl,λq hq=>by cases hq⟩
 rintro es S1 bO ⟨rfl,xs,rfl,xl,fx⟩
 rw[xL] at xl
 dsimp only[AK]
 have dP:(S++[Ce.lst (xs.map qv)])[S.length]? =some (.lst (xs.map qv)):=zw
 have l1:Le S (S++[Ce.lst (xs.map qv)]):=Le.refl.app
 generalize S.length=xn at dP ⊢
 generalize S++[Ce.lst (xs.map qv)]=S1 at dP l1 ⊢
 have jq:=hs.le l1
 refine zR (yW (VX ?_))
 nofun
 refine (wc jq ⟨∅,∅⟩ ∅ ∅).imp ?_
 rintro _ _ ⟨rfl,st,rfl,uD,uC⟩
 dsimp only[AK]
 refine zR (yW ?_)
 nofun
 have l2:Le S1 (S1++[Ce.lst []]):=Le.refl.app
 have lA:(S1++[Ce.lst []])[S1.length]? =some (.lst []):=zw
 have dO:=l2.2 _ _ dP
 have iM:xn≠S1.length:=λz=>by have:=vU dP;omega
 have u5:0<S1.length:=by have:=vU jq;omega
 generalize S1.length=qn at lA iM u5 ⊢
 generalize S1++[Ce.lst []]=S2 at lA l2 dO ⊢
 have cx:=jq.le l2
 refine YC (λρ S'=>∃(rws:List (List Q2)) (as:List (List Int)) (a5 a6 a7 a8:Option Xv),ρ=[some (.ref 0),some (.int many),some (.ref xn),some (.int st),some (.ref qn),a5,a6,a7,a8,none,none,none]/\Scr ns S'/\S'[xn]? =some (.lst (xs.map qv))/\S'[1]? =some (.tab YO.t)/\VI S' qn rws/\Ask many (Xf xs) 2520 xs rws as) (xK (zdj ?_)) ?_
 ·nofun
  refine (zjN cx hm).imp ?_
  rintro _ S3 ⟨l3,rn,R0,rfl,n6,lS,R0l,R0d⟩
  nofun
  have sk:=vU lA
  refine (zjR (cx.le l3) hm lS R0l R0d ⋯).imp ?_
  rintro _ S4 ⟨l4,rfl,R,hR,Rl,Rz,Rm,Rk⟩
  obtain⟨ms,f1,f2,f3⟩:=id hR
  have ll:Le S2 S4:=(l3.toX.trans l4).le n6
  have fM:=cx.le ll
  have pL:=ll.2 _ _ dO
  have ni:=ll.2 _ _ lA
  have fK:=ll.2 _ _ (l2.2 _ _ (l1.2 _ _ cz))
  refine⟨_,zb f1,xJ (ms.map .ref),congrArg (Ct xJ) (zb f1),?_⟩
  have bO:(xJ (ms.map Xv.ref)).length=R.length:=by simp[xJ,f2]
  refine yN (xs:=xJ (ms.map Xv.ref)) (λi ρ S'=>∃(rws:List (List Q2)) (a5 a6 a7 a8:Option Xv),ρ=[some (.ref 0),some (.int many),some (.ref xn),some (.int st),some (.ref qn),a5,a6,a7,a8,none,none,none]/\LeX qn S4 S'/\VI S' qn rws/\rws.length=i/\∀(j:Nat) row r,rws[j]? =some row->R[j]? =some r->RwS many (Xf xs) 2520 row (rot (st % (many:Int)).toNat r)) ?_ ?_ ?_ ?_
  ·rintro i ρ S' _ ⟨rws,a5,a6,a7,a8,rfl,le,_⟩
   exact congrArg (Ct xJ) (zb (le.2 _ _ (λz=>by omega) f1))
  ·rintro i y ρ S' hy ⟨rws,a5,a6,a7,a8,rfl,le,hN,Nl,No⟩
   unfold xJ at hy
   rw[y8,z0] at hy
   obtain⟨⟨v,k⟩,hy,rfl⟩:=hy
   rw[Dg,z0] at hy
   obtain⟨v',hy,e⟩:=hy
   cases e
   rw[y8,z0] at hy
   obtain⟨mi,hy,rfl⟩:=hy
   have hi:i<R.length:=by rw[<-f2];exact (y4.1 hy).1
   have er:R[i]? =some R[i]:=y6 hi
   generalize R[i]=r at er
   obtain⟨g1,g2⟩:=f3 i mi r hy er
   have gU:=Rm r (z4 er)
   have dw:0<many:=Fe λz=>by rw[Rz z] at hi;exact absurd hi (by simp)
   have sF:mi≠qn:=λz=>by
    rw[z,ni] at g2
    have:r=[]:=by cases r with
     |nil=>rfl
     |cons=>cases g2
    have:=gU.len
    simp[‹r=[]›] at this
    omega
   have se:Scr ns S':=le.2 _ _ ⋯ fM
   have rL:=le.2 _ _ iM pL
   have ng:=le.2 _ _ sF g2
   rw[Cb]
   refine .of rfl ?_
   dsimp only[AK]
   refine zR (yW (Ze ?_))
   nofun
   refine (wc se ⟨⋯,⋯⟩ ∅ ∅).imp ?_
   rintro _ _ ⟨rfl,p0,rfl,p1,p2⟩
   nofun
   obtain⟨part,ka⟩:∃part,part=1+p0:=⟨_,rfl⟩
   rw[<-ka]
   have hp:1<=part/\part<=4:=by omega
   refine yO (vS ?_)
   nofun
   refine⟨_,zb ng,_,zb ng,?_⟩
   refine yu (xs:=r.map .int) (by rw[y7,gU.len];exact Ag (yo ⋯)) (λj es S5=>S'=S5/\es=((r.take j).map (yR · part)).map qv) ?_ ?_ ?_ ?_
   ·rintro j es S5 _ ⟨rfl,_⟩;exact zb ng
   ·rintro j y es S5 cU o6 ⟨rfl,rfl⟩
    rw[y8,z0] at cU
    obtain⟨v,cU,rfl⟩:=cU
    refine .of rfl ?_
    nofun
    refine⟨rfl,?_⟩
    nofun
    refine (WM bN ⋯ (zi.small ⋯ ∅)).imp ?_
    rintro _ _ ⟨rfl,rfl⟩
    refine⟨rfl,?_⟩
    rw[AJ,cU]
    simp
   ·exact⟨rfl,rfl⟩
   rintro es S5 o6 ⟨rfl,rfl⟩
   rw[y7,Ar]
   have hw:(S'++[Ce.lst ((r.map (yR · part)).map qv)])[S'.length]? =some (.lst ((r.map (yR · part)).map qv)):=zw
   have l6:Le S' (S'++[Ce.lst ((r.map (yR · part)).map qv)]):=Le.refl.app
   generalize S'.length=wn at hw ⊢
   generalize S'++[Ce.lst ((r.map (yR · part)).map qv)]=S6 at hw l6 ⊢
   have uR:0<=st % (many:Int):=AI _ ⋯
   have si:st % (many:Int)<many:=Ao _ ⋯
   obtain⟨s,n5⟩:∃s:Nat,st % (many:Int)=s:=⟨(st % (many:Int)).toNat,⋯⟩
   nofun
   refine yX ⋯ ?_
   rw[n5]
   nofun
   refine zbd (zb hw) ?_
   rw[zcM]
   nofun
   refine yX ⋯ ?_
   rw[n5]
   nofun
   refine zbd (zb (zB hw)) ?_
   rw[zil]
   have hlen:((r.map (yR · part)).map qv).length=many:=by rw[y7,y7,gU.len]
   refine zby (zb (zB zw)) (zb zw) (by rw[B3,Am,hlen];omega) ?_
   have oC:((r.map (yR · part)).map qv).drop s++((r.map (yR · part)).map qv).take s=(((rot s r).map (yR · part)).map qv):=by
    rw[zbz,zbz];rfl
   rw[oC]
   generalize tP:(S6++[Ce.lst (((r.map (yR · part)).map qv).drop s)]++[Ce.lst (((r.map (yR · part)).map qv).take s)])=S7
   have l7:Le S' (S7++[Ce.lst (((rot s r).map (yR · part)).map qv)]):=by rw[<-tP];exact l6.app.app.app
   have lN:(S7++[Ce.lst (((rot s r).map (yR · part)).map qv)])[S7.length]? =some (.lst (((rot s r).map (yR · part)).map qv)):=zw
   generalize S7.length=cn at lN ⊢
   generalize S7++[Ce.lst (((rot s r).map (yR · part)).map qv)]=S8 at l7 lN ⊢
   obtain⟨uG,n1,n2,n3⟩:=id (hN.le l7)
   refine vX (Yp ?_)
   nofun
   refine⟨⟨_,zb n1⟩,?_⟩
   refine wL (Ze ?_)
   nofun
   have rl:(rot s r).length=many:=by rw[Xz,gU.len]
   refine (zih (X:=Xf xs) (D:=2520) bN lN (l7.2 _ _ rL) hp ⟨⋯,⋯⟩ (λv hv=>gU.bit v (zbA.1 hv)) fx (λc q e=>zkt (fx q (z4 e)) e)).imp ?_
   rintro _ _ ⟨rfl,l,rfl,lp,lm,lb,r9⟩
   nofun
   refine zby (zb (zB lN)) (zb zw) (by simp[rl];omega) ?_
   nofun
   have ug:((rot s r).map (yR · part)).map qv++[qv l]=((rot s r).map (yR · part)++[l]).map qv:=by simp
   rw[ug]
   refine yY (xk (zB (zB n1))) (by rw[y7,n2,Nl];exact yo ⋯) ?_
   refine⟨rws++[(rot s r).map (yR · part)++[l]],_,_,_,_,rfl,(le.trans l7.toX).app.app.set,(hN.le (l7.app.app)).push (zB (zB n1)) (λz=> ?_) zw,by simp[Nl],λj row r' e1 e2=> ?_⟩
   ·have:=vU n1
    rw[<-z] at this
    simp at this
    omega
   ·by_cases hj:j<rws.length
    ·rw[y9 hj] at e1
     have:=No j row r' e1 e2
     rwa [n5] at this
    ·have gv:j=i:=by
      have:=(y4.1 e1).1
      rw[A7,Ay] at this
      omega
     subst gv
     rw[z6 ⋯,Nl,AG] at e1
     cases e1
     rw[er] at e2
     cases e2
     rw[Ae]
     exact⟨⟨l,part,rfl,hp.1,hp.2,lp,lm,lb,r9⟩,rl,λv hv=>gU.bit v (zbA.1 hv)⟩
  ·exact⟨[],_,_,_,_,rfl,Le.refl.toX,⟨[],ni,rfl,λi m r e=>by simp at e⟩,rfl,λj row r e=>by simp at e⟩
  ·rintro ρ S' ⟨rws,a5,a6,a7,a8,rfl,le,hN,Nl,No⟩
   rw[bO] at Nl
   refine⟨rws,R.map (rot (st % (many:Int)).toNat),_,_,_,_,rfl,le.2 _ _ ⋯ fM,le.2 _ _ iM pL,le.2 _ _ (λz=> ?_) fK,hN,hm,⟨by simp[Nl],⋯⟩,λi row a e1 e2=> ?_,?_,⟨∅,∅⟩,λc=>zm7 fx c,λc hc=> ?_,xl,λc q e=>⟨(fx q (z4 e)).pos.1,(fx q (z4 e)).co,zkt (fx q (z4 e)) e⟩⟩
   ·rw[z,ni] at fK
    cases fK
   ·rw[y8,z0] at e2
    obtain⟨r,e2,rfl⟩:=e2
    exact No i row r e1 e2
   ·by_cases hz:many=0
    ·intro y _ c hc;omega
    ·exact zjS (by have:=Ao st (show (0:Int)<many by omega);have:=AI st (show (many:Int)≠0 by omega);omega) (λr hr=>(Rm r hr).len) Rk
   ·unfold Xf
    rw[Aq ⋯]
    rfl
 rintro _ S3 ⟨rws,as,a5,a6,a7,a8,rfl,pT,mL,jZ,hN,A⟩
 obtain⟨ms,n1,n2,n3⟩:=id hN
 have rl:=A.hl
 refine zR (yW (VX ?_))
 nofun
 refine Zf (zb n1) ?_
 rw[y7,n2]
 nofun
 refine (wc pT ⟨∅,∅⟩ ∅ ⋯).imp ?_
 rintro _ _ ⟨rfl,c0,rfl,c1,c2⟩
 obtain⟨cut,rfl⟩:∃cut:Nat,c0=cut:=⟨c0.toNat,⋯⟩
 dsimp only[AK]
 refine zR (yW (Ze ?_))
 nofun
 refine zbd (zb n1) ?_
 rw[zcM]
 nofun
 refine zbd (zb (zB n1)) ?_
 rw[zil]
 refine zby (zb (zB zw)) (zb zw) (by rw[B3,Am,y7];omega) ?_
 have oC:(ms.map Xv.ref).drop cut++(ms.map Xv.ref).take cut=(rot cut ms).map .ref:=by rw[zbz];rfl
 rw[oC]
 generalize tR:(S3++[Ce.lst ((ms.map Xv.ref).drop cut)]++[Ce.lst ((ms.map Xv.ref).take cut)])=S4
 have l5:Le S3 (S4++[Ce.lst ((rot cut ms).map .ref)]):=by rw[<-tR];exact Le.refl.app.app.app
 have nh:(S4++[Ce.lst ((rot cut ms).map .ref)])[S4.length]? =some (.lst ((rot cut ms).map .ref)):=zw
 generalize S4.length=rn at nh ⊢
 generalize S4++[Ce.lst ((rot cut ms).map .ref)]=S5 at l5 nh ⊢
 have gy:cut<=rws.length:=by omega
 have hQ:Xi S5 rn (rot cut rws):=by
  refine⟨rot cut ms,nh,by rw[Xz,Xz,n2],λi m row e1 e2=> ?_⟩
  rw[zbB n2 gy] at e1
  rw[zbB rfl gy] at e2
  split at e1
  ·rename_i hi
   rw[if_pos hi] at e2
   exact l5.2 _ _ (n3 _ m row e1 e2).2
  ·cases e1
 have A5:Ask many (Xf xs) 2520 xs (rot cut rws) (rot cut as):=by
  refine⟨A.hm,⟨by rw[Xz,Xz];exact A.hl.1,by rw[Xz];exact A.hl.2⟩,λi row a e1 e2=> ?_,λy hy=>A.ker y λa ha=>hy a (zbA.2 ha),A.pos,A.bd,A.out,A.xl,A.xs⟩
  rw[zbB rfl gy] at e1
  rw[zbB rl.1.symm gy] at e2
  split at e1
  ·rename_i hi
   rw[if_pos hi] at e2
   exact A.rw _ row a e1 e2
  ·cases e1
 have rM:=l5.2 _ _ mL
 have jY:=l5.2 _ _ jZ
 generalize uS:rot cut rws=ji at hQ A5
 have uF:=A5.hl
 dsimp only[AK]
 obtain⟨ks,k1,k2,k3⟩:=id hQ
 refine zR (yW (yO (vS ?_)))
 nofun
 refine⟨_,zb k1,_,zb k1,?_⟩
 refine yu (xs:=ks.map .ref) (by rw[y7];exact Ag (yo ⋯)) (λj es S6=>Le S5 S6/\∃fZ:List Nat,es=fZ.map .ref/\fZ.length=j/\∀(i m:Nat) row,fZ[i]? =some m->ji[i]? =some row->S6[m]? =some (.lst (row.map qv))) ?_ ?_ ?_ ?_
 ·rintro j es S6 _ ⟨le,_⟩;exact zb (le.2 _ _ k1)
 ·rintro j y es S6 hy bO ⟨le,fZ,rfl,fk,h'⟩
  rw[y8,z0] at hy
  obtain⟨mi,hy,rfl⟩:=hy
  have hj:j<ji.length:=by rw[<-k2];exact (y4.1 hy).1
  have er:ji[j]? =some ji[j]:=y6 hj
  generalize ji[j]=row at er
  refine .of rfl ?_
  nofun
  refine⟨rfl,?_⟩
  nofun
  refine zja (zb (le.2 _ _ (k3 j mi row hy er))) ?_
  refine⟨le.app,fZ++[S6.length],by simp,by simp[fk],λi m row' e1 e2=> ?_⟩
  by_cases hi:i<fZ.length
  ·rw[y9 hi] at e1
   exact zB (h' i m row' e1 e2)
  ·have eF:i=j:=by
    have:=(y4.1 e1).1
    rw[A7,Ay] at this
    omega
   subst eF
   rw[z6 ⋯,fk,AG] at e1
   cases e1
   rw[er] at e2
   cases e2
   exact zw
 ·exact⟨.refl,[],rfl,rfl,λi m row e=>by simp at e⟩
 rintro es S6 bO ⟨l6,fZ,rfl,fk,h'⟩
 rw[y7,k2] at fk
 have hH:Xi (S6++[Ce.lst (fZ.map .ref)]) S6.length ji:=⟨fZ,zw,fk,λi m row e1 e2=>zB (h' i m row e1 e2)⟩
 have l7:Le S5 (S6++[Ce.lst (fZ.map .ref)]):=l6.app
 dsimp only[AK]
 exact zm9 bN A5 fx (l7.2 _ _ rM) (hQ.le l7) hH (l7.2 _ _ jY)
theorem znb (bN:Big fu) (ns:List Int) (hl:ns.length<=63):∃S,zdL fu [.ref 0] (.frz (ns.map Xv.int)::YQ.map .tab)=some (.ok (.bl true) S):=by
 obtain⟨_,S,e,rfl⟩:=zna bN ns hl
 exact⟨S,e⟩
end
end
noncomputable def zbC:Nat:=2^9000
theorem zcQ:Big zbC:=by unfold Big zbC;exact z5 _
theorem zlZ {P:Program} {w:World} {K:y3} {mg:Str->Option Value} {base:Heap} (T:Tx K mg) {ts bF:List Addr} (hT:zje K ts YQ bF):ZF P w K mg base (CXE P w) 8 T.cR.a T.cR.fd ["_law_script"] (Ta K bF):=zjg (zjy (fu:=zbC) T) hT λns hl=>znb zcQ ns hl
noncomputable def znc {K:y3} {h:Heap} {mg:Str->Option Value} (X:K.In h) (G:h.Ns mainGlobals mg)
  {aO:Addr} {ak:Addr}  {ag:Addr} {ao:Addr} {cJ:Addr} {eX:Option Addr} {eW:Nat} {eV:Array (Option Value)} {da:Tok} {d8:Tok} {fB:Addr} {i7:Option Addr} {i6:Nat} {i5:Array (Option Value)} {fA:Tok} {fy:Tok} {cf:Tok}
  (aQ:A8 K mainGlobals "Step"=some (some (.ref aO)))
  (aq:A8 K mainGlobals "WholeRow"=some (some (.ref ak)))
  (H0:FL K "small_multiple" vh)
  (H1:FL K "inverse_of" Yd)
  (H2:FL K "quotient_behind" wN)
  (H3:FL K "nearest_nought" vi)
  (H4:FL K "quotients_behind" xm)
  (H5:ML K aO "__init__" "Step.__init__" vJ)
  (H6:FL K "column_counts" vK)
  (H7:FL K "take_off" XT)
  (H8:FL K "remainders_of" vL)
  (H9:FL K "steps_of" xM)
  (H10:FL K "remainders_meeting" yn)
  (H11:FL K "is_whole" XU)
  (H12:FL K "common_part" Zu)
  (H13:FL K "lowest" Td)
  (H14:FL K "fraction" XV)
  (H15:ML K ak "__init__" "WholeRow.__init__" xZ)
  (H16:FL K "shared_bottom" vM)
  (H17:FL K "tops_over" Zm)
  (H18:FL K "whole_row" Zn)
  (H19:FL K "whole_rows" vY)
  (H20:FL K "sum_at" WB)
  (H21:FL K "all_meet" XW)
  (H22:FL K "lifted" Zg)
  (H23:FL K "answer_of" YJ)
  (H24:FL K "answer_by" YK)
  (H28:FL K "list_meeting" wO)
  (H32:FL K "_law_draw" YL)
  (H33:FL K "_law_cell" YM)
  (H34:FL K "_law_lowest" Zv)
  (H35:FL K "_law_fraction" vN)
  (H36:FL K "_law_sum" XX)
  (H37:FL K "_law_first_rows" xz)
  (H38:FL K "_law_mixed_rows" yQ)
  (H39:FL K "law" zaw)
  (eK:(XC K ⟨none,"steps_of","steps_of"⟩).isSome=true)
  (gF:Cm K aO Str.empty=true) (gE:C8 K aO=true) (gD:CT K aO=true) (gC:A9 K (.ref aO) "__setattr__"=some (some (.builtin "object.__setattr__"))) (ip:Dc K aO=true) (ia:Bu K (.ref aO)=true)
  (bj:A9 K (.ref aO) "row"=some none)
  (aS:A9 K (.ref aO) "column"=some none)
  (aM:A9 K (.ref aO) "inverse"=some none)
  (aN:A9 K (.ref aO) "factors"=some none)
  (aZ:A9 K (.ref aO) "parts"=some none)
  (dG:Cm K ak Str.empty=true) (dF:C8 K ak=true) (dE:CT K ak=true) (dD:A9 K (.ref ak) "__setattr__"=some (some (.builtin "object.__setattr__"))) (e8:Dc K ak=true) (dS:Bu K (.ref ak)=true)
  (aj:A9 K (.ref ak) "parts"=some none)
  (az:A9 K (.ref ak) "last"=some none)
  (kT:A8 K mainGlobals "abs"=some none)
  (jg:A8 K mainGlobals "bool"=some none)
  (jf:A8 K mainGlobals "dict"=some none)
  (dM:A8 K mainGlobals "enumerate"=some none)
  (kR:A8 K mainGlobals "int"=some none)
  (d7:A8 K mainGlobals "isinstance"=some none)
  (kQ:A8 K mainGlobals "len"=some none)
  (je:A8 K mainGlobals "list"=some none)
  (kP:A8 K mainGlobals "min"=some none)
  (gJ:A8 K mainGlobals "range"=some none)
  (jd:A8 K mainGlobals "repr"=some none)
  (eL:A8 K mainGlobals "reversed"=some none)
  (fX:A8 K mainGlobals "sorted"=some none)
  (kO:A8 K mainGlobals "sum"=some none)
  (kN:A8 K mainGlobals "zip"=some none)
  (oR:CU K (.builtin "object.__class__") "__get__"=some (some (.builtin "getset_descriptor.__get__"))) (oM:E8 K (.builtin "object.__class__")=some true)
  (ai:A8 K mainGlobals "LotsError"=some (some (.ref ag))) (bP:EL K ag [.type "ValueError",.type "Exception",.type "BaseException",.type "object"] "ValueError.__new__"=true) (de:A9 K (.ref ag) "__getattribute__"=some (some (.builtin "BaseException.__getattribute__"))) (dc:A9 K (.ref ag) "__getattr__"=some none) (dH:G5 K ag=true) (dC:A9 K (.ref ag) "__class__"=some (some (.builtin "object.__class__"))) (df:AX K ag (.type "object")=some true) (bR:CM K (.ref ag)=some (.type "type")) (bC:AX K ag (.type "BaseException")=some true) (bQ:AX K ag (.type "ValueError")=some true)
  (aw:A8 K mainGlobals "NoNumber"=some (some (.ref ao))) (bW:EL K ao [.type "ValueError",.type "Exception",.type "BaseException",.type "object"] "ValueError.__new__"=true) (dU:A9 K (.ref ao) "__getattribute__"=some (some (.builtin "BaseException.__getattribute__"))) (dR:A9 K (.ref ao) "__getattr__"=some none) (eJ:G5 K ao=true) (eG:A9 K (.ref ao) "__class__"=some (some (.builtin "object.__class__"))) (dX:AX K ao (.type "object")=some true) (bY:CM K (.ref ao)=some (.type "type")) (bK:AX K ao (.type "BaseException")=some true) (bX:AX K ao (.type "ValueError")=some true)
  (bV:A8 K mainGlobals "NOUGHT"=some (some (.ref cJ)))
  (fH:K.lookup cJ=some ⟨.type "tuple",eX,.seq #[.int 0 da,.int 1 d8] eW,eV⟩)
  (dI:A8 K mainGlobals "ONE"=some (some (.ref fB)))
  (jR:K.lookup fB=some ⟨.type "tuple",i7,.seq #[.int 1 fA,.int 1 fy] i6,i5⟩)
  (cC:A8 K mainGlobals "FIRST_MODULUS"=some (some (.int 1000000000000000000000000000000000000000000009 cf))):Tx K mg:={ax:=H0.to X G (λ_ _ _ _ _ _=>at_ λ_=>at_ λ_=>at_ λ_=>at0 rfl),bh:=H1.to X G (λ_ _ _ _ _ _=>at_ λ_=>at_ λ_=>at0 rfl),aB:=H2.to X G (λ_ _ _ _ _ _=>at_ λ_=>at_ λ_=>at_ λ_=>at0 rfl),aF:=H3.to X G (λ_ _ _ _ _ _=>at_ λ_=>at_ λ_=>at0 rfl),ay:=H4.to X G (λ_ _ _ _ _ _=>at_ λ_=>at_ λ_=>at_ λ_=>at0 rfl),aA:=H5.to (λ_ _ _ _ _ _=>at_ λ_=>at_ λ_=>at_ λ_=>at_ λ_=>at_ λ_=>at_ λ_=>at0 rfl),eO:=⟨ip,(H5.to (ps:=["self","row","column","inverse","factors","parts"]) (λ_ _ _ _ _ _=>at_ λ_=>at_ λ_=>at_ λ_=>at_ λ_=>at_ λ_=>at_ λ_=>at0 rfl)).mt.at_,(H5.to (ps:=["self","row","column","inverse","factors","parts"]) (λ_ _ _ _ _ _=>at_ λ_=>at_ λ_=>at_ λ_=>at_ λ_=>at_ λ_=>at_ λ_=>at0 rfl)).mt.fn,ia⟩,aK:=H6.to X G (λ_ _ _ _ _ _=>at_ λ_=>at0 rfl),bH:=H7.to X G (λ_ _ _ _ _ _=>at_ λ_=>at_ λ_=>at_ λ_=>at0 rfl),aJ:=H8.to X G (λ_ _ _ _ _ _=>at_ λ_=>at_ λ_=>at0 rfl),bo:=H9.to X G (λ_ _ _ _ _ _=>at_ λ_=>at_ λ_=>at0 rfl),au:=H10.to X G (λ_ _ _ _ _ _=>at_ λ_=>at_ λ_=>at_ λ_=>at_ λ_=>at0 rfl),bp:=H11.to X G (λ_ _ _ _ _ _=>at_ λ_=>at0 rfl),aH:=H12.to X G (λ_ _ _ _ _ _=>at_ λ_=>at_ λ_=>at0 rfl),c7:=H13.to X G (λ_ _ _ _ _ _=>at_ λ_=>at_ λ_=>at0 rfl),bI:=H14.to X G (λ_ _ _ _ _ _=>at_ λ_=>at_ λ_=>at0 rfl),ah:=H15.to (λ_ _ _ _ _ _=>at_ λ_=>at_ λ_=>at_ λ_=>at0 rfl),cw:=⟨e8,(H15.to (ps:=["self","parts","last"]) (λ_ _ _ _ _ _=>at_ λ_=>at_ λ_=>at_ λ_=>at0 rfl)).mt.at_,(H15.to (ps:=["self","parts","last"]) (λ_ _ _ _ _ _=>at_ λ_=>at_ λ_=>at_ λ_=>at0 rfl)).mt.fn,dS⟩,aI:=H16.to X G (λ_ _ _ _ _ _=>at_ λ_=>at0 rfl),bz:=H17.to X G (λ_ _ _ _ _ _=>at_ λ_=>at_ λ_=>at0 rfl),bx:=H18.to X G (λ_ _ _ _ _ _=>at_ λ_=>at0 rfl),bg:=H19.to X G (λ_ _ _ _ _ _=>at_ λ_=>at0 rfl),bU:=H20.to X G (λ_ _ _ _ _ _=>at_ λ_=>at_ λ_=>at0 rfl),bq:=H21.to X G (λ_ _ _ _ _ _=>at_ λ_=>at_ λ_=>at_ λ_=>at0 rfl),c9:=H22.to X G (λ_ _ _ _ _ _=>at_ λ_=>at_ λ_=>at_ λ_=>at_ λ_=>at0 rfl),aV:=H23.to X G (λ_ _ _ _ _ _=>at_ λ_=>at_ λ_=>at0 rfl),aW:=H24.to X G (λ_ _ _ _ _ _=>at_ λ_=>at_ λ_=>at_ λ_=>at0 rfl),aP:=H28.to X G (λ_ _ _ _ _ _=>at_ λ_=>at_ λ_=>at_ λ_=>at_ λ_=>at0 rfl),af:=H32.to X G (λ_ _ _ _ _ _=>at_ λ_=>at_ λ_=>at_ λ_=>at_ λ_=>at0 rfl),bA:=H33.to X G (λ_ _ _ _ _ _=>at_ λ_=>at_ λ_=>at0 rfl),av:=H34.to X G (λ_ _ _ _ _ _=>at_ λ_=>at_ λ_=>at0 rfl),aL:=H35.to X G (λ_ _ _ _ _ _=>at_ λ_=>at_ λ_=>at0 rfl),bJ:=H36.to X G (λ_ _ _ _ _ _=>at_ λ_=>at_ λ_=>at0 rfl),aD:=H37.to X G (λ_ _ _ _ _ _=>at_ λ_=>at_ λ_=>at0 rfl),aC:=H38.to X G (λ_ _ _ _ _ _=>at_ λ_=>at_ λ_=>at0 rfl),cR:=H39.to X G (λ_ _ _ _ _ _=>at_ λ_=>at0 rfl),cH:=eK,cq:=H9.choose_spec.1,aQ:=aO,fE:=Bj X G aQ,cZ:=⟨gF,gE,gD,gC⟩,cD:=aQ,bj:=bj,aS:=aS,aM:=aM,aN:=aN,aZ:=aZ,aq:=ak,cN:=Bj X G aq,aX:=⟨dG,dF,dE,dD⟩,aU:=aq,aj:=aj,az:=az,cM:=Au X G kT,fD:=Au X G jg,fC:=Au X G jf,bw:=Au X G dM,gO:=Au X G kR,bG:=Au X G d7,bL:=Au X G kQ,dY:=Au X G je,gM:=Au X G kP,bu:=Au X G gJ,cL:=Au X G jd,cK:=Au X G eL,dg:=Au X G fX,eN:=Au X G kO,cu:=Au X G kN,ai:=ag,dh:=Bj X G ai,bP:=⟨Bj X G ai,bP⟩,di:=⟨de,dc,bC,dH,dC,oR,oM,df⟩,bR:=bR,bC:=bC,bQ:=bQ,aw:=ao,dZ:=Bj X G aw,bW:=⟨Bj X G aw,bW⟩,eh:=⟨dU,dR,bK,eJ,eG,oR,oM,dX⟩,bY:=bY,bK:=bK,bX:=bX,bV:=cJ,fF:=Bj X G bV,fW:=λH=> .inr ⟨_,_,_,fH,rfl,rfl,by show 2<=sizeLine;decide,(.cons ⟨_,rfl⟩ (.cons ⟨_,rfl⟩ .nil))⟩,dI:=fB,jM:=Bj X G dI,kM:=λH=> .inr ⟨_,_,_,jR,rfl,rfl,by show 2<=sizeLine;decide,(.cons ⟨_,rfl⟩ (.cons ⟨_,rfl⟩ .nil))⟩,bM:=⟨_,Bj X G cC⟩}
theorem zl0 {l:Ee} {w:World} {K:y3} {mg:Str->Option Value} {fa:Addr} {ts:List Addr} (hB:zat K ts YQ=true) (t6:mg "law"=some (.ref fa)) (T:Tx K mg):
  ∃fd:FuncData,(∀(s:Shared) (v:Value),BindsTo s fd ⟨[v],[]⟩ [("_law_script",v)])/\∀base:Heap,K.In base->base.Ns mainGlobals mg->ZF l.prog w K mg base (CXE l.prog w) 8 fa fd ["_law_script"] (Ta K (YG K YQ)):=by
 have e:=zlE T.cR (λ_ _=>trivial) t6
 subst e
 exact⟨_,λs v=>by
  obtain⟨_,_,_,_,_,_,_,_,_,e,_⟩:=T.cR.F.ex
  rw[e]
  exact .of_eq rfl,λbase _ _=>zlZ T (zeE hB)⟩
theorem znn {l:Ee} {q:Program} {loose:List Str} {XP:(Str->Option Value)->Heap->Prop} {YP:World->Heap->Prop} {d:DefRec} {K:Params->y3} {ts:List Addr} (hn:l.most=some 63) (kC:d.params.defaults=[])
  (hY:∀(w:World) (h:Heap),YP w h->(K w.params).In h/\∀P∈ts,h.get? P=some (Ca #[])) (hB:∀w:World,zat (K w.params) ts YQ=true)
  (F:∀(w:World) (mg:Str->Option Value) (fa:Addr) (h:Heap),zat (K w.params) ts YQ=true->(K w.params).In h->h.Ns mainGlobals mg->mg d.name=some (.ref fa)->
   ∃fd:FuncData,(∀(s:Shared) (u:Value),BindsTo s fd ⟨[u],[]⟩ [("_law_script",u)])/\∀base:Heap,(K w.params).In base->base.Ns mainGlobals mg->ZF l.prog w (K w.params) mg base (CXE l.prog w) 8 fa fd ["_law_script"] (Ta (K w.params) (YG (K w.params) YQ))) (nU:importsNone q=true) (iA:l.prog.given.tree=none):
  Gb q loose XP YP l.row.toRowW d [] (λf vs=>FU f vs):=
 L2.zhs (n:=63) (k:=8) (x:="_law_script") (CX:=λw=>CXE l.prog w) hn ∅ kC ⟨rfl,∅,∅,rfl⟩ hY hB (λw mg fa h=>F w mg fa h (hB w)) (λ_ _ _ _ _ ⟨_,_,_,_,_,z⟩=>z) nU iA
end Prf
open PySem PySem.W PyProof.Rows
local macro_rules | `(tactic| walk_at "fl") => `(tactic| exact Prf.zmU (by k_is) (by k_is) (by k_is) (by k_is))
local macro_rules | `(tactic| walk_at "ml") => `(tactic| exact Prf.zmV (by k_is) (by k_is) (by k_is) (by k_is) (by k_is))
set_option maxRecDepth 100000 in
set_option maxHeartbeats 0 in
theorem PySem.Challenge.cw_lots_k06_one_answer_known_holds : PySem.Challenge.rw_lots_k06_one_answer_known.Holds := by
 w_on;o_law;k_head;(case hw=>w_witness2)
 k_fill
 refine Prf.znn (l:=PySem.Challenge.rw_lots_k06_one_answer_known) rfl rfl (λw h Y=>⟨PySem.W.km_in_of Y,PySem.W.km_tabs_of Y⟩) ?B ?F ?I rfl
 case I=>kernel_rfl
 case B=>intro w;kernel_rfl
 case F=>
  intro w mg fa h hB KX G iP
  refine Prf.zl0 hB iP ?_
  apply Prf.znc KX G
  iterate 2 k_is
  iterate 5 walk_at "fl"
  walk_at "ml"
  iterate 9 walk_at "fl"
  walk_at "ml"
  iterate 18 walk_at "fl"
  kernel_rfl
  iterate 37 k_is
  k_exc
  iterate 9 k_is
  k_exc
  iterate 13 k_is
