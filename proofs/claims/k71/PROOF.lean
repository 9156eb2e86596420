import PyProof.Rows.All
import Wide.All
import OpenK.AllK
import Wide.FinOn
import Lean
import PyProof.EqAt
import PyProof.EqKinds
import PyProof.TupleCall
import PySem.Challenge.RW_lots_k71_rounds_walked
set_option Elab.async false
set_option linter.all false
set_option maxRecDepth 100000
local macro_rules | `(tactic| omega) => `(tactic| first | with_reducible assumption | lia | omega +splitDisjunctions)
open List renaming getElem?_eq_getElem->DZ,getElem?_eq_some_iff->E8,length_map->Eb,getD_eq_getElem?_getD->Ec,getElem?_append_left->Ed,getElem?_map->Ef,map_cons->Eg,mem_map->Eh,mem_of_getElem?->Ei,mem_cons_of_mem->Ej,mem_cons_self->Em,getElem_mem->Eo,mem_cons->Er,getElem?_append_right->Eu,length_append->Ew,getElem?_set->Ex,length_cons->EB,size_toArray->EC,mem_singleton->EG,map_append->EI,set->EW,getElem?_eq_none->EY,pairwise_map->EZ,take_length->F0,find?_cons->F1,map_map->F3,replicate->F4,mem_append->F5,range->F7,length_set->F9,mem_range->Fb,length_take->Fc,getElem?_of_mem->Fj,mem_append_right->Fk,map_congr_left->Fp,sum_cons->Fq,nodup_cons->Fw,all_eq_true->Fx,cons_append->Fy,toArray->FC,getElem_inj->FE,prefix_refl->FH,getElem?_eq_none_iff->FK,length_singleton->FN,lookup_cons->FP,Nodup->FW,getElem?_replicate->FX,ext_getElem?->FY,length_reverse->G1,take_of_length_le->G2,zip_cons_cons->G4,pairwise_iff_getElem->G6,drop_eq_getElem_cons->G7,mem_filter->G8,map->Ga,getElem_of_mem->Ge,append_nil->Gi,of_mem_zip->Gj,append_assoc->Gn,length_eq_zero_iff->Gv,nodup_append->Gz,mem_append_left->GA,drop_eq_nil_iff->GF,any_cons->GJ,filterMap_cons->GN,mem_or_eq_of_mem_set->GQ,map_nil->GU,find?_eq_none->GW,reverse_cons->Hb,length_range->Hc,findIdx?_eq_some_iff_getElem->He,nodup_range->Hg,not_mem_nil->Hi,getElem?_reverse->Hk,set_getElem_self->Hl,getElem?_set_ne->Hm,length_nil->Ho,map_eq_cons_iff->Hq,mem_of_mem_take->Hs,getElem?_range->Hu,dropLast_concat_getLast->Hx,prefix_append->HD,mem_of_find?_eq_some->HQ,any_eq_true->Ia,eq_of_mem_replicate->Ic,pairwise_mergeSort->Ig,sum_append->Im,range_succ->Ip,getElem?_set_self->Iu,length_replicate->IC,nodup_nil->IH,length_filter_le->II,getElem?_mapIdx->IL,replicate_succ'->IM,mergeSort_perm->IT,mem_filterMap->IU,zip_nil_right->IZ,set_set->J1,zip_nil_left->J6,flatten_cons->J9,foldl_append->Ja,lookup->Jb,countP_cons->Jj,getElem_map->Jk,ext_getElem->Jl,isEmpty_iff->Jm,mem_flatten->Jp,mem_reverse->Jq,find?_some->Jw,length_zip->Jx,any_map->JL,map_set->JM
open PySem.W renaming Frag->E9,nsIn->Es,keepIn->EA,codeIn->ED,fnOf->EF,mg_of->EH,mg_none_of->Fd,kitOne->Ff,findIn->FT,kitMeta->Gk,mroIn->GH,KdlSrc->GX,KdlKeysView->Ht,InstAt->Hv,subIn->HF,methodObj->HI,specialIn->HJ,kitx_list->HK,instObj->Ij,OpenLaw->Ik,findObj->Il,cellsFrom_some->Iv,lookIn->IB,kitCls->IE,looks_findIn->IJ,clsIn->IQ,kitx_tuple->IW,kitx_dict->J4,plainGet->Jg,ksm_same->Ji,takesIn->Jr,kIn_of->Jy,WalkO->JC,isFn->JH,KitX->JI
open Option renaming bind_some->Ee,bind_eq_some_iff->Et,map_eq_some_iff->Ez,map_some->FI,isSome_iff_exists->FO,isSome_map->Gm,getD_none->HU,getD_some->HV,map_eq_none_iff->Iy,bind->Jc,map_map->JA,map->JN
open Nat renaming le_refl->Ek,ne_of_lt->Ep,le_trans->Ey,lt_of_lt_of_le->EK,le_of_lt->EL,lt_of_le_of_lt->F8,lt_succ_of_lt->Fu,lt_irrefl->Fv,zero_le->FR,lt_succ_self->G3,gcd->Gf,pow_le_pow_right->Gp,le_succ->Gr,le_of_eq->Gs,le_add_right->GC,ne_of_gt->GR,gcd_comm->Hr,lt_trichotomy->HM,mod_lt->HP,sub_self->HY,gcd_pos_of_pos_right->HZ,add_sub_cancel_left->Ih,lt_trans->IV,add_sub_cancel->IY,pow_pos->Jf,succ_ne_self->Jh,not_lt->Jt,not_lt_zero->Ju,add_assoc->JE
open Or renaming inl->El,inr->HA
open Option.some renaming inj->EE,injEq->Fg
open PySem.F renaming plainAttrs_list->EJ,slot_list_append->ER,type_list_append->EV,plainAttrs_dict->Gd,plain_list_iadd->Gu,slot_dict_keys->Hd,slot_dict_get->Hj,plain_proto_collect->HB,slot_dict_getitem->HN,slot_dict_values->HW,args_dict_get_3->Ie,slot_dict_items->Ii,entry_dict_get->Iw,type_dict_keys->Iz
open Sum renaming inl->F6,inr->HR
open Array renaming length_toList->Fe,getElem?_toList->Fo,getElem?_eq_getElem->FJ,size_map->FV,toList_map->GD,forIn_toList->GV,getD->GY,append_assoc->Hy,getD_eq_getD_getElem?->HC,getElem?_eq_some_iff->HE,toList->HS,getElem_toList->IK,getElem?_map->IX,map_extract->J5
open Int renaming toNat_natCast->Fh,mul_assoc->Fi,gcd->FD,mul_le_mul_of_nonneg_right->FL,toNat->FZ,emod_nonneg->G9,mul_comm->Gb,mul_le_mul_of_nonneg_left->Gc,emod_lt_of_pos->Gg,ediv_eq_of_eq_mul_right->Gh,natAbs_of_nonneg->Gq,mul_pos->GL,natAbs_mul->GZ,mul_nonneg->Ha,gcd_pos_of_ne_zero_right->Hw,fdiv_eq_ediv_of_nonneg->HH,le_trans->HX,natCast_mul->Iq,natCast_add->Ir,natAbs_dvd_natAbs->IG,zero_add->J3,lt_trichotomy->J7,gcd_dvd_right->J8,le_refl->Jd,mul_add->Je,gcd_dvd_left->Jn,natCast_emod->Jo
open List.Pairwise renaming imp_of_mem->Fs,filter->JO,nil->JP,and->JQ
open PyProof.Rows renaming callWith_type1->Ft,callWith_builtin1->Hn
open Classical renaming byContradiction->FA,choose_spec->G5
open Bool renaming and_eq_true->FG,false_eq_true->FQ,or_false->GK,eq_iff_iff->GO,false_ne_true->Hz,beq_eq_decide_eq->IA,false_or->JB,true_bne->JD,and_true->JF
open True renaming intro->FU
open PySem renaming mem_of_lookup->G0,intBits_le_iff->GB,frameOf->IP,call->Js,Within->JG
open Ne renaming symm->Gw
open False renaming elim->Gx
open ForInStep renaming yield->Gy
open Rat renaming intCast_mul->GP,div_def->Hf,mul_inv_cancel->J2
open Function renaming comp->HG
open Array.Perm renaming toList->HL,refl->Jv
open List.cons renaming injEq->Io
open Exists renaming intro->J0
open List.Perm renaming swap->Jz
open Prod renaming ext->JK
local macro_rules|`(∅)=>`(by decide)
local macro_rules|`(⋯)=>`(by omega)
local macro_rules|`(nofun)=>`(fun z=>by cases z)
local macro_rules|`(*...*)=>`(by decide+kernel)
structure PySem.W.Fast:Prop where(tw10039046823274405144 tw10149443262859395367 tw10259724616534723138 tw10284888660278392238 tw10300498088771997322 tw10350888731918090168 tw10413669323480176008 tw10539168463878338991 tw10692647610470323764 tw10752473784614172486 tw108695563631743755 tw10965227258795044601 tw11104067012488282694 tw1116552422823077949 tw11165990187148292244 tw11209777941466593063 tw11494796511512958411 tw11512501818818756611 tw11527344486925508038 tw11627967269348545253 tw1164027110454951046 tw11966673685051136160 tw11990111540826569581 tw12004509908807801017 tw1210305445244346455 tw12226706194987485651 tw12326492949320742265 tw12491041842835751340 tw12520930189501203804 tw12617389565790578206 tw12623773063497933889 tw12724116500547840956 tw12738694410111014073 tw12821796477733442389 tw12838582301475050589 tw12916298697332378411 tw12996482926333071123 tw13030731985480119802 tw13116561982291611744 tw13180676905697997858 tw13298942808522269274 tw13759410470081205507 tw13864489658164496204 tw13899786454767269353 tw14440823231892798542 tw14449973667644773025 tw14907524513698057636 tw15034904962325595253 tw15269714677217033367 tw15424668846585858521 tw15498920247189992259 tw15501162573020618803 tw15550107901714495589 tw15650028651544231611 tw1565093983941043559 tw15866428874511856297 tw15907450382725654267 tw1591386194251835912 tw15965000102894393056 tw16078133200368071982 tw16265995641223972871 tw1648449187223578969 tw16608519498064952874 tw16866365980411830153 tw17101926634873315012 tw17153979351801114506 tw17218203738113072684 tw1722046261141328043 tw17342926563934641011 tw17411522686391428741 tw17604730343354120830 tw1790791914940659117 tw17991717757984135661 tw18235435944323777194 tw18247753830110773110 tw18333450390004635437 tw18344392500024158808 tw18385548085114472991 tw1917528720248032800 tw1918006290376242498 tw2362325750975077315 tw2474422704046272660 tw2481461886969188328 tw2570328099614903850 tw3394016352291859108 tw3396683400455006246 tw3499791688381441665 tw3512323988361977202 tw3637676875999879562 tw3731957845033828685 tw3831399582793416685 tw3978172685087135475 tw4034208198995303476 tw413138997828465495 tw4135540261258030471 tw4332913093316660762 tw4394157040245268008 tw4876983044795674406 tw4931690398912739437 tw5006599795220851300 tw5172277115812737006 tw5188251093978546312 tw5203865585844732718 tw5209285924131541834 tw5240044843864671098 tw5298771373920389915 tw5342776115683259582 tw5417135512864524515 tw5462340224073894255 tw5485678387679651120 tw5594025851142144049 tw5680341094277352132 tw5745690261459564670 tw5800055939223408117 tw5815408820514745678 tw5866190857984396727 tw5927754568178032763 tw5987971199138244544 tw6067592981280873654 tw6228712218215569818 tw6363629333981403648 tw6420304546160274483 tw6570216213213397831 tw6661419224225934973 tw6741975576884409005 tw681236688224163679 tw6938747942868607942 tw6939460202740404116 tw6991101494390432790 tw7015394588333277565 tw702110123149780975 tw7033816194715655006 tw7140190790712163420 tw7323376743882462392 tw7349639095186319710 tw7469755021870417955 tw7500505167193970280 tw7583682001723880134 tw7683208131384344544 tw7939017915697032051 tw8103423889338462619 tw8382288525170996190 tw8431329572738459432 tw8484743120112368351 tw8546983192768752689 tw8872409286852343563 tw8915164809869503527 tw892618151778554158 tw9016323715973856274 tw911476165707191941 tw9140250365028706659 tw9256864980849126461 tw9334143759717363809 tw969069756948743771 tw9975831479620984982:True)
namespace L2
open PySem PySem.Spec PyProof.Rows
abbrev Key:=Sum Int Str
noncomputable def Wy:Key->Value->Bool
 | .inl k,v=>Value.isInt k v
 | .inr x,v=>Value.isStrOf x v
noncomputable def zec (w:World):Key->Int
 | .inl k=>hashInt k
 | .inr x=>hashStr w x
theorem yx:∀{k:Key} {v:Value},Wy k v=true->(∃i t,k=F6 i/\v=Value.int i t)\/(∃x t,k=HR x/\v=Value.str x t)
 | .inl i,v,h=>by
  obtain⟨t,e⟩:=Value.isInt_shape (k:=i) (v:=v) h
  exact .inl ⟨i,t,rfl,e⟩
 | .inr x,v,h=>by
  obtain⟨t,e⟩:=Value.isStrOf_shape (x:=x) (v:=v) h
  exact .inr ⟨x,t,rfl,e⟩
theorem zfO (i:Int) (t:Tok):Wy (.inl i) (.int i t)=true:=by simp[Wy,Value.isInt]
theorem zfP (x:Str) (t:Tok):Wy (.inr x) (.str x t)=true:=by simp[Wy,Value.isStrOf]
theorem zko (a b:Int):decide ((F6 a:Key)=F6 b)=(a==b):=by
 by_cases e:a=b
 ·subst e;simp
 ·have h:¬(F6 a:Key)=F6 b:=λq=>e (Sum.inl.inj q)
  rw[decide_eq_false h]
  exact (beq_eq_false_iff_ne.mpr e).symm
theorem zkp (a b:Str):decide ((HR a:Key)=HR b)=decide (a=b):=by
 by_cases e:a=b
 ·subst e;simp
 ·have h:¬(HR a:Key)=HR b:=λq=>e (Sum.inr.inj q)
  rw[decide_eq_false h,decide_eq_false e]
theorem zkq (a:Int) (b:Str):decide ((F6 a:Key)=HR b)=false:=decide_eq_false (λq=>nomatch q)
theorem zkr (a:Str) (b:Int):decide ((HR a:Key)=F6 b)=false:=decide_eq_false (λq=>nomatch q)
noncomputable def zN (prog:Program) (w:World):PySem.KeyKind prog w Key where
 is:=Wy
 hash:=zec w
 inj:=λv a b ha hb=>by
  rcases yx ha with⟨i,t,rfl,rfl⟩|⟨x,t,rfl,rfl⟩
  ·rcases yx hb with⟨j,u,rfl,e⟩|⟨y,u,rfl,e⟩
   ·injection e with e1 _;rw[e1]
   ·exact nomatch e
  ·rcases yx hb with⟨j,u,rfl,e⟩|⟨y,u,rfl,e⟩
   ·exact nomatch e
   ·injection e with e1 _;rw[e1]
 byValue:=λk v h=>by
  rcases yx h with⟨i,t,rfl,rfl⟩|⟨x,t,rfl,rfl⟩<;>rfl
 pyHash:=λhv h=>by
  rcases yx hv with⟨i,t,rfl,rfl⟩|⟨x,t,rfl,rfl⟩
  ·exact wpAny_pyHash_int h
  ·exact wpAny_pyHash_str h
 eqBool:=λhu hv h=>by
  rcases yx hu with⟨i,t,rfl,rfl⟩|⟨x,t,rfl,rfl⟩
  ·rcases yx hv with⟨j,u,rfl,rfl⟩|⟨y,u,rfl,rfl⟩
   ·rw[zko] at h;exact wpAny_eqBool_int h
   ·rw[zkq] at h;exact SeqAt.EqAt.int_str i t y u _ _ _ _ h
  ·rcases yx hv with⟨j,u,rfl,rfl⟩|⟨y,u,rfl,rfl⟩
   ·rw[zkr] at h;exact SeqAt.EqAt.str_int x t j u _ _ _ _ h
   ·rw[zkp] at h;exact wpAny_eqBool_str h
 «strs» :=λk x t v h=>by
  rcases yx h with⟨i,u,rfl,e⟩|⟨y,u,rfl,e⟩
  ·exact nomatch e
  ·injection e with e1 _
   subst e1
   cases v<;>rfl
theorem zc3 (prog:Program) (w:World) (i:Int) (t:Tok):(zN prog w).is (.inl i) (.int i t)=true:=zfO i t
theorem zc4 (prog:Program) (w:World) (x:Str) (t:Tok):(zN prog w).is (.inr x) (.str x t)=true:=zfP x t
inductive V where
 |non|bl (b:Bool)|int (i:Int)|str (x:Str)|byt (b:Array UInt8)|flt (b:UInt64)|ref (a:Addr)|ty (n:String)
 deriving DecidableEq
def zK:V->Value->Prop
 | .non,u=>u=Value.none
 | .bl b,u=>u=Value.bool b
 | .int i,u=>∃t,u=Value.int i t
 | .str x,u=>∃t,u=Value.str x t
 | .byt b,u=>∃t,u=Value.bytes b t
 | .flt b,u=>∃t,u=Value.float b t
 | .ref a,u=>u=Value.ref a
 | .ty n,u=>u=Value.type n
noncomputable abbrev zT:List V->List Value->Prop:=Paired zK
theorem zT.length {xs:List V} {us:List Value} (r:zT xs us):xs.length=us.length:=Paired.length r
theorem zT.get:∀{xs:List V} {us:List Value} {i:Nat} {x:V},zT xs us->xs[i]? =some x->∃u,us[i]? =some u/\zK x u
 |_,_,_,_,.nil,e=>by simp at e
 |_,_,0,_,.cons r _,e=>by simp at e;subst e;exact⟨_,rfl,r⟩
 |_,_,i+1,x,.cons _ t,e=>by
  obtain⟨u,h1,h2⟩:=zT.get (i:=i) (x:=x) t (by simpa using e)
  exact⟨u,by simpa using h1,h2⟩
theorem zT.set {x:V} {u:Value} (r:zK x u):∀{xs:List V} {us:List Value} (i:Nat),zT xs us->zT (xs.set i x) (us.set i u)
 |_,_,_,.nil=> .nil
 |_,_,0,.cons _ t=> .cons r t
 |_,_,i+1,.cons q t=> .cons q (zT.set r i t)
theorem zT.append:∀{xs ys:List V} {us ws:List Value},zT xs us->zT ys ws->zT (xs++ys) (us++ws)
 |_,_,_,_,.nil,s=>s
 |_,_,_,_,.cons r t,s=> .cons r (zT.append t s)
theorem zT.take:∀{xs:List V} {us:List Value} (n:Nat),zT xs us->zT (xs.take n) (us.take n)
 |_,_,0,_=> .nil
 |_,_,_+1,.nil=> .nil
 |_,_,n+1,.cons r t=> .cons r (zT.take n t)
theorem zT.drop:∀{xs:List V} {us:List Value} (n:Nat),zT xs us->zT (xs.drop n) (us.drop n)
 |_,_,0,r=>r
 |_,_,_+1,.nil=> .nil
 |_,_,n+1,.cons _ t=>zT.drop n t
def Ww:Option V->Option Value->Prop
 |some v,some u=>zK v u
 |none,none=>True
 |_,_=>False
def KV {κ:Type}:List (κ×V)->List (κ×Value)->Prop:=Paired λ(p:κ×V) (q:κ×Value)=>p.1=q.1/\zK p.2 q.2
noncomputable def kV:Key->V
 | .inl i=> .int i
 | .inr x=> .str x
inductive NK where
 |int (i:Int)|str (x:Str)|tup (l:List NK)
noncomputable instance:DecidableEq NK:=λa b=>Classical.propDecidable (a=b)
mutual
noncomputable def zX (w:World):NK->Int
 | .int i=>zec w (.inl i)
 | .str x=>zec w (.inr x)
 | .tup l=>reduceHash (Builtin.Tuple.tupleHashOf (Yp w l))
noncomputable def Yp (w:World):List NK->List Int
 |[]=>[]
 |k::r=>zX w k::Yp w r
end
mutual
noncomputable def yi:NK->Nat
 | .int _=>0
 | .str _=>0
 | .tup l=>xU l+1
noncomputable def xU:List NK->Nat
 |[]=>0
 |k::r=>max (yi k) (xU r)
end
noncomputable def zks (w:World) (x:NK×Addr×Value):DictEntry:={hash:=zX w x.1,key:= .ref x.2.1,val:=x.2.2}
inductive HO where
 |lst (xs:List V)
 |tup (xs:List V)
 |dK (kvs:List (Key×V))|dT (kvs:List (List Key×V))
 |dN (ks:List (NK×Addr×V))
 |set (S:Int->Bool) (n:Nat)
 |ins (C dx:Addr) (fs:List (Str×V))
 |own (x:Addr)
 |xd (fs:List (Str×V))
 |met (f x:Addr)
 |rng (lo hi:Int)
 |frz (o:Obj) (u:HO)
 |tbl (ps:Array Value)
 |ext (φ:Heap->Prop)
abbrev Hp:=Addr->Option HO
noncomputable def upd (H:Hp) (a:Addr) (o:HO):Hp:=λb=>if b=a then some o else H b
theorem yj {H:Hp} {a:Addr} {o:HO}:upd H a o a=some o:=by unfold upd;rw[if_pos rfl]
theorem yb {H:Hp} {a b:Addr} {o:HO} (h:b≠a):upd H a o b=H b:=by unfold upd;rw[if_neg h]
theorem zlM {H:Hp} {a b:Addr} {o u:HO} (h:H a=some o) (h':H b=some u) (d:o≠u):a≠b:=by
 intro e;subst e;rw[h] at h';exact d (EE h')
theorem xK {H:Hp} {a b:Addr} {o:HO} (h:H a=some o) (h':H b=none):a≠b:=by
 intro e;subst e;rw[h] at h';cases h'
section
variable (P:Program) (w:World)
def ym (H:Hp) (h:Heap) (a:Addr):HO->Prop
 | .lst xs=>xs.length<=sizeLine/\∃(ae:List Value) (n:Nat),zT xs ae/\h.get? a=some {cls:= .type "list",data:= .seq ae.toArray n}
 | .tup xs=>xs.length<=sizeLine/\∃ae:List Value,zT xs ae/\IsTup h a ae.toArray
 | .dK kvs=>kvs.length<=sizeLine/\(a==sysModules)=false/\∃vs,KV kvs vs/\h.DictOf (zN P w) a vs
 | .dT kvs=>kvs.length<=sizeLine/\(a==sysModules)=false/\∃xs:List (List Key×Addr×Value),
   Paired (λ(p:List Key×V) (q:List Key×Addr×Value)=>p.1=q.1/\H q.2.1=some (.tup (p.1.map kV))/\zK p.2 q.2.2) kvs xs/\
   ∃o es ep,h.get? a=some o/\o.ExactDict/\o.data= .dict es ep/\es.toList=xs.map (entryOfKey (tupleKind (zN P w)))/\(xs.map (·.1)).Nodup
 | .dN ks=>ks.length<=sizeLine/\(a==sysModules)=false/\∃xs:List (NK×Addr×Value),Paired (λ(p:NK×Addr×V) (q:NK×Addr×Value)=>p.1=q.1/\p.2.1=q.2.1/\zK p.2.2 q.2.2) ks xs/\
   ∃o es ep,h.get? a=some o/\o.ExactDict/\o.data= .dict es ep/\es.toList=xs.map (zks w)/\(xs.map (·.1)).Nodup
 | .set S n=>h.SetOf (intKind P w) a S n
 | .ins C dx fs=>H dx=some (.own a)/\fs.length<=1000/\dx≠a/\h.get? a=some (Ij C dx)/\
   ∃mA,h.Ns1 dx mA/\(∀f,Ww (fs.lookup f) (mA f))/\JG mA (fs.map (·.1))
 | .own _=>∃o,h.get? a=some o
 | .xd fs=>∃mA,h.Ns1 a mA/\∀f,Ww (fs.lookup f) (mA f)
 | .rng lo hi=>∃t u v,h.get? a=some {cls:= .type "range",data:= .fields #[.int lo t,.int hi u,.int 1 v]}
 | .frz o u=>h.get? a=some o/\ym H h a u
 | .tbl ps=>h.get? a=some {cls:= .none,data:= .fields ps}
 | .met f x=>h.get? a=some (HI (.ref f) (.ref x))
 | .ext φ=>φ h/\(∃o,h.get? a=some o)/\∀h1 h2:Heap,φ h1->(∀o,h1.get? a=some o->h2.get? a=some o)->φ h2
def HOk (H:Hp) (h:Heap):Prop:=∀a o,H a=some o->ym P w H h a o
end
section
variable {P:Program} {w:World} {H H':Hp} {h h':Heap} {a:Addr} {o:HO}
theorem ym.lt (x:ym P w H h a o):a<h.objs.size:=by
 cases o with
 |lst xs=>obtain⟨_,_,_,_,e⟩:=x;exact Heap.lt_size e
 |tup xs=>obtain⟨_,_,_,p⟩:=x;exact p.lt
 |dK kvs=>obtain⟨_,_,_,_,o,_,_,e,_⟩:=x;exact Heap.lt_size e
 |dT kvs=>obtain⟨_,_,_,_,o,_,_,e,_⟩:=x;exact Heap.lt_size e
 |dN ks=>obtain⟨_,_,_,_,o,_,_,e,_⟩:=x;exact Heap.lt_size e
 |set S n=>obtain⟨o,_,_,_,e,_⟩:=x;exact Heap.lt_size e
 |ins C dx fs=>obtain⟨_,_,_,e,_⟩:=x;exact Heap.lt_size e
 |own y=>obtain⟨_,e⟩:=x;exact Heap.lt_size e
 |xd fs=>obtain⟨_,⟨_,_,_,e,_⟩,_⟩:=x;exact Heap.lt_size e
 |rng lo hi=>obtain⟨_,_,_,e⟩:=x;exact Heap.lt_size e
 |frz ob u=>obtain⟨e,_⟩:=x;exact Heap.lt_size e
 |tbl ps=>exact Heap.lt_size (show h.get? a=some _ from x)
 |met f y=>exact Heap.lt_size (show h.get? a=some _ from x)
 |ext φ=>obtain⟨_,⟨_,e⟩,_⟩:=x;exact Heap.lt_size e
theorem Paired.mapP {α β:Type} {F G:α->β->Prop}:∀{l₁:List α} {l₂:List β},Paired F l₁ l₂->(∀a b,F a b->G a b)->Paired G l₁ l₂
 |_,_,.nil,_=> .nil
 |_,_,.cons r t,f=> .cons (f _ _ r) (Paired.mapP t f)
theorem ym.stay (x:ym P w H h a o) (k:∀b u,(b=a\/H b=some (.own a))->h.get? b=some u->h'.get? b=some u)
  (ho:∀b,H b=some (.own a)->H' b=some (.own a)) (ht:∀b xs,H b=some (.tup xs)->H' b=some (.tup xs)):ym P w H' h' a o:=by
 induction o with
 |lst xs=>obtain⟨z,ae,n,r,e⟩:=x;exact⟨z,ae,n,r,k _ _ (.inl rfl) e⟩
 |tup xs=>obtain⟨z,ae,r,ob,e,c⟩:=x;exact⟨z,ae,r,ob,k _ _ (.inl rfl) e,c⟩
 |dK kvs=>obtain⟨z,y,vs,r,ob,es,ep,e,c⟩:=x;exact⟨z,y,vs,r,ob,es,ep,k _ _ (.inl rfl) e,c⟩
 |dT kvs=>
  obtain⟨z,y,xs,r,ob,es,ep,e,c⟩:=x
  exact⟨z,y,xs,Paired.mapP r λp q z=>⟨z.1,ht _ _ z.2.1,z.2.2⟩,ob,es,ep,k _ _ (.inl rfl) e,c⟩
 |dN ks=>obtain⟨z,y,xs,r,ob,es,ep,e,c⟩:=x;exact⟨z,y,xs,r,ob,es,ep,k _ _ (.inl rfl) e,c⟩
 |set S n=>obtain⟨ob,es,ep,t,e,c⟩:=x;exact⟨ob,es,ep,t,k _ _ (.inl rfl) e,c⟩
 |ins C dx fs=>
  obtain⟨d,z,ne,e,mA,⟨od,es,ep,e2,c⟩,r⟩:=x
  exact⟨ho _ d,z,ne,k _ _ (.inl rfl) e,mA,⟨od,es,ep,k _ _ (.inr d) e2,c⟩,r⟩
 |own y=>obtain⟨ob,e⟩:=x;exact⟨ob,k _ _ (.inl rfl) e⟩
 |xd fs=>obtain⟨mA,⟨od,es,ep,e,c⟩,r⟩:=x;exact⟨mA,⟨od,es,ep,k _ _ (.inl rfl) e,c⟩,r⟩
 |rng lo hi=>obtain⟨t,u,v,e⟩:=x;exact⟨t,u,v,k _ _ (.inl rfl) e⟩
 |frz ob u ih=>obtain⟨e,q⟩:=x;exact⟨k _ _ (.inl rfl) e,ih q⟩
 |tbl ps=>
  have e:h.get? a=some {cls:= .none,data:= .fields ps}:=x
  show h'.get? a=some {cls:= .none,data:= .fields ps}
  exact k a _ (.inl rfl) e
 |met f y=>
  have e:h.get? a=some (HI (.ref f) (.ref y)):=x
  show h'.get? a=some (HI (.ref f) (.ref y))
  exact k a _ (.inl rfl) e
 |ext φ=>obtain⟨p,⟨o,e⟩,st⟩:=x;exact⟨st _ _ p λo q=>k _ _ (.inl rfl) q,⟨o,k _ _ (.inl rfl) e⟩,st⟩
theorem HOk.lt (x:HOk P w H h) (e:H a=some o):a<h.objs.size:=(x a o e).lt
theorem HOk.fresh (x:HOk P w H h) (e:h.objs.size<=a):H a=none:=by
 cases q:H a with
 |none=>rfl
 |some u=>exact absurd (EK (x.lt q) e) (Fv _)
theorem HOk.kept (x:HOk P w H h) (k:∀b u,h.get? b=some u->h'.get? b=some u):HOk P w H h':=λa o e=>
 (x a o e).stay (λb u _ q=>k b u q) (λ_ q=>q) λ_ _ q=>q
theorem HOk.laid (x:HOk P w H h) (k:∀b u,h.get? b=some u->h'.get? b=some u) (hp:h.objs.size<=a) (new:ym P w (upd H a o) h' a o):HOk P w (upd H a o) h':=λb u e=>by
 have hn:=x.fresh hp
 by_cases hb:b=a
 ·subst hb;rw[yj] at e;cases e;exact new
 ·rw[yb hb] at e
  exact (x b u e).stay (λc v _ q=>k c v q) (λc q=>by rw[yb (xK q hn)];exact q) λc xs q=>by rw[yb (xK q hn)];exact q
end
def Rd (H:Hp) (a:Addr) (u:HO):Prop:=H a=some u\/∃o,H a=some (.frz o u)
theorem Rd.ok {P:Program} {w:World} {H:Hp} {h:Heap} {a:Addr} {u:HO} (r:Rd H a u) (x:HOk P w H h):ym P w H h a u:=by
 rcases r with r|⟨o,r⟩
 ·exact x a u r
 ·obtain⟨_,q⟩:=x a _ r
  exact q
def Mut:Option HO->Prop
 |some (.lst _)=>True
 |some (.dK _)=>True
 |some (.dT _)=>True
 |some (.dN _)=>True
 |some (.set _ _)=>True
 |some (.ins _ _ _)=>True
 |some (.ext _)=>True
 |_=>False
section
variable {P:Program} {w:World} {H:Hp} {h h':Heap} {x e:Addr} {o':HO}
theorem HOk.write (ok:HOk P w H h) (mu:Mut (H x)) (he:e=x\/H e=some (.own x)) (k:∀b u,b≠e->h.get? b=some u->h'.get? b=some u) (iB:∃u,h'.get? e=some u)
  (new:ym P w (upd H x o') h' x o'):HOk P w (upd H x o') h':=λb u q=>by
 have jT:∀c y,H c=some (.own y)->c≠x:=λc y r z=>by subst z;rw[r] at mu;exact mu
 have oG:∀c xs,H c=some (.tup xs)->c≠x:=λc xs r z=>by subst z;rw[r] at mu;exact mu
 by_cases hb:b=x
 ·subst hb;rw[yj] at q;cases q;exact new
 ·rw[yb hb] at q
  by_cases jk:b=e
  ·have q':H b=some (.own x):=by
    rcases he with z|z
    ·exact absurd (jk.trans z) hb
    ·rw[jk];exact z
   rw[q] at q';cases q'
   obtain⟨v,hv⟩:=iB
   exact⟨v,by rw[jk];exact hv⟩
  ·refine (ok b u q).stay (λc v hc r=>k c v ?_ r) (λc r=>by rw[yb (jT c b r)];exact r) λc xs r=>by rw[yb (oG c xs r)];exact r
   rcases hc with rfl|hc
   ·exact jk
   ·rintro rfl
    rcases he with z|z
    ·exact jT c b hc z
    ·rw[hc] at z;cases z;exact hb rfl
end
structure Un (fs ex:List Addr) (H H':Hp) (h h':Heap):Prop where
 keep:∀b o,h.get? b=some o->H b=none->b∉fs->b∉ex->h'.get? b=some o
 slot:∀b o,h.get? b=some o->H b=none->b∈fs->b∉ex->∃sl,h'.get? b=some {o with slots:=sl}
 free:∀b o,h.get? b=some o->H b=none->b∉ex->H' b=none
 there:∀b o,h.get? b=some o->b∉ex->∃o',h'.get? b=some o'
 tups:∀b xs,H b=some (.tup xs)->H' b=some (.tup xs)
 frzs:∀b o u,H b=some (.frz o u)->H' b=some (.frz o u)
 tbls:∀b ps,H b=some (.tbl ps)->∃more,H' b=some (.tbl (ps++more))
section
variable {fs fs' ex ex':List Addr} {H H1 H2:Hp} {h h1 h2 h':Heap} {a x e:Addr} {o:HO}
theorem Un.any (u:Un fs ex H H1 h h1) {b:Addr} {ob:Obj} (q:h.get? b=some ob) (n:H b=none) (hx:b∉ex):∃sl,h1.get? b=some {ob with slots:=sl}:=by
 by_cases hb:b∈fs
 ·exact u.slot b ob q n hb hx
 ·exact⟨ob.slots,u.keep b ob q n hb hx⟩
theorem Un.trans (a:Un fs ex H H1 h h1) (b:Un fs ex H1 H2 h1 h2):Un fs ex H H2 h h2 where
 keep:=λc ob q n hc hx=>b.keep c ob (a.keep c ob q n hc hx) (a.free c ob q n hx) hc hx
 slot:=λc ob q n hc hx=>by
  obtain⟨sl,e1⟩:=a.slot c ob q n hc hx
  obtain⟨sl',e2⟩:=b.slot c _ e1 (a.free c ob q n hx) hc hx
  exact⟨sl',e2⟩
 free:=λc ob q n hx=>by
  obtain⟨o',e1⟩:=a.there c ob q hx
  exact b.free c o' e1 (a.free c ob q n hx) hx
 there:=λc ob q hx=>by
  obtain⟨o',e1⟩:=a.there c ob q hx
  exact b.there c o' e1 hx
 tups:=λc xs q=>b.tups c xs (a.tups c xs q)
 frzs:=λc ob xs q=>b.frzs c ob xs (a.frzs c ob xs q)
 tbls:=λc ps q=>by
  obtain⟨m1,e1⟩:=a.tbls c ps q
  obtain⟨m2,e2⟩:=b.tbls c _ e1
  exact⟨m1++m2,by rw[e2,Hy]⟩
theorem Un.kept (k:∀b u,h.get? b=some u->h'.get? b=some u):Un fs ex H H h h':=
 ⟨λb ob q _ _ _=>k b ob q,λb ob q _ _ _=>⟨ob.slots,k b ob q⟩,λ_ _ _ n _=>n,λb ob q _=>⟨ob,k b ob q⟩,λ_ _ q=>q,λ_ _ _ q=>q,λ_ ps q=>⟨#[],by rw[q];simp⟩⟩
theorem Un.refl:Un fs ex H H h h:=Un.kept λ_ _ q=>q
theorem Un.laid (k:∀b u,h.get? b=some u->h'.get? b=some u) (hp:h.objs.size<=a) (hn:H a=none):Un fs ex H (upd H a o) h h' where
 keep:=λb u q _ _ _=>k b u q
 slot:=λb u q _ _ _=>⟨u.slots,k b u q⟩
 free:=λb u q n _=>by rw[yb (Ep (EK (Heap.lt_size q) hp))];exact n
 there:=λb u q _=>⟨u,k b u q⟩
 tups:=λb xs q=>by rw[yb (xK q hn)];exact q
 frzs:=λb u xs q=>by rw[yb (xK q hn)];exact q
 tbls:=λb ps q=>⟨#[],by rw[yb (xK q hn),q];simp⟩
theorem Un.write (mu:Mut (H x)) (he:e=x\/H e=some (.own x)) (k:∀b u,b≠e->h.get? b=some u->h'.get? b=some u) (iB:∃u,h'.get? e=some u):Un fs ex H (upd H x o) h h':=by
 have hx:∀b,H b=none->b≠x:=λb n z=>by subst z;rw[n] at mu;exact mu
 have hb:∀b,H b=none->b≠e:=λb n z=>by
  subst z
  rcases he with r|r
  ·exact hx b n r
  ·rw[n] at r;cases r
 have hm:∀b u,H b=some u->¬Mut (some u)->b≠x:=λb u q nm z=>by subst z;rw[q] at mu;exact nm mu
 refine⟨λb u q n _ _=>k b u (hb b n) q,λb u q n _ _=>⟨u.slots,k b u (hb b n) q⟩,λb u q n _=>by rw[yb (hx b n)];exact n,λb u q _=> ?_,
  λb xs q=>by rw[yb (hm b _ q λz=>z)];exact q,λb u xs q=>by rw[yb (hm b _ q λz=>z)];exact q,λb ps q=>⟨#[],by rw[yb (hm b _ q λz=>z),q];simp⟩⟩
 by_cases jk:b=e
 ·subst jk;exact iB
 ·exact⟨u,k b u jk q⟩
end
noncomputable def trk (h:Heap) (H:Hp):List Addr:=(F7 h.objs.size).filter λa=>(H a).isSome
noncomputable def zb3 (h:Heap) (H:Hp):Heap:=PySem.W.hideAll h (trk h H)
theorem zfQ (h:Heap) (H:Hp):(zb3 h H).objs.size=h.objs.size:=PySem.W.hideAll_size _ _
theorem zgG {h:Heap} {H:Hp} {b:Addr} {o:Obj} (e:h.get? b=some o) (n:H b=none):(zb3 h H).get? b=some o:=
 PySem.W.hideAll_get _ e λhm=>by
  have q:(H b).isSome=true:=(G8.mp hm).2
  rw[n] at q;simp at q
theorem ziN {h:Heap} {H:Hp} {b:Addr} {o:Obj} (e:(zb3 h H).get? b=some o):h.get? b=some o/\H b=none:=by
 have e':h.get? b=some o:=PySem.W.of_hideAll (trk h H) e
 refine⟨e',?_⟩
 cases q:H b with
 |none=>rfl
 |some x=>
  have hm:b∈trk h H:=G8.mpr ⟨Fb.mpr (Heap.lt_size e'),by simp[q]⟩
  have z:(zb3 h H).get? b=none:=PySem.W.hideAll_none (trk h H) hm
  rw[z] at e;cases e
structure Mod (K:E9) (mg:Str->Option Value) (base:Heap):Prop where
 kin:K.In base
 glob:base.Ns mainGlobals mg
 blt:∃mb,base.Ns builtinsNs mb/\∀x:Str,x≠"__name__"->mb x=bootBuiltins x
 nolimit:base.NoLimit
structure Cx where
 prog:Program
 w:World
 K:E9
 mg:Str->Option Value
 base:Heap
 A:Around
 N:List Str
 s₀:Shared
 H₀:Hp
 env:Env
 outer:List Env
 stack:List Env
 ex:List Addr
 fn:Str->Bool
 calm:Bool
 pn:List (Addr×Obj)
 xe:Value->Shared->Prop
noncomputable def frs (l:List Env):List Addr:=l.filterMap (·.frame)
noncomputable abbrev Cx.fs (X:Cx):List Addr:=frs X.outer
def Vis (sc:Scope) (x:Str):Prop:=sc.names.lookup x=some .local\/sc.names.lookup x=some .cell\/sc.names.lookup x=some .free
def Loc (sc:Scope) (x:Str):Prop:=sc.names.lookup x=some .local\/sc.names.lookup x=some .cell
def zmu (env:Env) (h:Heap) (m:Str->Option Value) (x:Str) (u:Value):Prop:=
 (env.kindOf x=some .local/\m x=some u)\/((env.kindOf x=some .cell\/env.kindOf x=some .free)/\∃c,env.cells.lookup x=some c/\h.IsCell c (some u))
structure Cx.Ok (X:Cx):Prop where
 mod:Mod X.K X.mg X.base
 kind:X.env.scope.kind= .function
 glob:X.env.globals=mainGlobals
 blt:X.env.builtins=builtinsNs
 above:X.s₀.heap.objs.size<=X.env.locals
 inj:∀x y c,X.env.cells.lookup x=some c->X.env.cells.lookup y=some c->x=y
 has:∀x,(X.env.kindOf x=some .cell\/X.env.kindOf x=some .free)->∃c,X.env.cells.lookup x=some c
 cab:∀x c,X.fn x=true->X.env.cells.lookup x=some c->X.s₀.heap.objs.size<=c
 hd:X.calm=true->X.A.handled=none
 frames:X.A.frames=some X.stack
 stk:X.stack=X.outer\/(X.stack=X.env::X.outer/\X.env.frame=some X.env.locals)
 exf:∀b∈X.ex,b≠X.env.locals/\∀x c,X.env.cells.lookup x=some c->c≠b
 bs:∀b o,X.base.get? b=some o->X.s₀.heap.get? b=some o/\X.H₀ b=none
 bsz:X.base.objs.size<=X.s₀.heap.objs.size
 noex:∀b o,X.base.get? b=some o->b∉X.ex
 exfs:∀b∈X.ex,b∉X.fs
 funs:X.s₀.heap.FunFrames X.base X.outer
 frf:∀b∈X.fs,X.H₀ b=none
structure Inv (X:Cx) (pins:List (Addr×Obj)) (σ:List (Option V)) (H:Hp) (s:Shared):Prop where
 ok:X.Ok
 os:s.os=X.s₀.os
 bare:AllBare s.gens
 base:Un X.fs X.ex X.H₀ H X.s₀.heap s.heap
 loc:∃m,s.heap.Ns X.env.locals m/\∀(i:Nat) (x:Str) (v:V),X.N[i]? =some x->σ[i]? =some (some v)->Vis X.env.scope x->∃u,zK v u/\zmu X.env s.heap m x u
 cell:∀x c,X.env.cells.lookup x=some c->∃v,s.heap.IsCell c v
 free:H X.env.locals=none
 freeC:∀x c,X.env.cells.lookup x=some c->H c=none
 pin:∀p∈X.pn++pins,s.heap.get? p.1=some p.2/\H p.1=none/\p.1≠X.env.locals/\p.1∉X.fs/\∀v,p.2.data≠ .cell v
 hok:HOk X.prog X.w H s.heap
 len:σ.length=X.N.length
section
variable {X:Cx} {pins:List (Addr×Obj)} {σ:List (Option V)} {H H':Hp} {s:Shared} {h':Heap}
theorem Cx.Ok.nofr (ok:X.Ok) {b:Addr} {o:Obj} (e:X.base.get? b=some o):b∉X.fs:=λhb=>by
 have:=(ok.funs.mem hb).1
 rw[e] at this;cases this
theorem Inv.bs (I:Inv X pins σ H s):∀b o,X.base.get? b=some o->s.heap.get? b=some o/\H b=none:=λb o e=>
 ⟨I.base.keep b o (I.ok.bs b o e).1 (I.ok.bs b o e).2 (I.ok.nofr e) (I.ok.noex b o e),I.base.free b o (I.ok.bs b o e).1 (I.ok.bs b o e).2 (I.ok.noex b o e)⟩
theorem Inv.bk (I:Inv X pins σ H s):∀b o,X.base.get? b=some o->s.heap.get? b=some o:=λb o e=>(I.bs b o e).1
theorem Inv.mod (I:Inv X pins σ H s):Mod X.K X.mg X.base:=I.ok.mod
theorem Inv.kIn (I:Inv X pins σ H s):X.K.In s.heap:=I.ok.mod.kin.keeps I.bk
theorem Inv.lt (I:Inv X pins σ H s):X.env.locals<s.heap.objs.size:=let ⟨_,hn,_⟩:=I.loc;hn.lt
theorem Inv.sz (I:Inv X pins σ H s):X.s₀.heap.objs.size<=s.heap.objs.size:=Ey I.ok.above (EL I.lt)
theorem Inv.nofs (I:Inv X pins σ H s) {a:Addr} (h:s.heap.objs.size<=a):a∉X.fs:=λhb=>by
 obtain⟨_,o,ho,_⟩:=I.ok.funs.mem hb
 exact absurd (EK (Heap.lt_size ho) (Ey I.sz h)) (Fv _)
theorem Inv.cne (I:Inv X pins σ H s):∀x c,X.env.cells.lookup x=some c->c≠X.env.locals:=λx c e z=>by
 obtain⟨v,o,ho,hd⟩:=I.cell x c e
 obtain⟨m,⟨o',es,ep,cF,fM,_⟩,_⟩:=I.loc
 rw[z,cF] at ho;cases ho;rw[fM] at hd;cases hd
theorem Inv.funs (I:Inv X pins σ H s):s.heap.FunFrames X.base X.outer:=by
 have all:∀(l:List Env),(∀b∈frs l,b∈X.fs)->X.s₀.heap.FunFrames X.base l->s.heap.FunFrames X.base l:=by
  intro l
  induction l with
  |nil=>intro _ _;trivial
  |cons env r ih=>
   intro hs hl
   obtain⟨hk,⟨L,o,hf,hn,ho,hd⟩,hr⟩:=hl
   have hL:L∈X.fs:=hs L (by unfold frs;rw[GN,hf];exact Em)
   obtain⟨sl,e⟩:=I.base.slot L o ho (I.ok.frf L hL) hL λz=>I.ok.exfs L z hL
   exact⟨hk,⟨L,_,hf,hn,e,hd⟩,ih (λb hb=>hs b (by unfold frs;rw[GN,hf];exact Ej _ hb)) hr⟩
 exact all X.outer (λ_ hb=>hb) I.ok.funs
theorem Inv.stack (I:Inv X pins σ H s):s.heap.FunFrames X.base X.stack:=by
 rcases I.ok.stk with e|⟨e,hf⟩
 ·rw[e];exact I.funs
 ·rw[e]
  obtain⟨m,hn,_⟩:=I.loc
  refine .cons (by rw[I.ok.kind];decide) hf hn ?_ I.funs
  exact Heap.get?_none_of_le (Ey I.ok.bsz I.ok.above)
theorem Inv.stkSub (I:Inv X pins σ H s):∀b∈frs X.stack,b∈X.env.locals::X.fs:=λb hb=>by
 rcases I.ok.stk with e|⟨e,hf⟩
 ·rw[e] at hb;exact Ej _ hb
 ·rw[e] at hb
  unfold frs at hb
  rw[GN,hf] at hb
  exact hb
theorem Inv.stkFree (I:Inv X pins σ H s):∀b∈frs X.stack,H b=none:=λb hb=>by
 rcases Er.mp (I.stkSub b hb) with e|hb
 ·rw[e];exact I.free
 ·obtain⟨_,o,ho,_⟩:=I.ok.funs.mem hb
  exact I.base.free b o ho (I.ok.frf b hb) λz=>I.ok.exfs b z hb
theorem Inv.step {g':Array GenState} {t':Nat} {d':Drawn} {ch:List Addr} (I:Inv X pins σ H s)
  (eD:∀b∈ch,(b∈X.ex\/X.s₀.heap.objs.size<=b)/\b≠X.env.locals/\(∀x c,X.env.cells.lookup x=some c->c≠b)/\∀p∈X.pn++pins,p.1≠b)
  (keep:∀b o,b≠X.env.locals->b∉X.fs->b∉ch->s.heap.get? b=some o->H b=none->h'.get? b=some o)
  (slot:∀b o,b≠X.env.locals->b∈X.fs->b∉ch->s.heap.get? b=some o->H b=none->∃sl,h'.get? b=some {o with slots:=sl}) (free:∀b o,b∉ch->s.heap.get? b=some o->H b=none->H' b=none)
  (there:∀b o,b∉ch->s.heap.get? b=some o->∃o',h'.get? b=some o')
  (tups:∀b xs,H b=some (.tup xs)->H' b=some (.tup xs)) (frzs:∀b o u,H b=some (.frz o u)->H' b=some (.frz o u)) (tbls:∀b ps,H b=some (.tbl ps)->∃more,H' b=some (.tbl (ps++more)))
  (ns:∀m,s.heap.Ns X.env.locals m->h'.Ns X.env.locals m) (hok:HOk X.prog X.w H' h') (hg:AllBare g'):
  Inv X pins σ H' {s with heap:=h',gens:=g',drawn:=d',toks:=t'}:=by
 have sR:∀b o,X.s₀.heap.get? b=some o->b≠X.env.locals:=λb o e=>Ep (EK (Heap.lt_size e) I.ok.above)
 have lT:∀b o,X.s₀.heap.get? b=some o->b∉X.ex->b∉ch:=λb o e hx hb=>by
  rcases (eD b hb).1 with z|z
  ·exact hx z
  ·exact absurd (EK (Heap.lt_size e) z) (Fv _)
 have cellK:∀x c,X.env.cells.lookup x=some c->∀v,s.heap.IsCell c v->h'.IsCell c v:=λx c e v ⟨o,ho,hd⟩=>by
  have jW:c∉ch:=λz=>(eD c z).2.2.1 x c e rfl
  by_cases hc:c∈X.fs
  ·obtain⟨sl,q⟩:=slot c o (I.cne x c e) hc jW ho (I.freeC x c e)
   exact⟨_,q,hd⟩
  ·exact⟨o,keep c o (I.cne x c e) hc jW ho (I.freeC x c e),hd⟩
 refine⟨I.ok,I.os,hg,⟨λb o e n hb hx=> ?_,λb o e n hb hx=> ?_,λb o e n hx=> ?_,λb o e hx=> ?_,λb xs e=>tups b xs (I.base.tups b xs e),λb o xs e=>frzs b o xs (I.base.frzs b o xs e),λb ps e=> ?_⟩,?_,λx c e=> ?_,?_,λx c e=> ?_,λp hp=> ?_,hok,I.len⟩
 ·exact keep b o (sR b o e) hb (lT b o e hx) (I.base.keep b o e n hb hx) (I.base.free b o e n hx)
 ·obtain⟨sl,e1⟩:=I.base.slot b o e n hb hx
  obtain⟨sl',e2⟩:=slot b _ (sR b o e) hb (lT b o e hx) e1 (I.base.free b o e n hx)
  exact⟨sl',e2⟩
 ·obtain⟨o',e1⟩:=I.base.there b o e hx
  exact free b o' (lT b o e hx) e1 (I.base.free b o e n hx)
 ·obtain⟨o',e1⟩:=I.base.there b o e hx
  exact there b o' (lT b o e hx) e1
 ·obtain⟨m1,e1⟩:=I.base.tbls b ps e
  obtain⟨m2,e2⟩:=tbls b _ e1
  exact⟨m1++m2,by rw[e2,Hy]⟩
 ·obtain⟨m,hn,hl⟩:=I.loc
  refine⟨m,ns m hn,λi x v e1 e2 e3=> ?_⟩
  obtain⟨u,r,l⟩:=hl i x v e1 e2 e3
  refine⟨u,r,?_⟩
  rcases l with l|⟨k,c,e,z⟩
  ·exact .inl l
  ·exact .inr ⟨k,c,e,cellK x c e _ z⟩
 ·obtain⟨v,z⟩:=I.cell x c e
  exact⟨v,cellK x c e v z⟩
 ·obtain⟨m,⟨o,_,_,ho,_⟩,_⟩:=I.loc
  exact free _ o (λz=>(eD _ z).2.1 rfl) ho I.free
 ·obtain⟨v,o,ho,hd⟩:=I.cell x c e
  exact free c o (λz=>(eD c z).2.2.1 x c e rfl) ho (I.freeC x c e)
 ·obtain⟨e,n,ne,nf,d⟩:=I.pin p hp
  have jW:p.1∉ch:=λz=>(eD p.1 z).2.2.2 p hp rfl
  exact⟨keep p.1 p.2 ne nf jW e n,free p.1 p.2 jW e n,ne,nf,d⟩
theorem Inv.un {t':Nat} (I:Inv X pins σ H s) (u:Un X.fs [] H H' s.heap h') (hok:HOk X.prog X.w H' h'):Inv X pins σ H' {s with heap:=h',toks:=t'}:=by
 obtain⟨m,⟨o,es,ep,ho,r⟩,_⟩:=id I.loc
 obtain⟨sl,hL⟩:=u.any ho I.free (by simp)
 exact I.step (g':=s.gens) (d':=s.drawn) (ch:=[]) (λ_ z=>nomatch z) (λb o _ hb _ e n=>u.keep b o e n hb (by simp)) (λb o _ hb _ e n=>u.slot b o e n hb (by simp)) (λb o _ e n=>u.free b o e n (by simp)) (λb o _ e=>u.there b o e (by simp)) u.tups u.frzs u.tbls (λm' hm=>by
  obtain⟨o',es',ep',cF,r'⟩:=hm
  rw[ho] at cF;cases cF
  exact⟨_,es',ep',hL,r'⟩) hok I.bare
theorem Inv.call {g':Array GenState} {t':Nat} {d':Drawn} {ch:List Addr} (I:Inv X pins σ H s) (u:Un (frs X.stack) ch H H' s.heap h') (hok:HOk X.prog X.w H' h') (hg:AllBare g')
  (eD:∀b∈ch,(b∈X.ex\/X.s₀.heap.objs.size<=b)/\b≠X.env.locals/\(∀x c,X.env.cells.lookup x=some c->c≠b)/\∀p∈X.pn++pins,p.1≠b):
  Inv X pins σ H' {s with heap:=h',gens:=g',drawn:=d',toks:=t'}:=by
 obtain⟨m,⟨o,es,ep,ho,r⟩,_⟩:=id I.loc
 obtain⟨sl,hL⟩:=u.any ho I.free λz=>(eD _ z).2.1 rfl
 exact I.step (ch:=ch) eD (λb o hL hb hc e n=>u.keep b o e n (λz=>(Er.mp (I.stkSub b z)).elim hL hb) hc) (λb o _ _ hc e n=>u.any e n hc) (λb o hc e n=>u.free b o e n hc) (λb o hc e=>u.there b o e hc) u.tups u.frzs u.tbls (λm' hm=>by
  obtain⟨o',es',ep',cF,r'⟩:=hm
  rw[ho] at cF;cases cF
  exact⟨_,es',ep',hL,r'⟩) hok hg
theorem Inv.turned {t':Nat} {it:Addr} (I:Inv X pins σ H s) (k:∀b o,b≠it->s.heap.get? b=some o->h'.get? b=some o) (hn:H it=none) (hL:it≠X.env.locals)
  (h1:it∈X.ex\/X.s₀.heap.objs.size<=it) (h2:∀x c,X.env.cells.lookup x=some c->c≠it) (h3:∀p∈X.pn++pins,p.1≠it):Inv X pins σ H {s with heap:=h',toks:=t'}:=by
 have jV:∀b u,H b=some u->b≠it:=λb u e z=>by rw[z,hn] at e;cases e
 refine I.step (g':=s.gens) (d':=s.drawn) (ch:=[it]) (λb hb=> ?_) (λb o _ _ hc e _=>k b o (λz=>hc (by simp[z])) e) (λb o _ _ hc e _=>⟨o.slots,k b o (λz=>hc (by simp[z])) e⟩) (λ_ _ _ _ n=>n)
  (λb o hc e=>⟨o,k b o (λz=>hc (by simp[z])) e⟩) (λ_ _ e=>e) (λ_ _ _ e=>e) (λb ps e=>⟨#[],by rw[e];simp⟩) (λm hm=> ?_) (λb u e=> ?_) I.bare
 ·have e:b=it:=by simpa using hb
  subst e
  exact⟨h1,hL,h2,h3⟩
 ·obtain⟨o,es,ep,ho,r⟩:=hm
  exact⟨o,es,ep,k _ o (Gw hL) ho,r⟩
 ·refine (I.hok b u e).stay (λc v hc q=>k c v ?_ q) (λ_ q=>q) λ_ _ q=>q
  rcases hc with z|z
  ·rw[z];exact jV b u e
  ·exact jV c _ z
theorem Inv.tok (I:Inv X pins σ H s) (t:Nat):Inv X pins σ H {s with toks:=t}:=I.un (h':=s.heap) (t':=t) Un.refl I.hok
theorem Inv.kept {t':Nat} (I:Inv X pins σ H s) (k:∀b u,s.heap.get? b=some u->h'.get? b=some u):Inv X pins σ H {s with heap:=h',toks:=t'}:=I.un (Un.kept k) (I.hok.kept k)
theorem Inv.laid {a:Addr} {o:HO} {t':Nat} (I:Inv X pins σ H s) (k:∀b u,s.heap.get? b=some u->h'.get? b=some u) (hp:s.heap.objs.size<=a) (new:ym X.prog X.w (upd H a o) h' a o):
  Inv X pins σ (upd H a o) {s with heap:=h',toks:=t'}:=I.un (Un.laid k hp (I.hok.fresh hp)) (I.hok.laid k hp new)
theorem Inv.write {x e:Addr} {o:HO} {t':Nat} (I:Inv X pins σ H s) (mu:Mut (H x)) (he:e=x\/H e=some (.own x)) (k:∀b u,b≠e->s.heap.get? b=some u->h'.get? b=some u) (iB:∃u,h'.get? e=some u)
  (new:ym X.prog X.w (upd H x o) h' x o):Inv X pins σ (upd H x o) {s with heap:=h',toks:=t'}:=I.un (Un.write mu he k iB) (I.hok.write mu he k iB new)
theorem Inv.weak {σ':List (Option V)} (I:Inv X pins σ H s) (hl:σ'.length=σ.length) (w:∀(i:Nat) v,σ'[i]? =some (some v)->σ[i]? =some (some v)):Inv X pins σ' H s:=
 ⟨I.ok,I.os,I.bare,I.base,let ⟨m,hn,gf⟩:=I.loc;⟨m,hn,λi x v e1 e2 e3=>gf i x v e1 (w i v e2) e3⟩,I.cell,I.free,I.freeC,I.pin,I.hok,hl.trans I.len⟩
theorem Inv.pins_of {pins':List (Addr×Obj)} (I:Inv X pins σ H s) (h:∀p∈pins',s.heap.get? p.1=some p.2/\H p.1=none/\p.1≠X.env.locals/\p.1∉X.fs/\∀v,p.2.data≠ .cell v):Inv X pins' σ H s:=
 ⟨I.ok,I.os,I.bare,I.base,I.loc,I.cell,I.free,I.freeC,λp hp=>(F5.mp hp).elim (λz=>I.pin p (GA _ z)) (h p),I.hok,I.len⟩
theorem zc5 {N:List Str} (hN:N.Nodup) {i j:Nat} {x:Str} (a:N[i]? =some x) (b:N[j]? =some x):i=j:=by
 obtain⟨h1,e1⟩:=E8.mp a
 obtain⟨h2,e2⟩:=E8.mp b
 exact (FE hN).mp (e1.trans e2.symm)
theorem zbr {M:Model} {A:Around} {E:Value->Shared->Prop} {i:Nat} {x:Str} {v:V} {u:Value} {Q:Unit->Shared->Prop} (I:Inv X pins σ H s) (hN:X.N.Nodup) (hi:X.N[i]? =some x) (hx:Loc X.env.scope x) (r:zK v u)
  (h:∀s',Inv X pins (σ.set i (some v)) H s'->(∃a,Heap.SameBut a s.heap s'.heap/\(a=X.env.locals\/X.env.cells.lookup x=some a))->Q () s') (hf:X.fn x=true\/X.env.scope.names.lookup x=some .local:=by first|exact .inl rfl|exact .inr rfl|assumption):wpAny M A (storeName X.env x u) Q E s:=by
 obtain⟨m,hn,hl⟩:=id I.loc
 have qz:(X.env.scope.kind== .class||(X.env.scope.kind== .module&&X.env.locals !=X.env.globals))=false:=by rw[I.ok.kind];rfl
 have hiσ:i<σ.length:=by rw[I.len];exact (E8.mp hi).1
 have cne:=I.cne
 have tracked:∀{a:Addr} {h':Heap},(∃o,s.heap.get? a=some o/\H a=none)->Heap.SameBut a s.heap h'->HOk X.prog X.w H h':=λ{a h'} ha hs b ob e=>by
  obtain⟨_,_,iA⟩:=ha
  refine (I.hok b ob e).stay (λc w' hc q=>(hs.2 c ?_).trans q) (λ_ q=>q) λ_ _ q=>q
  rintro rfl
  rcases hc with rfl|hc
  ·rw[iA] at e;cases e
  ·rw[iA] at hc;cases hc
 rcases hx with hk|hk
 ·refine wpAny_storeName_local hk hn (λh' Br hs=> ?_) qz
  obtain⟨oL,_,_,ki,_⟩:=id hn
  refine h _ ⟨I.ok,I.os,I.bare,⟨λb o e n hb hx=> ?_,λb o e n hb hx=> ?_,I.base.free,λb o e hx=> ?_,I.base.tups,I.base.frzs,I.base.tbls⟩,⟨_,Br,λj y v' e1 e2 e3=> ?_⟩,λy c e=> ?_,I.free,I.freeC,λp hp=> ?_,tracked ⟨oL,ki,I.free⟩ hs,by simpa using I.len⟩ ⟨_,hs,.inl rfl⟩
  ·exact (hs.2 b (Ep (EK (Heap.lt_size e) I.ok.above))).trans (I.base.keep b o e n hb hx)
  ·obtain⟨sl,e1⟩:=I.base.slot b o e n hb hx
   exact⟨sl,(hs.2 b (Ep (EK (Heap.lt_size e) I.ok.above))).trans e1⟩
  ·obtain⟨o',e1⟩:=I.base.there b o e hx
   exact⟨o',(hs.2 b (Ep (EK (Heap.lt_size e) I.ok.above))).trans e1⟩
  ·by_cases hj:j=i
   ·subst hj
    rw[hi] at e1;cases e1
    rw[Iu hiσ] at e2
    cases e2
    exact⟨u,r,.inl ⟨hk,by simp⟩⟩
   ·rw[Hm (Gw hj)] at e2
    obtain⟨u',r',q⟩:=hl j y v' e1 e2 e3
    refine⟨u',r',?_⟩
    rcases q with⟨k,e⟩|⟨k,c,e,z⟩
    ·refine .inl ⟨k,?_⟩
     have:y≠x:=λe=>hj (zc5 hN e1 (e ▸ hi))
     simp[this,e]
    ·exact .inr ⟨k,c,e,z.sameBut hs (cne y c e)⟩
  ·obtain⟨w',z⟩:=I.cell y c e
   exact⟨w',z.sameBut hs (cne y c e)⟩
  ·obtain⟨e,n,ne,nf,d⟩:=I.pin p hp
   exact⟨(hs.2 p.1 ne).trans e,n,ne,nf,d⟩
 ·have qw:X.fn x=true:=by
   rcases hf with z|z
   ·exact z
   ·rw[z] at hk;cases hk
  obtain⟨c,hc⟩:=I.ok.has x (.inl hk)
  obtain⟨w',z⟩:=I.cell x c hc
  refine wpAny_storeName_cell I.ok.kind hk hc z (λh' cZ hs=> ?_)
  obtain⟨oc,tW,pV⟩:=id z
  refine h {s with heap:=h'} ⟨I.ok,I.os,I.bare,⟨λb o e n hb hx=> ?_,λb o e n hb hx=> ?_,I.base.free,λb o e hx=> ?_,I.base.tups,I.base.frzs,I.base.tbls⟩,⟨m,hn.sameBut hs (Gw (cne x c hc)),λj y v' e1 e2 e3=> ?_⟩,λy c' e=> ?_,I.free,I.freeC,λp hp=> ?_,tracked ⟨oc,tW,I.freeC x c hc⟩ hs,by simpa using I.len⟩ ⟨c,hs,.inr hc⟩
  ·exact (hs.2 b (Ep (EK (Heap.lt_size e) (I.ok.cab x c qw hc)))).trans (I.base.keep b o e n hb hx)
  ·obtain⟨sl,e1⟩:=I.base.slot b o e n hb hx
   exact⟨sl,(hs.2 b (Ep (EK (Heap.lt_size e) (I.ok.cab x c qw hc)))).trans e1⟩
  ·obtain⟨o',e1⟩:=I.base.there b o e hx
   exact⟨o',(hs.2 b (Ep (EK (Heap.lt_size e) (I.ok.cab x c qw hc)))).trans e1⟩
  ·by_cases hj:j=i
   ·subst hj
    rw[hi] at e1;cases e1
    rw[Iu hiσ] at e2
    cases e2
    exact⟨u,r,.inr ⟨.inl hk,c,hc,cZ⟩⟩
   ·rw[Hm (Gw hj)] at e2
    obtain⟨u',r',q⟩:=hl j y v' e1 e2 e3
    refine⟨u',r',?_⟩
    rcases q with q|⟨k,c',e,z'⟩
    ·exact .inl q
    ·refine .inr ⟨k,c',e,z'.sameBut hs ?_⟩
     rintro rfl
     exact hj (zc5 hN e1 (I.ok.inj _ _ _ e hc ▸ hi))
  ·by_cases gj:c'=c
   ·subst gj;exact⟨_,cZ⟩
   ·obtain⟨w2,z2⟩:=I.cell y c' e
    exact⟨w2,z2.sameBut hs gj⟩
  ·obtain⟨e,n,ne,nf,d⟩:=I.pin p hp
   refine⟨(hs.2 p.1 ?_).trans e,n,ne,nf,d⟩
   intro q
   rw[q,tW] at e
   have q':oc=p.2:=EE e
   exact d w' (by rw[<-q'];exact pV)
theorem Vi {M:Model} {A:Around} {E:Value->Shared->Prop} {i:Nat} {x:Str} {v:V} {u:Value} {Q:Unit->Shared->Prop} (I:Inv X pins σ H s) (hN:X.N.Nodup) (hi:X.N[i]? =some x) (hx:Loc X.env.scope x) (r:zK v u)
  (h:∀s',Inv X pins (σ.set i (some v)) H s'->Q () s') (hf:X.fn x=true\/X.env.scope.names.lookup x=some .local:=by first|exact .inl rfl|exact .inr rfl|assumption):wpAny M A (storeName X.env x u) Q E s:=
 zbr I hN hi hx r (λs' I' _=>h s' I') hf
theorem Inv.call' {s':Shared} {ch:List Addr} (I:Inv X pins σ H s) (ho:s'.os=s.os) (u:Un (frs X.stack) ch H H' s.heap s'.heap) (hok:HOk X.prog X.w H' s'.heap) (hg:AllBare s'.gens)
  (eD:∀b∈ch,(b∈X.ex\/X.s₀.heap.objs.size<=b)/\b≠X.env.locals/\(∀x c,X.env.cells.lookup x=some c->c≠b)/\∀p∈X.pn++pins,p.1≠b):Inv X pins σ H' s':=by
 obtain⟨h',g',d',t',o'⟩:=s'
 have e:o'=s.os:=ho
 subst e
 exact I.call (g':=g') (t':=t') (d':=d') u hok hg eD
end
abbrev XK:=Value->Option Addr->Hp->Prop
abbrev St:=List (Option V)
abbrev VK:=V->Hp->Prop
abbrev TE:=St->Hp->VK->Prop
abbrev TT:=St->Hp->(Bool->Hp->Prop)->Prop
abbrev TA:=St->Hp->(List V->Hp->Prop)->Prop
structure VO where
 nx:St->Hp->Prop
 rt:VK
 bk:St->Hp->Prop:=λ_ _=>False
 ct:St->Hp->Prop:=λ_ _=>False
abbrev TS:=VO->St->Hp->Prop
def EP (X:Cx) (pins:List (Addr×Obj)) (σ:St) (Q:VK) (u:Value) (s':Shared):Prop:=∃v H',Inv X pins σ H' s'/\zK v u/\Q v H'
def TP (X:Cx) (pins:List (Addr×Obj)) (σ:St) (Q:Bool->Hp->Prop) (b:Bool) (s':Shared):Prop:=∃H',Inv X pins σ H' s'/\Q b H'
def AP (X:Cx) (pins:List (Addr×Obj)) (σ:St) (Q:List V->Hp->Prop) (us:List Value) (s':Shared):Prop:=∃vs H',Inv X pins σ H' s'/\zT vs us/\Q vs H'
def SP (X:Cx) (pins:List (Addr×Obj)) (D:VO) (f:Flow) (s':Shared):Prop:=
 match f with
 | .next=>∃σ' H',Inv X pins σ' H' s'/\D.nx σ' H'
 | .brk=>∃σ' H',Inv X pins σ' H' s'/\D.bk σ' H'
 | .cont=>∃σ' H',Inv X pins σ' H' s'/\D.ct σ' H'
 | .ret u=>∃v σ' H',Inv X pins σ' H' s'/\zK v u/\D.rt v H'
def PE (X:Cx) (e:Expr) (t:TE):Prop:=
 ∀(pins:List (Addr×Obj)) (s:Shared) (σ:St) (H:Hp) (Q:VK),Inv X pins σ H s->t σ H Q->wpAny (model X.prog X.w) X.A (eval e X.env) (EP X pins σ Q) X.xe s
def PT (X:Cx) (e:Expr) (t:TT):Prop:=
 ∀(pins:List (Addr×Obj)) (s:Shared) (σ:St) (H:Hp) (Q:Bool->Hp->Prop),Inv X pins σ H s->t σ H Q->wpAny (model X.prog X.w) X.A (isTrue e X.env (eval e X.env)) (TP X pins σ Q) X.xe s
def PW (X:Cx) (e:Expr) (t:TT):Prop:=
 ∀(whole:Sem Value) (pins:List (Addr×Obj)) (s:Shared) (σ:St) (H:Hp) (Q:Bool->Hp->Prop),Inv X pins σ H s->t σ H Q->wpAny (model X.prog X.w) X.A (isTrue e X.env whole) (TP X pins σ Q) X.xe s
theorem PW.pt {X:Cx} {e:Expr} {t:TT} (h:PW X e t):PT X e t:=h _
def PA (X:Cx) (es:List Expr) (t:TA):Prop:=
 ∀(pos:Pos) (pins:List (Addr×Obj)) (s:Shared) (σ:St) (H:Hp) (Q:List V->Hp->Prop),Inv X pins σ H s->t σ H Q->wpAny (model X.prog X.w) X.A (spliced (backTo pos (starEach es X.env))) (AP X pins σ Q) X.xe s
def PS (X:Cx) (st:Stmt) (t:TS):Prop:=
 ∀(pins:List (Addr×Obj)) (s:Shared) (σ:St) (H:Hp) (D:VO),Inv X pins σ H s->t D σ H->wpAny (model X.prog X.w) X.A (exec st X.env) (SP X pins D) X.xe s
def PSs (X:Cx) (st:List Stmt) (t:TS):Prop:=
 ∀(pins:List (Addr×Obj)) (s:Shared) (σ:St) (H:Hp) (D:VO),Inv X pins σ H s->t D σ H->wpAny (model X.prog X.w) X.A (execs st X.env) (SP X pins D) X.xe s
theorem thn {α:Type} {t:Sem α} {Q Q':α->Shared->Prop} {M:Model} {A:Around} {E:Value->Shared->Prop} {s:Shared} (h:wpAny M A t Q E s) (hQ:∀a s,Q a s->Q' a s):wpAny M A t Q' E s:=wpAny_mono h hQ λ_ _ x=>x
section
variable {X:Cx}
theorem bin {a b:Expr} {ta tb:TE} (ha:PE X a ta) (hb:PE X b tb) {pins:List (Addr×Obj)} {s:Shared} {σ:St} {H:Hp} {R:V->V->Hp->Prop} (I:Inv X pins σ H s) (h:ta σ H λx H1=>tb σ H1 λy H2=>R x y H2)
  {α:Type} {Q:α->Shared->Prop} {f:Value->Value->Sem α}
  (hf:∀v u s2 x y H2,Inv X pins σ H2 s2->zK x v->zK y u->R x y H2->wpAny (model X.prog X.w) X.A (f v u) Q X.xe s2):
  wpAny (model X.prog X.w) X.A (eval a X.env) (λv s₁=>wpAny (model X.prog X.w) X.A (eval b X.env) (λu s₂=>wpAny (model X.prog X.w) X.A (f v u) Q X.xe s₂) X.xe s₁) X.xe s:=by
 refine thn (ha pins s σ H _ I h) ?_
 rintro v s1 ⟨x,H1,I1,r1,q1⟩
 refine thn (hb pins s1 σ H1 _ I1 q1) ?_
 rintro u s2 ⟨y,H2,I2,r2,q2⟩
 exact hf v u s2 x y H2 I2 r1 r2 q2
def zkt (i:Nat):TE:=λσ H Q=>∃v,σ[i]? =some (some v)/\Q v H
def tC (v:V):TE:=λ_ H Q=>Q v H
theorem zku {i:Nat} {x:Str} {pos:Pos} (hN:X.N[i]? =some x) (hv:Vis X.env.scope x) (hd:(x==("__debug__":Str))=false:=by decide) (er:(x==("__classdict__":Str))=false:=by decide):PE X (.Name x pos) (zkt i):=by
 intro pins s σ H Q I h
 obtain⟨v,e,h⟩:=h
 obtain⟨m,hn,hl⟩:=I.loc
 obtain⟨u,r,l⟩:=hl i x v hN e hv
 have fin:EP X pins σ Q u s:=⟨v,H,I,r,h⟩
 rcases l with⟨hk,hm⟩|⟨hk,c,hc,iD⟩
 ·exact wpAny_Name (wpAny_loadName_local I.ok.kind hk hn hm fin) hd
 ·rcases hk with hk|hk
  ·exact wpAny_Name (wpAny_loadName_cell I.ok.kind hk hc iD fin) hd
  ·exact wpAny_Name (wpAny_loadName_free I.ok.kind hk hc iD fin er) hd
theorem zn {i j pos}:PE X (.Constant (.int i) j pos) (tC (.int i)):=λ_ _ _ H _ I h=>wpAny_Constant_int ⟨.int i,H,I.tok _,⟨_,rfl⟩,h⟩
theorem Tq {b j pos}:PE X (.Constant (.bool b) j pos) (tC (.bl b)):=λ_ _ _ H _ I h=>Constant_bool ⟨.bl b,H,I,rfl,h⟩
def Gl (X:Cx) (x:Str):Prop:=X.env.kindOf x=some .globalImplicit
theorem ze0 {E:Value->Shared->Prop} {pins:List (Addr×Obj)} {s:Shared} {σ:St} {H:Hp} {x:Str} {u:Value} {pos:Pos} {Q:Value->Shared->Prop} (I:Inv X pins σ H s) (hg:Gl X x) (hm:X.mg x=some u) (h:Q u s)
  (hd:(x==("__debug__":Str))=false:=by decide):wpAny (model X.prog X.w) X.A (eval (.Name x pos) X.env) Q E s:=
 Calls.Name_function_global I.ok.kind hg (Calls.loadGlobal_global (by rw[I.ok.glob];exact I.mod.glob.keeps I.bk) hm h) hd
theorem ZT {E:Value->Shared->Prop} {pins:List (Addr×Obj)} {s:Shared} {σ:St} {H:Hp} {x:Str} {u:Value} {pos:Pos} {Q:Value->Shared->Prop} (I:Inv X pins σ H s) (hg:Gl X x) (hm:X.mg x=none) (hv:bootBuiltins x=some u) (h:Q u s)
  (hn:x≠"__name__":=by decide) (hd:(x==("__debug__":Str))=false:=by decide):wpAny (model X.prog X.w) X.A (eval (.Name x pos) X.env) Q E s:=by
 obtain⟨mb,h1,h2⟩:=I.mod.blt
 exact Calls.Name_function_global I.ok.kind hg (Calls.loadGlobal_builtin (by rw[I.ok.glob];exact I.mod.glob.keeps I.bk) hm (by rw[I.ok.blt];exact h1.keeps I.bk) ((h2 x hn).trans hv) h) hd
theorem ze1 {x:Str} {v:V} {u:Value} {pos:Pos} (hg:Gl X x) (hm:X.mg x=some u) (r:zK v u) (hd:(x==("__debug__":Str))=false:=by decide):PE X (.Name x pos) (tC v):=
 λ_ _ _ H _ I h=>ze0 I hg hm ⟨v,H,I,r,h⟩ hd
theorem UW {x:Str} {v:V} {u:Value} {pos:Pos} (hg:Gl X x) (hm:X.mg x=none) (hv:bootBuiltins x=some u) (r:zK v u) (hn:x≠"__name__":=by decide) (hd:(x==("__debug__":Str))=false:=by decide):PE X (.Name x pos) (tC v):=
 λ_ _ _ H _ I h=>ZT I hg hm hv ⟨v,H,I,r,h⟩ hn hd
def t2I (ta tb:TE) (k:Int->Int->Hp->Prop):St->Hp->Prop:=λσ H=>ta σ H λx H1=>tb σ H1 λy H2=>∃i j,x= .int i/\y= .int j/\k i j H2
variable {a b:Expr} {ta tb:TE} {pos:Pos}
def PC (X:Cx) (op:CmpOp) (a b:Expr) (t:TE):Prop:=
 ∀(pins:List (Addr×Obj)) (s:Shared) (σ:St) (H:Hp) (Q:VK),Inv X pins σ H s->t σ H Q->
  wpAny (model X.prog X.w) X.A (eval a X.env) (λv s₁=>wpAny (model X.prog X.w) X.A (eval b X.env) (λu s₂=>wpAny (model X.prog X.w) X.A (compareOp op v u) (EP X pins σ Q) X.xe s₂) X.xe s₁) X.xe s
theorem zgH (b:Expr) {op:CmpOp} (h:op≠ .In) (h2:op≠ .NotIn):behindInMarks op b=false:=by
 have e1:(op==CmpOp.In)=false:=by cases op<;>first|rfl|exact absurd rfl h
 have e2:(op==CmpOp.NotIn)=false:=by cases op<;>first|rfl|exact absurd rfl h2
 cases b<;>simp[behindInMarks,e1,e2]
def zc6 (p:Int->Int->Bool) (ta tb:TE):TE:=λσ H Q=>t2I ta tb (λi j H2=>Q (.bl (p i j)) H2) σ H
noncomputable abbrev tLt:TE->TE->TE:=zc6 λi j=>decide (i<j)
noncomputable abbrev tLe:TE->TE->TE:=zc6 λi j=>decide (i<=j)
noncomputable abbrev tGt:TE->TE->TE:=zc6 λi j=>decide (j<i)
noncomputable abbrev tGe:TE->TE->TE:=zc6 λi j=>decide (j<=i)
noncomputable abbrev zlN:TE->TE->TE:=zc6 λi j=>decide (i=j)
noncomputable abbrev zlO:TE->TE->TE:=zc6 λi j=> !decide (i=j)
theorem zb4 {op:CmpOp} {p:Int->Int->Bool} (ha:PE X a ta) (hb:PE X b tb)
  (rule:∀(i j:Int) (t u:Tok) (Q:Value->Shared->Prop) (s:Shared),Q (.bool (p i j)) s->wpAny (model X.prog X.w) X.A (compareOp op (.int i t) (.int j u)) Q X.xe s):PC X op a b (zc6 p ta tb):=by
 intro pins s σ H Q I h
 refine bin ha hb I h λv u s2 x y H2 I2 rx ry q=> ?_
 obtain⟨i,j,rfl,rfl,q⟩:=q
 obtain⟨t,rfl⟩:=rx
 obtain⟨t',rfl⟩:=ry
 exact rule i j t t' _ s2 ⟨.bl _,H2,I2,rfl,q⟩
theorem zjV (ha:PE X a ta) (hb:PE X b tb):PC X .Lt a b (tLt ta tb):=zb4 ha hb λ_ _ _ _ _ _ h=>lt_int h
theorem ze2 (ha:PE X a ta) (hb:PE X b tb):PC X .Gt a b (tGt ta tb):=zb4 ha hb λ_ _ _ _ _ _ h=>gt_int h
theorem VP (ha:PE X a ta) (hb:PE X b tb):PC X .Eq a b (zlN ta tb):=zb4 ha hb λ_ _ _ _ _ _ h=>eq_int (by rw[IA];exact h)
theorem zb5 (ha:PE X a ta) (hb:PE X b tb):PC X .NotEq a b (zlO ta tb):=zb4 ha hb λ_ _ _ _ _ _ h=>ne_int (by rw[bne,IA];exact h)
def tB (t:TE):TT:=λσ H Q=>t σ H λx H1=>∃c,x= .bl c/\Q c H1
theorem we {op:CmpOp} {t:TE} (h:PC X op a b t) (h1:behindInMarks op b=false:=by first|exact zgH _ ∅ ∅|rfl):PT X (.Compare a [op] [b] pos) (tB t):=by
 intro pins s σ H Q I hw
 refine wpAny_isTrue_Compare1 (thn (h pins s σ H _ I hw) λv s1 h1=>thn h1 λu s2 h2=>thn h2 ?_) h1
 rintro c s3 ⟨x,H1,I1,r1,q1⟩
 obtain⟨d,rfl,q⟩:=q1
 cases r1
 exact wpAny_truthy_bool ⟨H1,I1,q⟩
theorem Tr {e:Expr} {t:TE} (h:PE X e t) (he:∀whole,isTrue e X.env whole=(do let v <-whole;standAt e.pos;holding [v] (truthy v)):=by intro _;rfl):PT X e (tB t):=by
 intro pins s σ H Q I hw
 refine isTrue_plain (thn (h pins s σ H _ I hw) ?_) (he _)
 rintro v s1 ⟨x,H1,I1,r1,q1⟩
 obtain⟨d,rfl,q⟩:=q1
 cases r1
 exact wpAny_truthy_bool ⟨H1,I1,q⟩
variable {tA tB':TT} {rest:List Expr}
def zlP (t u:TT):TT:=λσ H Q=>t σ H λc H1=>if c=true then u σ H1 Q else Q false H1
def tOr (t u:TT):TT:=λσ H Q=>t σ H λc H1=>if c=true then Q true H1 else u σ H1 Q
def zlQ (t:TT):TT:=λσ H Q=>t σ H λc H1=>Q (!c) H1
theorem ziO (ha:PT X a tA):PW X (.BoolOp .And [a] pos) tA:=by
 intro wh pins s σ H Q I h
 refine isTrue_and (thn (ha pins s σ H Q I h) λc s1 e=> ?_)
 cases c with
 |true=>exact isTrue_and_nil e
 |false=>exact e
theorem Ts (ha:PT X a tA):PW X (.BoolOp .Or [a] pos) tA:=by
 intro wh pins s σ H Q I h
 refine isTrue_or (thn (ha pins s σ H Q I h) λc s1 e=> ?_)
 cases c with
 |false=>exact isTrue_or_nil e
 |true=>exact e
theorem zkv (ha:PT X a tA) (hb:PW X (.BoolOp .And (b::rest) pos) tB'):PW X (.BoolOp .And (a::b::rest) pos) (zlP tA tB'):=by
 intro wh pins s σ H Q I h
 refine isTrue_and (thn (ha pins s σ H _ I h) ?_)
 rintro c s1 ⟨H1,I1,q1⟩
 cases c with
 |true=>exact hb wh pins s1 σ H1 Q I1 q1
 |false=>exact⟨H1,I1,q1⟩
theorem zbs (ha:PT X a tA) (hb:PW X (.BoolOp .Or (b::rest) pos) tB'):PW X (.BoolOp .Or (a::b::rest) pos) (tOr tA tB'):=by
 intro wh pins s σ H Q I h
 refine isTrue_or (thn (ha pins s σ H _ I h) ?_)
 rintro c s1 ⟨H1,I1,q1⟩
 cases c with
 |true=>exact⟨H1,I1,q1⟩
 |false=>exact hb wh pins s1 σ H1 Q I1 q1
theorem zb6 (ha:PT X a tA):PT X (.UnaryOp .Not a pos) (zlQ tA):=by
 intro pins s σ H Q I h
 exact isTrue_not (ha pins s σ H (λc H1=>Q (!c) H1) I h)
end
def SqL (K:E9) (H:Hp) (a:Addr) (xs:List V):Prop:=
 Rd H a (.lst xs)\/
  ∃(o:Obj) (ae:Array Value) (n:Nat),K.lookup a=some o/\o.cls= .type "list"/\o.dict=none/\o.data= .seq ae n/\ae.size<=sizeLine/\zT xs ae.toList
def SqT (K:E9) (H:Hp) (a:Addr) (xs:List V):Prop:=
 Rd H a (.tup xs)\/
  ∃(o:Obj) (ae:Array Value) (n:Nat),K.lookup a=some o/\o.cls= .type "tuple"/\o.data= .seq ae n/\ae.size<=sizeLine/\zT xs ae.toList
def SqX (K:E9) (H:Hp) (a:Addr) (xs:List V):Prop:=
 Rd H a (.lst xs)\/∃(ae:Array Value) (n:Nat),K.lookup a=some {cls:= .type "list",data:= .seq ae n}/\ae.size<=sizeLine/\zT xs ae.toList
theorem SqX.sql {K:E9} {H:Hp} {a:Addr} {xs:List V} (h:SqX K H a xs):SqL K H a xs:=by
 rcases h with h|⟨ae,n,hk,hz,r⟩
 ·exact .inl h
 ·exact .inr ⟨_,ae,n,hk,rfl,rfl,rfl,hz,r⟩
theorem SqX.of {K:E9} {H:Hp} {a:Addr} {xs:List V} (h:H a=some (.lst xs)):SqX K H a xs:= .inl (.inl h)
noncomputable def zmv:Value->Option V
 | .none=>some .non
 | .bool b=>some (.bl b)
 | .int i _=>some (.int i)
 | .str x _=>some (.str x)
 | .bytes b _=>some (.byt b)
 | .float b _=>some (.flt b)
 | .ref a=>some (.ref a)
 | .type n=>some (.ty n)
 |_=>none
theorem zK.abs {x:V} {u:Value} (r:zK x u):zmv u=some x:=by
 cases x with
 |non=>cases r;rfl
 |bl _=>cases r;rfl
 |int _=>obtain⟨t,rfl⟩:=r;rfl
 |str _=>obtain⟨t,rfl⟩:=r;rfl
 |byt _=>obtain⟨t,rfl⟩:=r;rfl
 |flt _=>obtain⟨t,rfl⟩:=r;rfl
 |ref _=>cases r;rfl
 |ty _=>cases r;rfl
theorem zK.inj {x y:V} {u:Value} (r:zK x u) (q:zK y u):x=y:=EE (r.abs.symm.trans q.abs)
theorem zT.inj:∀{xs ys:List V} {us:List Value},zT xs us->zT ys us->xs=ys
 |_,_,_,.nil,.nil=>rfl
 |_,_,_,.cons r t,.cons r' t'=>by rw[r.inj r',zT.inj t t']
section
variable {X:Cx} {pins:List (Addr×Obj)} {σ:St} {H:Hp} {s:Shared} {a:Addr} {xs ys:List V}
theorem SqT.of {K:E9} (h:H a=some (.tup xs)):SqT K H a xs:= .inl (.inl h)
theorem Inv.list (I:Inv X pins σ H s) (h:SqL X.K H a xs):∃ae:List Value,zT xs ae/\PlainL s.heap a ae.toArray/\xs.length<=sizeLine:=by
 rcases h with h|⟨o,ae,n,hk,hc,hd,hs,hz,r⟩
 ·obtain⟨z,ae,n,r,e⟩:=h.ok I.hok
  exact⟨ae,r,⟨_,n,e,rfl,rfl,rfl⟩,z⟩
 ·refine⟨ae.toList,r,⟨o,n,I.kIn a o hk,hc,hd,by simpa using hs⟩,?_⟩
  have e:=r.length
  simp only[Fe] at e
  omega
theorem Inv.tuple (I:Inv X pins σ H s) (h:SqT X.K H a xs):∃ae:List Value,zT xs ae/\IsTup s.heap a ae.toArray/\xs.length<=sizeLine:=by
 rcases h with h|⟨o,ae,n,hk,hc,hs,hz,r⟩
 ·obtain⟨z,ae,r,p⟩:=h.ok I.hok
  exact⟨ae,r,p,z⟩
 ·refine⟨ae.toList,r,⟨o,I.kIn a o hk,hc,n,by simpa using hs⟩,?_⟩
  have e:=r.length
  simp only[Fe] at e
  omega
theorem Inv.list_inj (I:Inv X pins σ H s) (h:SqL X.K H a xs) (h':SqL X.K H a ys):xs=ys:=by
 obtain⟨ae,r,⟨o,n,e,_,_,d⟩,_⟩:=I.list h
 obtain⟨its',r',⟨o',n',e',_,_,d'⟩,_⟩:=I.list h'
 rw[e] at e';cases e'
 rw[d] at d'
 injection d' with d1 _
 have:ae=its':=by simpa using congrArg HS d1
 subst this
 exact r.inj r'
theorem Inv.tuple_inj (I:Inv X pins σ H s) (h:SqT X.K H a xs) (h':SqT X.K H a ys):xs=ys:=by
 obtain⟨ae,r,⟨o,e,_,n,d⟩,_⟩:=I.tuple h
 obtain⟨its',r',⟨o',e',_,n',d'⟩,_⟩:=I.tuple h'
 rw[e] at e';cases e'
 rw[d] at d'
 injection d' with d1 _
 have:ae=its':=by simpa using congrArg HS d1
 subst this
 exact r.inj r'
end
noncomputable abbrev Cx.wish (X:Cx) (E:Value->Shared->Prop):Cx:={X with xe:=E}
noncomputable abbrev Cx.nox (X:Cx):Cx:=X.wish λ_ _=>False
section
variable {X:Cx} {pins:List (Addr×Obj)} {σ:St} {H:Hp} {s:Shared} {E:Value->Shared->Prop}
end
section
variable {X:Cx} {st:Stmt} {rest:List Stmt} {t u:TS} {e:Expr} {te:TE} {pos:Pos}
def zjW:TS:=λD σ H=>D.nx σ H
def zlR (t u:TS):TS:=λD σ H=>t {D with nx:=u D} σ H
theorem yy:PSs X [] zjW:=λ_ _ σ H _ I h=>wpAny_execs_nil ⟨σ,H,I,h⟩
theorem zi (h1:PS X st t) (h2:PSs X rest u):PSs X (st::rest) (zlR t u):=by
 intro pins s σ H D I h
 refine wpAny_execs_cons (thn (h1 pins s σ H {D with nx:=u D} I h) λf s1 q=> ?_)
 cases f with
 |next=>
  obtain⟨σ',H',I',q⟩:=q
  exact h2 pins s1 σ' H' D I' q
 |ret v=>exact q
 |brk=>exact q
 |cont=>exact q
theorem zr (h1:PS X st t):PSs X [st] t:=by
 intro pins s σ H D I h
 refine wpAny_execs_cons (thn (h1 pins s σ H D I h) λf s1 q=> ?_)
 cases f with
 |next=>exact wpAny_execs_nil q
 |ret v=>exact q
 |brk=>exact q
 |cont=>exact q
theorem Inv.quiet {pins:List (Addr×Obj)} {σ:St} {H:Hp} {s:Shared} (I:Inv X pins σ H s):interactive X.env=false:=by simp[interactive,I.ok.kind]
def zjX (te:TE):TS:=λD σ H=>te σ H λ_ H1=>D.nx σ H1
theorem xL (he:PE X e te) (hs:swapsWith e none pos.line X.env=pure false:=by rfl):PS X (.Expr e pos) (zjX te):=by
 intro pins s σ H D I h
 refine wpAny_Expr_any (thn (he pins s σ H _ I h) ?_) I.quiet hs
 rintro v s1 ⟨x,H1,I1,r1,q1⟩
 exact⟨σ,H1,I1,q1⟩
def zlS (te:TE):TS:=λD σ H=>te σ H D.rt
theorem ye (he:PE X e te):PS X (.Return (some e) pos) (zlS te):=by
 intro pins s σ H D I h
 refine wpAny_Return_some (thn (he pins s σ H _ I h) ?_)
 rintro v s1 ⟨x,H1,I1,r1,q1⟩
 exact⟨x,σ,H1,I1,r1,q1⟩
def zlT (c:TT) (t u:TS):TS:=λD σ H=>c σ H λb H1=>if b=true then t D σ H1 else u D σ H1
theorem wx {c:Expr} {a b:List Stmt} {tc:TT} (hc:PT X c tc) (ha:PSs X a t) (hb:PSs X b u):PS X (.If c a b pos) (zlT tc t u):=by
 intro pins s σ H D I h
 refine wpAny_If (thn (hc pins s σ H _ I h) ?_)
 rintro d s1 ⟨H1,I1,q1⟩
 cases d with
 |true=>exact ha pins s1 σ H1 D I1 q1
 |false=>exact hb pins s1 σ H1 D I1 q1
end
abbrev TG:=V->St->Hp->(St->Hp->Prop)->Prop
abbrev TGs:=List V->St->Hp->(St->Hp->Prop)->Prop
def PG (X:Cx) (target:Expr) (t:TG):Prop:=
 ∀(pins:List (Addr×Obj)) (s:Shared) (σ:St) (H:Hp) (v:V) (u:Value) (Q:St->Hp->Prop),Inv X pins σ H s->zK v u->t v σ H Q->
  wpAny (model X.prog X.w) X.A (assign target X.env u) (λ_ s'=>∃σ' H',Inv X pins σ' H' s'/\Q σ' H') X.xe s
def PGs (X:Cx) (ts:List Expr) (t:TGs):Prop:=
 ∀(pins:List (Addr×Obj)) (s:Shared) (σ:St) (H:Hp) (vs:List V) (us:List Value) (Q:St->Hp->Prop),Inv X pins σ H s->zT vs us->t vs σ H Q->
  wpAny (model X.prog X.w) X.A (assignInOrder ((assignEach ts X.env).map (·.2)) us) (λ_ s'=>∃σ' H',Inv X pins σ' H' s'/\Q σ' H') X.xe s
abbrev zkw:=V->V->V->Hp->(Hp->Prop)->Prop
def zlU (X:Cx) (t:zkw):Prop:=
 ∀(pins:List (Addr×Obj)) (s:Shared) (σ:St) (H:Hp) (o i v:V) (ov iv u:Value) (Q:Hp->Prop),Inv X pins σ H s->zK o ov->zK i iv->zK v u->t o i v H Q->
  wpAny (model X.prog X.w) X.A (setItem ov iv u) (λ_ s'=>∃H',Inv X pins σ H' s'/\Q H') X.xe s
abbrev TIp:=V->V->Hp->VK->Prop
section
variable {X:Cx} {pos:Pos}
def zbt (i:Nat):TG:=λv σ H Q=>Q (σ.set i (some v)) H
theorem zy {i:Nat} {x:Str} (hN:X.N.Nodup) (hi:X.N[i]? =some x) (hx:Loc X.env.scope x) (hf:X.fn x=true\/X.env.scope.names.lookup x=some .local:=by first|exact .inl rfl|exact .inr rfl|assumption):PG X (.Name x pos) (zbt i):=by
 intro pins s σ H v u Q I r h
 exact wpAny_assign_Name (Vi I hN hi hx r (λs' I'=>⟨_,H,I',h⟩) hf)
def zkx:TGs:=λvs σ H Q=>vs=[]/\Q σ H
def zgI (t:TG) (u:TGs):TGs:=λvs σ H Q=>∃v r,vs=v::r/\t v σ H λσ' H'=>u r σ' H' Q
theorem wJ:PGs X [] zkx:=by
 intro pins s σ H vs us Q I r h
 obtain⟨e,h⟩:=h
 subst e
 cases r
 exact assignInOrder_nil ⟨σ,H,I,h⟩
theorem zP {e:Expr} {es:List Expr} {t:TG} {u:TGs} (h1:PG X e t) (h2:PGs X es u)
  (hs:(assignEach (e::es) X.env).map (·.2)=assign e X.env::(assignEach es X.env).map (·.2):=by rfl):PGs X (e::es) (zgI t u):=by
 intro pins s σ H vs us Q I r h
 obtain⟨v,vr,e1,h⟩:=h
 subst e1
 cases r with
 |cons r rr=>
  rw[hs]
  refine assignInOrder_cons (thn (h1 pins s σ H _ _ _ I r h) ?_)
  rintro _ s1 ⟨σ1,H1,I1,q1⟩
  exact h2 pins s1 σ1 H1 _ _ Q I1 rr q1
def ziP (K:E9) (n:Nat) (t:TGs):TG:=λv σ H Q=>∃a xs,v= .ref a/\SqT K H a xs/\xs.length=n/\t xs σ H Q
theorem zky {es:List Expr} {k:Nat} {t:TGs} {n:Nat} (hc:X.calm=true) (h:PGs X es t)
  (hn:(assignEach es X.env).length=n:=by rfl) (eX:(assignEach es X.env).findIdx? (·.1)=none:=by rfl):PG X (.Tuple es k pos) (ziP X.K n t):=by
 intro pins s σ H v u Q I r hw
 obtain⟨a,xs,e1,hq,hl,hw⟩:=hw
 subst e1
 cases r
 obtain⟨ae,rv,ht,hz⟩:=I.tuple hq
 refine assign_Tuple_tuple (I.ok.hd hc) ht (by simp[hn,<-hl,rv.length]) eX λh' hx=> ?_
 have I1:Inv X pins σ H {s with heap:=h'}:=I.kept (t':=s.toks) λb o e=>hx b o (Ep (Heap.lt_size e)) e
 exact h pins _ σ H xs _ Q I1 (by simpa using rv) hw
def zlV (to ti:TE) (t:zkw):TG:=λv σ H Q=>to σ H λo H1=>ti σ H1 λi H2=>t o i v H2 λH3=>Q σ H3
theorem zed {o i:Expr} {to ti:TE} {t:zkw} (ho:PE X o to) (hi:PE X i ti) (hs:zlU X t)
  (ha:∀v,assign (.Subscript o i pos) X.env v=(do
   let ov <-holding [v] (eval o X.env)
   let iv <-holding [v,ov] (eval i X.env)
   standAt pos
   holding [v,ov,iv] (setItem ov iv v)
   release [v,ov,iv] []):=by intro _;rfl):PG X (.Subscript o i pos) (zlV to ti t):=by
 intro pins s σ H v u Q I r h
 rw[ha]
 refine wpAny_bind (wpAny_holding (thn (ho pins s σ H _ I h) ?_))
 rintro ov s1 ⟨x,H1,I1,r1,q1⟩
 refine wpAny_bind (wpAny_holding (thn (hi pins s1 σ H1 _ I1 q1) ?_))
 rintro iv s2 ⟨y,H2,I2,r2,q2⟩
 refine wpAny_bind (wpAny_standAt (wpAny_bind (wpAny_holding (thn (hs pins s2 σ H2 x y v ov iv u _ I2 r1 r2 r q2) ?_))))
 rintro _ s3 ⟨H3,I3,q3⟩
 exact wpAny_release ⟨σ,H3,I3,q3⟩
def zkz (te:TE) (g:TG):TS:=λD σ H=>te σ H λx H1=>g x σ H1 D.nx
theorem WI {tg e:Expr} {te:TE} {g:TG} (he:PE X e te) (hg:PG X tg g) (hs:swapsWithSole [tg] e pos.line X.env=pure false:=by rfl) (hw:swappedStores [tg] e X.env=pure none:=by rfl)
  (h1:(assignEach [tg] X.env).map (·.2)=[assign tg X.env]:=by rfl):PS X (.Assign [tg] e pos) (zkz te g):=by
 intro pins s σ H D I h
 refine wpAny_Assign_stores (thn (he pins s σ H _ I h) ?_) hs hw
 rintro v s1 ⟨x,H1,I1,r1,q1⟩
 rw[h1]
 exact thn (hg pins s1 σ H1 x v _ I1 r1 q1) λ_ s2 q=>q
theorem zH {i:Nat} {x:Str} {e:Expr} {te:TE} {pos':Pos} (hN:X.N.Nodup) (hi:X.N[i]? =some x) (hx:Loc X.env.scope x) (he:PE X e te) (hs:swapsWith e (some (.Name x pos')) pos.line X.env=pure false:=by rfl) (hf:X.fn x=true\/X.env.scope.names.lookup x=some .local:=by first|exact .inl rfl|exact .inr rfl|assumption):
  PS X (.Assign [.Name x pos'] e pos) (zkz te (zbt i)):=by
 intro pins s σ H D I h
 refine wpAny_Assign_Name (thn (he pins s σ H _ I h) ?_) hs
 rintro v s1 ⟨y,H1,I1,r1,q1⟩
 exact Vi I1 hN hi hx r1 (λs2 I2=>⟨_,H1,I2,q1⟩) hf
def zlW (i j:Nat) (ta:TA):TS:=λD σ H=>ta σ H λvs H1=>∃v w,vs=[v,w]/\D.nx ((σ.set i (some v)).set j (some w)) H1
theorem zgJ {i j:Nat} {x y:Str} {a b:Expr} {ta:TA} {px py pt:Pos} {kt k2 nk} (hc:X.calm=true) (hN:X.N.Nodup) (hi:X.N[i]? =some x) (hj:X.N[j]? =some y) (dC:i≠j)
  (hx:X.env.scope.names.lookup x=some .local) (hy:X.env.scope.names.lookup y=some .local) (ha:PA X [a,b] ta)
  (hw:swappedStores [.Tuple [.Name x px,.Name y py] kt pt] (.Tuple [a,b] k2 nk) X.env=pure (some [x,y]))
  (hs:swapsWithSole [.Tuple [.Name x px,.Name y py] kt pt] (.Tuple [a,b] k2 nk) pos.line X.env=pure false:=by rfl):
  PS X (.Assign [.Tuple [.Name x px,.Name y py] kt pt] (.Tuple [a,b] k2 nk) pos) (zlW i j ta):=by
 intro pins s σ H D I h
 rw[exec_Assign_arm]
 refine wpAny_bind (wpAny_standAt ?_)
 rw[hs]
 refine wpAny_bind (wpAny_pure ?_)
 rw[if_neg ∅]
 refine wpAny_bind (Tuple_ (thn (ha _ pins s σ H _ I h) ?_))
 rintro us s1 ⟨vs,H1,I1,r1,q1⟩
 obtain⟨v,w,e1,q1⟩:=q1
 subst e1
 obtain⟨u1,u2,rfl,rv,rw'⟩:∃u1 u2,us=[u1,u2]/\zK v u1/\zK w u2:=by
  cases r1 with
  |cons p q=>
   cases q with
   |cons p' q'=>
    cases q'
    exact⟨_,_,rfl,p,p'⟩
 refine wpAny_newObj_type ?_ (by show 2<=sizeLine;decide)
 have I2:Inv X pins σ H1 {s1 with heap:=s1.heap.push {cls:= .type "tuple",data:= .seq [u1,u2].toArray}}:=I1.kept (t':=s1.toks) λb o e=>Heap.get?_push_of_some _ e
 rw[hw]
 refine wpAny_bind (wpAny_pure ?_)
 show wpAny (model X.prog X.w) X.A (do rule "assign.swapped-stores";let items <-unpackItems (.ref s1.heap.objs.size) 2 none;assignInOrder [λv=>bindName X.env y v,λv=>bindName X.env x v] items.reverse;pure Flow.next) _ _ _
 refine wpAny_bind (wpAny_rule (wpAny_bind (unpackItems_tuple (items:= #[u1,u2]) (I.ok.hd hc) (IsTup.new s1.heap _) λh' B4=> ?_)))
 have I3:=I2.kept (h':=h') (t':=s1.toks) λb o e=>B4 b o (Ep (Heap.lt_size e)) e
 show wpAny _ _ (assignInOrder [λv=>bindName X.env y v,λv=>bindName X.env x v] [u2,u1]>>=λ_=>pure Flow.next) _ _ _
 refine wpAny_bind (assignInOrder_cons (wpAny_bindName (Vi I3 hN hj (.inl hy) rw' (λs2 I4=> ?_) (.inr hy))))
 refine assignInOrder_cons (wpAny_bindName (Vi I4 hN hi (.inl hx) rv (λs3 I5=>assignInOrder_nil (wpAny_pure ?_)) (.inr hx)))
 rw[List.set_comm _ _ (Gw dC)] at I5
 exact⟨_,H1,I5,q1⟩
end
section
variable {X:Cx} {pos:Pos}
def zgK (c:TT) (tb:TS):TS:=λD σ H=>∃W:Nat->St->Hp->Prop,(∃m,W m σ H)/\∀m σ H,W m σ H->
 c σ H λb H1=>if b=true then ∃N:St->Hp->Prop,(∀σ' H',N σ' H'->∃m',m'<m/\W m' σ' H')/\tb {D with nx:=N,ct:=N,bk:=D.nx} σ H1 else D.nx σ H1
theorem Tt {c:Expr} {body:List Stmt} {tc:TT} {tb:TS} (hp:PassesOwn (model X.prog X.w) X.A X.env X.xe) (hc:PT X c tc) (hb:PSs X body tb):PS X (.While c body [] pos) (zgK tc tb):=by
 intro pins s σ H D I h
 obtain⟨W,⟨m0,w0⟩,turn⟩:=h
 refine wpAny_While (codeAny_whileLoop (λn s'=>∃σ' H',Inv X pins σ' H' s'/\W n σ' H') ?_ m0 ⟨σ,H,I,w0⟩)
 rintro n s1 ⟨σ1,H1,I1,w1⟩
 refine wpAny_passesOwn hp (thn (hc pins s1 σ1 H1 _ I1 (turn n σ1 H1 w1)) ?_)
 rintro b s2 ⟨H2,I2,q2⟩
 cases b with
 |true=>
  obtain⟨N,hN,q2⟩:=q2
  rw[if_pos rfl]
  refine wpAny_passesOwn hp (thn (hb pins s2 σ1 H2 _ I2 q2) λf s3 q3=> ?_)
  cases f with
  |next=>
   obtain⟨σ3,H3,I3,n3⟩:=q3
   obtain⟨m',hm,w3⟩:=hN σ3 H3 n3
   exact⟨m',hm,σ3,H3,I3,w3⟩
  |cont=>
   obtain⟨σ3,H3,I3,n3⟩:=q3
   obtain⟨m',hm,w3⟩:=hN σ3 H3 n3
   exact⟨m',hm,σ3,H3,I3,w3⟩
  |brk=>exact q3
  |ret v=>exact q3
 |false=>
  rw[if_neg Hz]
  exact wpAny_execs_nil ⟨σ1,H2,I2,q2⟩
end
structure It where
 go:Nat->Hp->Prop
 yld:Nat->Hp->V->Hp->Prop
 stop:Nat->Hp->Prop
def za5 (X:Cx) (pins:List (Addr×Obj)) (H:Hp) (b:Addr):Prop:=
 H b=none/\b≠X.env.locals/\b∉X.fs/\(b∈X.ex\/X.s₀.heap.objs.size<=b)/\(∀x c,X.env.cells.lookup x=some c->c≠b)/\∀p∈X.pn++pins,p.1≠b
theorem Inv.fpOk {X:Cx} {pins:List (Addr×Obj)} {σ:St} {H H':Hp} {s:Shared} {b:Addr} (I:Inv X pins σ H s) (hb:s.heap.objs.size<=b) (hn:H' b=none):za5 X pins H' b:=by
 refine⟨hn,GR (EK I.lt hb),I.nofs hb,.inr (Ey I.sz hb),λx c e z=> ?_,λp hp z=> ?_⟩
 ·obtain⟨v,q⟩:=I.cell x c e
  exact absurd (EK q.lt (by rw[z];exact hb)) (Fv _)
 ·exact absurd (EK (Heap.lt_size (I.pin p hp).1) (by rw[z];exact hb)) (Fv _)
structure zgL (P:Program) (w:World) (K:E9) (tg:Expr) (J:It) (fp:List Addr) (it:Addr) (tn:Nat->Heap->Prop):Prop where
 mem:it∈fp
 obj:∀i h,tn i h->∀b∈fp,∃o,h.get? b=some o/\∀v,o.data≠ .cell v
 keep:∀i h h',tn i h->(∀b∈fp,∀o,h.get? b=some o->h'.get? b=some o)->tn i h'
 item:∀(X:Cx),X.prog=P->X.w=w->X.K=K->X.calm=true->∀(i:Nat) (pins:List (Addr×Obj)) (s:Shared) (σ:St) (H:Hp) (E:Value->Shared->Prop),Inv X pins σ H s->(∀b∈fp,za5 X pins H b)->tn i s.heap->J.go i H->
  wpAny (model P w) X.A (pyNext (.ref it)) (λr s1=>∃u,r=some u/\
   wpAny (model P w) X.A (letOwnedTupleGo tg (.ref it) u) (λ_ s2=>∃x H',Inv X pins σ H' s2/\zK x u/\J.yld i H x H'/\tn (i+1) s2.heap/\∀b∈fp,H' b=none) E s1) E s
 done:∀(X:Cx),X.prog=P->X.w=w->X.K=K->X.calm=true->∀(i:Nat) (pins:List (Addr×Obj)) (s:Shared) (σ:St) (H:Hp) (E:Value->Shared->Prop),Inv X pins σ H s->(∀b∈fp,za5 X pins H b)->tn i s.heap->J.stop i H->
  wpAny (model P w) X.A (pyNext (.ref it)) (λr s1=>r=none/\Inv X pins σ H s1) E s
 self:∀(A:Around) (i:Nat) (s:Shared) (Q:Value->Shared->Prop) (E:Value->Shared->Prop),tn i s.heap->Q (.ref it) s->wpAny (model P w) A (pyIter (.ref it)) Q E s
abbrev TI:=St->Hp->(It->Hp->Prop)->Prop
def PIE (X:Cx) (pins:List (Addr×Obj)) (σ:St) (tg:Expr) (R:It->Hp->Prop) (p8:Value) (s2:Shared):Prop:=
 ∃(it:Addr) (fp:List Addr) (tn:Nat->Heap->Prop) (J:It) (H':Hp),p8= .ref it/\Inv X pins σ H' s2/\zgL X.prog X.w X.K tg J fp it tn/\tn 0 s2.heap/\(∀b∈fp,za5 X pins H' b)/\R J H'
def PI (X:Cx) (tg iter:Expr) (wi:TI):Prop:=
 ∀(pins:List (Addr×Obj)) (s:Shared) (σ:St) (H:Hp) (R:It->Hp->Prop),Inv X pins σ H s->wi σ H R->
  wpAny (model X.prog X.w) X.A (eval iter X.env) (λv s1=>wpAny (model X.prog X.w) X.A (pyIter v) (PIE X pins σ tg R) X.xe s1) X.xe s
theorem zjY {M:Model} {A:Around} {E:Value->Shared->Prop} {s:Shared} {tg:Expr} {it:Addr} {u:Value} {o:Obj} {n:String} {vs:Array Value} {Q:Unit->Shared->Prop} (ho:s.heap.get? it=some o) (hc:o.cls= .type n) (hd:o.data= .fields vs)
    (hn:["enumerate","zip","dict_itemiterator","dict_reverseitemiterator","odict_iterator","itertools.zip_longest","itertools.pairwise"].contains n=false) (hQ:Q () s):wpAny M A (letOwnedTupleGo tg (.ref it) u) Q E s:=by
  unfold letOwnedTupleGo
  cases tg<;>first
    |exact wpAny_pure hQ
    | (cases u <;> first
        |exact wpAny_pure hQ
        | (refine wpAny_bind (wpAny_load ho ?_)
           rw[hc,hd]
           show wpAny M A (if (["enumerate","zip","dict_itemiterator","dict_reverseitemiterator","odict_iterator","itertools.zip_longest","itertools.pairwise"].contains n&&vs[0]? ==some (rawInt _))=true then _ else _) Q E s
           rw[if_neg (by intro h;rw[hn,Bool.false_and] at h;cases h)]
           exact wpAny_pure hQ))
noncomputable def Itl (K:E9) (a:Addr):It:=
 ⟨λi H=>∃xs x,SqL K H a xs/\xs[i]? =some x,λi H x H'=>H'=H/\∀xs,SqL K H a xs->xs[i]? =some x,λi H=>∃xs,SqL K H a xs/\xs.length<=i⟩
noncomputable def Itr (lo:Int) (n:Nat):It:=⟨λi _=>i<n,λi H x H'=>H'=H/\x= .int (lo+i),λi _=>n<=i⟩
theorem zfR {P:Program} {w:World} {K:E9} {tg:Expr} (a it:Addr):zgL P w K tg (Itl K a) [it] it (λi h=>h.IsListIter it a i) where
 mem:=by simp
 obj:=λi h st b hb=>by
  have e:b=it:=by simpa using hb
  subst e
  obtain⟨o,e,c,d⟩:=st
  exact⟨o,e,λv z=>by rw[d] at z;cases z⟩
 keep:=λi h h' st k=>st.at λo e=>k it (by simp) o e
 item:=by
  intro X hP hw hK hc i pins s σ H E I hf st hg
  subst hP hw hK
  obtain⟨xs,x,hq,hx⟩:=hg
  obtain⟨ae,rv,p,hz⟩:=I.list hq
  obtain⟨u,hu,ru⟩:=rv.get hx
  obtain⟨f0,f1,f2,f3,f4,f5⟩:=hf it (by simp)
  refine wpAny_pyNext_list_item st p.isList (x:=u) (by simpa using hu) λh' st' sb=> ?_
  have I1:Inv X pins σ H {s with heap:=h'}:=I.turned (t':=s.toks) (λb o hb e=>(sb.2 b hb).trans e) f0 f1 f3 f4 f5
  obtain⟨o,e,c,d⟩:=id st'
  exact⟨u,rfl,zjY (s:={s with heap:=h'}) e c d ∅ ⟨x,H,I1,ru,⟨rfl,λys hy=>by rw[I.list_inj hy hq];exact hx⟩,st',λb hb=>(hf b hb).1⟩⟩
 done:=by
  intro X hP hw hK hc i pins s σ H E I hf st hg
  subst hP hw hK
  obtain⟨xs,hq,hx⟩:=hg
  obtain⟨ae,rv,p,hz⟩:=I.list hq
  obtain⟨f0,f1,f2,f3,f4,f5⟩:=hf it (by simp)
  have hl:=rv.length
  exact wpAny_pyNext_list_end (I.ok.hd hc) st p.isList (by simp;omega) λh' eb=>⟨rfl,I.turned (t':=s.toks) (λb o hb e=>eb b o hb e) f0 f1 f3 f4 f5⟩
 self:=λ_ _ _ _ _ st h=>wpAny_pyIter_listiter st h
theorem zee {P:Program} {w:World} {K:E9} {tg:Expr} (it:Addr) (lo:Int) (n:Nat):zgL P w K tg (Itr lo n) [it] it (λi h=>IsRangeIter h it (lo+(i:Nat)*1) ((n:Int)-(i:Nat)) 1) where
 mem:=by simp
 obj:=λi h st b hb=>by
  have e:b=it:=by simpa using hb
  subst e
  exact⟨_,st,λv z=>by
   have z':Data.fields _=Data.cell v:=z
   cases z'⟩
 keep:=λi h h' st k=>k it (by simp) _ st
 item:=by
  intro X hP hw hK hc i pins s σ H E I hf st hg
  subst hP hw hK
  obtain⟨f0,f1,f2,f3,f4,f5⟩:=hf it (by simp)
  have W:=Walks.range (prog:=X.prog) (w:=X.w) (I.ok.hd hc) it lo 1 n
  refine W.item i s _ _ hg st λv h' tk hv st' kk=> ?_
  obtain⟨t,rfl⟩:=hv
  have I1:Inv X pins σ H {s with heap:=h',toks:=tk}:=I.turned (λb o hb e=>kk b o (by simpa using hb) e) f0 f1 f3 f4 f5
  refine⟨_,rfl,zjY (s:={s with heap:=h',toks:=tk}) (n:="range_iterator") st' rfl rfl ∅ ⟨.int (lo+i),H,I1,⟨t,?_⟩,⟨rfl,rfl⟩,st',λb hb=>(hf b hb).1⟩⟩
  rw[Int.mul_one]
 done:=by
  intro X hP hw hK hc i pins s σ H E I hf st hg
  subst hP hw hK
  obtain⟨f0,f1,f2,f3,f4,f5⟩:=hf it (by simp)
  exact wpAny_pyNext_range_end (I.ok.hd hc) st (by have:n<=i:=hg;omega) λh' eb=>⟨rfl,I.turned (t':=s.toks) (λb o hb e=>eb b o hb e) f0 f1 f3 f4 f5⟩
 self:=λ_ _ _ _ _ st h=>wpAny_pyIter_rangeiter st h
section
variable {X:Cx} {tg:Expr}
def zgM (K:E9) (tl:TE):TI:=λσ H R=>tl σ H λx H1=>∃a,x= .ref a/\(∃xs,SqL K H1 a xs)/\R (Itl K a) H1
theorem ziQ {l:Expr} {tl:TE} (hl:PE X l tl):PI X tg l (zgM X.K tl):=by
 intro pins s σ H R I h
 refine thn (hl pins s σ H _ I h) ?_
 rintro v s1 ⟨x,H1,I1,r1,q1⟩
 obtain⟨a,e,⟨xs,hq⟩,q⟩:=q1
 subst e
 cases r1
 obtain⟨ae,rv,p,hz⟩:=I1.list hq
 refine wpAny_pyIter_list p.isList ?_
 refine⟨s1.heap.objs.size,[s1.heap.objs.size],_,_,H1,rfl,I1.kept (t':=s1.toks) λb o e=>Heap.get?_push_of_some _ e,zfR a _,⟨_,Heap.get?_push_size _ rfl,rfl,rfl⟩,λb hb=> ?_,q⟩
 have e:b=s1.heap.objs.size:=by simpa using hb
 subst e
 exact I1.fpOk (Ek _) (I1.hok.fresh (Ek _))
theorem zc7 {pins:List (Addr×Obj)} {σ:St} {H:Hp} {s:Shared} {R:It->Hp->Prop} {E:Value->Shared->Prop} {lo hi:Int} {t u v:Tok} {tk:Nat} (I:Inv X pins σ H s) (h1: -(2^62)<=lo) (h2:lo<2^62) (h3: -(2^62)<=hi) (h4:hi<2^62)
  (q:R (Itr lo (hi-lo).toNat) H):wpAny (model X.prog X.w) X.A (pyIter (.ref s.heap.objs.size)) (PIE X pins σ tg R) E {s with heap:=s.heap.push {cls:= .type "range",data:= .fields #[.int lo t,.int hi u,.int 1 v]},toks:=tk}:=by
 refine wpAny_pyIter_range (IsRange.new ..) (small_one h1 h2 h3 h4) ?_
 have I1:Inv X pins σ H {s with heap:=s.heap.push {cls:= .type "range",data:= .fields #[.int lo t,.int hi u,.int 1 v]},toks:=tk}:=I.kept λb o e=>Heap.get?_push_of_some _ e
 refine⟨(s.heap.push {cls:= .type "range",data:= .fields #[.int lo t,.int hi u,.int 1 v]}).objs.size,[(s.heap.push {cls:= .type "range",data:= .fields #[.int lo t,.int hi u,.int 1 v]}).objs.size],_,_,H,rfl,
  I1.kept (t':=tk) λb o e=>Heap.get?_push_of_some _ e,zee _ lo (hi-lo).toNat,?_,λb hb=> ?_,q⟩
 ·have e1:lo+((0:Nat):Int)*1=lo:=by simp
  have e2:(((hi-lo).toNat:Nat):Int)-((0:Nat):Int)=Builtin.Range.rangeSize lo hi 1:=by rw[rangeSize_one];split<;>omega
  show IsRangeIter _ _ (lo+((0:Nat):Int)*1) ((((hi-lo).toNat:Nat):Int)-((0:Nat):Int)) 1
  rw[e1,e2]
  exact Heap.get?_push_size _ rfl
 ·have e:b=(s.heap.push {cls:= .type "range",data:= .fields #[.int lo t,.int hi u,.int 1 v]}).objs.size:=by simpa using hb
  subst e
  exact I1.fpOk (Ek _) (I1.hok.fresh (Ek _))
def zjZ (ta:TA):TI:=λσ H R=>ta σ H λvs H1=>∃j:Int,vs=[.int j]/\ -(2^62)<=j/\j<2^62/\R (Itr 0 j.toNat) H1
def zj0 (ta:TA):TI:=λσ H R=>ta σ H λvs H1=>∃i j:Int,vs=[.int i,.int j]/\(-(2^62)<=i/\i<2^62/\ -(2^62)<=j/\j<2^62)/\R (Itr i (j-i).toNat) H1
theorem wa {a:Expr} {ta:TA} {p pos:Pos} (hg:Gl X "range") (hm:X.mg "range"=none) (ha:PA X [a] ta) (hs:starEach [a] X.env=[(false,eval a X.env)]:=by rfl):PI X tg (.Call (.Name "range" p) [a] [] pos) (zjZ ta):=by
 intro pins s σ H R I h
 refine Call_ (ZT I hg hm boot_range (Ft (thn (ha pos pins s σ H _ I h) ?_) hs rfl))
 rintro us s1 ⟨vs,H1,I1,r1,q1⟩
 obtain⟨j,e,q1,q2,q⟩:=q1
 subst e
 cases r1 with
 |cons r rr=>
  cases rr
  obtain⟨t,rfl⟩:=r
  exact call_range_1 (zc7 I1 ⋯ ⋯ q1 q2 (by simpa using q))
theorem zfS {a b:Expr} {ta:TA} {p pos:Pos} (hg:Gl X "range") (hm:X.mg "range"=none) (ha:PA X [a,b] ta) (hs:starEach [a,b] X.env=[(false,eval a X.env),(false,eval b X.env)]:=by rfl) (g7:starEach [b] X.env=[(false,eval b X.env)]:=by rfl):
  PI X tg (.Call (.Name "range" p) [a,b] [] pos) (zj0 ta):=by
 intro pins s σ H R I h
 refine Call_ (ZT I hg hm boot_range (Ft (thn (ha pos pins s σ H _ I h) λus s1 ⟨vs,H1,I1,r1,q1⟩=> ?_) (by rw[hs,g7]) (by rw[g7];rfl)))
 obtain⟨i,j,e,⟨q1,q2,q3,q4⟩,q⟩:=q1
 subst e
 cases r1 with
 |cons r rr=>
  cases rr with
  |cons r' rr=>
   cases rr
   obtain⟨t,rfl⟩:=r
   obtain⟨t',rfl⟩:=r'
   exact call_range_2 (zc7 I1 q1 q2 q3 q4 q)
def zlX (wi:TI) (g:TG) (tb:TS):TS:=λD σ H=>wi σ H λJ H1=>∃W:Nat->Nat->St->Hp->Prop,(∃m,W 0 m σ H1)/\∀i m σ H,W i m σ H->
 (J.stop i H/\D.nx σ H)\/(J.go i H/\∃N:St->Hp->Prop,(∀σ' H',N σ' H'->∃m',m'<m/\W (i+1) m' σ' H')/\∀x H',J.yld i H x H'->g x σ H' λσ2 H2=>tb {D with nx:=N,ct:=N,bk:=D.nx} σ2 H2)
noncomputable def Tu (fp:List Addr) (h:Heap):List (Addr×Obj):=fp.filterMap λb=>(h.get? b).map λo=>(b,o)
theorem Xc {fp:List Addr} {h:Heap} {b:Addr} {o:Obj} (hb:b∈fp) (e:h.get? b=some o):(b,o)∈Tu fp h:=IU.mpr ⟨b,hb,by rw[e];rfl⟩
theorem zfT {fp:List Addr} {h:Heap} {p:Addr×Obj} (hp:p∈Tu fp h):p.1∈fp/\h.get? p.1=some p.2:=by
 obtain⟨b,hb,e⟩:=IU.mp hp
 cases q:h.get? b with
 |none=>rw[q] at e;cases e
 |some o=>
  rw[q] at e
  have e':(b,o)=p:=EE e
  subst e'
  exact⟨hb,q⟩
theorem Inv.pinned {pins:List (Addr×Obj)} {σ:St} {H:Hp} {s:Shared} {fp:List Addr} (I:Inv X pins σ H s) (hf:∀b∈fp,za5 X pins H b) (ho:∀b∈fp,∃o,s.heap.get? b=some o/\∀v,o.data≠ .cell v):Inv X (pins++Tu fp s.heap) σ H s:=
 I.pins_of λp hp=>(F5.mp hp).elim (λz=>I.pin p (Fk _ z)) λz=>by
  obtain⟨hb,e⟩:=zfT z
  obtain⟨f0,f1,f2,_⟩:=hf p.1 hb
  obtain⟨o,e',d⟩:=ho p.1 hb
  rw[e] at e';cases e'
  exact⟨e,f0,f1,f2,d⟩
theorem Inv.unpinned {pins pl:List (Addr×Obj)} {σ:St} {H:Hp} {s:Shared} (I:Inv X (pins++pl) σ H s):Inv X pins σ H s:=I.pins_of λp hp=>I.pin p (Fk _ (GA _ hp))
theorem wf {iter:Expr} {body:List Stmt} {wi:TI} {g:TG} {tb:TS} {pos:Pos} (hp:PassesOwn (model X.prog X.w) X.A X.env X.xe) (hc:X.calm=true) (hi:PI X tg iter wi) (hg:PG X tg g) (hb:PSs X body tb)
  (hs:∀x,foldedSetIterable iter X.env x=pure x:=by intro _;rfl):PS X (.For tg iter body [] pos) (zlX wi g tb):=by
 intro pins s σ H D I h
 refine wpAny_For (thn (hi pins s σ H _ I h) λv s1 h1=>thn h1 λp8 s2 h2=> ?_) hs
 obtain⟨it,fp,tn,J,H2,e,I2,T,jP,f2,W,⟨m0,w0⟩,turn⟩:=h2
 subst e
 have stat:∀{H':Hp},(∀b∈fp,H' b=none)->∀b∈fp,za5 X pins H' b:=λhn b hb=>⟨hn b hb,(f2 b hb).2⟩
 refine codeAny_forLoop_any (λn s'=>∃i σ' H',Inv X pins σ' H' s'/\tn i s'.heap/\(∀b∈fp,H' b=none)/\W i n σ' H') ?_ m0 ⟨0,σ,H2,I2,jP,λb hb=>(f2 b hb).1,w0⟩
 rintro n s3 ⟨i,σ3,H3,I3,jO,kT,w3⟩
 rcases turn i n σ3 H3 w3 with⟨stop,qn⟩|⟨go,N,hN,step⟩
 ·refine wpAny_passesOwn hp (thn (T.done X rfl rfl rfl hc i pins s3 σ3 H3 X.xe I3 (stat kT) jO stop) λr s4 ⟨hr,I4⟩=> ?_)
  subst hr
  exact wpAny_execs_nil ⟨σ3,H3,I4,qn⟩
 ·refine wpAny_passesOwn hp (thn (T.item X rfl rfl rfl hc i pins s3 σ3 H3 X.xe I3 (stat kT) jO go) λr s4 ⟨u,hr,h4⟩=> ?_)
  subst hr
  refine wpAny_passesOwn hp (thn h4 ?_)
  rintro _ s5 ⟨x,H5,I5,r5,y5,iK,qL⟩
  have I5':=I5.pinned (stat qL) (T.obj _ _ iK)
  refine wpAny_passesOwn hp (thn (hg _ s5 σ3 H5 x u _ I5' r5 (step x H5 y5)) ?_)
  rintro _ s6 ⟨σ6,H6,I6,q6⟩
  refine wpAny_passesOwn hp (thn (hb _ s6 σ6 H6 _ I6 q6) λf s7 q7=> ?_)
  have again:∀{σ7:St} {H7:Hp},Inv X (pins++Tu fp s5.heap) σ7 H7 s7->N σ7 H7->∃m,m<n/\∃i σ' H',Inv X pins σ' H' s7/\tn i s7.heap/\(∀b∈fp,H' b=none)/\W i m σ' H':=λ{σ7 H7} I7 n7=>by
   obtain⟨m',hm,w7⟩:=hN σ7 H7 n7
   refine⟨m',hm,i+1,σ7,H7,I7.unpinned,T.keep _ _ _ iK λb hb o e=>(I7.pin (b,o) (Fk _ (Fk _ (Xc hb e)))).1,λb hb=> ?_,w7⟩
   obtain⟨o,e,d⟩:=T.obj _ _ iK b hb
   exact (I7.pin (b,o) (Fk _ (Fk _ (Xc hb e)))).2.1
  cases f with
  |next=>obtain⟨σ7,H7,I7,n7⟩:=q7;exact again I7 n7
  |cont=>obtain⟨σ7,H7,I7,n7⟩:=q7;exact again I7 n7
  |brk=>obtain⟨σ7,H7,I7,q7⟩:=q7;exact⟨σ7,H7,I7.unpinned,q7⟩
  |ret v=>obtain⟨x7,σ7,H7,I7,r7,q7⟩:=q7;exact⟨x7,σ7,H7,I7.unpinned,r7,q7⟩
end
abbrev R2:=V->V->Hp->VK->Prop
def OpR (X:Cx) (f:Value->Value->Sem Value) (r:R2):Prop:=
 ∀(pins:List (Addr×Obj)) (s:Shared) (σ:St) (H:Hp) (x y:V) (v u:Value) (Q:VK),Inv X pins σ H s->zK x v->zK y u->r x y H Q->
  wpAny (model X.prog X.w) X.A (f v u) (EP X pins σ Q) X.xe s
def UnR (X:Cx) (f:Value->Sem Value) (r:V->Hp->VK->Prop):Prop:=
 ∀(pins:List (Addr×Obj)) (s:Shared) (σ:St) (H:Hp) (x:V) (v:Value) (Q:VK),Inv X pins σ H s->zK x v->r x H Q->
  wpAny (model X.prog X.w) X.A (f v) (EP X pins σ Q) X.xe s
def vy (X:Cx) (f:Value) (r:List V->Hp->VK->Prop):Prop:=
 ∀(pins:List (Addr×Obj)) (s:Shared) (σ:St) (H:Hp) (xs:List V) (us:List Value) (Q:VK),Inv X pins σ H s->zT xs us->r xs H Q->
  wpAny (model X.prog X.w) X.A (call f us) (EP X pins σ Q) X.xe s
def tOp (r:R2) (ta tb:TE):TE:=λσ H Q=>ta σ H λx H1=>tb σ H1 λy H2=>r x y H2 Q
def tUn (r:V->Hp->VK->Prop) (ta:TE):TE:=λσ H Q=>ta σ H λx H1=>r x H1 Q
def rI (C:Int->Int->Prop) (g:Int->Int->V):R2:=λx y H Q=>∃i j,x= .int i/\y= .int j/\C i j/\Q (g i j) H
def rI0 (g:Int->Int->V):R2:=λx y H Q=>∃i j,x= .int i/\y= .int j/\Q (g i j) H
def rU (g:Int->V):V->Hp->VK->Prop:=λx H Q=>∃i,x= .int i/\Q (g i) H
section
variable {X:Cx} {a b c:Expr} {ta tb tc:TE} {pos:Pos}
theorem zkA (ha:PE X a ta) (hb:PE X b tb) {pins:List (Addr×Obj)} {s:Shared} {σ:St} {H:Hp} {R:V->V->Hp->Prop} (I:Inv X pins σ H s)
  (h:ta σ H λx H1=>tb σ H1 λy H2=>R x y H2) {Q:Value->Shared->Prop} {f:Value->Value->Sem Value}
  (hf:∀v u s2 x y H2,Inv X pins σ H2 s2->zK x v->zK y u->R x y H2->wpAny (model X.prog X.w) X.A (f v u) Q X.xe s2):
  wpAny (model X.prog X.w) X.A (eval a X.env) (λv s₁=>wpAny (model X.prog X.w) X.A (eval b X.env) (λu s₂=>wpAny (model X.prog X.w) X.A (f v u) Q X.xe s₂) X.xe s₁) X.xe s:=by
 refine thn (ha pins s σ H _ I h) ?_
 rintro v s1 ⟨x,H1,I1,r1,q1⟩
 refine thn (hb pins s1 σ H1 _ I1 q1) ?_
 rintro u s2 ⟨y,H2,I2,r2,q2⟩
 exact hf v u s2 x y H2 I2 r1 r2 q2
theorem zI {op:Operator} {r:R2} (ho:OpR X (binaryOp op) r) (ha:PE X a ta) (hb:PE X b tb):PE X (.BinOp a op b pos) (tOp r ta tb):=by
 intro pins s σ H Q I h
 exact wpAny_BinOp (zkA ha hb I h λv u s2 x y H2 I2 rx ry q=>ho pins s2 σ H2 x y v u Q I2 rx ry q)
theorem Tv {op:UnaryOp} {r:V->Hp->VK->Prop} (ho:UnR X (unaryOp op) r) (ha:PE X a ta):PE X (.UnaryOp op a pos) (tUn r ta):=by
 intro pins s σ H Q I h
 refine UnaryOp_ (thn (ha pins s σ H _ I h) ?_)
 rintro v s1 ⟨x,H1,I1,r1,q1⟩
 exact ho pins s1 σ H1 x v Q I1 r1 q1
theorem opI {f:Value->Value->Sem Value} {C:Int->Int->Prop} {g:Int->Int->Int}
  (rule:∀(i j:Int) (t u:Tok) (s:Shared) (Q:Value->Shared->Prop) (E:Value->Shared->Prop),C i j->Q (.int (g i j) s.toks) {s with toks:=s.toks+1}->wpAny (model X.prog X.w) X.A (f (.int i t) (.int j u)) Q E s):
  OpR X f (rI C λi j=> .int (g i j)):=by
 intro pins s σ H x y v u Q I rx ry h
 obtain⟨i,j,rfl,rfl,hc,q⟩:=h
 obtain⟨t,rfl⟩:=rx
 obtain⟨t',rfl⟩:=ry
 exact rule i j t t' s _ _ hc ⟨.int (g i j),H,I.tok _,⟨_,rfl⟩,q⟩
theorem zlY {f:Value->Value->Sem Value} {g:Int->Int->Int}
  (rule:∀(i j:Int) (t u:Tok) (s:Shared) (Q:Value->Shared->Prop) (E:Value->Shared->Prop),Q (.int (g i j) s.toks) {s with toks:=s.toks+1}->wpAny (model X.prog X.w) X.A (f (.int i t) (.int j u)) Q E s):
  OpR X f (rI0 λi j=> .int (g i j)):=by
 intro pins s σ H x y v u Q I rx ry h
 obtain⟨i,j,rfl,rfl,q⟩:=h
 obtain⟨t,rfl⟩:=rx
 obtain⟨t',rfl⟩:=ry
 exact rule i j t t' s _ _ ⟨.int (g i j),H,I.tok _,⟨_,rfl⟩,q⟩
def zkB (i j:Int):Prop:=0<=j/\j<=1000000/\i.natAbs<2^64
def zgN (i j:Int):Prop:=(-(2^64)<i/\i<2^64)\/(-(2^64)<j/\j<2^64)
theorem zgN.ok {i j:Int} (h:zgN i j):IntMulOk i j:=by
 rcases h with⟨h1,h2⟩|⟨h1,h2⟩
 ·exact .of_left (intBits_le_64 h1 h2)
 ·exact .of_right (intBits_le_64 h1 h2)
theorem yK:OpR X (binaryOp .Add) (rI0 λi j=> .int (i+j)):=zlY λ_ _ _ _ _ _ _ q=>add_int q
theorem Tw:OpR X (binaryOp .Sub) (rI0 λi j=> .int (i-j)):=zlY λ_ _ _ _ _ _ _ q=>sub_int q
theorem zef:OpR X (binaryOp .Mult) (rI zgN λi j=> .int (i*j)):=opI λ_ _ _ _ _ _ _ hc q=>mul_int q hc.ok
theorem Zp:OpR X (binaryOp .Mod) (rI (λ_ j=>0<j) λi j=> .int (i % j)):=opI λi j _ _ _ _ _ hc q=>by
 have h1:(0:Int)<j:=hc
 exact mod_int' ⋯ (by rw[Int.fmod_eq_emod_of_nonneg i ⋯];exact q)
theorem zeg:OpR X (binaryOp .Pow) (rI zkB λi j=> .int (i^j.toNat)):=opI λ_ _ _ _ _ _ _ hc q=>pow_int_small hc.1 hc.2.1 hc.2.2 q
theorem unI {f:Value->Sem Value} {g:Int->Int}
  (rule:∀(i:Int) (t:Tok) (s:Shared) (Q:Value->Shared->Prop) (E:Value->Shared->Prop),Q (.int (g i) s.toks) {s with toks:=s.toks+1}->wpAny (model X.prog X.w) X.A (f (.int i t)) Q E s):
  UnR X f (rU λi=> .int (g i)):=by
 intro pins s σ H x v Q I rx h
 obtain⟨i,rfl,q⟩:=h
 obtain⟨t,rfl⟩:=rx
 exact rule i t s _ _ ⟨.int (g i),H,I.tok _,⟨_,rfl⟩,q⟩
theorem WJ:UnR X (unaryOp .USub) (rU λi=> .int (-i)):=unI λ_ _ _ _ _ q=>neg_int q
end
section
variable {X:Cx} {a b c:Expr} {ta tb tc:TE} {pos:Pos}
theorem ziR {op:CmpOp} {r:R2} (ho:OpR X (compareOp op) r) (ha:PE X a ta) (hb:PE X b tb) (hm:behindInMarks op b=false):PE X (.Compare a [op] [b] pos) (tOp r ta tb):=by
 intro pins s σ H Q I h
 exact wpAny_Compare1 (zkA ha hb I h λv u s2 x y H2 I2 rx ry q=>ho pins s2 σ H2 x y v u Q I2 rx ry q) hm
def zj1 (t:TE):TT:=λσ H Q=>t σ H λx H'=>∃k,x= .bl k/\Q k H'
theorem wZ {op:CmpOp} {r:R2} (ho:OpR X (compareOp op) r) (ha:PE X a ta) (hb:PE X b tb) (hm:behindInMarks op b=false):PT X (.Compare a [op] [b] pos) (zj1 (tOp r ta tb)):=by
 intro pins s σ H Q I h
 refine wpAny_isTrue_Compare1 (thn (ha pins s σ H _ I h) λv s1 ⟨x,H1,I1,r1,q1⟩=>thn (hb pins s1 σ H1 _ I1 q1) λu s2 ⟨y,H2,I2,r2,q2⟩=>
  thn (ho pins s2 σ H2 x y v u _ I2 r1 r2 q2) λc s3 ⟨z,H3,I3,r3,k,e,q3⟩=> ?_) hm
 subst e
 cases r3
 exact wpAny_truthy_bool ⟨H3,I3,q3⟩
theorem Tz:(sizeLine:Nat)<2^63:=by rw[sizeLine_eq];decide
theorem ZU {x:V} {us:List Value} (r:zT [x] us):∃u,us=[u]/\zK x u:=by
 cases r with
 |cons r1 r2=>cases r2;exact⟨_,rfl,r1⟩
theorem zlZ {x y:V} {us:List Value} (r:zT [x,y] us):∃u w',us=[u,w']/\zK x u/\zK y w':=by
 cases r with
 |cons r1 r2=>
  cases r2 with
  |cons r3 r4=>cases r4;exact⟨_,_,rfl,r1,r3⟩
theorem zc8:vy X (.builtin "abs") (λxs H Q=>∃i,xs=[.int i]/\Q (.int (if i<0 then -i else i)) H):=by
 intro pins s σ H xs us Q I r h
 obtain⟨i,rfl,q⟩:=h
 obtain⟨u,rfl,t,rfl⟩:=ZU r
 exact call_abs_int λu tk=>⟨.int (if i<0 then -i else i),H,I.tok _,⟨_,rfl⟩,q⟩
end
structure zkC (h:Heap) (x dx C:Addr) (mA:Str->Option Value):Prop where
 obj:h.get? x=some (Ij C dx)
 ns:h.Ns1 dx mA
 ne:dx≠x
theorem zfU {h:Heap} {dx:Addr} {mA:Str->Option Value} (n:h.Ns1 dx mA):∃od,h.get? dx=some od/\∀name,IB name od=some (mA name):=by
 obtain⟨o,es,ep,ho,hd,hk,_,hm⟩:=n
 refine⟨o,ho,λname=> ?_⟩
 have e:=hm name
 unfold nsFind findBy at e
 rw[<-Array.find?_toList] at e
 unfold IB
 rw[hd]
 dsimp only
 split
 ·rename_i y q
  rw[q] at e
  exact congrArg some e
 ·rename_i q
  rw[q] at e
  have a:es.toList.any (·.refKey)=false:=by
   rw[List.any_eq_false]
   intro y hy
   obtain⟨z,t,j8⟩:=hk y (Array.mem_toList_iff.mp hy)
   simp[DictEntry.refKey,j8]
  have a':¬es.toList.any (·.refKey)=true:=by rw[a];exact Hz
  rw[if_neg a']
  exact congrArg some e
theorem zkC.look {h:Heap} {x dx C:Addr} {mA:Str->Option Value} (I:zkC h x dx C mA):∃od,Hv h x (Ij C dx) C (some od)/\∀name,IB name od=some (mA name):=
 let ⟨od,ho,hl⟩:=zfU I.ns
 ⟨od,⟨I.obj,rfl,rfl,ho⟩,hl⟩
section
variable {prog:Program} {w:World} {A:Around} {E:Value->Shared->Prop} {s:Shared} {K:E9} {x dx C f:Addr} {mA:Str->Option Value} {name:Str} {v:Value}
end
theorem Ww.some_of {v:V} {o:Option Value} (r:Ww (some v) o):∃u,o=some u/\zK v u:=by
 cases o with
 |none=>exact (show False from r).elim
 |some u=>exact⟨u,rfl,r⟩
section
variable {P:Program} {w:World} {H H':Hp} {h h':Heap} {a C dx:Addr} {fs fs':List (Str×V)}
theorem ziS (hok:HOk P w H h) (e:H a=some (.ins C dx fs)):∃mA,zkC h a dx C mA/\(∀f,Ww (fs.lookup f) (mA f))/\JG mA (fs.map (·.1))/\fs.length<=1000/\H dx=some (.own a):=by
 obtain⟨d,z,ne,ob,mA,n,r,q⟩:=(show ym P w H h a (.ins C dx fs) from hok a _ e)
 exact⟨mA,⟨ob,n,ne⟩,r,q,z,d⟩
end
structure Cls (K:E9) (C:Addr):Prop where
 pg:Jg K C Str.empty=true
 hd:PySem.W.hasDictIn K C=true
 po:PySem.W.plainOver K C=true
 sa:FT K (.ref C) "__setattr__"=some (some (.builtin "object.__setattr__"))
theorem Cls.get {K:E9} {C:Addr} (c:Cls K C) (f:Str):Jg K C f=true:=c.pg
structure Con (K:E9) (C:Addr) (f:Str) (v:V) (u:Value):Prop where
 at_:FT K (.ref C) f=some (some u)
 rel:zK v u
 get:HJ K u "__get__"=some none
 cp:PySem.W.copiedNames.contains f=false
structure zmG (K:E9) (C:Addr) (m:Str) (f:Addr):Prop where
 at_:FT K (.ref C) m=some (some (.ref f))
 fn:JH K (.ref f)=true
 kp:EA K (.ref f)=true
section
variable {X:Cx} {pins:List (Addr×Obj)} {σ:St} {H:Hp} {s:Shared} {a C dx:Addr} {fs:List (Str×V)} {f:Str} {v:V} {A:Around} {E:Value->Shared->Prop}
end
section
variable {X:Cx} {o e value:Expr} {f:Str} {pos pos' jL:Pos} {ta tv:TE}
end
section
variable {X:Cx} {pins:List (Addr×Obj)} {σ:St} {H:Hp} {s:Shared} {A:Around} {E:Value->Shared->Prop} {Q:Value->Shared->Prop} {c:Value} {b:Bool}
inductive UO (K:E9) (H:Hp):V->Value->Prop where
 |non:UO K H .non (.type "NoneType")
 |bl (x:Bool):UO K H (.bl x) (.type "bool")
 |int (i:Int):UO K H (.int i) (.type "int")
 |str (x:Str):UO K H (.str x) (.type "str")
 |flt (x:UInt64):UO K H (.flt x) (.type "float")
 |lst {a:Addr} {xs:List V} (e:H a=some (.lst xs)):UO K H (.ref a) (.type "list")
 |frz {a:Addr} {o:Obj} {xs:List V} (e:H a=some (.frz o (.lst xs))):UO K H (.ref a) (.type "list")
 |tup {a:Addr} {xs:List V} (e:H a=some (.tup xs)):UO K H (.ref a) (.type "tuple")
 |dK {a:Addr} {kvs:List (Key×V)} (e:H a=some (.dK kvs)):UO K H (.ref a) (.type "dict")
 |dT {a:Addr} {kvs:List (List Key×V)} (e:H a=some (.dT kvs)):UO K H (.ref a) (.type "dict")
 |ins {a C dx:Addr} {fs:List (Str×V)} (e:H a=some (.ins C dx fs)) (cl:Cls K C) (ha:FT K (.ref C) "__class__"=some (some (.builtin "object.__class__")))
   (hn:HJ K (.builtin "object.__class__") "__get__"=some (some (.builtin "getset_descriptor.__get__"))) (htk:Jr K (.builtin "object.__class__")=some true)
   (hm:GH K C (.type "object")=some true):UO K H (.ref a) (.ref C)
end
structure vk (k:Nat) (A:Around):Prop where
 hd:A.handled=none
 dp:A.depth+3*k+5<recursionLimit
 un:A.units+16*k+200<cLine
 gd:A.guards=some []
theorem vk.mono {j k:Nat} {A:Around} (r:vk k A) (h:j<=k):vk j A:=⟨r.hd,by have:=r.dp;omega,by have:=r.un;omega,r.gd⟩
theorem vk.deeper {k:Nat} {A:Around} (r:vk (k+1) A) (env:Env):vk k (A.deeper env):=
 ⟨r.hd,by have:=r.dp;show A.depth+1+3*k+5<_;omega,by have:=r.un;show A.units+3+16*k+200<_;omega,r.gd⟩
theorem vk.depth {k:Nat} {A:Around} (r:vk k A):A.depth<recursionLimit:=by have:=r.dp;omega
theorem vk.units {k:Nat} {A:Around} (r:vk k A):A.units+64<cLine:=by have:=r.un;omega
def zc9:TA:=λ_ H Q=>Q [] H
def Wz (ta:TE) (tr:TA):TA:=λσ H Q=>ta σ H λx H1=>tr σ H1 λxs H2=>Q (x::xs) H2
section
variable {X:Cx} {e:Expr} {es:List Expr} {te:TE} {t:TA} {pos:Pos}
theorem zf:PA X [] zc9:=λ_ _ _ _ H Q I h=>Calls.spliced_nil ⟨[],H,I,.nil,h⟩
theorem za (ha:PE X e te) (hr:PA X es t) (hs:starEach (e::es) X.env=(false,eval e X.env)::starEach es X.env:=by rfl):PA X (e::es) (Wz te t):=by
 intro pos pins s σ H Q I h
 rw[hs]
 show wpAny _ _ (spliced ((false,eval e X.env)::backTo pos (starEach es X.env))) _ _ s
 refine Calls.spliced_cons (thn (ha pins s σ H _ I h) ?_)
 rintro u s1 ⟨x,H1,I1,r1,q1⟩
 refine thn (hr pos pins s1 σ H1 _ I1 q1) ?_
 rintro us s2 ⟨xs,H2,I2,r2,q2⟩
 exact⟨x::xs,H2,I2,.cons r1 r2,q2⟩
def zl0 (t:TA):TE:=λσ H Q=>t σ H λxs H1=>xs.length<=sizeLine/\∀p,H1 p=none->Q (.ref p) (upd H1 p (.tup xs))
def zl1 (t:TA):TE:=λσ H Q=>t σ H λxs H1=>xs.length<=sizeLine/\∀p,H1 p=none->Q (.ref p) (upd H1 p (.lst xs))
theorem yL {x1} (h:PA X es t):PE X (.Tuple es x1 pos) (zl0 t):=by
 intro pins s σ H Q I hq
 refine wpAny_Tuple_spliced (thn (h pos pins s σ H _ I hq) λus s1 ⟨xs,H1,I1,r,z,q⟩=>⟨by rw[<-r.length];exact z,?_⟩)
 have hf:H1 s1.heap.objs.size=none:=I1.hok.fresh (Ek _)
 refine⟨.ref s1.heap.objs.size,upd H1 s1.heap.objs.size (.tup xs),I1.laid (t':=s1.toks) (λb u e=>Heap.get?_push_of_some _ e) (Ek _) ?_,rfl,q _ hf⟩
 exact⟨z,us,r,⟨_,Heap.get?_push_size _ rfl,rfl,_,rfl⟩⟩
theorem xk (h:PA X es t):PE X (.List es pos) (zl1 t):=by
 intro pins s σ H Q I hq
 refine wpAny_List_spliced (thn (h pos pins s σ H _ I hq) λus s1 ⟨xs,H1,I1,r,z,q⟩=>⟨by rw[<-r.length];exact z,?_⟩)
 have hf:H1 s1.heap.objs.size=none:=I1.hok.fresh (Ek _)
 refine⟨.ref s1.heap.objs.size,upd H1 s1.heap.objs.size (.lst xs),I1.laid (t':=s1.toks) (λb u e=>Heap.get?_push_of_some _ e) (Ek _) ?_,rfl,q _ hf⟩
 exact⟨z,us,0,r,Heap.get?_push_size _ rfl⟩
end
abbrev Sp:=List V->Hp->VK->XK->Prop
abbrev CXT:=List Env->Hp->Shared->XK->Value->Shared->Prop
structure ziT (P:Program) (w:World) (K:E9) (mg:Str->Option Value) (base:Heap) (A:Around) (outer:List Env) (s:Shared) (H:Hp):Prop where
 frames:A.frames=some outer
 mod:Mod K mg base
 bs:∀b o,base.get? b=some o->s.heap.get? b=some o/\H b=none
 bsz:base.objs.size<=s.heap.objs.size
 funs:s.heap.FunFrames base outer
 frf:∀b∈frs outer,H b=none
 hok:HOk P w H s.heap
 bare:AllBare s.gens
def CE (outer:List Env) (P:Program) (w:World) (H:Hp) (s:Shared) (Q:VK) (u:Value) (s':Shared):Prop:=
 ∃v H',s'.os=s.os/\AllBare s'.gens/\Un (frs outer) [] H H' s.heap s'.heap/\HOk P w H' s'.heap/\zK v u/\Q v H'
def CR (CX:CXT) (outer:List Env) (P:Program) (w:World) (H:Hp) (s:Shared) (Q:VK) (E:XK) (r:Result) (s':Shared):Prop:=
 match r with
 | .ok (.ret u)=>CE outer P w H s Q u s'
 | .ok _=>False
 | .error e=>CX outer H s E e s'
structure xE (P:Program) (w:World) (K:E9) (mg:Str->Option Value) (base:Heap) (CX:CXT) (k:Nat) (f:Addr) (fd:FuncData) (ps:List Str) (sp:Sp):Prop where
 len:∀vs H Q E,sp vs H Q E->vs.length=ps.length
 run:∀(A:Around) (outer:List Env) (s:Shared) (H:Hp) (args:Args) (us:List Value) (vs:List V) (Q:VK) (E:XK),vk k A->ziT P w K mg base A outer s H->BindsTo s fd args (ps.zip us)->zT vs us->sp vs H Q E->
  codeAny (model P w) A (.call (.ref f) args) (CR CX outer P w H s Q E) s
theorem xE.imp {P:Program} {w:World} {K:E9} {mg:Str->Option Value} {base:Heap} {CX:CXT} {k:Nat} {f:Addr} {fd:FuncData} {ps:List Str} {sp sp':Sp} (F:xE P w K mg base CX k f fd ps sp)
  (h:∀vs H Q E,sp' vs H Q E->sp vs H Q E):xE P w K mg base CX k f fd ps sp':=
 ⟨λvs H Q E q=>F.len vs H Q E (h _ _ _ _ q),λA outer s H args us vs Q E hr he hb hv hs=>F.run A outer s H args us vs Q E hr he hb hv (h _ _ _ _ hs)⟩
section
variable {X:Cx} {pins:List (Addr×Obj)} {σ:St} {H:Hp} {s s':Shared}
theorem Inv.env0 (I:Inv X pins σ H s):ziT X.prog X.w X.K X.mg X.base X.A X.stack s H:=
 ⟨I.ok.frames,I.ok.mod,I.bs,Ey I.ok.bsz I.sz,I.stack,I.stkFree,I.hok,I.bare⟩
theorem Inv.after {Q:VK} {u:Value} (I:Inv X pins σ H s) (h:CE X.stack X.prog X.w H s Q u s'):EP X pins σ Q u s':=by
 obtain⟨v,H',os,bare,un,hok,r,q⟩:=h
 obtain⟨hh,g,d,t,os'⟩:=s'
 obtain rfl:os'=s.os:=os
 exact⟨v,H',I.call (h':=hh) (g':=g) (d':=d) (t':=t) (ch:=[]) un hok bare (λb z=>absurd z (by simp)),r,q⟩
end
def zj2 (sp:Sp) (iH:List V) (E:XK) (t:TA):TE:=λσ H Q=>t σ H λvs H1=>sp (vs++iH) H1 Q E
def yT (K:E9) (fd:FuncData) (ps:List Str) (ds:List Value):Prop:=
 ∀(s:Shared) (us:List Value),K.In s.heap->(us++ds).length=ps.length->BindsTo s fd ⟨us,[]⟩ (ps.zip (us++ds))
theorem yT.all {K:E9} {fd:FuncData} {ps:List Str} (h:∀us:List Value,us.length=ps.length->bindArgs fd ⟨us,[]⟩=pure (ps.zip us)):yT K fd ps []:=λs us _ hl=>by
 rw[Gi] at hl ⊢
 exact .of_eq (h us hl)
def zb7 (CX:CXT) (X:Cx) (E:XK):Prop:=∀(pins:List (Addr×Obj)) (σ:St) (H:Hp) (s:Shared) (e:Value) (s':Shared),Inv X pins σ H s->CX X.stack H s E e s'->X.xe e s'
section
variable {X:Cx} {CX:CXT} {k:Nat} {f C:Addr} {fd:FuncData} {ps:List Str} {sp:Sp} {iH:List V} {ds:List Value} {E:XK} {x m:Str} {p pos apos:Pos} {e o:Expr} {es:List Expr} {ta:TE} {t:TA}
theorem zkD {pins:List (Addr×Obj)} {σ:St} {H:Hp} {s:Shared} {Q:VK} {us:List Value} {vs:List V} (F:xE X.prog X.w X.K X.mg X.base CX k f fd ps sp) (hr:vk k X.A) (hb:yT X.K fd ps ds) (hd:zT iH ds) (hx:zb7 CX X E)
  (I:Inv X pins σ H s) (r:zT vs us) (h:sp (vs++iH) H Q E):wpAny (model X.prog X.w) X.A (call (.ref f) us) (EP X pins σ Q) X.xe s:=by
 have r2:zT (vs++iH) (us++ds):=r.append hd
 have hl:(us++ds).length=ps.length:=by rw[<-r2.length];exact F.len _ _ _ _ h
 refine wpAny_call (codeAny_mono (F.run X.A X.stack s H ⟨us,[]⟩ (us++ds) (vs++iH) Q E hr I.env0 (hb s us I.kIn hl) r2 h) λr s' hq=> ?_)
 cases r with
 |error e=>exact hx pins σ H s e s' I hq
 |ok fl=>
  cases fl with
  |ret u=>exact I.after hq
  |next=>exact Gx hq
  |brk=>exact Gx hq
  |cont=>exact Gx hq
theorem zv (F:xE X.prog X.w X.K X.mg X.base CX k f fd ps sp) (hr:vk k X.A) (hg:Gl X x) (hm:X.mg x=some (.ref f)) (hk:EA X.K (.ref f)=true) (hb:yT X.K fd ps ds) (hd:zT iH ds) (hx:zb7 CX X E)
  (ha:PA X (e::es) t) (kG:(x==("__debug__":Str))=false:=by decide) (he:starEach (e::es) X.env=(false,eval e X.env)::starEach es X.env:=by rfl) (fQ:(backTo pos (starEach es X.env)).any (·.1)=false:=by rfl):
  PE X (.Call (.Name x p) (e::es) [] pos) (zj2 sp iH E t):=by
 intro pins s σ H Q I h
 refine wpAny_Call_Name_kw (ze0 I hg hm ?_ kG)
 refine PySem.W.callWith_K (h₀:=X.base) I.ok.mod.kin hk (thn (ha pos pins s σ H _ I h) ?_) he fQ
 rintro us s1 ⟨vs,H1,I1,r,q⟩
 refine⟨I1.kIn,?_⟩
 exact zkD F hr hb hd hx I1 r q
structure Mk (K:E9) (C f:Addr):Prop where
 makes:PySem.W.makesIn K C=true
 init:FT K (.ref C) "__init__"=some (some (.ref f))
 fn:JH K (.ref f)=true
 kp:EA K (.ref C)=true
end
section
variable {X:Cx} {CX:CXT} {k:Nat} {f C:Addr} {fd:FuncData} {ps ks:List Str} {sp:Sp} {E:XK} {x m:Str} {p pos apos Au:Pos} {e o:Expr} {es:List Expr} {Dz:List Keyword} {te ta:TE} {t tk:TA} {nm:Option Str}
structure zmw (K:E9) (fd:FuncData) (ps ks:List Str) (g:List Value->List Value->List Value) (gV:List V->List V->List V):Prop where
 to:∀(s:Shared) (us ws:List Value),K.In s.heap->(g us ws).length=ps.length->BindsTo s fd ⟨us,ks.zip ws⟩ (ps.zip (g us ws))
 rel:∀{vs:List V} {us:List Value} {zs:List V} {ws:List Value},zT vs us->zT zs ws->zT (gV vs zs) (g us ws)
variable {g:List Value->List Value->List Value} {gV:List V->List V->List V}
end
structure zY (N P:List Str) (sc:Scope):Prop where
 kind:sc.kind= .function
 co:sc.isCoroutine=false
 gen:sc.isGenerator=false
 nd:N.Nodup
 pre:N.take P.length=P
 par:∀x∈P,sc.names.lookup x=some .local\/sc.names.lookup x=some .cell
 nofree:∀y∈sc.names,y.2≠ .free
theorem zbu {kindOf:Str->Option NameKind} {x:Str}:∀{binds:List (Str×Value)} {m:Str->Option Value},(∀v,(x,v)∉binds)->bindL kindOf binds m x=m x
 |[],_,_=>rfl
 |(n,v)::r,m,h=>by
  unfold bindL
  rw[zbu λw hw=>h w (Ej _ hw)]
  split
  ·have:x≠n:=by rintro rfl;exact h v Em
   simp[this]
  ·rfl
theorem zbv {kindOf:Str->Option NameKind} {x:Str}:∀{binds:List (Str×Value)} {m:Str->Option Value},(∀v,(x,v)∉binds)->bindC kindOf binds m x=m x
 |[],_,_=>rfl
 |(n,v)::r,m,h=>by
  unfold bindC
  rw[zbv λw hw=>h w (Ej _ hw)]
  split
  ·rfl
  ·have:x≠n:=by rintro rfl;exact h v Em
   simp[this]
theorem zbw {kindOf:Str->Option NameKind} {x:Str} {v:Value}:∀{P:List Str} {vs:List Value} {i:Nat} {m:Str->Option Value},P.Nodup->P[i]? =some x->vs[i]? =some v->kindOf x=some .local->
  bindL kindOf (P.zip vs) m x=some v
 |[],_,_,_,_,h,_,_=>by simp at h
 |_::_,[],_,_,_,_,h,_=>by simp at h
 |p::P,w::vs,0,m,nd,h1,h2,hk=>by
  simp at h1 h2;subst h1;subst h2
  show bindL kindOf ((p,w)::P.zip vs) m p=_
  unfold bindL
  rw[zbu λv hv=>(Fw.mp nd).1 (Gj hv).1,if_pos hk]
  simp
 |p::P,w::vs,i+1,m,nd,h1,h2,hk=>by
  show bindL kindOf ((p,w)::P.zip vs) m x=_
  unfold bindL
  exact zbw (i:=i) (Fw.mp nd).2 (by simpa using h1) (by simpa using h2) hk
theorem zbx {kindOf:Str->Option NameKind} {x:Str} {v:Value}:∀{P:List Str} {vs:List Value} {i:Nat} {m:Str->Option Value},P.Nodup->P[i]? =some x->vs[i]? =some v->kindOf x≠some .local->
  bindC kindOf (P.zip vs) m x=some v
 |[],_,_,_,_,h,_,_=>by simp at h
 |_::_,[],_,_,_,_,h,_=>by simp at h
 |p::P,w::vs,0,m,nd,h1,h2,hk=>by
  simp at h1 h2;subst h1;subst h2
  show bindC kindOf ((p,w)::P.zip vs) m p=_
  unfold bindC
  rw[zbv λv hv=>(Fw.mp nd).1 (Gj hv).1,if_neg hk]
  simp
 |p::P,w::vs,i+1,m,nd,h1,h2,hk=>by
  show bindC kindOf ((p,w)::P.zip vs) m x=_
  unfold bindC
  exact zbx (i:=i) (Fw.mp nd).2 (by simpa using h1) (by simpa using h2) hk
noncomputable def XE (N:List Str) (vs:List V):St:=vs.map some++F4 (N.length-vs.length) none
noncomputable def zda (CX:CXT) (P:Program) (w:World) (K:E9) (mg:Str->Option Value) (base:Heap) (N:List Str) (qual:Str) (scope:Scope) (f:Addr) (cd:Value) (A:Around) (outer:List Env) (s:Shared) (H:Hp) (E:XK):Cx where
 prog:=P
 w:=w
 K:=K
 mg:=mg
 base:=base
 A:=A.deeper (envOfC qual scope s.heap.objs.size f cd)
 N:=N
 s₀:=s
 H₀:=H
 env:=envOfC qual scope s.heap.objs.size f cd
 outer:=outer
 stack:=envOfC qual scope s.heap.objs.size f cd::outer
 ex:=[]
 calm:=true
 fn:=λ_=>true
 pn:=[]
 xe:=λe s'=>wpAny (model P w) (A.deeper (envOfC qual scope s.heap.objs.size f cd)) (leaving (envOfC qual scope s.heap.objs.size f cd) e) (λ_ s''=>CX outer H s E e s'') (λe' s''=>CX outer H s E e' s'') s'
theorem zdb {sc:Scope} {n:Nat} {x:Str} (h:sc.names.lookup x=some .cell):∃c,(cellsFrom n sc.names []).lookup x=some c:=by
 have q:=Iv sc.names n [] (.inl h)
 exact FO.mp q
theorem zfV {CX:CXT} {P:Program} {w:World} {K:E9} {mg:Str->Option Value} {base:Heap} {N ps:List Str} {qual:Str} {scope:Scope} {f:Addr} {cd:Value} {A:Around} {outer:List Env} {s s1:Shared} {H:Hp} {E:XK} {us:List Value} {vs:List V}
  (S:zY N ps scope) (hd:A.handled=none) (e0:ziT P w K mg base A outer s H) (hl:vs.length=ps.length) (r:zT vs us)
  (x:InCallC s s.heap.objs.size (bindL (envOfC qual scope s.heap.objs.size f cd).kindOf (ps.zip us) λ_=>none) (cellsFrom (s.heap.objs.size+1) scope.names []) (bindC (envOfC qual scope s.heap.objs.size f cd).kindOf (ps.zip us) λ_=>none) s1):
  Inv (zda CX P w K mg base N qual scope f cd A outer s H E) [] (XE N vs) H s1:=by
 have fQ:ps.length<=N.length:=by have:=congrArg List.length S.pre;rw[Fc] at this;omega
 obtain⟨h1,tk,rfl,hk⟩:=x.done
 have jU:∀b:Addr,b∉(zda CX P w K mg base N qual scope f cd A outer s H E).ex:=λb z=>absurd (show b∈([]:List Addr) from z) (by simp)
 refine⟨⟨e0.mod,S.kind,rfl,rfl,Ek _,λy z c h1 h2=> ?_,λy hy=> ?_,λy c _ h=> ?_,λ_=>hd,Around.frames_deeper e0.frames,.inr ⟨rfl,rfl⟩,λb z=>absurd z (jU b),e0.bs,e0.bsz,λb _ _=>jU b,λb z=>absurd z (jU b),e0.funs,e0.frf⟩,
  rfl,e0.bare,Un.kept hk,⟨_,x.toInCall.ns,λi y v h1 h2 h3=> ?_⟩,λy c h=>⟨_,x.cell y c h⟩,e0.hok.fresh (Ek _),λy c h=> ?_,λp hp=>absurd (show p∈([]:List (Addr×Obj)) from hp) (by simp),e0.hok.kept hk,?_⟩
 ·exact name_of_addr x.apart (G0 h1) (G0 h2)
 ·have hy:scope.names.lookup y=some .cell\/scope.names.lookup y=some .free:=hy
  rcases hy with hy|hy
  ·exact zdb hy
  ·exact absurd rfl (S.nofree _ (G0 hy))
 ·exact EL (x.above y c (G0 h))
 ·have hi:i<vs.length:=by
   unfold XE at h2
   by_cases hi:i<vs.length
   ·exact hi
   ·rw[Eu (by simpa using hi)] at h2
    rw[FX] at h2
    split at h2<;>cases h2
  have ha:vs[i]? =some v:=by
   unfold XE at h2
   rw[Ed (by simpa using hi),Ef] at h2
   cases e:vs[i]? with
   |none=>rw[e] at h2;cases h2
   |some a=>rw[e] at h2;cases h2;rfl
  obtain⟨u,hu,rv⟩:=r.get ha
  have hp:ps[i]? =some y:=by
   rw[<-S.pre,List.getElem?_take_of_lt ⋯];exact h1
  have sT:ps.Nodup:=by rw[<-S.pre];exact S.nd.sublist (List.take_sublist _ _)
  refine⟨u,rv,?_⟩
  rcases S.par y (Ei hp) with k|k
  ·exact .inl ⟨k,zbw sT hp hu k⟩
  ·obtain⟨c,e⟩:=zdb (n:=s.heap.objs.size+1) k
   refine .inr ⟨.inl k,c,e,?_⟩
   have q:=x.cell y c e
   rw[zbx sT hp hu (by show scope.names.lookup y≠_;rw[k];decide)] at q
   exact q
 ·exact e0.hok.fresh (EL (x.above y c (G0 h)))
 ·unfold XE
  show _=N.length
  rw[Ew,Eb,IC]
  omega
theorem zl2 {CX:CXT} {P:Program} {w:World} {K:E9} {mg:Str->Option Value} {base:Heap} {k:Nat} {f:Addr} {name qual:Str} {params:Arguments} {body:List Stmt} {scope:Scope} {dV kV doc pm aO ct oc:Value} {an od:Option Addr}
  {i7:Array (Option Value)} {N ps:List Str} {sp:Sp} (lk:K.lookup f=some ⟨oc,od,.func (EF name qual params body scope dV kV doc pm an aO ct),i7⟩) (er:ED K aO qual=true) (S:zY N ps scope)
  (len:∀vs H Q E,sp vs H Q E->vs.length=ps.length)
  (gk:∀(A:Around) (outer:List Env) (s:Shared) (H:Hp) (vs:List V) (Q:VK) (E:XK),vk k (A.deeper (envOfC qual scope s.heap.objs.size f aO))->sp vs H Q E->
   ∃t,PSs (zda CX P w K mg base N qual scope f aO A outer s H E) body t/\t {nx:=λ_ H'=>Q .non H',rt:=Q} (XE N vs) H):
  xE P w K mg base CX (k+1) f (EF name qual params body scope dV kV doc pm an aO ct) ps sp:=by
 refine⟨len,λA outer s H args us vs Q E hr e0 hb r ik=> ?_⟩
 have hl:=len _ _ _ _ ik
 have KX:K.In s.heap:=e0.mod.kin.keeps λb o e=>(e0.bs b o e).1
 have lim:s.heap.NoLimit:=e0.mod.nolimit.keeps λb o e=>(e0.bs b o e).1
 have kr:∀y∈ps.zip us,scope.names.lookup y.1=some .local\/(scope.names.lookup y.1=some .cell/\((cellsFrom (s.heap.objs.size+1) scope.names []).lookup y.1).isSome=true):=λ⟨n,v⟩ hy=>by
  rcases S.par n (Gj hy).1 with q|q
  ·exact .inl q
  ·exact .inr ⟨q,Iv _ _ _ (.inl q)⟩
 refine codeAny_call_function hr.depth (KX _ _ lk) rfl S.co S.gen rfl (PySem.W.codeRec_of KX er) (hb _ _ _ _ ?_)
 refine wpAny_newFunctionEnv_cells S.kind kr λenv he s1 x=> ?_
 subst he
 refine⟨lim.keeps x.toInCall.keep,codeAny_func ?_⟩
 obtain⟨t,ht,hq⟩:=gk A outer s H vs Q E (hr.deeper _) ik
 have I:Inv (zda CX P w K mg base N qual scope f aO A outer s H E) [] (XE N vs) H s1:=zfV S hr.hd e0 hl r x
 refine wpAny_mono (ht [] s1 (XE N vs) H _ I hq) (λfl s' hs=> ?_) λe s' hs=>hs
 have fin:∀{σ':St} {H':Hp} {v:V} {u:Value},Inv (zda CX P w K mg base N qual scope f aO A outer s H E) [] σ' H' s'->zK v u->Q v H'->CE outer P w H s Q u s':=
  λ{σ' H' v u} J rv q=>⟨v,H',J.os,J.bare,J.base,J.hok,rv,q⟩
 cases fl with
 |ret u=>
  obtain⟨v,σ',H',J,rv,q⟩:=hs
  exact fin J rv q
 |next=>
  obtain⟨σ',H',J,q⟩:=hs
  exact fin (v:=V.non) (u:=Value.none) J rfl q
 |brk=>
  obtain⟨_,_,_,q⟩:=hs
  exact Gx q
 |cont=>
  obtain⟨_,_,_,q⟩:=hs
  exact Gx q
section
variable {X:Cx} {x:Str} {p pos:Pos} {e:Expr} {es:List Expr} {t:TA} {id T:String} {r:List V->Hp->VK->Prop}
def tCB (r:List V->Hp->VK->Prop) (t:TA):TE:=λσ H Q=>t σ H λvs H1=>r vs H1 Q
theorem zQ (hc:vy X (.builtin id) r) (hg:Gl X x) (hm:X.mg x=none) (hv:bootBuiltins x=some (.builtin id)) (ha:PA X (e::es) t) (hn:x≠"__name__":=by decide) (kG:(x==("__debug__":Str))=false:=by decide)
  (he:starEach (e::es) X.env=(false,eval e X.env)::starEach es X.env:=by rfl) (fQ:(backTo pos (starEach es X.env)).any (·.1)=false:=by rfl):PE X (.Call (.Name x p) (e::es) [] pos) (tCB r t):=by
 intro pins s σ H Q I h
 refine wpAny_Call_Name_kw (ZT I hg hm hv ?_ hn kG)
 refine Hn (thn (ha pos pins s σ H _ I h) ?_) he fQ
 rintro us s1 ⟨vs,H1,I1,r1,q1⟩
 exact hc pins s1 σ H1 vs us Q I1 r1 q1
theorem YI (hc:vy X (.type T) r) (hg:Gl X x) (hm:X.mg x=none) (hv:bootBuiltins x=some (.type T)) (ha:PA X (e::es) t) (hn:x≠"__name__":=by decide) (kG:(x==("__debug__":Str))=false:=by decide)
  (he:starEach (e::es) X.env=(false,eval e X.env)::starEach es X.env:=by rfl) (fQ:(backTo pos (starEach es X.env)).any (·.1)=false:=by rfl):PE X (.Call (.Name x p) (e::es) [] pos) (tCB r t):=by
 intro pins s σ H Q I h
 refine wpAny_Call_Name_kw (ZT I hg hm hv ?_ hn kG)
 refine Ft (thn (ha pos pins s σ H _ I h) ?_) he fQ
 rintro us s1 ⟨vs,H1,I1,r1,q1⟩
 exact hc pins s1 σ H1 vs us Q I1 r1 q1
end
end L2
namespace HT
open PySem PyProof.Rows
theorem zdc (A:Around) (s:Shared) (a:Int) (t:Tok) (c:Int) (u:Tok) (prog:Program) (w:World) (E:Value->Shared->Prop) (Q:Value->Shared->Prop) (h:Q (.bool (decide (a<c))) s):
  wpAny (model prog w) A (richCompare .Lt (.int a t) (.int c u)) Q E s:=
 (PyProof.Rows.lt_int h:wpAny (model prog w) A (compareOp .Lt (.int a t) (.int c u)) Q E s)
section
open PySem.SeqAt
open PySem.AutoSeq1 (wpAny_loadPart')
open PySem.MeetsSeq PySem.MeetsSeq2 PySem.MeetsSeq3
end
section
variable {prog:Program} {w:World} {A:Around} {E:Value->Shared->Prop} {s:Shared}
noncomputable def sIx (n d:Nat):Option Int->Nat
 |none=>d
 |some v=>if v<0 then (v+(n:Int)).toNat else min v.toNat n
end
end HT
namespace L2
open PySem PySem.Spec PyProof.Rows
abbrev TO:=St->Hp->(Option Int->Hp->Prop)->Prop
def PO (X:Cx) (e:Option Expr) (t:TO):Prop:=
 ∀(pins:List (Addr×Obj)) (s:Shared) (σ:St) (H:Hp) (Q:Option Int->Hp->Prop),Inv X pins σ H s->t σ H Q->
  wpAny (model X.prog X.w) X.A (evalPart e X.env) (λu s'=>∃o H',Inv X pins σ H' s'/\IsPart u o/\Q o H') X.xe s
def zj3 (t:TE):TO:=λσ H Q=>t σ H λx H1=>∃i,x= .int i/\Q (some i) H1
section
variable {X:Cx} {e:Expr} {te:TE} {lo hi:Option Expr} {tl th:TO} {pos p2:Pos}
theorem ze3 (h:PE X e te):PO X (some e) (zj3 te):=by
 intro pins s σ H Q I hw
 rw[evalPart_some]
 refine thn (h pins s σ H _ I hw) ?_
 rintro u s1 ⟨x,H1,I1,r1,q1⟩
 obtain⟨i,rfl,q⟩:=q1
 obtain⟨t,rfl⟩:=r1
 exact⟨some i,H1,I1,.int i t,q⟩
def SlR (X:Cx) (r:V->Option Int->Option Int->Hp->VK->Prop):Prop:=
 ∀(pins:List (Addr×Obj)) (s:Shared) (σ:St) (H:Hp) (x:V) (v vl vu:Value) (lo hi:Option Int) (sl:Addr) (Q:VK),Inv X pins σ H s->zK x v->s.heap.IsSliceOf sl vl vu .none->IsPart vl lo->IsPart vu hi->r x lo hi H Q->
  ∃T id,typeLookup (.type T) "__getitem__"=pure (some (.builtin id))/\s.TypeIs v T/\wpAny (model X.prog X.w) X.A (getItem v (.ref sl)) (EP X pins σ Q) X.xe s
def tSl (r:V->Option Int->Option Int->Hp->VK->Prop) (te:TE) (tl th:TO):TE:=λσ H Q=>te σ H λx H1=>tl σ H1 λl H2=>th σ H2 λu H3=>r x l u H3 Q
theorem zgO {r:V->Option Int->Option Int->Hp->VK->Prop} (hr:SlR X r) (he:PE X e te) (hl:PO X lo tl) (hu:PO X hi th):PE X (.Subscript e (.Slice lo hi none p2) pos) (tSl r te tl th):=by
 intro pins s σ H Q I h
 refine Subscript_ (thn (he pins s σ H _ I h) ?_)
 rintro v s1 ⟨x,H1,I1,r1,q1⟩
 refine wpAny_Slice (thn (hl pins s1 σ H1 _ I1 q1) ?_)
 rintro vl s2 ⟨l,H2,I2,pl,q2⟩
 refine thn (hu pins s2 σ H2 _ I2 q2) ?_
 rintro vu s3 ⟨u,H3,I3,pu,q3⟩
 rw[evalPart_none]
 refine wpAny_pure ?_
 have I4:Inv X pins σ H3 {s3 with heap:=s3.heap.push {cls:= .type "slice",data:= .fields #[vl,vu,.none]}}:=I3.kept (t':=s3.toks) λb ob q=>Heap.get?_push_of_some _ q
 obtain⟨T,id,hT,ht,hg⟩:=hr pins {s3 with heap:=s3.heap.push {cls:= .type "slice",data:= .fields #[vl,vu,.none]}} σ H3 x v vl vu l u s3.heap.objs.size Q I4 r1 (Heap.IsSliceOf.new ..) pl pu q3
 show wpAny (model X.prog X.w) X.A (subscriptTail e (.Slice lo hi none p2) v (.ref s3.heap.objs.size)) (EP X pins σ Q) X.xe {s3 with heap:=s3.heap.push {cls:= .type "slice",data:= .fields #[vl,vu,.none]}}
 exact tail_any (ops:=[.ref s3.heap.objs.size,v]) ht hT hg (by with_unfolding_all rfl)
noncomputable def zfW (xs:List V) (lo hi:Option Int):List V:=(xs.drop (HT.sIx xs.length 0 lo)).take (HT.sIx xs.length xs.length hi-HT.sIx xs.length 0 lo)
theorem zdd (xs:List V) (lo hi:Option Int):(zfW xs lo hi).length<=xs.length:=by
 unfold zfW
 rw[Fc,List.length_drop]
 omega
end
noncomputable def ixN (n:Nat) (i:Int):Option Nat:=if 0<=i then (if i<n then some i.toNat else none) else if -(n:Int)<=i then some (i+n).toNat else none
noncomputable def atI {α:Type} (xs:List α) (i:Int):Option α:=(ixN xs.length i).bind λj=>xs[j]?
theorem ze4 {n:Nat} {i:Int} {j:Nat} (h:ixN n i=some j):seqIndex? i n=some j/\j<n/\ -(n:Int)<=i/\i<n:=by
 unfold ixN at h
 by_cases h0:0<=i
 ·rw[if_pos h0] at h
  by_cases h1:i<n
  ·rw[if_pos h1] at h
   have e:i.toNat=j:=EE h
   exact⟨by rw[seqIndex_of h0 h1,e],⋯,⋯,h1⟩
  ·rw[if_neg h1] at h;cases h
 ·rw[if_neg h0] at h
  by_cases h1: -(n:Int)<=i
  ·rw[if_pos h1] at h
   have e:(i+n).toNat=j:=EE h
   exact⟨by rw[seqIndex_neg ⋯ h1,e],⋯,h1,⋯⟩
  ·rw[if_neg h1] at h;cases h
theorem ze5 {α:Type} {xs:List α} {i:Int} {v:α} (h:atI xs i=some v):∃j,seqIndex? i xs.length=some j/\xs[j]? =some v/\j<xs.length/\ -(xs.length:Int)<=i/\i<xs.length:=by
 unfold atI at h
 cases e:ixN xs.length i with
 |none=>rw[e] at h;cases h
 |some j=>
  rw[e] at h
  obtain⟨h1,h2,h3,h4⟩:=ze4 e
  exact⟨j,h1,h,h2,h3,h4⟩
def ziU (b:Expr):Prop:=∀o i,subscripted b false o i=operate [o,i] (getItem o i)
def IxR (X:Cx) (r:R2):Prop:=
 ∀(value slice:Expr) (pins:List (Addr×Obj)) (s:Shared) (σ:St) (H:Hp) (x y:V) (v u:Value) (Q:VK),Inv X pins σ H s->zK x v->zK y u->r x y H Q->
  subscripted slice false v u=operate [v,u] (getItem v u)->wpAny (model X.prog X.w) X.A (subscriptTail value slice v u) (EP X pins σ Q) X.xe s
def MtR (X:Cx) (id:String) (r:V->List V->Hp->VK->Prop):Prop:=
 ∀(pins:List (Addr×Obj)) (s:Shared) (σ:St) (H:Hp) (x:V) (xs:List V) (v:Value) (us:List Value) (Q:VK),Inv X pins σ H s->zK x v->zT xs us->r x xs H Q->
  wpAny (model X.prog X.w) X.A (call (.builtin id) (v::us)) (EP X pins σ Q) X.xe s
section
variable {X:Cx} {a b:Expr} {ta tb:TE} {pos:Pos}
theorem yn {r:R2} (hr:IxR X r) (ha:PE X a ta) (hb:PE X b tb) (hs:ziU b):PE X (.Subscript a b pos) (tOp r ta tb):=by
 intro pins s σ H Q I h
 exact Subscript_ (zkA ha hb I h λv u s2 x y H2 I2 rx ry q=>hr a b pins s2 σ H2 x y v u Q I2 rx ry q (hs _ _))
def zkE (K:E9):R2:=λx y H Q=>∃p xs i v,x= .ref p/\y= .int i/\SqL K H p xs/\atI xs i=some v/\Q v H
def zkF (K:E9):R2:=λx y H Q=>∃p xs i v,x= .ref p/\y= .int i/\SqT K H p xs/\atI xs i=some v/\Q v H
theorem ziV:IxR X (zkE X.K):=by
 intro value slice pins s σ H x y v u Q I rx ry h hs
 obtain⟨p,xs,i,z,rfl,rfl,hq,he,q⟩:=h
 cases rx
 obtain⟨t,rfl⟩:=ry
 obtain⟨ae,r,pl,hz⟩:=I.list hq
 obtain⟨j,h1,h2,h3,h4,h5⟩:=ze5 he
 obtain⟨w,ew,rw'⟩:=r.get h2
 have hl:=r.length
 have hn:=Tz
 have fin:EP X pins σ Q w s:=⟨z,H,I,rw',q⟩
 by_cases h0:0<=i
 ·have hj:i.toNat=j:=by
   rw[seqIndex_of h0 h5] at h1
   exact EE h1
  exact item_listR pl.isList h0 ⋯ (by rw[hj];simpa using ew) fin hs
 ·have hj:(i+(ae.toArray.size:Int)).toNat=j:=by
   rw[seqIndex_neg ⋯ h4] at h1
   rw[EC,<-hl]
   exact EE h1
  exact subscriptTail_builtinR (x:=w) pl.isList.typeIs slot_list_getitem.lookup
   (wpAny_getItem_list_neg (Q:=λr s'=>r=w/\EP X pins σ Q r s') pl.isList ⋯ (by rw[EC]<;>omega) ⋯ (by rw[hj];simpa using ew) ⟨rfl,fin⟩) hs
theorem zkG:IxR X (zkF X.K):=by
 intro value slice pins s σ H x y v u Q I rx ry h hs
 obtain⟨p,xs,i,z,rfl,rfl,hq,he,q⟩:=h
 cases rx
 obtain⟨t,rfl⟩:=ry
 obtain⟨ae,r,pl,hz⟩:=I.tuple hq
 obtain⟨j,h1,h2,h3,h4,h5⟩:=ze5 he
 obtain⟨w,ew,rw'⟩:=r.get h2
 have hl:=r.length
 have hn:=Tz
 have fin:EP X pins σ Q w s:=⟨z,H,I,rw',q⟩
 exact subscriptTail_builtinR (x:=w) pl.typeIs slot_tuple_getitem.lookup
  (getItem_tuple (j:=j) (Q:=λr s'=>r=w/\EP X pins σ Q r s') pl ⋯ ⋯ (by rw[EC,<-hl];exact h1) (by simpa using ew) ⟨rfl,fin⟩) hs
theorem zeh (ae:List Value) (n j:Nat) (u:Value):Obj.mapSeq (·.setIfInBounds j u) {cls:= .type "list",data:= .seq ae.toArray n}={cls:= .type "list",data:= .seq (ae.set j u).toArray n}:=by
 simp[Obj.mapSeq]
theorem Inv.lst {pins:List (Addr×Obj)} {σ:St} {H:Hp} {s:Shared} {p:Addr} {xs:List V} (I:Inv X pins σ H s) (h:H p=some (.lst xs)):
  ∃(ae:List Value) (n:Nat),zT xs ae/\s.heap.get? p=some {cls:= .type "list",data:= .seq ae.toArray n}/\xs.length<=sizeLine:=by
 obtain⟨z,ae,n,r,e⟩:=I.hok p _ h
 exact⟨ae,n,r,e,z⟩
theorem Inv.lstUpd {pins:List (Addr×Obj)} {σ:St} {H:Hp} {s:Shared} {p:Addr} {xs ys:List V} {ae its':List Value} {n n':Nat} {f:Obj->Obj} (I:Inv X pins σ H s) (h:H p=some (.lst xs))
  (ho:s.heap.get? p=some {cls:= .type "list",data:= .seq ae.toArray n}) (hf:f {cls:= .type "list",data:= .seq ae.toArray n}={cls:= .type "list",data:= .seq its'.toArray n'}) (r:zT ys its') (hz:ys.length<=sizeLine) (t:Nat):
  Inv X pins σ (upd H p (.lst ys)) {s with heap:=s.heap.update p f,toks:=t}:=by
 have e:(s.heap.update p f).get? p=some {cls:= .type "list",data:= .seq its'.toArray n'}:=by
  rw[Heap.get?_update_self f ho (by rw[hf]<;>rfl),hf]
 refine I.write (x:=p) (e:=p) (by rw[h];trivial) (.inl rfl) (λb u hb q=>(Heap.get?_update_other _ _ (Gw hb)).trans q) ⟨_,e⟩ ?_
 exact⟨hz,its',n',r,e⟩
def zj4:V->V->V->Hp->(Hp->Prop)->Prop:=λo i v H Q=>∃p xs k j,o= .ref p/\i= .int k/\H p=some (.lst xs)/\ixN xs.length k=some j/\Q (upd H p (.lst (xs.set j v)))
theorem TB:zlU X zj4:=by
 intro pins s σ H o i v ov iv u Q I ro ri rv h
 obtain⟨p,xs,k,j,rfl,rfl,hp,hj,q⟩:=h
 cases ro
 obtain⟨t,rfl⟩:=ri
 obtain⟨ae,n,r,ho,hz⟩:=I.lst hp
 obtain⟨h1,h2,h3,h4⟩:=ze4 hj
 have hl:=r.length
 have hn:=Tz
 have I':Inv X pins σ (upd H p (.lst (xs.set j v))) {s with heap:=s.heap.update p (Obj.mapSeq (·.setIfInBounds j u))}:=
  I.lstUpd hp ho (zeh ae n j u) (r.set rv j) (by rw[F9];exact hz) s.toks
 by_cases h0:0<=k
 ·have hk:k.toNat=j:=by
   rw[seqIndex_of h0 h4] at h1
   exact EE h1
  exact PySem.W.ki_setAt ho h0 ⋯ (by rw[EC,<-hl];exact h4) (by rw[hk];exact⟨_,I',q⟩)
 ·have hk:(k+(ae.toArray.size:Int)).toNat=j:=by
   rw[seqIndex_neg ⋯ h3] at h1
   rw[EC,<-hl]
   exact EE h1
  exact PySem.W.ki_setBack ho ⋯ (by rw[EC,<-hl];exact h3) ⋯ (by rw[hk];exact⟨_,I',q⟩)
theorem zb8 (lo hi:Option Int) (n:Nat):(sliceBounds lo hi none n).1=((HT.sIx n 0 lo:Nat):Int)/\(sliceBounds lo hi none n).2.1=((HT.sIx n n hi:Nat):Int)/\(sliceBounds lo hi none n).2.2=1:=by
 refine⟨?_,?_,rfl⟩
 ·cases lo with
  |none=>simp[sliceBounds,HT.sIx]
  |some i=>
   simp only[sliceBounds,HT.sIx,HU,show (1:Int)>0 by decide,if_true]
   by_cases h:i<0
   ·simp only[h,if_true]<;>omega
   ·simp only[h,if_false]<;>omega
 ·cases hi with
  |none=>simp[sliceBounds,HT.sIx]
  |some i=>
   simp only[sliceBounds,HT.sIx,HU,show (1:Int)>0 by decide,if_true]
   by_cases h:i<0
   ·simp only[h,if_true]<;>omega
   ·simp only[h,if_false]<;>omega
theorem za6 (ae:List Value) (lo hi:Option Int):slicePick ae.toArray lo hi none=((ae.drop (HT.sIx ae.length 0 lo)).take (HT.sIx ae.length ae.length hi-HT.sIx ae.length 0 lo)).toArray:=by
 obtain⟨h1,h2,h3⟩:=zb8 lo hi ae.toArray.size
 unfold slicePick
 rw[h1,h2,h3]
 simp only[sliceRange_one,pick_run,EC]<;>rfl
def zgP (K:E9):V->Option Int->Option Int->Hp->VK->Prop:=λx lo hi H Q=>∃a xs,x= .ref a/\SqL K H a xs/\∀p,H p=none->Q (.ref p) (upd H p (.lst (zfW xs lo hi)))
theorem ziW:SlR X (zgP X.K):=by
 intro pins s σ H x v vl vu lo hi sl Q I rx hs pl pu h
 obtain⟨a,xs,rfl,hx,q⟩:=h
 cases rx
 obtain⟨ae,r,ht,hz⟩:=I.list hx
 have hlen:=r.length
 refine⟨"list",_,slot_list_getitem.lookup,ht.isList.typeIs,?_⟩
 refine wpAny_getItem_list_slice ht.isList hs pl pu .none (by simp) ?_ (by rw[EC]<;>omega)
 rw[za6,<-hlen]
 refine⟨.ref s.heap.objs.size,_,I.laid (t':=s.toks) (o:= .lst (zfW xs lo hi)) (λb ob q=>Heap.get?_push_of_some _ q) (Ek _) ?_,rfl,q _ (I.hok.fresh (Ek _))⟩
 exact⟨Ey (zdd xs lo hi) hz,_,0,(r.drop (HT.sIx xs.length 0 lo)).take (HT.sIx xs.length xs.length hi-HT.sIx xs.length 0 lo),Heap.get?_push_size _ rfl⟩
theorem zb9:vy X (.builtin "len") (λxs H Q=>∃p ys,xs=[.ref p]/\(SqL X.K H p ys\/SqT X.K H p ys)/\Q (.int ys.length) H):=by
 intro pins s σ H xs us Q I r h
 obtain⟨p,ys,rfl,hq,q⟩:=h
 obtain⟨u,rfl,rx⟩:=ZU r
 cases rx
 have hn:=Tz
 rcases hq with hq|hq
 ·obtain⟨ae,r',pl,hz⟩:=I.list hq
  have hlen:=r'.length
  exact Calls.call_len_list pl.isList (by simp only[EC]<;>omega) ⟨.int ys.length,H,I.tok _,⟨s.toks+1,by rw[EC,hlen]⟩,q⟩
 ·obtain⟨ae,r',pl,hz⟩:=I.tuple hq
  have hlen:=r'.length
  exact len_tuple pl (by simp only[EC]<;>omega) ⟨.int ys.length,H,I.tok _,⟨s.toks+1,by rw[EC,hlen]⟩,q⟩
theorem zca:vy X (.type "list") (λxs H Q=>∃p ys,xs=[.ref p]/\(SqL X.K H p ys\/SqT X.K H p ys)/\∀l,H l=none->Q (.ref l) (upd H l (.lst ys))):=by
 intro pins s σ H xs us Q I r h
 obtain⟨p,ys,rfl,hq,q⟩:=h
 obtain⟨u,rfl,rx⟩:=ZU r
 cases rx
 have fin:∀(ae:List Value),zT ys ae->ys.length<=sizeLine->∀(h':Heap) (c':Nat),(∀b o',s.heap.get? b=some o'->h'.get? b=some o')->
   h'.get? s.heap.objs.size=some {cls:= .type "list",dict:=none,data:= .seq ae.toArray c',slots:= #[]}->EP X pins σ Q (.ref s.heap.objs.size) {s with heap:=h'}:=λae r' hz h' c' kp e=>
  ⟨.ref s.heap.objs.size,_,I.laid (t':=s.toks) kp (Ek _) (show ym X.prog X.w _ h' _ (.lst ys) from ⟨hz,ae,c',r',e⟩),rfl,q _ (I.hok.fresh (Ek _))⟩
 rcases hq with hq|hq
 ·obtain⟨ae,r',pl,hz⟩:=I.list hq
  have hlen:=r'.length
  obtain⟨o,ho,hc,n,hd⟩:=pl.isList
  exact call_list_seq p (.inl rfl) ho hc hd (λh' c' kp e=>fin ae r' hz h' c' kp e) (by simp only[EC]<;>omega)
 ·obtain⟨ae,r',pl,hz⟩:=I.tuple hq
  have hlen:=r'.length
  obtain⟨o,ho,hc,n,hd⟩:=pl
  exact call_list_seq p (.inr rfl) ho hc hd (λh' c' kp e=>fin ae r' hz h' c' kp e) (by simp only[EC]<;>omega)
theorem za7:vy X (.type "tuple") (λxs H Q=>∃p ys,xs=[.ref p]/\((SqL X.K H p ys/\∀l,H l=none->Q (.ref l) (upd H l (.tup ys)))\/(SqT X.K H p ys/\Q (.ref p) H))):=by
 intro pins s σ H xs us Q I r h
 obtain⟨p,ys,rfl,h⟩:=h
 obtain⟨u,rfl,rx⟩:=ZU r
 cases rx
 rcases h with⟨hq,q⟩|⟨hq,q⟩
 ·obtain⟨ae,r',pl,hz⟩:=I.list hq
  have hlen:=r'.length
  refine call_tuple_list pl.isList (λh' kp=> ?_) (by simp only[EC]<;>omega)
  have I1:Inv X pins σ H {s with heap:=h'}:=I.kept (t':=s.toks) kp
  have I2:Inv X pins σ (upd H h'.objs.size (.tup ys)) {s with heap:=h'.push {cls:= .type "tuple",data:= .seq ae.toArray}}:=
   I1.laid (t':=s.toks) (λb o e=>Heap.get?_push_of_some _ e) (Ek _) (show ym X.prog X.w _ _ _ (.tup ys) from ⟨hz,ae,r',IsTup.new _ _⟩)
  exact⟨.ref h'.objs.size,_,I2,rfl,q _ (I1.hok.fresh (Ek _))⟩
 ·obtain⟨ae,r',pl,hz⟩:=I.tuple hq
  exact call_tuple_same pl ⟨.ref p,H,I,rfl,q⟩
def tyV (K:E9) (T:String) (x:V) (H:Hp):Prop:=match x with
 | .str _=>T="str"
 | .int _=>T="int"
 | .ref p=>(T="list"/\∃xs,SqL K H p xs)\/(T="tuple"/\∃o,K.lookup p=some o/\o.cls= .type "tuple"/\o.dict=none)\/
   (T="dict"/\((∃kvs,Rd H p (.dK kvs))\/∃kvs,H p=some (.dT kvs)))\/(T="set"/\∃S n,H p=some (.set S n))
 |_=>False
theorem zgQ {pins:List (Addr×Obj)} {σ:St} {H:Hp} {s:Shared} {T:String} {x:V} {v:Value} (I:Inv X pins σ H s) (r:zK x v) (ty:tyV X.K T x H):
  s.TypeIs v T/\∀a,v= .ref a->∃ob,s.heap.get? a=some ob/\ob.dict=none:=by
 cases x with
 |str z=>
  obtain⟨t,rfl⟩:=r
  cases (show T="str" from ty)
  exact⟨typeIs_str s z t,λ_ e=>nomatch e⟩
 |int i=>
  obtain⟨t,rfl⟩:=r
  cases (show T="int" from ty)
  exact⟨typeIs_int s i t,λ_ e=>nomatch e⟩
 |ref p=>
  cases r
  rcases ty with⟨rfl,xs,hq⟩|⟨rfl,o,hk,hc,hd⟩|⟨rfl,hk⟩|⟨rfl,S,n,hk⟩
  ·obtain⟨ae,_,pl,_⟩:=I.list hq
   refine⟨pl.isList.typeIs,λa e=> ?_⟩
   cases e
   obtain⟨o,n,e,c,hd,_⟩:=pl
   exact⟨o,e,hd⟩
  ·refine⟨⟨o,I.kIn p o hk,hc⟩,λa e=> ?_⟩
   cases e
   exact⟨o,I.kIn _ o hk,hd⟩
  ·have z:∃o,s.heap.get? p=some o/\o.ExactDict:=by
    rcases hk with⟨kvs,hk⟩|⟨kvs,hk⟩
    ·obtain⟨_,_,_,_,o,_,_,e,ex,_⟩:=hk.ok I.hok
     exact⟨o,e,ex⟩
    ·obtain⟨_,_,_,_,o,_,_,e,ex,_⟩:=I.hok p _ hk
     exact⟨o,e,ex⟩
   obtain⟨o,e,ex⟩:=z
   refine⟨⟨o,e,ex.1⟩,λa e2=> ?_⟩
   cases e2
   exact⟨o,e,ex.2.1⟩
  ·obtain⟨o,_,_,_,e,ex,_⟩:=I.hok p _ hk
   refine⟨⟨o,e,ex.1⟩,λa e2=> ?_⟩
   cases e2
   exact⟨o,e,ex.2.1⟩
 |_=>exact Gx ty
def zde (K:E9) (T:String) (r:V->List V->Hp->VK->Prop) (to:TE):TE:=λσ H Q=>to σ H λx H1=>tyV K T x H1/\r x [] H1 Q
def tBM (K:E9) (T:String) (r:V->List V->Hp->VK->Prop) (to:TE) (t:TA):TE:=λσ H Q=>to σ H λx H1=>tyV K T x H1/\t σ H1 λxs H2=>r x xs H2 Q
variable {o e:Expr} {es:List Expr} {to:TE} {t:TA} {name:Str} {apos bo:Pos} {T id:String} {r:V->List V->Hp->VK->Prop}
theorem zcb (pa:PlainAttrs T) (slot:Slot T name id) (pL:typeOf (.builtin id)=pure (.type "method_descriptor")) (hm:MtR X id r) (ho:PE X o to)
  (gm:attributeBase o name X.env (eval o X.env)=eval o X.env:=by rfl) (hline:(apos.endLine==bo.line)=true:=by rfl):PE X (.Call (.Attribute o name apos) [] [] bo) (zde X.K T r to):=by
 intro pins s σ H Q I h
 refine wpAny_Call_method0_late gm hline (thn (ho pins s σ H _ I h) ?_)
 rintro v s1 ⟨x,H1,I1,r1,ty,q1⟩
 obtain⟨h1,h2⟩:=zgQ I1 r1 ty
 exact⟨T,id,pa,slot,pL,h1,h2,Calls.callWith_builtin rfl (PySem.evalArgs_none (hm pins s1 σ H1 x [] v [] Q I1 r1 .nil q1))⟩
theorem ZC (pa:PlainAttrs T) (slot:Slot T name id) (pL:typeOf (.builtin id)=pure (.type "method_descriptor")) (hm:MtR X id r) (ho:PE X o to) (ha:PA X (e::es) t)
  (gm:attributeBase o name X.env (eval o X.env)=eval o X.env:=by rfl)
  (eh:((backTo bo (starEach (e::es) X.env)).all (λx=> !x.1)&&(backToKw bo (keywordEach [] X.env)).all (λx=>x.1.isSome)
   &&decide ((e::es).length+([]:List Keyword).length+(if ([]:List Keyword).isEmpty then 0 else 1)<30))=true:=by rfl)
  (hline:(apos.endLine==bo.line)=true:=by rfl) (hs:starEach (e::es) X.env=(false,eval e X.env)::starEach es X.env:=by rfl) (iU:(backTo bo (starEach es X.env)).any (·.1)=false:=by rfl):
  PE X (.Call (.Attribute o name apos) (e::es) [] bo) (tBM X.K T r to t):=by
 intro pins s σ H Q I h
 refine wpAny_Call_method_late gm eh hline rfl (thn (ho pins s σ H _ I h) ?_)
 rintro v s1 ⟨x,H1,I1,r1,ty,q1⟩
 obtain⟨h1,h2⟩:=zgQ I1 r1 ty
 refine⟨T,id,pa,slot,pL,h1,h2,?_⟩
 have hA:=ha bo pins s1 σ H1 _ I1 q1
 rw[hs] at hA ⊢
 refine Calls.callWith_builtin (by show (false||(backTo bo (starEach es X.env)).any (·.1))=false;rw[iU]<;>rfl) (Calls.evalArgs_plain ?_)
 refine thn hA ?_
 rintro us s2 ⟨vs,H2,I2,r2,q2⟩
 exact hm pins s2 σ H2 x vs v us Q I2 r1 r2 q2
/- xs.append(e), list.index on a module's tuple .. are MtR facts of 06m -/
end
def MtM (X:Cx) (id:String) (r:V->List V->Hp->VK->Prop):Prop:=
 ∀(pins:List (Addr×Obj)) (s:Shared) (σ:St) (H:Hp) (x:V) (xs:List V) (v:Value) (us:List Value) (Q:VK),Inv X pins σ H s->zK x v->zT xs us->r x xs H Q->
  wpAny (model X.prog X.w) X.A (call (.builtin id) (v::us)) (EP X pins σ Q) X.xe s
theorem zT.one:∀{x:V} {us:List Value},zT [x] us->∃u,us=[u]/\zK x u
 |_,_,.cons r .nil=>⟨_,rfl,r⟩
theorem zT.reverse {xs:List V} {us:List Value} (h:zT xs us):zT xs.reverse us.reverse:=by
 induction h with
 |nil=>exact .nil
 |cons r t ih=>rw[Hb,Hb];exact zT.append ih (.cons r .nil)
section
variable {X:Cx} {pins:List (Addr×Obj)} {σ:St} {H:Hp} {s:Shared} {l b:Addr} {xs ys zs:List V}
theorem Inv.lset {ae its':List Value} {n:Nat} {f:Array Value->Array Value} {t':Nat} (I:Inv X pins σ H s) (hH:H l=some (.lst xs))
  (e:s.heap.get? l=some {cls:= .type "list",data:= .seq ae.toArray n}) (hf:f ae.toArray=its'.toArray) (hv:zT ys its') (hz:ys.length<=sizeLine):
  Inv X pins σ (upd H l (.lst ys)) {s with heap:=s.heap.update l (Obj.mapSeq f),toks:=t'}:=by
 have q:=PySem.IsL.update e f
 rw[hf] at q
 refine I.write (x:=l) (e:=l) (by rw[hH];exact trivial) (.inl rfl) (λb' u hb hu=>(Heap.get?_update_other s.heap (Obj.mapSeq f) (Gw hb)).trans hu) ⟨_,q⟩ ?_
 exact⟨hz,its',_,hv,q⟩
theorem Inv.fresh (I:Inv X pins σ H s):H s.heap.objs.size=none:=I.hok.fresh (Ek _)
theorem Inv.lstM (I:Inv X pins σ H s) (hH:H l=some (.lst xs)):xs.length<=sizeLine/\∃(ae:List Value) (n:Nat),zT xs ae/\xs.length=ae.length/\s.heap.get? l=some {cls:= .type "list",data:= .seq ae.toArray n}:=by
 obtain⟨z,ae,n,r,e⟩:=I.hok l _ hH
 exact⟨z,ae,n,r,r.length,e⟩
end
section
variable {X:Cx}
def ze6:V->List V->Hp->VK->Prop:=λx vs H Q=>∃l xs y,x= .ref l/\vs=[y]/\H l=some (.lst xs)/\xs.length<sizeLine/\Q .non (upd H l (.lst (xs++[y])))
theorem yw:MtM X "list.append" ze6:=by
 intro pins s σ H x vs v us Q I rx rv h
 obtain⟨l,xs,y,rfl,rfl,hH,hz,q⟩:=h
 cases rx
 obtain⟨u,rfl,ru⟩:=rv.one
 obtain⟨z,ae,n,r,hl,e⟩:=I.lstM hH
 refine call_meets F.slot_list_append ⟨_,e,rfl⟩ F.entry_list_append (F.args_list_append_2 _ _) (PySem.list_append l ae.toArray n u (by rw[EC];omega)) ⟨e,?_⟩
 refine⟨.non,_,I.lset (its':=ae++[u]) hH e (by simp) (r.append (.cons ru .nil)) ?_,rfl,q⟩
 rw[Ew,FN]
 omega
end
section
variable {prog:Program} {w:World} {A:Around} {E:Value->Shared->Prop} {s:Shared}
end
section
variable {X:Cx}
end
section
variable {κ:Type} [DecidableEq κ]
noncomputable def Zq (kvs:List (κ×V)) (k:κ):Option V:=(kvs.find? λkv=>decide (kv.1=k)).map (·.2)
noncomputable def VQ (kvs:List (κ×V)) (k:κ) (v:V):List (κ×V):=
 if (kvs.any λkv=>decide (kv.1=k))=true then kvs.map (λkv=>if kv.1=k then (kv.1,v) else kv) else kvs++[(k,v)]
theorem TC {p:κ×V} {r:List (κ×V)} {k:κ} (e:p.1=k):Zq (p::r) k=some p.2:=by simp[Zq,F1,e]
theorem TD {p:κ×V} {r:List (κ×V)} {k:κ} (e:¬p.1=k):Zq (p::r) k=Zq r k:=by simp[Zq,F1,e]
theorem zdf (k:κ):∀kvs:List (κ×V),(kvs.any λkv=>decide (kv.1=k))=(Zq kvs k).isSome
 |[]=>rfl
 |p::r=>by
  rw[GJ]
  by_cases e:p.1=k
  ·simp only[TC e,decide_eq_true e,Bool.true_or,Option.isSome_some]
  ·rw[TD e,decide_eq_false e,JB];exact zdf k r
theorem Ux (kvs:List (κ×V)) (k:κ) (v:V):(VQ kvs k v).length<=kvs.length+1:=by
 unfold VQ
 split
 ·rw[Eb];omega
 ·rw[Ew,EB,Ho];omega
theorem Ww.isSome_eq {o:Option V} {u:Option Value} (r:Ww o u):o.isSome=u.isSome:=by
 cases o with
 |none=>cases u with
  |none=>rfl
  |some _=>exact (show False from r).elim
 |some _=>cases u with
  |none=>exact (show False from r).elim
  |some _=>rfl
theorem Ww.getD {o:Option V} {u:Option Value} {d:V} {d':Value} (r:Ww o u) (rd:zK d d'):zK (o.getD d) (u.getD d'):=by
 cases o with
 |none=>cases u with
  |none=>exact rd
  |some _=>exact (show False from r).elim
 |some _=>cases u with
  |none=>exact (show False from r).elim
  |some _=>exact r
theorem KV.val {kvs:List (κ×V)} {vs:List (κ×Value)} (r:KV kvs vs) (k:κ):Ww (Zq kvs k) (valueAt vs k):=by
 unfold KV at r
 induction r with
 |nil=>exact FU
 | @cons p q ps qs h t ih=>
  obtain⟨h1,h2⟩:=h
  by_cases e:p.1=k
  ·have e':q.1=k:=h1.symm.trans e
   have b:valueAt (q::qs) k=some q.2:=by simp[valueAt,F1,e']
   rw[TC e,b];exact h2
  ·have e':¬q.1=k:=λz=>e (h1.trans z)
   have b:valueAt (q::qs) k=valueAt qs k:=by simp[valueAt,F1,e']
   rw[TD e,b];exact ih
theorem KV.any {kvs:List (κ×V)} {vs:List (κ×Value)} (r:KV kvs vs) (k:κ):(kvs.any λkv=>decide (kv.1=k))=vs.any λkv=>decide (kv.1=k):=by
 unfold KV at r
 induction r with
 |nil=>rfl
 |cons h t ih=>rw[GJ,GJ,ih,h.1]
theorem KV.repl {kvs:List (κ×V)} {vs:List (κ×Value)} (r:KV kvs vs) (k:κ) {y:V} {u:Value} (ry:zK y u):
  KV (kvs.map λkv=>if kv.1=k then (kv.1,y) else kv) (vs.map λkv=>if kv.1=k then (kv.1,u) else kv):=by
 unfold KV at r ⊢
 induction r with
 |nil=>exact .nil
 | @cons p q ps qs h t ih=>
  rw[Eg,Eg]
  refine .cons ?_ ih
  obtain⟨h1,h2⟩:=h
  by_cases e:p.1=k
  ·rw[if_pos e,if_pos (h1.symm.trans e)];exact⟨h1,ry⟩
  ·rw[if_neg e,if_neg (λz=>e (h1.trans z))];exact⟨h1,h2⟩
theorem KV.put {kvs:List (κ×V)} {vs:List (κ×Value)} (r:KV kvs vs) (k:κ) {y:V} {u:Value} (ry:zK y u):KV (VQ kvs k y) (stored vs k u):=by
 unfold VQ stored
 rw[r.any k]
 by_cases e:(vs.any λkv=>decide (kv.1=k))=true
 ·rw[if_pos e,if_pos e];exact r.repl k ry
 ·rw[if_neg e,if_neg e];exact Paired.snoc r ⟨rfl,ry⟩
theorem KV.keys {kvs:List (κ×V)} {vs:List (κ×Value)} (r:KV kvs vs):kvs.map (·.1)=vs.map (·.1):=by
 unfold KV at r
 induction r with
 |nil=>rfl
 |cons h t ih=>rw[Eg,Eg,ih,h.1]
theorem KV.length {kvs:List (κ×V)} {vs:List (κ×Value)} (r:KV kvs vs):kvs.length=vs.length:=Paired.length r
end
theorem zdg {P:Program} {w:World} {k:Key} {u:Value} (r:zK (kV k) u):(zN P w).is k u=true:=by
 cases k with
 |inl i=>obtain⟨t,e⟩:=(show ∃t,u=Value.int i t from r);subst e;exact zc3 P w i t
 |inr x=>obtain⟨t,e⟩:=(show ∃t,u=Value.str x t from r);subst e;exact zc4 P w x t
theorem zby {P:Program} {w:World}:∀{ks:List Key} {us:List Value},zT (ks.map kV) us->ItemsAre (zN P w) ks us
 |[],_,r=>by rw[GU] at r;cases r;exact .nil
 |k::ks,_,r=>by
  rw[Eg] at r
  cases r with
  |cons h t=>exact .cons (zdg h) (zby t)
noncomputable abbrev KT (H:Hp):List (List Key×V)->List (List Key×Addr×Value)->Prop:=Paired λp q=>p.1=q.1/\H q.2.1=some (.tup (p.1.map kV))/\zK p.2 q.2.2
theorem KT.val {H:Hp} {kvs:List (List Key×V)} {xs:List (List Key×Addr×Value)} (r:KT H kvs xs) (k:List Key):Ww (Zq kvs k) ((atKey xs k).map (·.2)):=by
 induction r with
 |nil=>exact FU
 | @cons p q ps qs h t ih=>
  obtain⟨h1,_,h2⟩:=h
  by_cases e:p.1=k
  ·have e':q.1=k:=h1.symm.trans e
   have b:atKey (q::qs) k=some q.2:=by simp[atKey,F1,e']
   rw[TC e,b];exact h2
  ·have e':¬q.1=k:=λz=>e (h1.trans z)
   have b:atKey (q::qs) k=atKey qs k:=by simp[atKey,F1,e']
   rw[TD e,b];exact ih
theorem KT.repl {H:Hp} {kvs:List (List Key×V)} {xs:List (List Key×Addr×Value)} (r:KT H kvs xs) (k:List Key) {y:V} {u:Value} (ry:zK y u):
  KT H (kvs.map λkv=>if kv.1=k then (kv.1,y) else kv) (xs.map (putAt k u)):=by
 induction r with
 |nil=>exact .nil
 | @cons p q ps qs h t ih=>
  rw[Eg,Eg]
  refine .cons ?_ ih
  obtain⟨h1,h2,h3⟩:=h
  unfold putAt
  by_cases e:p.1=k
  ·rw[if_pos e,if_pos (h1.symm.trans e)];exact⟨h1,h2,ry⟩
  ·rw[if_neg e,if_neg (λz=>e (h1.trans z))];exact⟨h1,h2,h3⟩
theorem KT.put {H:Hp} {kvs:List (List Key×V)} {xs:List (List Key×Addr×Value)} (r:KT H kvs xs) (k:List Key) {b:Addr} {y:V} {u:Value} (hb:H b=some (.tup (k.map kV))) (ry:zK y u):
  KT H (VQ kvs k y) (storedH xs k b u):=by
 have e:(kvs.any λkv=>decide (kv.1=k))=(atKey xs k).isSome:=by
  rw[zdf,(r.val k).isSome_eq,Gm]
 unfold VQ storedH
 rw[e]
 by_cases q:(atKey xs k).isSome=true
 ·rw[if_pos q,if_pos q];exact r.repl k ry
 ·rw[if_neg q,if_neg q];exact Paired.snoc r ⟨rfl,hb,ry⟩
theorem KT.keeps {H H':Hp} {kvs:List (List Key×V)} {xs:List (List Key×Addr×Value)} (r:KT H kvs xs) (ht:∀b ys,H b=some (.tup ys)->H' b=some (.tup ys)):KT H' kvs xs:=
 Paired.mapP r λ_ _ z=>⟨z.1,ht _ _ z.2.1,z.2.2⟩
section
variable {P:Program} {w:World} {H:Hp} {h:Heap} {a:Addr}
theorem zj5 {u:HO} (ok:HOk P w H h) (e:Rd H a u):ym P w H h a u:=e.ok ok
theorem XA {kvs:List (Key×V)} (ok:HOk P w H h) (e:Rd H a (.dK kvs)):kvs.length<=sizeLine/\(a==sysModules)=false/\∃vs,KV kvs vs/\h.DictOf (zN P w) a vs:=
 show ym P w H h a (.dK kvs) from zj5 ok e
theorem zdh {kvs:List (Key×V)} (ok:HOk P w H h) (e:H a=some (.dK kvs)):kvs.length<=sizeLine/\(a==sysModules)=false/\∃vs,KV kvs vs/\h.DictOf (zN P w) a vs:=XA ok (.inl e)
theorem TF {ks:List Key} (ok:HOk P w H h) (e:H a=some (.tup (ks.map kV))):(tupleKind (zN P w)).is h ks a:=by
 obtain⟨_,ae,r,o,h1,h2,n,h3⟩:=(show ym P w H h a (.tup (ks.map kV)) from ok a _ e)
 exact⟨o,ae.toArray,n,h1,h2,h3,by simpa using zby r⟩
theorem zbz {kvs:List (List Key×V)} (ok:HOk P w H h) (e:Rd H a (.dT kvs)):kvs.length<=sizeLine/\(a==sysModules)=false/\
  ∃xs,KT H kvs xs/\h.DictOfH (tupleKind (zN P w)) a xs:=by
 obtain⟨z,y,xs,r,o,es,ep,h1,h2,h3,h4,h5⟩:=(show ym P w H h a (.dT kvs) from zj5 ok e)
 refine⟨z,y,xs,r,o,es,ep,h1,h2,h3,h4,λx hx=> ?_,h5⟩
 have all:∀{l:List (List Key×V)} {m:List (List Key×Addr×Value)},KT H l m->∀x∈m,(tupleKind (zN P w)).is h x.1 x.2.1:=by
  intro l m q
  induction q with
  |nil=>intro x hx;exact nomatch hx
  | @cons p q ps qs hq t ih=>
   intro x hx
   rcases Er.mp hx with e|hx
   ·subst e
    exact TF ok (by rw[<-hq.1];exact hq.2.1)
   ·exact ih x hx
 exact all r x hx
theorem zl3 {kvs:List (List Key×V)} (ok:HOk P w H h) (e:H a=some (.dT kvs)):kvs.length<=sizeLine/\(a==sysModules)=false/\
  ∃xs,KT H kvs xs/\h.DictOfH (tupleKind (zN P w)) a xs:=zbz ok (.inl e)
end
def WK (H:Hp) (a:Addr) (y:V) (r:Option V):Prop:=
 (∃kvs k,Rd H a (.dK kvs)/\y=kV k/\r=Zq kvs k)\/∃kvs k b,Rd H a (.dT kvs)/\y= .ref b/\H b=some (.tup (k.map kV))/\r=Zq kvs k
def zei (H:Hp) (a:Addr) (y v:V) (H':Hp):Prop:=
 (∃kvs k,H a=some (.dK kvs)/\y=kV k/\kvs.length<sizeLine/\H'=upd H a (.dK (VQ kvs k v)))\/
 ∃kvs k b,H a=some (.dT kvs)/\y= .ref b/\H b=some (.tup (k.map kV))/\kvs.length<sizeLine/\H'=upd H a (.dT (VQ kvs k v))
theorem WK.k {H:Hp} {a:Addr} {kvs:List (Key×V)} {k:Key} (e:H a=some (.dK kvs)):WK H a (kV k) (Zq kvs k):= .inl ⟨kvs,k,.inl e,rfl,rfl⟩
theorem zei.k {H:Hp} {a:Addr} {kvs:List (Key×V)} {k:Key} {v:V} (e:H a=some (.dK kvs)) (hl:kvs.length<sizeLine):zei H a (kV k) v (upd H a (.dK (VQ kvs k v))):= .inl ⟨kvs,k,e,rfl,hl,rfl⟩
section
variable {X:Cx} {pins:List (Addr×Obj)} {σ:St} {H:Hp} {s:Shared} {a:Addr} {y v:V} {u r:Value} {o:Option V} {A:Around} {E:Value->Shared->Prop}
theorem Inv.big (I:Inv X pins σ H s):sysModules<s.heap.objs.size:=by
 have h:mainGlobals<s.heap.objs.size:=(I.mod.glob.keeps I.bk).lt
 exact IV ∅ h
theorem zbA {Q:Value->Shared->Prop} (hu:A.units+1<cLine) (I:Inv X pins σ H s) (g:WK H a y (some v)) (ry:zK y u) (h:∀w' s',Inv X pins σ H s'->zK v w'->Q w' s'):
  wpAny (model X.prog X.w) A (getItem (.ref a) u) Q E s:=by
 rcases g with⟨kvs,k,e,ey,l⟩|⟨kvs,k,b,e,ey,eb,l⟩
 ·subst ey
  obtain⟨z,hd,vs,rel,dd⟩:=XA I.hok e
  obtain⟨w',hw,rw'⟩:=Ww.some_of (v:=v) (o:=valueAt vs k) (by rw[l];exact rel.val k)
  exact wpAny_getItem_of (zdg ry) dd.mapOf hw (h w' _ (I.tok _) rw')
 ·subst ey
  cases (show u=Value.ref b from ry)
  obtain⟨z,hd,xs,rel,dd⟩:=zbz I.hok e
  obtain⟨w',hw,rw'⟩:=Ww.some_of (v:=v) (o:=(atKey xs k).map (·.2)) (by rw[l];exact rel.val k)
  obtain⟨p,hp,jD⟩:=Ez.mp hw
  refine wpAny_getItem_heap (tupleKind_room_in1 hu) (TF I.hok eb) dd hp ?_
  rw[jD]
  exact h w' _ (I.tok _) rw'
theorem ze7 {Q:Value->Shared->Prop} (hu:A.units+1<cLine) (I:Inv X pins σ H s) (g:WK H a y o) (ry:zK y u) (h:∀s',Inv X pins σ H s'->Q (.bool (!o.isSome)) s'):
  wpAny (model X.prog X.w) A (compareOp .NotIn u (.ref a)) Q E s:=by
 rcases g with⟨kvs,k,e,ey,l⟩|⟨kvs,k,b,e,ey,eb,l⟩
 ·subst ey
  obtain⟨z,hd,vs,rel,dd⟩:=XA I.hok e
  refine wpAny_notIn_of (zdg ry) hd dd.mapOf ?_
  rw[<-(rel.val k).isSome_eq,<-l]
  exact h _ (I.tok _)
 ·subst ey
  cases (show u=Value.ref b from ry)
  obtain⟨z,hd,xs,rel,dd⟩:=zbz I.hok e
  refine wpAny_notIn_heap (tupleKind_room_in1 hu) (TF I.hok eb) hd dd ?_
  have q:=(rel.val k).isSome_eq
  rw[Gm] at q
  rw[<-q,<-l]
  exact h _ (I.tok _)
theorem Vj {h':Heap} {t':Nat} {ob:HO} (I:Inv X pins σ H s) (mu:Mut (H a)) (hs:Heap.SameBut a s.heap h') (he:∃q,h'.get? a=some q) (new:ym X.prog X.w (upd H a ob) h' a ob):
  Inv X pins σ (upd H a ob) {s with heap:=h',toks:=t'}:=
 I.write (x:=a) (e:=a) mu (.inl rfl) (λb q hb z=>(hs.2 b hb).trans z) he new
theorem zkH {P:Program} {w:World} {H':Hp} {h':Heap} {kvs:List (Key×V)} {vs:List (Key×Value)} (z:kvs.length<=sizeLine) (hd:(a==sysModules)=false) (rel:KV kvs vs) (dd:h'.DictOf (zN P w) a vs):
  ym P w H' h' a (.dK kvs):=⟨z,hd,vs,rel,dd⟩
theorem zbB {H':Hp} {Q:Unit->Shared->Prop} (hu:A.units+1<cLine) (I:Inv X pins σ H s) (g:zei H a y v H') (ry:zK y u) (rv:zK v r) (h:∀s',Inv X pins σ H' s'->Q () s'):
  wpAny (model X.prog X.w) A (setItem (.ref a) u r) Q E s:=by
 rcases g with⟨kvs,k,e,ey,l,eH⟩|⟨kvs,k,b,e,ey,eb,l,eH⟩
 ·subst ey eH
  obtain⟨z,hd,vs,rel,dd⟩:=zdh I.hok e
  have hz:vs.length<=sizeLine:=by rw[<-rel.length];exact z
  have hl:(VQ kvs k v).length<=sizeLine:=by have:=Ux kvs k v;omega
  refine wpAny_setItem_pairs (hsz:=hz) (zdg ry) dd λh' dd' hs=>h _ ?_
  have he:∃q,h'.get? a=some q:=let ⟨q,_,_,hq,_⟩:=dd';⟨q,hq⟩
  exact Vj I (by rw[e];exact FU) hs he (zkH hl hd (rel.put k rv) dd')
 ·subst ey eH
  cases (show u=Value.ref b from ry)
  obtain⟨z,hd,xs,rel,dd⟩:=zl3 I.hok e
  have hz:xs.length<=sizeLine:=by rw[<-Paired.length rel];exact z
  have hl:(VQ kvs k v).length<=sizeLine:=by have:=Ux kvs k v;omega
  refine wpAny_setItem_heap (hsz:=hz) (tupleKind_room_in1 hu) (TF I.hok eb) dd λh' dd' hs=>h _ ?_
  obtain⟨q,es,ep,hq,h2,h3,h4,_,h5⟩:=dd'
  refine Vj I (by rw[e];exact FU) hs ⟨q,hq⟩ ⟨hl,hd,_,(rel.put k eb rv).keeps λc ys ec=> ?_,q,es,ep,hq,h2,h3,h4,h5⟩
  rw[yb (zlM ec e (λz=>nomatch z))]
  exact ec
end
section
variable {X:Cx} {pins:List (Addr×Obj)} {σ:St} {H:Hp} {s:Shared} {a:Addr} {kvs:List (Key×V)} {k:Key} {u:Value} {A:Around} {E:Value->Shared->Prop}
theorem zl4 {Q:Value->Shared->Prop} (I:Inv X pins σ H s) (e:Rd H a (.dK kvs)) (h:∀t s',Inv X pins σ H s'->Q (.int kvs.length t) s'):wpAny (model X.prog X.w) A (call (.builtin "len") [.ref a]) Q E s:=by
 obtain⟨z,hd,vs,rel,dd⟩:=XA I.hok e
 refine call_len_dict hd dd (by rw[<-rel.length];rw[sizeLine_eq] at z;omega) ?_
 rw[<-rel.length]
 exact h _ _ (I.tok _)
end
def zkI (i:Expr):Prop:=∀ov iv,subscripted i false ov iv=operate [ov,iv] (getItem ov iv)
theorem ze8 {prog:Program} {w:World} {A:Around} {E:Value->Shared->Prop} {s:Shared} {env:Env} {value slice:Expr} {pos:Pos} {T id:String} {Q:Value->Shared->Prop}
  (hl:typeLookup (.type T) "__getitem__"=pure (some (.builtin id))) (hs:zkI slice)
  (h:wpAny (model prog w) A (eval value env) (λo s₁=>wpAny (model prog w) A (eval slice env) (λi s₂=>s₂.TypeIs o T/\wpAny (model prog w) A (getItem o i) Q E s₂) E s₁) E s):
  wpAny (model prog w) A (eval (.Subscript value slice pos) env) Q E s:=by
 refine Subscript_ (wpAny_mono h (λo s₁ h₁=>wpAny_mono h₁ (λi s₂ h₂=> ?_) λ_ _ x=>x) λ_ _ x=>x)
 obtain⟨hT,h₂⟩:=h₂
 unfold subscriptTail
 refine wpAny_bind ?_
 rw[getitemInPython_of_ne hT.not_modules]
 refine wpAny_bind (wpAny_specialOf hT hl ?_)
 have fin:wpAny (model prog w) A (subscripted slice false o i) (λr s₃=>wpAny (model prog w) A (letTemporaryGo value o r>>=λ_=>pure r) Q E s₃) E s₂:=by
  rw[hs o i]
  exact wpAny_operating (wpAny_mono h₂ (λr s₃ h₃=>wpAny_bind (wpAny_letTemporaryGo (wpAny_pure h₃))) λ_ _ x=>x)
 first
  |exact wpAny_pure (wpAny_bind fin)
  |exact wpAny_bind (wpAny_pure (wpAny_bind fin))
  |exact wpAny_bind fin
theorem Uy {X:Cx} {pins:List (Addr×Obj)} {σ:St} {H:Hp} {s:Shared} {a:Addr} {y:V} {o:Option V} (I:Inv X pins σ H s) (g:WK H a y o):s.TypeIs (.ref a) "dict":=by
 rcases g with⟨kvs,k,e,_,_⟩|⟨kvs,k,b,e,_,_,_⟩
 ·obtain⟨_,_,vs,_,dd⟩:=XA I.hok e
  exact dd.typeIs
 ·obtain⟨_,_,xs,_,dd⟩:=zbz I.hok e
  exact dd.typeIs
def zj6 (td ty:TE):TE:=λσ H Q=>td σ H λx H1=>ty σ H1 λy H2=>∃a v,x= .ref a/\WK H2 a y (some v)/\Q v H2
def ze9 (ty td:TE):TE:=λσ H Q=>ty σ H λy H1=>td σ H1 λx H2=>∃a o,x= .ref a/\WK H2 a y o/\Q (.bl (!o.isSome)) H2
def zj7 (td ty tv:TE):TS:=λD σ H=>tv σ H λv H1=>td σ H1 λx H2=>ty σ H2 λy H3=>∃a H4,x= .ref a/\zei H3 a y v H4/\D.nx σ H4
section
variable {X:Cx} {o i e value:Expr} {pos pos' jL:Pos} {td ty tv:TE}
theorem Vk (hu:X.A.units+1<cLine) (ho:PE X o td) (hi:PE X i ty) (hs:zkI i):PE X (.Subscript o i pos) (zj6 td ty):=by
 intro pins s σ H Q I h
 refine ze8 HN.lookup hs (thn (ho pins s σ H _ I h) ?_)
 rintro u s1 ⟨x,H1,I1,rx,q1⟩
 refine thn (hi pins s1 σ H1 _ I1 q1) ?_
 rintro iv s2 ⟨y,H2,I2,ry,a,v,ex,g,q2⟩
 subst ex
 obtain rfl:u=Value.ref a:=rx
 exact⟨Uy I2 g,zbA hu I2 g ry λw' s3 I3 rw'=>⟨v,H2,I3,rw',q2⟩⟩
theorem zfX (hu:X.A.units+1<cLine) (hi:PE X i ty) (ho:PE X o td):PC X .NotIn i o (ze9 ty td):=by
 intro pins s σ H Q I h
 refine thn (hi pins s σ H _ I h) ?_
 rintro iv s1 ⟨y,H1,I1,ry,q1⟩
 refine thn (ho pins s1 σ H1 _ I1 q1) ?_
 rintro u s2 ⟨x,H2,I2,rx,a,ov,ex,g,q2⟩
 subst ex
 obtain rfl:u=Value.ref a:=rx
 exact ze7 hu I2 g ry λs3 I3=>⟨.bl (!ov.isSome),H2,I3,rfl,q2⟩
theorem UX (hu:X.A.units+1<cLine) (ho:PE X o td) (hi:PE X i ty) (hv:PE X value tv) (hs:swapsWith value (some (.Subscript o i pos')) pos.line X.env=pure false):
  PS X (.Assign [.Subscript o i pos'] value pos) (zj7 td ty tv):=by
 intro pins s σ H D I h
 refine wpAny_Assign_Subscript (thn (hv pins s σ H _ I h) ?_) hs
 rintro r s1 ⟨v,H1,I1,rv,q1⟩
 refine thn (ho pins s1 σ H1 _ I1 q1) ?_
 rintro u s2 ⟨x,H2,I2,rx,q2⟩
 refine thn (hi pins s2 σ H2 _ I2 q2) ?_
 rintro iv s3 ⟨y,H3,I3,ry,a,H4,ex,g,q3⟩
 subst ex
 obtain rfl:u=Value.ref a:=rx
 exact zbB hu I3 g ry rv λs4 I4=>⟨σ,H4,I4,q3⟩
end
theorem zgR {P:Program} {w:World} {H:Hp} (h:Heap) (hb:sysModules<h.objs.size):ym P w H (h.push {cls:= .type "dict",data:= .dict #[]}) h.objs.size (.dK []):=
 ⟨FR _,beq_eq_false_iff_ne.mpr (Gw (Ep hb)),[],.nil,Heap.DictOf.new h⟩
def zgS:TE:=λ_ H Q=>∀p,H p=none->Q (.ref p) (upd H p (.dK []))
section
variable {X:Cx} {pos:Pos}
theorem XF:PE X (.Dict [] [] pos) zgS:=λpins s σ H Q I h=>
 wpAny_Dict_empty ⟨.ref s.heap.objs.size,_,I.laid (a:=s.heap.objs.size) (o:= .dK []) (t':=s.toks) (λ_ _ q=>Heap.get?_push_of_some _ q) (Ek _) (zgR s.heap I.big),rfl,h _ (I.hok.fresh (Ek _))⟩
end
noncomputable abbrev VV:List (V×V)->List (Value×Value)->Prop:=Paired λp q=>zK p.1 q.1/\zK p.2 q.2
structure M1 (X:Cx) (o:Expr) (m:Str) (apos:Pos) (e:Expr) (bo:Pos):Prop where
 base:attributeBase o m X.env (eval o X.env)=eval o X.env
 few:((backTo bo (starEach [e] X.env)).all (λx=> !x.1)&&(backToKw bo (keywordEach [] X.env)).all (λx=>x.1.isSome)
  &&decide (([e]:List Expr).length+([]:List Keyword).length+(if ([]:List Keyword).isEmpty then 0 else 1)<30))=true
 line:(apos.endLine==bo.line)=true
 trees:backTo bo (starEach [e] X.env)=[(false,eval e X.env)]
structure M2 (X:Cx) (o:Expr) (m:Str) (apos:Pos) (e f:Expr) (bo:Pos):Prop where
 base:attributeBase o m X.env (eval o X.env)=eval o X.env
 few:((backTo bo (starEach [e,f] X.env)).all (λx=> !x.1)&&(backToKw bo (keywordEach [] X.env)).all (λx=>x.1.isSome)
  &&decide (([e,f]:List Expr).length+([]:List Keyword).length+(if ([]:List Keyword).isEmpty then 0 else 1)<30))=true
 line:(apos.endLine==bo.line)=true
 trees:backTo bo (starEach [e,f] X.env)=[(false,eval e X.env),(false,eval f X.env)]
def IsD (H:Hp) (a:Addr):Prop:=(∃kvs,Rd H a (.dK kvs))\/∃kvs,Rd H a (.dT kvs)
theorem zkJ {X:Cx} {pins:List (Addr×Obj)} {σ:St} {H:Hp} {s:Shared} {a:Addr} (I:Inv X pins σ H s) (d:IsD H a):
  s.TypeIs (.ref a) "dict"/\(∀b,Value.ref a= .ref b->∃ob,s.heap.get? b=some ob/\ob.dict=none)/\(a==sysModules)=false:=by
 rcases d with⟨kvs,e⟩|⟨kvs,e⟩
 ·obtain⟨_,hd,vs,_,dd⟩:=XA I.hok e
  refine⟨dd.typeIs,λb q=> ?_,hd⟩
  cases q
  obtain⟨ob,_,_,h1,h2,_⟩:=dd
  exact⟨ob,h1,h2.2.1⟩
 ·obtain⟨_,hd,xs,_,dd⟩:=zbz I.hok e
  refine⟨dd.typeIs,λb q=> ?_,hd⟩
  cases q
  obtain⟨ob,_,_,h1,h2,_⟩:=dd
  exact⟨ob,h1,h2.2.1⟩
section
variable {X:Cx} {pins:List (Addr×Obj)} {σ:St} {H:Hp} {s:Shared} {a:Addr} {y d:V} {u r:Value} {o:Option V} {A:Around} {E:Value->Shared->Prop}
theorem zkK {Q:Value->Shared->Prop} (hu:A.units+1<cLine) (I:Inv X pins σ H s) (g:WK H a y o) (ry:zK y u) (rd:zK d r) (h:∀w' s',Inv X pins σ H s'->zK (o.getD d) w'->Q w' s'):
  wpAny (model X.prog X.w) A (call (.builtin "dict.get") [.ref a,u,r]) Q E s:=by
 rcases g with⟨kvs,k,e,ey,l⟩|⟨kvs,k,b,e,ey,eb,l⟩
 ·subst ey
  obtain⟨z,hd,vs,rel,dd⟩:=XA I.hok e
  refine call_meetsIn Hj dd.typeIs Iw (Ie _ _ _) (meets_dict_get_default (zN X.prog X.w) a (zdg ry) hd r) ⟨_,dd.mapOf,h _ _ (I.tok _) ?_⟩
  rw[l]
  exact (rel.val k).getD rd
 ·subst ey
  cases (show u=Value.ref b from ry)
  obtain⟨z,hd,xs,rel,dd⟩:=zbz I.hok e
  refine call_meetsIn Hj dd.typeIs Iw (Ie _ _ _) (meetsH_dict_get_default (tupleKind (zN X.prog X.w)) a b hd r) ⟨tupleKind_room_in1 hu,k,xs,TF I.hok eb,dd,h _ _ (I.tok _) ?_⟩
  rw[l]
  exact (rel.val k).getD rd
end
def zgT (td ty tx:TE):TE:=λσ H Q=>td σ H λx H1=>∃a,x= .ref a/\IsD H1 a/\ty σ H1 λy H2=>tx σ H2 λz H3=>∃o,WK H3 a y o/\Q (o.getD z) H3
section
variable {X:Cx} {o e f:Expr} {apos bo:Pos} {td ty tx:TE}
theorem TH (hu:X.A.units+1<cLine) (ho:PE X o td) (he:PE X e ty) (hf:PE X f tx) (m:M2 X o "get" apos e f bo):PE X (.Call (.Attribute o "get" apos) [e,f] [] bo) (zgT td ty tx):=by
 intro pins s σ H Q I h
 refine wpAny_Call_method m.base m.few m.line Gd Hj PySem.F.type_dict_get (thn (ho pins s σ H _ I h) ?_)
 rintro u s1 ⟨x,H1,I1,rx,a,ex,d,q1⟩
 subst ex
 obtain rfl:u=Value.ref a:=rx
 obtain⟨t1,t2,_⟩:=zkJ I1 d
 refine⟨t1,t2,?_⟩
 rw[m.trees]
 refine Calls.callWith_builtin rfl (Calls.evalArgs_plain (Calls.spliced_cons (thn (he pins s1 σ H1 _ I1 q1) λiv s2 ⟨y,H2,I2,ry,q2⟩=>
  Calls.spliced_cons (thn (hf pins s2 σ H2 _ I2 q2) λfv s3 ⟨z,H3,I3,rz,ov,g,q3⟩=>Calls.spliced_nil ?_))))
 exact zkK hu I3 g ry rz λw' s4 I4 rw'=>⟨_,H3,I4,rw',q3⟩
end
section
variable {X:Cx} {pins:List (Addr×Obj)} {σ:St} {H:Hp} {s:Shared} {a:Addr} {kvs:List (Key×V)} {A:Around} {E:Value->Shared->Prop}
end
section
variable {X:Cx} {pins:List (Addr×Obj)} {σ:St} {H:Hp} {s:Shared} {a:Addr} {y:V} {u:Value} {A:Around} {E:Value->Shared->Prop}
end
end L2
namespace Att
open PySem PySem.W PySem.Calls PyProof.Rows
theorem UP {P:Params} {h:Heap}:∀(ns:List Int) (vs:List Value),WellAll P h vs (ns.map WData.int)->IntsAre vs ns:=by
 intro ns
 induction ns with
 |nil=>
  intro vs w
  rw[GU] at w
  cases w
  exact .nil
 |cons n ns ih=>
  intro vs w
  rw[Eg] at w
  cases w with
  |cons a b=>
   cases a
   exact .cons _ _ (ih _ b)
theorem zfY {l:OpenLaw} {n:Nat} (hn:l.most=some n) {P:Params} {h:Heap} {args:List WData} {vals:List Value}
  (gQ:l.row.toRowW.claim.pre args=true) (iR:WellAll P h vals args):
  ∃a vs ns,vals=[Value.ref a]/\args=[WData.list (ns.map WData.int)]/\h.get? a=some {cls:= .type "list",data:= .seq vs.toArray}/\IntsAre vs ns/\ns.length<=n:=by
 have k9:WShape.hasAll [] args [.list .int]=true:=(pre_splitW gQ).1
 have hc:l.pre.holds [] {args:=args}=true:=(pre_splitW gQ).2
 obtain⟨d,r,rfl,h1,h2⟩:=hasAllW_cons k9
 obtain rfl:=hasAllW_nil h2
 obtain⟨xs,rfl,h3⟩:=hasW_list h1
 obtain⟨ns,rfl⟩:=items_int h3
 have hlen:ns.length<=n:=by
  unfold OpenLaw.pre at hc
  have h4:(WTm.not (.lt (.lit (.int (n:Int))) (.len (.arg 0)))).holds [] {args:=[.list (ns.map .int)]}=true:=by
   have h4:=(holds_andW hc).1
   rw[hn] at h4
   exact h4
  have h5:=condW_of h4 (w_not (w_lt w_lit (w_len_list (w_arg rfl))))
  rw[Eb] at h5
  refine Nat.le_of_not_lt λq=> ?_
  have q':(n:Int)<((ns.length:Nat):Int):=by omega
  first
   |(rw[decide_eq_true q'] at h5;exact absurd h5 ∅)
   |(simp at h5;omega)
 cases iR with
 |cons w1 w2=>
  cases w2
  cases w1 with
  |list ho bO=>exact⟨_,_,ns,rfl,rfl,ho,UP ns _ bO,hlen⟩
theorem zfZ (l:OpenLaw) (args:List WData):l.row.toRowW.claim.post args (.bool true) args=true:=
 postW_of (r:=l.row.toRowW) (X:=(true==true))
  (show WShape.has [] (.bool true) .bool=true by first|rfl|decide|simp[WShape.has,WShape.arms,WShape.armsAll])
  (show (WTm.eq .res (.lit (.bool true))).value [] {args:=args,res:=some (.bool true),after:=args}=some (.bool (true==true)) from w_eq_bool (w_res rfl) w_lit) rfl
theorem zdi {l:OpenLaw} {n:Nat} {q:Program} {loose:List Str} {XP:(Str->Option Value)->Heap->Prop} {YP:World->Heap->Prop} {d:DefRec}
  (hn:l.most=some n) (kF:d.params.defaults=[])
  (call:∀(w:World) (s₀ s₁:Shared) (mg mb:Str->Option Value) (fa:Addr) (o:Obj) (pm cd doc:Value) (a:Addr) (vs:List Value) (ns:List Int),
   Ground q loose [] XP w s₀ mg mb s₁.heap->YP w s₁.heap->
   s₁.heap.get? fa=some o->o.data= .func (docDef d.name d.params d.body d.scope pm cd doc)->s₁.heap.CodeRec cd d.name->mg d.name=some (.ref fa)->
   s₁.heap.get? a=some {cls:= .type "list",data:= .seq vs.toArray}->IntsAre vs ns->ns.length<=n->s₁.gens= #[]->
   codeAny (model l.prog w) callerA (.call (.ref fa) ⟨[.ref a],[]⟩) (λr s'=>r= .ok (.ret (.bool true))/\OldK s₁.heap s'.heap/\s'.os=s₁.os/\AllBare s'.gens) s₁):
  WalkO q loose XP YP l.row.toRowW d [] (λf vs=>Js f vs):=by
 intro w s₀ s₁ mg mb G Y fa o pm cd doc dV kV ho hd er hD iY hg args vals as gQ Bz DK iR qd
 obtain rfl:dV= .none:=Dflts.none hD kF
 obtain rfl:kV= .none:=Dflts.noKw hD
 obtain⟨a,vs,ns,rfl,rfl,iV,hints,hlen⟩:=zfY hn gQ iR
 refine enter_call (codeAny_mono (call w s₀ s₁ mg mb fa o pm cd doc a vs ns G Y ho (fd_plain hd) er iY iV hints hlen hg) λr s' hq=> ?_)
 obtain⟨rfl,h2,h3,h4⟩:=hq
 exact⟨.inl ⟨.bool true,.bool true,[],rfl,λ_=>rfl,.bool true,zfZ l _,λ_=>⟨JP,λ_ hm=>(nomatch hm)⟩⟩,h2,h3,h4⟩
section
variable {prog:Program} {w:World} {A:Around} {E:Value->Shared->Prop} {s:Shared} {K:Frag}
end
end Att
namespace L2
open PySem PySem.Spec PyProof.Rows
theorem VR:∀{vs:List Value} {ns:List Int},IntsAre vs ns->zT (ns.map V.int) vs
 |_,_,.nil=> .nil
 |_,_,.cons n t h=> .cons ⟨t,rfl⟩ (VR h)
def ziX (H:Hp):Prop:=∀b,H b=none\/∃o xs,H b=some (.frz o (.lst xs))
theorem zgU {P:Program} {w:World} {K:E9} {mg mb:Str->Option Value} {CX:CXT} {k:Nat} {fa a:Addr} {fd:FuncData} {x:Str} {sp:Sp} {s₁:Shared} {vs:List Value} {ns:List Int}
  (KX:K.In s₁.heap) (ip:s₁.heap.Ns mainGlobals mg) (hb:s₁.heap.Ns builtinsNs mb) (Cm:∀x:Str,x≠"__name__"->mb x=bootBuiltins x) (qe:s₁.heap.NoLimit) (hg:s₁.gens= #[])
  (ha:s₁.heap.get? a=some {cls:= .type "list",data:= .seq vs.toArray}) (hi:IntsAre vs ns) (hl:ns.length<=sizeLine) (hr:vk k callerA)
  (F:∀base:Heap,K.In base->base.Ns mainGlobals mg->xE P w K mg base CX k fa fd [x] sp) (kM:∀(s:Shared) (u:Value),BindsTo s fd ⟨[u],[]⟩ [(x,u)])
  (ik:∀H:Hp,ziX H->SqX K H a (ns.map V.int)->sp [.ref a] H (λv _=>v= .bl true) λ_ _ _=>False)
  (qF:∀H e s',CX [] H s₁ (λ_ _ _=>False) e s'->False):
  codeAny (model P w) callerA (.call (.ref fa) ⟨[.ref a],[]⟩) (λr s'=>r= .ok (.ret (.bool true))/\OldK s₁.heap s'.heap/\s'.os=s₁.os/\AllBare s'.gens) s₁:=by
 have rv:=VR hi
 have oI:=hi.length
 have core:∀H:Hp,ziX H->SqX K H a (ns.map V.int)->HOk P w H s₁.heap->(∀b,H b≠none->b=a)->(H a≠none->K.lookup a=none)->
   codeAny (model P w) callerA (.call (.ref fa) ⟨[.ref a],[]⟩) (λr s'=>r= .ok (.ret (.bool true))/\OldK s₁.heap s'.heap/\s'.os=s₁.os/\AllBare s'.gens) s₁:=by
  intro H hO hS hok hA hK
  have fH:∀{b:Addr} {o:Obj},s₁.heap.get? b=some o->H b=none->(zb3 s₁.heap H).get? b=some o:=λe n=>zgG e n
  have jU:∀{b:Addr} {o:Obj} {es:Array DictEntry} {ep:Nat},s₁.heap.get? b=some o->o.data= .dict es ep->H b=none:=λ{b o es ep} e d=>by
   cases q:H b with
   |none=>rfl
   |some u=>
    have e':b=a:=hA b (by rw[q];simp)
    subst e'
    rw[ha] at e;cases e
    have d':Data.seq vs.toArray _=Data.dict es ep:=d
    cases d'
  have lS:∀{b:Addr} {m:Str->Option Value},s₁.heap.Ns b m->(zb3 s₁.heap H).Ns b m:=λ{b m} ⟨o,es,ep,e,d,r⟩=>⟨o,es,ep,fH e (jU e d),d,r⟩
  have ux:K.In (zb3 s₁.heap H):=λb o e=>fH (KX b o e) (by
   cases q:H b with
   |none=>rfl
   |some u=>
    have e':b=a:=hA b (by rw[q];simp)
    subst e'
    rw[hK (by rw[q];simp)] at e;cases e)
  have hM:Mod K mg (zb3 s₁.heap H):=⟨ux,lS ip,⟨mb,lS hb,Cm⟩,let ⟨mc,h1,h2⟩:=qe;⟨mc,lS h1,h2⟩⟩
  have e0:ziT P w K mg (zb3 s₁.heap H) callerA [] s₁ H:=⟨rfl,hM,λb o e=>ziN e,Gs (zfQ _ _),trivial,λb hb=>absurd (show b∈([]:List Addr) from hb) (by simp),hok,.of_eq hg⟩
  refine codeAny_mono ((F _ ux (lS ip)).run callerA [] s₁ H ⟨[.ref a],[]⟩ [.ref a] [.ref a] _ _ hr e0 (kM s₁ (.ref a)) (.cons rfl .nil) (ik H hO hS)) λr s' h=> ?_
  cases r with
  |error e=>exact (qF H e s' h).elim
  |ok fl=>
   cases fl with
   |next=>exact Gx h
   |brk=>exact Gx h
   |cont=>exact Gx h
   |ret u=>
    obtain⟨v,H',os,bare,un,pU,r',q⟩:=h
    have q':v= .bl true:=q
    subst q'
    obtain rfl:u=Value.bool true:=r'
    refine⟨rfl,OldK.of_keep λb o e=> ?_,os,bare⟩
    cases q:H b with
    |none=>exact un.keep b o e q (by intro z;exact absurd (show b∈([]:List Addr) from z) (by simp)) (by simp)
    |some u=>
     rcases hO b with z|⟨ob,xs,z⟩
     ·rw[q] at z;cases z
     ·have z2:=un.frzs b ob _ z
      obtain⟨e1,_⟩:=hok b _ z
      obtain⟨e2,_⟩:=pU b _ z2
      rw[e] at e1;cases e1
      exact e2
 cases hk:K.lookup a with
 |some o=>
  have e:=KX a o hk
  rw[ha] at e
  cases e
  refine core (λ_=>none) (λ_=> .inl rfl) (.inr ⟨vs.toArray,_,hk,by rw[EC,oI];exact hl,by simpa using rv⟩) (λb u z=>by have z':(none:Option HO)=some u:=z;cases z') (λb z=>absurd rfl z) λz=>absurd rfl z
 |none=>
  refine core (λb=>if b=a then some (.frz {cls:= .type "list",data:= .seq vs.toArray} (.lst (ns.map V.int))) else none) (λb=> ?_) (.inl (.inr ⟨{cls:= .type "list",data:= .seq vs.toArray},if_pos rfl⟩)) (λb u z=> ?_) (λb z=> ?_) λ_=>hk
  ·by_cases hb:b=a
   ·exact .inr ⟨_,_,if_pos hb⟩
   ·exact .inl (if_neg hb)
  ·by_cases hb:b=a
   ·have z':=(if_pos hb).symm.trans z
    cases z'
    subst hb
    exact⟨ha,by rw[Eb];exact hl,vs,_,rv,ha⟩
   ·have z':=(if_neg hb).symm.trans z
    cases z'
  ·by_cases hb:b=a
   ·exact hb
   ·exact absurd (if_neg hb) z
noncomputable abbrev KOf {K:E9} {h:Heap} (_:K.In h):E9:=K
theorem ziY {l:Ik} {n k:Nat} {q:Program} {loose:List Str} {XP:(Str->Option Value)->Heap->Prop} {YP:World->Heap->Prop} {d:DefRec} {K:Params->E9} {CX:World->CXT} {sp:World->Sp} {x:Str}
  (hn:l.most=some n) (gG:n<=sizeLine) (kF:d.params.defaults=[]) (hr:vk k callerA)
  (hY:∀(w:World) (h:Heap),YP w h->(K w.params).In h)
  (F:∀(w:World) (mg:Str->Option Value) (fa:Addr) (h:Heap),(K w.params).In h->h.Ns mainGlobals mg->mg d.name=some (.ref fa)->
   ∃fd:FuncData,(∀(s:Shared) (u:Value),BindsTo s fd ⟨[u],[]⟩ [(x,u)])/\
    ∀base:Heap,(K w.params).In base->base.Ns mainGlobals mg->xE l.prog w (K w.params) mg base (CX w) k fa fd [x] (sp w))
  (ik:∀(w:World) (H:Hp) (a:Addr) (ns:List Int),ns.length<=n->ziX H->SqX (K w.params) H a (ns.map V.int)->sp w [.ref a] H (λv _=>v= .bl true) λ_ _ _=>False)
  (qF:∀(w:World) (H:Hp) (s:Shared) (e:Value) (s':Shared),CX w [] H s (λ_ _ _=>False) e s'->False):
  JC q loose XP YP l.row.toRowW d [] (λf vs=>Js f vs):=by
 refine Att.zdi hn kF λw s₀ s₁ mg mb fa o pm cd doc a vs ns G Y ho hd er iY iV hints hlen hg=> ?_
 have KX:=hY w _ Y
 obtain⟨fd,hb,hF⟩:=F w mg fa _ KX G.T.g iY
 exact zgU KX G.T.g G.T.b G.T.builtins G.T.nolimit hg iV hints (Ey hlen gG) hr hF hb (λH hO hS=>ik w H a ns hlen hO hS) λH e s'=>qF w H s₁ e s'
end L2
/- THE LAST THEOREM (shape; LID, My.* are sH):
   My.Adr: a structure of eF addresses fU uV sW names (classes, functions); My.Txt K t: a structure (Prop) of eF equations over K;
   My.txt_mk : {K} {implicit addresses ..} (e1 : nsIn K mainGlobals "law" = some (some (.ref f))) (e2 : K.lookup f = some ⟨oc, od, .func (fnOf "law" "law" params body scope dV kV doc pm an aO ct), sl⟩) (e3 : codeIn K aO "law" = true) .. : ∃ t, My.Txt K t
set_option maxHeartbeats 0 in
theorem PySem.Challenge.cw_LID_holds : PySem.Challenge.rw_LID.Holds := by
 w_on; o_law; k_head; (case hw => w_witness2)
 k_fill
 refine L2.walk_of (l := PySem.Challenge.rw_LID) (n := 63) (k := 40) (x := "script") (CX := λw => ..) (sp := λ_ => My.sp_law) rfl ∅ rfl ⟨rfl, by decide, by decide⟩ (λw h Y => Jy Y) ?F ?S ?C
 case F =>
  intro w mg fa h KX G iY
  have T : ∃ t, My.Txt (L2.KOf KX) t := by
   dsimp only[L2.KOf]                          -- K Am fC as «<heap const> w.params» for k_is
   refine' My.txt_mk ?e1 ?e2 ?e3 ..
   (case e1 => PySem.W.k_is)                    -- in eF order: a name -> ae address -> ae object -> ae parts
   (case e2 => PySem.W.k_is)
   ..
  obtain⟨t, T⟩ := T
  have e0 := iY.symm.trans (EH KX G T.law)
  cases e0                                       -- fa is eF law's own address
  exact⟨_, λs u => .of_eq rfl, λbase kb nb => My.law_fn T kb nb⟩     -- if «.of_eq rfl» comes Dv early: refine' ⟨_, ?b, λbase kb nb => My.law_fn T kb nb⟩; exact λs u => .of_eq rfl
 case S => exact λw H a ns hl hO hS => ..
 case C => exact ..
(eF tactic k_is has no namespace: write k_is) -/
namespace L2
open PySem PySem.Spec PyProof.Rows
noncomputable def zV (s:Stmt):Arguments:=match s with
 | .FunctionDef _ a _ _ _ _ _ _ _ _=>a
 |_=>{posonlyargs:=[],args:=[],vararg:=none,kwonlyargs:=[],kw_defaults:=[],kwarg:=none,defaults:=[]}
noncomputable def zS (s:Stmt):List Stmt:=match s with
 | .FunctionDef _ _ b _ _ _ _ _ _ _=>b
 |_=>[]
noncomputable def zp (s:Stmt):Scope:=match s with
 | .FunctionDef _ _ _ _ _ _ sc _ _ _=>sc
 |_=>{kind:= .function,names:=[],isGenerator:=false,isCoroutine:=false}
noncomputable abbrev CX0:CXT:=λ_ _ _ _ _ _=>False
noncomputable abbrev E0:XK:=λ_ _ _=>False
structure Fun (K:E9) (x qual:Str) (st:Stmt) (f:Addr) (fd:FuncData):Prop where
 ex:∃(oc:Value) (od:Option Addr) (kV doc pm:Value) (an:Option Addr) (aO ct:Value) (i7:Array (Option Value)),
  fd=EF x qual (zV st) (zS st) (zp st) .none kV doc pm an aO ct/\K.lookup f=some ⟨oc,od,.func fd,i7⟩/\ED K aO qual=true
 kp:EA K (.ref f)=true
section
variable {P:Program} {w:World} {K:E9} {mg:Str->Option Value} {base:Heap}
theorem Fun.binds {x qual:Str} {st:Stmt} {f:Addr} {fd:FuncData} {ps:List Str} (F:Fun K x qual st f fd)
  (h:∀(kV doc pm:Value) (an:Option Addr) (aO ct:Value) (us:List Value),us.length=ps.length->bindArgs (EF x qual (zV st) (zS st) (zp st) .none kV doc pm an aO ct) ⟨us,[]⟩=pure (ps.zip us)):yT K fd ps []:=by
 obtain⟨oc,od,kV,doc,pm,an,aO,ct,i7,rfl,lk,er⟩:=F.ex
 exact .all (h kV doc pm an aO ct)
theorem zD {x qual:Str} {st:Stmt} {f:Addr} {oc:Value} {od an:Option Addr} {i7:Array (Option Value)} {kV doc pm aO ct:Value} (l:K.lookup f=some ⟨oc,od,.func (EF x qual (zV st) (zS st) (zp st) .none kV doc pm an aO ct),i7⟩)
  (c:ED K aO qual=true) (k:EA K (.ref f)=true):Fun K x qual st f (EF x qual (zV st) (zS st) (zp st) .none kV doc pm an aO ct):=⟨⟨oc,od,kV,doc,pm,an,aO,ct,i7,rfl,l,c⟩,k⟩
end
theorem YJ {A:Around} {k:Nat} (hr:vk k A):A.units+1<cLine:=F8 (Nat.add_le_add_left (by decide:1<=64) _) hr.units
section
variable {X:Cx}
theorem pv (i:Nat) {x:Str} {pos:Pos} (hN:X.N[i]? =some x:=by rfl) (hv:Vis X.env.scope x:=by first|exact El rfl|exact HA (El rfl)|exact HA (HA rfl)) (hd:(x==("__debug__":Str))=false:=by decide)
  (er:(x==("__classdict__":Str))=false:=by decide):PE X (.Name x pos) (zkt i):=zku hN hv hd er
end
def WL (H H':Hp):Prop:=∀b o,H b=some o->H' b=some o
theorem WL.refl (H:Hp):WL H H:=λ_ _ h=>h
section
variable {κ:Type} [DecidableEq κ]
end
theorem XG {prog:Program} {w:World} {A:Around} {elt iter tg:Expr} {ifs:List Expr} {scope:Scope} {pos:Pos} {it acc:Value} {env:Env} {s:Shared} {R:Result->Shared->Prop} (I:Nat->Shared->Prop)
  (turn:∀n s,I n s->wpAny (model prog w) A (pyNext it) (λr s₁=>match r with
   |none=>R (.ok .next) s₁
   |some v=>wpAny (model prog w) A (letOwnedTupleGo tg it v) (λ_ s₁'=>wpAny (model prog w) A (assign tg env v) (λ_ s₂=>
     wpAny (model prog w) A (forIn ifs true λc r=>if r=true then do let ok <-isTrue c env (eval c env);pure (Gy ok) else pure (Gy r)) (λok s₃=>
      if ok=true then wpAny (model prog w) A (eval elt env) (λx s₄=>
       wpAny (model prog w) A (call (.builtin "list.append") [acc,x]) (λ_ s₅=>∃m,m<n/\I m s₅) (λ_ _=>False) s₄) (λ_ _=>False) s₃
      else ∃m,m<n/\I m s₃) (λ_ _=>False) s₂)
     (λ_ _=>False) s₁') (λ_ _=>False) s₁) (λ_ _=>False) s)
  (n:Nat) (h:I n s):codeAny (model prog w) A (.compLoop (.ListComp elt [⟨tg,iter,ifs,0⟩] scope pos) 0 it acc env) R s:=by
 refine codeAny_loop rfl I (λn s hI=> ?_) n h
 show wpAny _ A ((compTurn (.ListComp elt [⟨tg,iter,ifs,0⟩] scope pos) 0 it acc env).onRaise (λx=>do noteFrame x env;theTreesLotGoes x)) _ _ s
 refine wpAny_noted ?_
 rw[compTurn_list]
 refine wpAny_bind (wpAny_standAt (wpAny_bind (wpAny_mono (turn n s hI) (λr s₁ h₁=> ?_) λ_ _ h'=>h'.elim)))
 cases r with
 |none=>exact wpAny_pure h₁
 |some v=>
  refine wpAny_bind (wpAny_mono h₁ (λ_ s₁' h₁'=> ?_) λ_ _ h'=>h'.elim)
  refine wpAny_bind (wpAny_mono h₁' (λ_ s₂ h₂=>wpAny_bind (wpAny_mono h₂ (λok s₃ h₃=> ?_) λ_ _ h'=>h'.elim)) λ_ _ h'=>h'.elim)
  cases ok with
  |false=>exact wpAny_pure ⟨rfl,h₃⟩
  |true=>
   exact wpAny_bind (wpAny_bind (wpAny_mono h₃ (λx s₄ h₄=>wpAny_bind (wpAny_mono h₄ (λ_ s₅ h₅=>wpAny_pure (wpAny_pure ⟨rfl,h₅⟩)) λ_ _ h'=>h'.elim)) λ_ _ h'=>h'.elim))
noncomputable def za8 (env:Env):List (Str×NameKind)->List (Str×Addr)->List (Str×Addr)
 |[],cs=>cs
 |(n,k)::r,cs=>za8 env r (if k== .free then (match env.cells.lookup n with|some c=>(n,c)::cs|none=>cs) else cs)
noncomputable def zdj (sc:Scope) (env:Env):List (Str×Addr):=za8 env sc.names []
theorem zdk {env:Env}:∀{ns:List (Str×NameKind)} {cs:List (Str×Addr)},(∀p∈cs,env.cells.lookup p.1=some p.2)->∀p∈za8 env ns cs,env.cells.lookup p.1=some p.2
 |[],_,h=>h
 |(n,k)::r,cs,h=>by
  unfold za8
  refine zdk ?_
  by_cases hk:(k== .free)=true
  ·rw[if_pos hk]
   cases e:env.cells.lookup n with
   |none=>exact h
   |some c=>
    intro p hp
    rcases Er.mp hp with rfl|hp
    ·exact e
    ·exact h p hp
  ·rw[if_neg hk];exact h
theorem zdl {env:Env}:∀{ns:List (Str×NameKind)} {cs:List (Str×Addr)} {p:Str×Addr},p∈cs->p∈za8 env ns cs
 |[],_,_,h=>h
 |(n,k)::r,cs,p,h=>by
  unfold za8
  refine zdl ?_
  by_cases hk:(k== .free)=true
  ·rw[if_pos hk]
   cases env.cells.lookup n with
   |none=>exact h
   |some c=>exact Ej _ h
  ·rw[if_neg hk];exact h
theorem zdm {env:Env} {x:Str} {c:Addr} (e:env.cells.lookup x=some c):∀{ns:List (Str×NameKind)} {cs:List (Str×Addr)},(x,NameKind.free)∈ns->(x,c)∈za8 env ns cs
 |[],_,h=>by cases h
 |(n,k)::r,cs,h=>by
  unfold za8
  rcases Er.mp h with h|h
  ·injection h with h1 h2
   subst h1 h2
   refine zdl ?_
   rw[if_pos (by rfl),e]
   exact Em
  ·exact zdm e h
theorem WA:∀{l:List (Str×Addr)} {x:Str} {c:Addr},(x,c)∈l->∃d,l.lookup x=some d
 |[],_,_,h=>by cases h
 |(n,d)::r,x,c,h=>by
  rw[FP]
  cases e:x==n with
  |true=>exact⟨d,rfl⟩
  |false=>
   rcases Er.mp h with h|h
   ·injection h with h1 h2
    subst h1
    simp at e
   ·exact WA h
theorem vP {sc:Scope} {env:Env} {x:Str} {c:Addr} (e:(zdj sc env).lookup x=some c):env.cells.lookup x=some c:=
 zdk (cs:=[]) (λp hp=>by cases hp) (x,c) (G0 e)
theorem zdn {sc:Scope} {env:Env} {x:Str} {c:Addr} (h:(x,NameKind.free)∈sc.names) (e:env.cells.lookup x=some c):(zdj sc env).lookup x=some c:=by
 obtain⟨d,hd⟩:=WA (zdm (cs:=[]) e h)
 have:=vP (sc:=sc) hd
 rw[e] at this
 cases this
 exact hd
theorem za9 {sc:Scope} {env:Env} (h:∀y∈sc.names,y.2= .free->∃c,env.cells.lookup y.1=some c):closureFor sc env=pure (zdj sc env):=by
 unfold zdj closureFor
 generalize sc.names=ns at h
 suffices hh:∀cs:List (Str×Addr),(forIn ns cs (λ(x:Str×NameKind) (r:List (Str×Addr))=>
    (match x with
     |(name,kind)=>if (kind==NameKind.free)=true then (cellOf env name>>=λc=>pure (Gy ((name,c)::r))) else pure (Gy r):Sem (ForInStep (List (Str×Addr)))))>>=λr=>pure r:Sem (List (Str×Addr)))=pure (za8 env ns cs) from hh []
 induction ns with
 |nil=>intro cs;rfl
 |cons p r ih=>
  intro cs
  obtain⟨n,k⟩:=p
  rw[List.forIn_cons]
  unfold za8
  have ih':=ih λy hy=>h y (Ej _ hy)
  by_cases hk:(k== .free)=true
  ·obtain⟨c,hc⟩:=h (n,k) Em (by simpa using hk)
   have hc:env.cells.lookup n=some c:=hc
   have h1:cellOf env n=pure c:=by unfold cellOf;rw[hc]
   simp only[hk,if_true,h1,hc,pure_bind]
   exact ih' _
  ·simp only[hk,if_false,pure_bind]
   exact ih' _
noncomputable def wy (X:Cx) (N':List Str) (sc:Scope) (C:Addr) (s₀:Shared) (H₀:Hp) (fp:List Addr):Cx where
 prog:=X.prog
 w:=X.w
 K:=X.K
 mg:=X.mg
 base:=X.base
 A:=X.A
 N:=N'
 s₀:=s₀
 H₀:=H₀
 env:=compEnvC sc (zdj sc X.env) C X.env
 outer:=X.stack
 stack:=X.stack
 ex:=fp
 fn:=λ_=>false
 calm:=X.calm
 pn:=[]
 xe:=λ_ _=>False
theorem ZD {env:Env}:∀{names:List (Str×NameKind)} {x:Str},names.lookup x=some .free->
  (names.map λ(n,k)=>if (k==NameKind.free&&env.scope.kind== .function&&env.kindOf n==some .cell) then (n,NameKind.cell) else (n,k)).lookup x=some .cell\/
  (names.map λ(n,k)=>if (k==NameKind.free&&env.scope.kind== .function&&env.kindOf n==some .cell) then (n,NameKind.cell) else (n,k)).lookup x=some .free
 |[],_,h=>by simp at h
 |(n,k)::r,x,h=>by
  have ih:= @ZD env r x
  show Jb x ((if (k==NameKind.free&&env.scope.kind== .function&&env.kindOf n==some .cell)=true then (n,NameKind.cell) else (n,k))::_)=_\/Jb x ((if (k==NameKind.free&&env.scope.kind== .function&&env.kindOf n==some .cell)=true then (n,NameKind.cell) else (n,k))::_)=_
  cases hx:x==n with
  |true=>
   simp only[FP,hx] at h
   cases h
   by_cases hc:(NameKind.free==NameKind.free&&env.scope.kind== .function&&env.kindOf n==some .cell)=true
   ·rw[if_pos hc];left;simp[FP,hx]
   ·rw[if_neg hc];right;simp[FP,hx]
  |false=>
   simp only[FP,hx] at h
   by_cases hc:(k==NameKind.free&&env.scope.kind== .function&&env.kindOf n==some .cell)=true
   ·rw[if_pos hc];simp only[FP,hx];exact ih h
   ·rw[if_neg hc];simp only[FP,hx];exact ih h
theorem Yi {env:Env} {x:Str} {k:NameKind} (hk:k= .cell\/k= .free):∀{names:List (Str×NameKind)},(∀y∈names,y.2≠ .cell)->
  (names.map λ(n,k)=>if (k==NameKind.free&&env.scope.kind== .function&&env.kindOf n==some .cell) then (n,NameKind.cell) else (n,k)).lookup x=some k->(x,NameKind.free)∈names
 |[],_,h=>by simp at h
 |(n,j)::r,hc,h=>by
  have hr:∀y∈r,y.2≠ .cell:=λy hy=>hc y (Ej _ hy)
  have h:Jb x ((if (j==NameKind.free&&env.scope.kind== .function&&env.kindOf n==some .cell)=true then (n,NameKind.cell) else (n,j))::_)=_:=h
  by_cases hj:(j==NameKind.free&&env.scope.kind== .function&&env.kindOf n==some .cell)=true
  ·rw[if_pos hj,FP] at h
   have dj:j= .free:=by
    simp only[FG,beq_iff_eq] at hj
    exact hj.1.1
   cases hx:x==n with
   |true=>
    rw[eq_of_beq hx,<-dj]
    exact Em
   |false=>
    rw[hx] at h
    exact Ej _ (Yi hk hr h)
  ·rw[if_neg hj,FP] at h
   cases hx:x==n with
   |true=>
    rw[hx] at h
    have h':j=k:=EE h
    have BK:j≠ .cell:=hc (n,j) Em
    rcases hk with e|e
    ·exact absurd (h'.trans e) BK
    ·rw[eq_of_beq hx]
     have:j= .free:=h'.trans e
     rw[this]
     exact Em
   |false=>
    rw[hx] at h
    exact Ej _ (Yi hk hr h)
def vz (X:Cx) (sc:Scope):List (Option Nat)->List Str->Prop
 |[],[]=>True
 |none::r,_::n=>vz X sc r n
 |some i::r,x::n=>(X.N[i]? =some x/\sc.names.lookup x=some .free)/\vz X sc r n
 |_,_=>False
noncomputable def Zi (cap:List (Option Nat)) (σ:St):St:=cap.map λo=>o.bind λi=>(σ[i]?).join
theorem vz.at {X:Cx} {sc:Scope}:∀{cap:List (Option Nat)} {N':List Str},vz X sc cap N'->∀(j i:Nat) (x:Str),cap[j]? =some (some i)->N'[j]? =some x->X.N[i]? =some x/\sc.names.lookup x=some .free
 |[],[],_,j,i,x,h,_=>by simp at h
 |none::r,y::n,c,0,i,x,h,_=>by simp at h
 |none::r,y::n,c,j+1,i,x,h,h2=>vz.at (cap:=r) c j i x (by simpa using h) (by simpa using h2)
 |some k::r,y::n,c,0,i,x,h,h2=>by
  simp at h h2
  subst h h2
  exact c.1
 |some k::r,y::n,c,j+1,i,x,h,h2=>vz.at (cap:=r) c.2 j i x (by simpa using h) (by simpa using h2)
theorem vz.len {X:Cx} {sc:Scope}:∀{cap:List (Option Nat)} {N':List Str},vz X sc cap N'->cap.length=N'.length
 |[],[],_=>rfl
 |none::r,y::n,c=>by simpa using vz.len (cap:=r) (N':=n) c
 |some k::r,y::n,c=>by simpa using vz.len (cap:=r) (N':=n) c.2
theorem zbC {cap:List (Option Nat)} {σ:St} {j:Nat} {v:V} (h:(Zi cap σ)[j]? =some (some v)):∃i,cap[j]? =some (some i)/\σ[i]? =some (some v):=by
 unfold Zi at h
 rw[Ef] at h
 cases e:cap[j]? with
 |none=>rw[e] at h;cases h
 |some o=>
  rw[e] at h
  cases o with
  |none=>simp at h
  |some i=>
   refine⟨i,rfl,?_⟩
   simp only[FI,Ee,Fg] at h
   cases q:σ[i]? with
   |none=>rw[q] at h;simp at h
   |some z=>rw[q] at h;simp at h;rw[h]
def PTs (X:Cx) (ifs:List Expr) (t:TT):Prop:=
 ∀(pins:List (Addr×Obj)) (s:Shared) (σ:St) (H:Hp) (Q:Bool->Hp->Prop),Inv X pins σ H s->t σ H Q->
  wpAny (model X.prog X.w) X.A (forIn ifs true λc r=>if r=true then do let ok <-isTrue c X.env (eval c X.env);pure (Gy ok) else pure (Gy r)) (TP X pins σ Q) X.xe s
theorem xM {X:Cx}:PTs X [] (λ_ H Q=>Q true H):=λ_ _ _ H _ I h=>wpAny_tests_nil ⟨H,I,h⟩
theorem zfa {X:Cx} {c:Expr} {t:TT} (h:PT X c t):PTs X [c] t:=λpins s σ H Q I hw=>wpAny_tests_one (h pins s σ H Q I hw)
def zgV (cap:List (Option Nat)) (g:TG) (tt:TT) (te:TE) (J:It) (σ:St) (acc:Addr) (H0:Hp) (Q:Hp->Prop):Prop:=
 ∃W:Nat->Nat->List V->Hp->Prop,(∃m,W 0 m [] (upd H0 acc (.lst [])))/\∀i m ys H,W i m ys H->
  (J.stop i H/\Q H)\/(J.go i H/\∀x H',J.yld i H x H'->g x (Zi cap σ) H' λσ2 H2=>tt σ2 H2 λb H3=>
   if b=true then te σ2 H3 λv H4=>H4 acc=some (.lst ys)/\ys.length<sizeLine/\∃m',m'<m/\W (i+1) m' (ys++[v]) (upd H4 acc (.lst (ys++[v])))
   else ∃m',m'<m/\W (i+1) m' ys H3)
def zgW (cap:List (Option Nat)) (wi:TI) (g:TG) (tt:TT) (te:TE):TE:=λσ H Q=>wi σ H λJ H1=>∀acc,H1 acc=none->zgV cap g tt te J σ acc H1 λH2=>Q (.ref acc) H2
def zdo (i:Nat) (cap:List (Option Nat)) (wi:TI) (g:TG) (tt:TT) (te:TE):TS:=λD σ H=>wi σ H λJ H1=>∀acc,H1 acc=none->zgV cap g tt te J σ acc H1 λH2=>D.nx (σ.set i (some (.ref acc))) H2
structure Wj (X:Cx) (sc:Scope):Prop where
 cell:∀y∈sc.names,y.2≠ .cell
 kind:sc.kind= .function
 names:∀y∈sc.names,y.2= .local->sc.names.lookup y.1=some .local
 free:∀y∈sc.names,y.2= .free->X.env.kindOf y.1=some .cell\/X.env.kindOf y.1=some .free
section
variable {X:Cx} {elt tg iter:Expr} {ifs:List Expr} {sc:Scope} {pos:Pos} {wi:TI} {g:TG} {tt:TT} {te:TE} {N':List Str} {cap:List (Option Nat)}
theorem Inv.closure {pins:List (Addr×Obj)} {σ:St} {H:Hp} {s:Shared} (I:Inv X pins σ H s) (B:Wj X sc):closureFor sc X.env=pure (zdj sc X.env):=
 za9 λy hy e=>I.ok.has y.1 (B.free y hy e)
theorem zf0 {pins:List (Addr×Obj)} {σ:St} {H:Hp} {s:Shared} {h₁:Heap} {t':Nat} {fp:List Addr} {acc C:Addr} {s₀:Shared} {m:Str->Option Value}
  (I:Inv X pins σ H s) (B:Wj X sc) (cp:vz X sc cap N') (hf:∀b∈fp,za5 X pins H b) (BV:∀b∈fp,b<s.heap.objs.size) (bb:acc=s.heap.objs.size) (ho:s₀.os=s.os) (qu:s₀.gens=s.gens)
  (h0:s₀.heap=s.heap.push {cls:= .type "list",data:= .seq #[]}) (hC:C=s₀.heap.objs.size)
  (ip:h₁.Ns C m) (eJ:∀b o,s₀.heap.get? b=some o->h₁.get? b=some o):
  Inv (wy X N' sc C s₀ (upd H acc (.lst [])) fp) [] (Zi cap σ) (upd H acc (.lst [])) {s₀ with heap:=h₁,toks:=t'}:=by
 have DQ:H acc=none:=I.hok.fresh (Gs bb.symm)
 have i5:∀b o,s.heap.get? b=some o->s₀.heap.get? b=some o:=λb o e=>by rw[h0];exact Heap.get?_push_of_some _ e
 have mO:s₀.heap.objs.size=s.heap.objs.size+1:=by rw[h0,Heap.size_push]
 have I0:Inv X pins σ (upd H acc (.lst [])) {s with heap:=s₀.heap,toks:=s.toks}:=I.laid i5 (Gs bb.symm) ⟨FR _,[],0,.nil,by rw[h0,bb];exact Heap.get?_push_size _ rfl⟩
 have CX':∀b,b<s.heap.objs.size->b≠C:=λb hb=>Ep (by rw[hC,mO];exact Fu hb)
 have CA:∀b,b<s.heap.objs.size->b≠acc:=λb hb=>Ep (by rw[bb];exact hb)
 have cellLt:∀x c,X.env.cells.lookup x=some c->c<s.heap.objs.size:=λx c e=>by
  obtain⟨v,o,q,_⟩:=I.cell x c e
  exact Heap.lt_size q
 refine⟨⟨I.ok.mod,B.kind,I.ok.glob,I.ok.blt,Gs hC.symm,λx y c h1 h2=>I.ok.inj x y c (vP h1) (vP h2),λx hx=> ?_,λx c h=>Bool.noConfusion h,I.ok.hd,I.ok.frames,.inl rfl,λb hb=>⟨CX' b (BV b hb),λx c e=>(hf b hb).2.2.2.2.1 x c (vP e)⟩,
   λb o e=> ?_,?_,λb o e hb=> ?_,λb hb hz=> ?_,I0.stack,I0.stkFree⟩,
  rfl,?_,Un.kept eJ,⟨m,ip,λj x v h1 h2 h3=> ?_⟩,λx c e=> ?_,?_,λx c e=> ?_,λp hp=>absurd (show p∈([]:List (Addr×Obj)) from hp) (by simp),I0.hok.kept eJ,?_⟩
 ·have hm:(x,NameKind.free)∈sc.names:=by
   rcases hx with hx|hx
   ·exact Yi (env:=X.env) (.inl rfl) B.cell hx
   ·exact Yi (env:=X.env) (.inr rfl) B.cell hx
  obtain⟨c,hc⟩:=I.ok.has x (B.free _ hm rfl)
  exact⟨c,zdn hm hc⟩
 ·obtain⟨e1,e2⟩:=I.bs b o e
  exact⟨i5 b o e1,by show upd H acc (.lst []) b=none;rw[yb (CA b (Heap.lt_size e1))];exact e2⟩
 ·exact Ey I.ok.bsz (Ey I.sz (by show _<=s₀.heap.objs.size;omega))
 ·rcases (hf b hb).2.2.2.1 with z|z
  ·exact I.ok.noex b o e z
  ·exact absurd (EK (Heap.lt_size e) (Ey I.ok.bsz z)) (Fv _)
 ·rcases Er.mp (I.stkSub b hz) with e|e
  ·exact (hf b hb).2.1 e
  ·exact (hf b hb).2.2.1 e
 ·show AllBare s₀.gens
  rw[qu];exact I.bare
 ·obtain⟨i,e1,e2⟩:=zbC h2
  obtain⟨e3,e4⟩:=cp.at j i x e1 h1
  have hm:(x,NameKind.free)∈sc.names:=G0 e4
  have hk:=B.free _ hm rfl
  obtain⟨m0,iX,hl⟩:=I.loc
  obtain⟨u,r,l⟩:=hl i x v e3 e2 (by rcases hk with k|k;exact .inr (.inl k);exact .inr (.inr k))
  refine⟨u,r,.inr ?_⟩
  rcases l with⟨k,_⟩|⟨_,c,hc,o,q,d⟩
  ·rcases hk with k'|k'
   ·rw[k] at k';cases k'
   ·rw[k] at k';cases k'
  ·exact⟨ZD (env:=X.env) e4,c,zdn hm hc,o,eJ c o (i5 c o q),d⟩
 ·obtain⟨v,o,q,d⟩:=I.cell x c (vP e)
  exact⟨v,o,eJ c o (i5 c o q),d⟩
 ·show upd H acc (.lst []) C=none
  rw[yb (by rw[hC,bb,mO];exact Jh _)]
  exact I.hok.fresh (by rw[hC,mO];exact Gr _)
 ·show upd H acc (.lst []) c=none
  rw[yb (CA c (cellLt x c (vP e)))]
  exact I.freeC x c (vP e)
 ·show (Zi cap σ).length=N'.length
  unfold Zi
  rw[Eb]
  exact cp.len
def Kp (σ0 σ:St):Prop:=σ.length=σ0.length/\∀(j:Nat) v,σ0[j]? =some (some v)->σ[j]? =some (some v)
def zf1 (cap:List (Option Nat)) (g:TG):Prop:=∀σ0 σ x H Q,Kp (Zi cap σ0) σ->g x σ H Q->g x σ H λσ2 H2=>Q σ2 H2/\Kp (Zi cap σ0) σ2
def zfb (cap:List (Option Nat)) (g:TGs):Prop:=∀σ0 σ x H Q,Kp (Zi cap σ0) σ->g x σ H Q->g x σ H λσ2 H2=>Q σ2 H2/\Kp (Zi cap σ0) σ2
theorem yd {i:Nat} (h:cap[i]? =some none):zf1 cap (zbt i):=λσ0 σ x H Q k q=>by
 refine⟨q,by rw[F9];exact k.1,λj v e=> ?_⟩
 have:j≠i:=by
  rintro rfl
  obtain⟨i',e1,_⟩:=zbC e
  rw[h] at e1;cases e1
 rw[Hm (Gw this)]
 exact k.2 j v e
theorem VS:zfb cap zkx:=λσ0 σ x H Q k ⟨e,q⟩=>⟨e,q,k⟩
theorem vQ {t:TG} {u:TGs} (h1:zf1 cap t) (h2:zfb cap u) (mono:∀v σ H (Q Q':St->Hp->Prop),(∀σ H,Q σ H->Q' σ H)->t v σ H Q->t v σ H Q'):zfb cap (zgI t u):=λσ0 σ x H Q k ⟨v,r,e,q⟩=>
 ⟨v,r,e,mono v σ H _ _ (λσ' H' ⟨q',k'⟩=>h2 σ0 σ' r H' Q k' q') (h1 σ0 σ v H _ k q)⟩
theorem vR {i:Nat}:∀v σ H (Q Q':St->Hp->Prop),(∀σ H,Q σ H->Q' σ H)->zbt i v σ H Q->zbt i v σ H Q':=λ_ _ _ _ _ f q=>f _ _ q
theorem TJ {K:E9} {n:Nat} {t:TGs} (h:zfb cap t):zf1 cap (ziP K n t):=λσ0 σ x H Q k ⟨a,xs,e,hq,hl,q⟩=>⟨a,xs,e,hq,hl,h σ0 σ xs H Q k q⟩
theorem zbD {pins:List (Addr×Obj)} {σ:St} {H:Hp} {s:Shared} {use:Option (Value->Sem Unit)} {Q:Value->Shared->Prop} {R:Addr->Hp->Prop} {p:Pos}
  (hc:X.calm=true) (B:Wj X sc) (cp:vz X sc cap N') (hi:PI X tg iter wi) (ow:zf1 cap g)
  (hg:∀C s₀ H₀ fp,PG (wy X N' sc C s₀ H₀ fp) tg g) (ht:∀C s₀ H₀ fp,PTs (wy X N' sc C s₀ H₀ fp) ifs tt) (he:∀C s₀ H₀ fp,PE (wy X N' sc C s₀ H₀ fp) elt te)
  (hs:∀x,foldedSetIterable iter X.env x=pure x)
  (I:Inv X pins σ H s) (h:wi σ H λJ H1=>∀acc,H1 acc=none->zgV cap g tt te J σ acc H1 (R acc))
  (fin:∀(acc C:Addr) (H':Hp) (s':Shared) (m:Str->Option Value),Inv X pins σ H' s'->s'.heap.Ns C m->C≠X.env.locals->
   (∀{σ':St} {s'':Shared},Inv X pins σ' H' s''->∀h',Heap.SameBut C s''.heap h'->Inv X pins σ' H' {s'' with heap:=h'})->
   R acc H'->compPost (model X.prog X.w) X.A X.xe use Q (.ref acc) C (.ok .next) s'):
  wpAny (model X.prog X.w) X.A (comprehension (.ListComp elt [⟨tg,iter,ifs,0⟩] sc pos) sc X.env p (newList []) false (eval iter X.env) use) Q X.xe s:=by
 refine wpAny_comprehension_free rfl hs (I.closure B) B.kind B.names (thn (hi pins s σ H _ I h) λxv s1 h1=>thn h1 λp8 s2 h2=> ?_)
 obtain⟨it,fp,tn,J,H2,e,I2,T,jP,f2,r2⟩:=h2
 subst e
 have uA:∀b∈fp,b<s2.heap.objs.size:=λb hb=>by
  obtain⟨o,e,_⟩:=T.obj _ _ jP b hb
  exact Heap.lt_size e
 refine wpAny_newObj_type (wpAny_newFunctionEnv B.cell (by intro y hy;simp at hy) (λh₁ hns₁ hsb₁=> ?_) B.kind)
 dsimp only at hns₁ hsb₁ ⊢
 obtain⟨s₀,kY⟩:∃s₀:Shared,s₀={s2 with heap:=s2.heap.push {cls:= .type "list",dict:=none,data:= .seq ([]:List Value).toArray}}:=⟨_,rfl⟩
 have e0h:s₀.heap=s2.heap.push {cls:= .type "list",data:= .seq #[]}:=by rw[kY]
 obtain⟨C,eC⟩:∃C:Addr,C=s₀.heap.objs.size:=⟨_,rfl⟩
 obtain⟨acc,eA⟩:∃a:Addr,a=s2.heap.objs.size:=⟨_,rfl⟩
 rw[show (s2.heap.push {cls:= .type "list",dict:=none,data:= .seq ([]:List Value).toArray}).objs.size=C by rw[eC,e0h]] at hns₁ hsb₁ ⊢
 have keep₁:∀b o,s₀.heap.get? b=some o->h₁.get? b=some o:=λb o e=>by
  refine hsb₁.extBut b o ?_ ?_
  ·rw[eC];exact Ep (Heap.lt_size e)
  ·rw[e0h] at e;exact Heap.get?_push_of_some _ e
 have lQ:C=s2.heap.objs.size+1:=by rw[eC,e0h,Heap.size_push]
 have i5:∀b o,s2.heap.get? b=some o->s₀.heap.get? b=some o:=λb o e=>by rw[e0h];exact Heap.get?_push_of_some _ e
 have uz:H2 acc=none:=I2.hok.fresh (Gs eA.symm)
 show codeAny (model X.prog X.w) X.A (.compStart (.ListComp elt [⟨tg,iter,ifs,0⟩] sc pos) 0 (.ref it) (.ref s2.heap.objs.size) (compEnvC sc (zdj sc X.env) C X.env))
  (compPost (model X.prog X.w) X.A X.xe use Q (.ref s2.heap.objs.size) C) {s2 with heap:=h₁,toks:=s2.toks+([]:List (Str×Value)).length}
 rw[<-eA]
 have CQ:({s2 with heap:=h₁,toks:=s2.toks+([]:List (Str×Value)).length}:Shared)={s₀ with heap:=h₁,toks:=s2.toks+([]:List (Str×Value)).length}:=by rw[kY]
 rw[CQ]
 obtain⟨W,⟨m0,w0⟩,turn⟩:=r2 acc uz
 have Ib:Inv (wy X N' sc C s₀ (upd H2 acc (.lst [])) fp) [] (Zi cap σ) (upd H2 acc (.lst [])) {s₀ with heap:=h₁,toks:=s2.toks+([]:List (Str×Value)).length}:=
  zf0 I2 B cp f2 uA eA (by rw[kY]) (by rw[kY]) e0h eC hns₁ keep₁
 have stat:∀{H':Hp},(∀b∈fp,H' b=none)->∀b∈fp,za5 (wy X N' sc C s₀ (upd H2 acc (.lst [])) fp) [] H' b:=λhn b hb=>
  ⟨hn b hb,(Ib.ok.exf b hb).1,Ib.ok.exfs b hb,.inl hb,λx c e=>(Ib.ok.exf b hb).2 x c e,λp hp=>absurd (show p∈([]:List (Addr×Obj)) from hp) (by simp)⟩
 have CF:∀b∈fp,upd H2 acc (.lst []) b=none:=λb hb=>by
  rw[yb (by rw[eA];exact Ep (uA b hb))]
  exact (f2 b hb).1
 have loop:codeAny (model X.prog X.w) X.A (.compLoop (.ListComp elt [⟨tg,iter,ifs,0⟩] sc pos) 0 (.ref it) (.ref acc) (compEnvC sc (zdj sc X.env) C X.env))
   (compPost (model X.prog X.w) X.A X.xe use Q (.ref acc) C) {s₀ with heap:=h₁,toks:=s2.toks+([]:List (Str×Value)).length}:=by
  refine XG (λn s'=>∃i ys H',Inv (wy X N' sc C s₀ (upd H2 acc (.lst [])) fp) [] (Zi cap σ) H' s'/\tn i s'.heap/\(∀b∈fp,H' b=none)/\W i n ys H') ?_ m0
   ⟨0,[],_,Ib,T.keep _ _ _ jP λb hb o e=>keep₁ b o (i5 b o e),CF,w0⟩
  rintro n s3 ⟨i,ys,H3,I3,jO,kT,w3⟩
  rcases turn i n ys H3 w3 with⟨stop,qn⟩|⟨go,step⟩
  ·refine thn (T.done (wy X N' sc C s₀ (upd H2 acc (.lst [])) fp) rfl rfl rfl hc i [] s3 _ H3 (λ_ _=>False) I3 (stat kT) jO stop) λr s4 ⟨hr,I4⟩=> ?_
   subst hr
   have u0:Un (frs X.stack) fp H2 (upd H2 acc (.lst [])) s2.heap s₀.heap:=Un.laid i5 (Gs eA.symm) uz
   have un:Un (frs X.stack) fp H2 H3 s2.heap s4.heap:=u0.trans I4.base
   have I5:Inv X pins σ H3 s4:=I2.call' (by rw[I4.os];show s₀.os=_;rw[kY]) un I4.hok I4.bare λb hb=>⟨(f2 b hb).2.2.2.1,(f2 b hb).2.1,(f2 b hb).2.2.2.2.1,(f2 b hb).2.2.2.2.2⟩
   obtain⟨m4,gR,_⟩:=I4.loc
   have CL:C≠X.env.locals:=λz=>by
    have:=I2.lt
    rw[<-z,lQ] at this
    exact absurd this (Jt.mpr (Gr _))
   refine fin acc C H3 s4 m4 I5 gR CL (λ{σ' s''} I6 h' sb=> ?_) qn
   refine I6.turned (t':=s''.toks) (λb o hb e=>(sb.2 b hb).trans e) I4.free CL (.inr ?_) (λx c e z=> ?_) λp hp z=> ?_
   ·have:=I2.sz
    rw[lQ]
    omega
   ·obtain⟨v,o,q,_⟩:=I2.cell x c e
    have:=Heap.lt_size q
    rw[z,lQ] at this
    exact absurd this (Jt.mpr (Gr _))
   ·obtain⟨q,_⟩:=I2.pin p hp
    have:=Heap.lt_size q
    rw[z,lQ] at this
    exact absurd this (Jt.mpr (Gr _))
  ·refine thn (T.item (wy X N' sc C s₀ (upd H2 acc (.lst [])) fp) rfl rfl rfl hc i [] s3 _ H3 (λ_ _=>False) I3 (stat kT) jO go) λr s4 ⟨u,hr,h4⟩=> ?_
   subst hr
   refine thn h4 ?_
   rintro _ s5 ⟨x,H5,I5,r5,y5,iK,qL⟩
   have I5':=I5.pinned (stat qL) (T.obj _ _ iK)
   refine thn (hg C s₀ _ fp _ s5 _ H5 x u _ I5' r5 (ow σ _ x H5 _ ⟨rfl,λ_ _ e=>e⟩ (step x H5 y5))) ?_
   rintro _ s6 ⟨σ6,H6,I6,q6,sX⟩
   have again:∀{H7:Hp} {s7:Shared} {zs:List V},Inv (wy X N' sc C s₀ (upd H2 acc (.lst [])) fp) ([]++Tu fp s5.heap) σ6 H7 s7->(∃m',m'<n/\W (i+1) m' zs H7)->
     ∃m,m<n/\∃i ys H',Inv (wy X N' sc C s₀ (upd H2 acc (.lst [])) fp) [] (Zi cap σ) H' s7/\tn i s7.heap/\(∀b∈fp,H' b=none)/\W i m ys H':=λ{H7 s7 zs} I7 w7=>by
    obtain⟨m',hm,w7⟩:=w7
    refine⟨m',hm,i+1,zs,H7,(I7.unpinned).weak sX.1.symm sX.2,T.keep _ _ _ iK λb hb o e=>(I7.pin (b,o) (Fk _ (Fk _ (Xc hb e)))).1,λb hb=> ?_,w7⟩
    obtain⟨o,e,d⟩:=T.obj _ _ iK b hb
    exact (I7.pin (b,o) (Fk _ (Fk _ (Xc hb e)))).2.1
   refine thn (ht C s₀ _ fp _ s6 σ6 H6 _ I6 q6) ?_
   rintro ok s7 ⟨H7,I7,q7⟩
   cases ok with
   |false=>
    rw[if_neg Hz] at q7 ⊢
    exact again I7 q7
   |true=>
    rw[if_pos rfl] at q7 ⊢
    refine thn (he C s₀ _ fp _ s7 σ6 H7 _ I7 q7) ?_
    rintro xv s8 ⟨v,H8,I8,r8,kQ,BD,w8⟩
    refine thn (yw _ s8 σ6 H8 (.ref acc) [v] (.ref acc) [xv] (λ_ H9=>H9=upd H8 acc (.lst (ys++[v]))) I8 rfl (.cons r8 .nil) ⟨acc,ys,v,rfl,rfl,kQ,BD,rfl⟩) ?_
    rintro _ s9 ⟨_,H9,I9,_,e9⟩
    subst e9
    exact again I9 w8
 exact codeAny_compStart_list loop (T.self _ 0 _ _ _ (T.keep _ _ _ jP λb hb o e=>keep₁ b o (i5 b o e)) loop)
theorem Zf (hc:X.calm=true) (B:Wj X sc) (cp:vz X sc cap N') (hi:PI X tg iter wi) (ow:zf1 cap g)
  (hg:∀C s₀ H₀ fp,PG (wy X N' sc C s₀ H₀ fp) tg g) (ht:∀C s₀ H₀ fp,PTs (wy X N' sc C s₀ H₀ fp) ifs tt) (he:∀C s₀ H₀ fp,PE (wy X N' sc C s₀ H₀ fp) elt te)
  (hs:∀x,foldedSetIterable iter X.env x=pure x:=by intro _;rfl):PE X (.ListComp elt [⟨tg,iter,ifs,0⟩] sc pos) (zgW cap wi g tt te):=by
 intro pins s σ H Q I h
 rw[eval_ListComp]
 refine zbD (use:=none) (R:=λacc H2=>Q (.ref acc) H2) hc B cp hi ow hg ht he hs I h λacc C H' s' m I' hn CL mk r=> ?_
 exact⟨m,hn,λh' sb=>⟨.ref acc,H',mk I' h' sb,rfl,r⟩⟩
theorem vm {i:Nat} {y:Str} {py jQ:Pos} (hc:X.calm=true) (B:Wj X sc) (cp:vz X sc cap N') (hi:PI X tg iter wi) (ow:zf1 cap g)
  (hg:∀C s₀ H₀ fp,PG (wy X N' sc C s₀ H₀ fp) tg g) (ht:∀C s₀ H₀ fp,PTs (wy X N' sc C s₀ H₀ fp) ifs tt) (he:∀C s₀ H₀ fp,PE (wy X N' sc C s₀ H₀ fp) elt te)
  (hN:X.N.Nodup) (hy:X.N[i]? =some y) (hl:X.env.scope.names.lookup y=some .local)
  (Be:swapsWith (.ListComp elt [⟨tg,iter,ifs,0⟩] sc pos) (some (.Name y py)) jQ.line X.env=pure true:=by rfl)
  (hs:∀x,foldedSetIterable iter X.env x=pure x:=by intro _;rfl):PS X (.Assign [.Name y py] (.ListComp elt [⟨tg,iter,ifs,0⟩] sc pos) jQ) (zdo i cap wi g tt te):=by
 intro pins s σ H D I h
 rw[exec_Assign_Name_used _ _ _ _ Be]
 refine wpAny_bind (wpAny_standAt (wpAny_bind ?_))
 show wpAny _ X.A (do let _ <-comprehension (.ListComp elt [⟨tg,iter,ifs,0⟩] sc pos) sc X.env _ (newList []) false (eval iter X.env) (some (assign (.Name y py) X.env))) _ _ s
 refine wpAny_bind (thn (zbD (use:=some (assign (.Name y py) X.env)) (Q:=λ_ s'=>SP X pins D .next s') (R:=λacc H2=>D.nx (σ.set i (some (.ref acc))) H2) hc B cp hi ow hg ht he hs I h λacc C H' s' m I' hn CL mk r=> ?_) λ_ s' hq=>wpAny_pure (wpAny_pure hq))
 show wpAny _ X.A (assign (.Name y py) X.env (.ref acc)) _ _ _
 refine wpAny_assign_Name (zbr I' hN hy (.inl hl) (v:= .ref acc) rfl (λs'' I'' eJ=> ?_) (.inr hl))
 obtain⟨a,sb,ha⟩:=eJ
 have CD:C≠a:=by
  rcases ha with ha|ha
  ·rw[ha];exact CL
  ·intro z
   rw[<-z] at ha
   obtain⟨v,o,q,d⟩:=I'.cell y C ha
   obtain⟨o',es,ep,q',d',_⟩:=hn
   rw[q] at q';cases q'
   rw[d] at d';cases d'
 exact⟨m,hn.sameBut sb CD,λh' sb'=>⟨_,H',mk I'' h' sb',r⟩⟩
end
def wS {α:Type}:Sem α->Prop
 | .pure _=>True
 | .raise _=>True
 | .unsupported _=>True
 | .finish _=>True
 | .rule _ k=>∀u,wS (k u)
 | .at _ k=>∀u,wS (k u)
 | .load _ _ k=>∀o,wS (k o)
 | .update _ _ f k=>(∀o,(f o).dict=o.dict/\(f o).cls=o.cls)/\∀u,wS (k u)
 | .alloc _ k=>∀a,wS (k a)
 | .loadIfAlive _ k=>∀o,wS (k o)
 | .point _ k=>∀u,wS (k u)
 | .stack k=>∀x,wS (k x)
 | .ask k=>∀x,wS (k x)
 |_=>False
def KD (h h':Heap):Prop:=∀(b:Nat) o,h.objs[b]? =some o->∃o',h'.objs[b]? =some o'/\o'.dict=o.dict/\o'.cls=o.cls
theorem KD.refl (h:Heap):KD h h:=λ_ o e=>⟨o,e,rfl,rfl⟩
theorem KD.trans {h h1 h2:Heap} (x:KD h h1) (y:KD h1 h2):KD h h2:=λb o e=>by
 obtain⟨o1,e1,d1,c1⟩:=x b o e
 obtain⟨o2,e2,d2,c2⟩:=y b o1 e1
 exact⟨o2,e2,d2.trans d1,c2.trans c1⟩
theorem KD.push (h:Heap) (o:Obj):KD h (h.push o):=λb o' e=>by
 refine⟨o',?_,rfl,rfl⟩
 obtain⟨objs,l⟩:=h
 show (objs.push o)[b]? =some o'
 have e:objs[b]? =some o':=e
 rw[Array.getElem?_push]
 have hb:b<objs.size:=(HE.mp e).1
 rw[if_neg (Ep hb)]
 exact e
theorem KD.update (h:Heap) (a:Addr) {f:Obj->Obj} (hf:∀o,(f o).dict=o.dict/\(f o).cls=o.cls):KD h (h.update a f):=λb o e=>by
 obtain⟨objs,l⟩:=h
 show ∃o',(objs.modify a f)[b]? =some o'/\_
 rw[Array.getElem?_modify]
 have e:objs[b]? =some o:=e
 by_cases aG:a=b
 ·rw[if_pos aG,e]
  exact⟨f o,rfl,hf o⟩
 ·rw[if_neg aG,e]
  exact⟨o,rfl,rfl,rfl⟩
theorem zdp {h:Heap} {a:Addr} {o:Obj} (e:h.get? a=some o):h.objs[a]? =some o:=by
 unfold Heap.get? at e
 split at e
 ·cases e
 ·exact e
theorem KD.at {h h':Heap} {a:Addr} {o o':Obj} (k:KD h h') (e:h.get? a=some o) (e':h'.get? a=some o'):o'.dict=o.dict/\o'.cls=o.cls:=by
 obtain⟨o1,e1,d⟩:=k a o (zdp e)
 rw[zdp e'] at e1
 cases e1
 exact d
theorem ziZ {α:Type} {M:Model} {Γ:PySem.Ctx} {t:Sem α}:∀{Q:α->Pos->Shared->Prop} {E:Value->Pos->Shared->Prop} {p:Pos} {s:Shared} {h₀:Heap},wS t->KD h₀ s.heap->Sem.wp M Γ t Q E p s->
  Sem.wp M Γ t (λa p' s'=>Q a p' s'/\KD h₀ s'.heap) (λe p' s'=>E e p' s'/\KD h₀ s'.heap) p s:=by
 induction t with
 |pure a=>exact λ_ k h=>⟨h,k⟩
 |raise e=>exact λ_ k h=>⟨h,k⟩
 |unsupported w=>exact λ_ _ h=>h.elim
 |finish e=>exact λ_ _ h=>h.elim
 |rule _ k ih=>exact λt z h=>ih () (t ()) z h
 | «at» _ k ih=>exact λt z h=>ih () (t ()) z h
 |load a _ k ih=>
  intro Q E p s h₀ t z h
  obtain⟨o,e,h⟩:=h
  exact⟨o,e,ih o (t o) z h⟩
 |update a _ f k ih=>
  intro Q E p s h₀ t z h
  obtain⟨e,h⟩:=h
  exact⟨e,ih () (t.2 ()) (z.trans (KD.update _ _ t.1)) h⟩
 |alloc o k ih=>exact λt z h=>ih _ (t _) (z.trans (KD.push _ _)) h
 |loadIfAlive a k ih=>exact λt z h=>ih _ (t _) z h
 |point _ k ih=>exact λt z h=>ih () (t ()) z h
 |stack k ih=>exact λt z h=>ih _ (t _) z h
 |ask k ih=>exact λt z h=>ih _ (t _) z h
 |register _ _ _=>exact λt=>t.elim
 |fresh _ _=>exact λt=>t.elim
 |choose _ _ _ _=>exact λt=>t.elim
 |os _ _ _ _=>exact λt=>t.elim
 |call _ _ _ _ _ _=>exact λt=>t.elim
 |handled _ _ _=>exact λt=>t.elim
 |newGen _ _ _=>exact λt=>t.elim
 |genState _ _ _=>exact λt=>t.elim
 |resume _ _ _ _ _=>exact λt=>t.elim
 |yield _ _ _ _ _=>exact λt=>t.elim
 |fork _ _ _=>exact λt=>t.elim
 |thread _ _=>exact λt=>t.elim
 |await _ _ _ _ _ _=>exact λt=>t.elim
theorem zgX {α:Type} {M:Model} {A:Around} {t:Sem α} {Q:α->Shared->Prop} {E:Value->Shared->Prop} {s:Shared} (T:wS t) (h:wpAny M A t Q E s):wpAny M A t (λa s'=>Q a s'/\KD s.heap s'.heap) (λe s'=>E e s'/\KD s.heap s'.heap) s:=
 λΓ p hΓ=>ziZ T (KD.refl _) (h Γ p hΓ)
theorem zf2 {α β:Type} {f:α->Sem β} (hf:∀a,wS (f a)):∀{t:Sem α},wS t->wS (t.bind f):=by
 intro t
 induction t with
 |pure a=>exact λ_=>hf a
 |raise e=>exact λ_=>trivial
 |unsupported w=>exact λ_=>trivial
 |finish e=>exact λ_=>trivial
 |rule _ k ih=>exact λt u=>ih u (t u)
 | «at» _ k ih=>exact λt u=>ih u (t u)
 |load a _ k ih=>exact λt u=>ih u (t u)
 |update a _ f k ih=>exact λt=>⟨t.1,λu=>ih u (t.2 u)⟩
 |alloc o k ih=>exact λt u=>ih u (t u)
 |loadIfAlive a k ih=>exact λt u=>ih u (t u)
 |point _ k ih=>exact λt u=>ih u (t u)
 |stack k ih=>exact λt u=>ih u (t u)
 |ask k ih=>exact λt u=>ih u (t u)
 |register _ _ _=>exact λt=>t.elim
 |fresh _ _=>exact λt=>t.elim
 |choose _ _ _ _=>exact λt=>t.elim
 |os _ _ _ _=>exact λt=>t.elim
 |call _ _ _ _ _ _=>exact λt=>t.elim
 |handled _ _ _=>exact λt=>t.elim
 |newGen _ _ _=>exact λt=>t.elim
 |genState _ _ _=>exact λt=>t.elim
 |resume _ _ _ _ _=>exact λt=>t.elim
 |yield _ _ _ _ _=>exact λt=>t.elim
 |fork _ _ _=>exact λt=>t.elim
 |thread _ _=>exact λt=>t.elim
 |await _ _ _ _ _ _=>exact λt=>t.elim
theorem tb {α β:Type} {t:Sem α} {f:α->Sem β} (h:wS t) (hf:∀a,wS (f a)):wS (t>>=f):=zf2 hf h
theorem zba (v:Value):wS (fieldsOf v):=by
 unfold fieldsOf
 split
 ·refine tb (λo=>trivial) λo=> ?_
  split<;>trivial
 ·trivial
theorem Xd (v:Value) (i:Nat):wS (field v i):=by
 unfold field
 refine tb (zba v) λa=> ?_
 split<;>trivial
theorem TK (g:Array Value->Array Value) (o:Obj):(Obj.mapFields g o).dict=o.dict/\(Obj.mapFields g o).cls=o.cls:=by
 obtain⟨c,d,dt,sl⟩:=o
 cases dt<;>exact⟨rfl,rfl⟩
theorem Yq (v:Value) (i:Nat) (x:Value):wS (setField v i x):=by
 unfold setField
 split
 ·unfold updateField
  refine tb (λo=>trivial) λo=> ?_
  split
  ·split
   ·exact⟨λo=>TK _ o,λ_=>trivial⟩
   ·trivial
  ·trivial
 ·trivial
theorem TL (e:Value) (f:Option Addr):wS (setFlight e f):=by
 unfold setFlight
 refine tb (Xd _ _) λtb'=> ?_
 split
 ·exact Yq _ _ _
 ·trivial
theorem TM (ty:String) (vs:List Value):wS (newFields ty vs):=by
 have h:wS (newObjAsIs (Value.type ty) (Data.fields vs.toArray)):=by
  unfold newObjAsIs
  exact tb (λa=>trivial) λa=>trivial
 unfold newFields newObj
 show wS (if vs.toArray.size>sizeLine+2 then (unsupported "record:memory">>=λ_=>newObjAsIs (Value.type ty) (Data.fields vs.toArray)) else newObjAsIs (Value.type ty) (Data.fields vs.toArray))
 split
 ·trivial
 ·exact h
theorem zdq (env:Env) (outer:List Env):wS (behindIsImport env outer):=by
 unfold behindIsImport
 split
 ·trivial
 ·split
  ·trivial
  ·exact tb (Xd _ _) λ_=>trivial
theorem zej:wS underTheClaimsCaller:=tb (λ_=>trivial) λ_=>trivial
theorem zbb (env:Env) (i:Bool) (outer:List Env):wS (keptBack env i outer):=by
 cases outer with
 |nil=>
  unfold keptBack
  by_cases h:(env.scope.isGenerator||env.scope.isCoroutine)=true
  ·rw[if_pos h];trivial
  ·rw[if_neg h]
   refine tb zej λx=> ?_
   trivial
 |cons c r=>
  unfold keptBack
  trivial
theorem TN:∀l:List Env,wS (readyFrames l)
 |[]=>trivial
 |env::outer=>by
  unfold readyFrames
  split
  ·refine tb (λo=>trivial) λo=> ?_
   split
   ·trivial
   ·exact tb (zdq _ _) λi=>tb (zbb _ _ _) λb=>tb ⟨λo=>⟨rfl,rfl⟩,λ_=>trivial⟩ λ_=>TN outer
  ·trivial
theorem zcc (env:Env):wS (IP env):=by
 unfold IP
 refine tb (λx=>trivial) λl=>tb ?_ λo=> ?_
 ·generalize List.dropWhile _ l=l'
  unfold frameObject
  cases l' with
  |nil=>trivial
  |cons a r=>exact tb (TN _) λ_=>trivial
 ·split<;>trivial
theorem UQ (f:Addr) (b:Bool):wS (entryPlaceOf f b):=by
 unfold entryPlaceOf
 refine tb (λx=>trivial) λl=> ?_
 split<;>trivial
theorem TQ (e:Value) (env:Env):wS (noteFrame e env):=by
 unfold noteFrame
 split
 ·rename_i f _
  have last:∀head:Value,wS (do setField e 1 (<-EntryCells.newEntry head (<-IP env) .none (rawInt f) .none (<-entryPlaceOf f (head != .none)))):=λhead=>
   tb (zcc env) λa=>tb (UQ _ _) λpl=>tb (TM _ _) λb=>Yq _ _ _
  refine tb (Xd _ _) λhead=> ?_
  split
  ·refine tb (Xd _ _) λx=> ?_
   split
   ·trivial
   ·exact tb (Yq _ _ _) λ_=>last head
  ·exact last head
 ·trivial
theorem zcd (env:Env) (e:Value):wS (leaving env e):=tb (TQ e env) λ_=>TL _ _
theorem ym.there {P:Program} {w:World} {H:Hp} {h:Heap} {a:Addr} {o:HO} (x:ym P w H h a o):∃ob,h.get? a=some ob:=by
 cases o with
 |lst xs=>obtain⟨_,_,_,_,e⟩:=x;exact⟨_,e⟩
 |tup xs=>obtain⟨_,_,_,ob,e,_⟩:=x;exact⟨_,e⟩
 |dK kvs=>obtain⟨_,_,_,_,o,_,_,e,_⟩:=x;exact⟨_,e⟩
 |dT kvs=>obtain⟨_,_,_,_,o,_,_,e,_⟩:=x;exact⟨_,e⟩
 |dN kvs=>obtain⟨_,_,_,_,o,_,_,e,_⟩:=x;exact⟨_,e⟩
 |set S n=>obtain⟨o,_,_,_,e,_⟩:=x;exact⟨_,e⟩
 |ins C dx fs=>obtain⟨_,_,_,e,_⟩:=x;exact⟨_,e⟩
 |own y=>obtain⟨_,e⟩:=x;exact⟨_,e⟩
 |xd fs=>obtain⟨_,⟨_,_,_,e,_⟩,_⟩:=x;exact⟨_,e⟩
 |rng lo hi=>obtain⟨_,_,_,e⟩:=x;exact⟨_,e⟩
 |frz ob u=>obtain⟨e,_⟩:=x;exact⟨_,e⟩
 |tbl ps=>exact⟨_,(show h.get? a=some _ from x)⟩
 |met f y=>exact⟨_,(show h.get? a=some _ from x)⟩
 |ext φ=>obtain⟨_,⟨_,e⟩,_⟩:=x;exact⟨_,e⟩
def Cov (outer:List Env) (H':Hp) (old h' B:Heap):Prop:=
 (∀b o,(∃o0,old.get? b=some o0)->b∉frs outer->h'.get? b=some o->B.get? b=some o)/\∀b u o,H' b=some u->h'.get? b=some o->B.get? b=some o
structure Fly (P:Program) (w:World) (outer:List Env) (H:Hp) (s:Shared) (e:Addr) (cls:Value) (H':Hp) (s':Shared):Prop where
 os:s'.os=s.os
 bare:AllBare s'.gens
 un:Un (frs outer) [] H H' s.heap s'.heap
 hok:HOk P w H' s'.heap
 fly:∃B t,Heap.FlyingW B outer e cls (.ref t) s'.heap/\Cov outer H' s.heap s'.heap B
 new:s.heap.get? e=none
 free:H' e=none
 nd:∀o,s'.heap.get? e=some o->o.dict=none
noncomputable def CXE (P:Program) (w:World):CXT:=λouter H s E ev s'=>∃e cls H',ev= .ref e/\Fly P w outer H s e cls H' s'/\E cls none H'
theorem Fly.moved {P:Program} {w:World} {outer:List Env} {H H':Hp} {s s':Shared} {e:Addr} {cls a0:Value} {B h2:Heap} (F:Fly P w outer H s e cls H' s') (fl:Heap.FlyingW B outer e cls a0 s'.heap) (cov:Cov outer H' s.heap s'.heap B)
  (st:B.StaysIn h2) (sm:s'.heap.UpToSlots h2):Un (frs outer) [] H H' s.heap h2/\HOk P w H' h2/\Cov outer H' s.heap h2 B:=by
 have nofs:∀b u,H' b=some u->∃o,s'.heap.get? b=some o/\B.get? b=some o/\h2.get? b=some o:=λb u q=>by
  obtain⟨o,e1⟩:=(F.hok b u q).there
  have e2:=cov.2 b u o q e1
  exact⟨o,e1,e2,st b o e2⟩
 have old:∀b o0,s.heap.get? b=some o0->b∉frs outer->∃o,s'.heap.get? b=some o/\B.get? b=some o/\h2.get? b=some o:=λb o0 q hb=>by
  obtain⟨o,e1⟩:=F.un.there b o0 q (by simp)
  have e2:=cov.1 b o ⟨o0,q⟩ hb e1
  exact⟨o,e1,e2,st b o e2⟩
 have fr:∀b∈frs outer,∃o sl,s'.heap.get? b=some o/\h2.get? b=some {o with slots:=sl}:=λb hb=>by
  obtain⟨_,o,e1,d⟩:=fl.2.2.1.mem hb
  obtain⟨sl,e2⟩:=sm b o e1 d
  exact⟨o,sl,e1,e2⟩
 refine⟨⟨λb o q n hb _=> ?_,λb o q n hb _=> ?_,λb o q n hx=>F.un.free b o q n hx,λb o q _=> ?_,F.un.tups,F.un.frzs,F.un.tbls⟩,λa u q=> ?_,λb o q hb e1=> ?_,λb u o q e1=> ?_⟩
 ·obtain⟨o1,e1,_,e3⟩:=old b o q hb
  have e4:=F.un.keep b o q n hb (by simp)
  rw[e1] at e4;cases e4
  exact e3
 ·obtain⟨o1,lR,e1,e2⟩:=fr b hb
  obtain⟨sl,e4⟩:=F.un.slot b o q n hb (by simp)
  rw[e1] at e4;cases e4
  exact⟨lR,e2⟩
 ·by_cases hb:b∈frs outer
  ·obtain⟨o1,lR,e1,e2⟩:=fr b hb
   exact⟨_,e2⟩
  ·obtain⟨o1,_,_,e3⟩:=old b o q hb
   exact⟨_,e3⟩
 ·refine (F.hok a u q).stay (λb ob hb eb=> ?_) (λ_ z=>z) λ_ _ z=>z
  have:∃u',H' b=some u':=by
   rcases hb with z|z
   ·exact⟨u,z ▸ q⟩
   ·exact⟨_,z⟩
  obtain⟨u',hu⟩:=this
  obtain⟨o1,e1,_,e3⟩:=nofs b u' hu
  rw[eb] at e1;cases e1
  exact e3
 ·obtain⟨o0,q⟩:=q
  obtain⟨o1,_,e2,e3⟩:=old b o0 q hb
  rw[e1] at e3;cases e3
  exact e2
 ·obtain⟨o1,_,e2,e3⟩:=nofs b u q
  rw[e1] at e3;cases e3
  exact e2
section
variable {P:Program} {w:World} {K:E9} {mg:Str->Option Value} {base:Heap} {N:List Str} {qual:Str} {scope:Scope} {f:Addr} {aO:Value} {A:Around} {outer:List Env} {s:Shared} {H:Hp} {E:XK}
theorem zM:zb7 (CXE P w) (zda (CXE P w) P w K mg base N qual scope f aO A outer s H E) E:=by
 rintro pins σ H1 s1 ev s' I ⟨e,cls,H',rfl,F,hE⟩
 obtain⟨B,t,fl,cov⟩:=F.fly
 have iz:∀b∈frs (envOfC qual scope s.heap.objs.size f aO::outer),b∈s.heap.objs.size::frs outer:=I.stkSub
 refine wpAny_mono (zgX (zcd _ _) (wpAny_leaves_onW (E:=λ_ _=>False) (Q:=λ_ s''=>∃h',s''={s' with heap:=h'}/\Heap.FlyingW B outer e cls (.ref t) h'/\s'.heap.UpToSlots h') (L:=s.heap.objs.size) I.ok.frames rfl fl λh' x1 x2=>⟨h',rfl,x1,x2⟩)) (λ_ s3 h3=> ?_) λ_ _ h3=>h3.1.elim
 obtain⟨⟨h',rfl,x1,x2⟩,kd⟩:=h3
 obtain⟨un,hok,cov'⟩:=F.moved fl cov x1.1 x2
 have hX:∀b:Addr,b∉(zda (CXE P w) P w K mg base N qual scope f aO A outer s H E).ex:=λb z=>absurd (show b∈([]:List Addr) from z) (by simp)
 have sQ:∀b o,s.heap.get? b=some o->b∉frs outer->b∉frs (envOfC qual scope s.heap.objs.size f aO::outer):=λb o q hb hz=>by
  rcases Er.mp (iz b hz) with z|z
  ·exact Ep (Heap.lt_size q) z
  ·exact hb z
 have sub:∀b∈frs outer,b∈frs (envOfC qual scope s.heap.objs.size f aO::outer):=λb hb=>by
  unfold frs at hb ⊢
  rw[GN]
  exact Ej _ hb
 refine⟨e,cls,H',rfl,⟨F.os.trans I.os,F.bare,⟨λb o q n hb _=> ?_,λb o q n hb _=> ?_,λb o q n _=> ?_,λb o q _=> ?_,λb xs q=>un.tups b xs (I.base.tups b xs q),λb o xs q=>un.frzs b o xs (I.base.frzs b o xs q),λb ps q=> ?_⟩,hok,
  ⟨B,t,x1,λb o q hb e1=> ?_,cov'.2⟩,?_,F.free,λo q=> ?_⟩,hE⟩
 ·exact un.keep b o (I.base.keep b o q n hb (hX b)) (I.base.free b o q n (hX b)) (sQ b o q hb) (by simp)
 ·obtain⟨sl,e1⟩:=I.base.slot b o q n hb (hX b)
  obtain⟨fV,e2⟩:=un.slot b _ e1 (I.base.free b o q n (hX b)) (sub b hb) (by simp)
  exact⟨fV,e2⟩
 ·obtain⟨o1,e1⟩:=I.base.there b o q (hX b)
  exact un.free b o1 e1 (I.base.free b o q n (hX b)) (by simp)
 ·obtain⟨o1,e1⟩:=I.base.there b o q (hX b)
  exact un.there b o1 e1 (by simp)
 ·obtain⟨m1,e1⟩:=I.base.tbls b ps q
  obtain⟨m2,e2⟩:=un.tbls b _ e1
  exact⟨m1++m2,by rw[e2,Hy]⟩
 ·obtain⟨o0,q⟩:=q
  obtain⟨o1,q1⟩:=I.base.there b o0 q (hX b)
  exact cov'.1 b o ⟨o1,q1⟩ (sQ b o0 q hb) e1
 ·cases q:s.heap.get? e with
  |none=>rfl
  |some o=>
   obtain⟨o',q'⟩:=I.base.there e o q (hX e)
   have:=F.new
   rw[q'] at this;cases this
 ·obtain⟨ob,tX,_⟩:=fl.there
  exact (kd.at tX q).1.trans (F.nd ob tX)
end
structure zmx (K:E9) (mg:Str->Option Value) (x:Str) (C:Addr) (Dj:List Value) (newId:String):Prop where
 mg:mg x=some (.ref C)
 DB:PySem.W.excIn K C Dj newId=true
theorem zdr {P:Program} {w:World} {X:Cx}:zb7 (CXE P w) X E0:=λ_ _ _ _ _ _ _ ⟨_,_,_,_,_,h⟩=>h.elim
abbrev TEx:=St->Hp->VK->(Value->Hp->Prop)->Prop
abbrev TAx:=St->Hp->(List V->Hp->Prop)->(Value->Hp->Prop)->Prop
abbrev TSx:=VO->(Value->Hp->Prop)->St->Hp->Prop
section
variable {X:Cx} {e:Expr} {es:List Expr} {te:TE}
end
noncomputable def zkL (e:Addr) (cls:Value):HO:= .ext λh=>∃ob,h.get? e=some ob/\ob.cls=cls/\ob.dict=none/\∃vs,ob.data= .fields vs
noncomputable abbrev Cx.hand (X:Cx) (e:Addr):Cx:={X with A:=X.A.mark (some (.ref e)),calm:=false,xe:=λ_ _=>False}
section
variable {X:Cx} {pins:List (Addr×Obj)} {σ:St} {H:Hp} {s:Shared}
end
open PySem.Builtin.Int (intBits)
def zj8 (i j:Int):Prop:=∃m n:Nat,intBits i<=m/\intBits j<=n/\m+n<=134217728
def zgY (i j:Int):Prop:=j≠0/\intBits j<=9000
section
variable {X:Cx}
theorem vc:OpR X (binaryOp .Mult) (rI zj8 λi j=> .int (i*j)):=opI λ_ _ _ _ _ _ _ hc q=>by
 obtain⟨m,n,h1,h2,h3⟩:=hc
 exact mul_int q (IntMulOk.of_le h1 h2 h3)
theorem Vl:OpR X (binaryOp .FloorDiv) (rI zgY λi j=> .int (i.fdiv j)):=opI λi j _ _ _ _ _ hc q=>floordiv_int hc.1 q (.inl (PyProof.noPylong_of_log2 (by
 have h:=GB.mp hc.2
 by_cases z:j.natAbs=0
 ·rw[z];decide
 ·exact (Nat.log2_lt z).mpr h)))
end
section
variable {prog:Program} {w:World} {A:Around} {E:Value->Shared->Prop} {s:Shared} {K:E9} {x D:Addr} {ox:Obj}
theorem zce {M:Model} {nameV:Value} {Q:Unit->Shared->Prop} (X:K.In s.heap) (I:Hv s.heap x ox D none) (be:GH K D (.type "BaseException")=some true) (hq:Q () s):
  wpAny M A (checkBuiltinCall "BaseException.__getattribute__" ⟨[.ref x,nameV],[]⟩) Q E s:=by
 obtain⟨hh,g,d,t,os⟩:=s
 have hk:builtinKind "BaseException.__getattribute__"=some .slot:=by decide+kernel
 have hsplit:splitId "BaseException.__getattribute__"=some ("BaseException","__getattribute__"):=by decide+kernel
 have L0:=I.type (M:=M)
 have L1:=PySem.W.looks_mroIn (M:=M) X be
 have ha:=F.args_bexc_ga (.ref x) nameV
 simp only[checkBuiltinCall,hk,hsplit]
 refine wpAny_bind ?_
 unfold isInstance
 refine wpAny_bind (L0.at (L1.at ?_))
 repeat (first|wp_step)
 exact hq
theorem zf3 {Q:Option Value->Shared->Prop} (X:K.In s.heap) (I:Hv s.heap x ox D none) (ga:FT K (.ref D) "__getattribute__"=some (some (.builtin "BaseException.__getattribute__"))) (noga:FT K (.ref D) "__getattr__"=some none)
  (be:GH K D (.type "BaseException")=some true) (hf:Il K D none "__class__"=some (.bind (.builtin "getset_descriptor.__get__") (.builtin "object.__class__"))) (hm:GH K D (.type "object")=some true)
  (h:Q (some (.ref D)) {s with toks:=s.toks+1}):wpAny (model prog w) A (getAttr? (.ref x) "__class__") Q E s:=by
 obtain⟨hh,g,d,t,os⟩:=s
 have L0:=I.type (M:=model prog w)
 have L1:=IJ (M:=model prog w) X ga
 have L2:=IJ (M:=model prog w) X noga
 have L3:=PySem.W.looks_find (M:=model prog w) X I hf
 have hb:=F.attrBase_ValueError.ga.bind (.ref x)
 unfold getAttr? getAttrBy? getAttrBy
 refine wpAny_bind (wpAny_mkText (wpAny_bind (wpAny_attempt (wpAny_holding (wpAny_bind (L0.at (wpAny_bind (L1.at ?_))))))))
 dsimp only
 rw[if_neg (show ¬(onTheHeap (Value.ref D)&&(Value.builtin "BaseException.__getattribute__"==Value.builtin "object.__getattribute__"))=true by rw[show (Value.builtin "BaseException.__getattribute__"==Value.builtin "object.__getattribute__")=false by decide+kernel];simp)]
 unfold getAttrByItsOwn hookBefore
 refine wpAny_bind ?_
 show wpAny _ _ (typeLookup (.ref D) "__getattr__") _ _ _
 refine L2.at ?_
 refine wpAny_bind (wpAny_attempt (wpAny_holding ?_))
 unfold callGetattribute boundAndCalled
 rw[if_neg ∅,hb]
 refine wpAny_bind (wpAny_pure ?_)
 dsimp only
 refine wpAny_call (codeAny_call_builtin F.attrBase_ValueError.ga.plain F.entry_bexc_ga (zce (ox:=ox) X I be ?_))
 unfold Builtin.«object.__getattribute__»
 refine wpAny_bind (wpAny_of_eq (show slotArgs "__getattribute__" 1 {pos:=[Value.ref x]++[Value.str (Str.ofString "__class__") t]}=pure (.ref x,[Value.str (Str.ofString "__class__") t]) from rfl) ?_)
 dsimp only
 refine wpAny_bind (wpAny_of_eq (show Builtin.ObjectAttr.attrName (Value.str (Str.ofString "__class__") t)=pure (Str.ofString "__class__") from rfl) ?_)
 refine wpAny_bind (L0.at (wpAny_bind (L3.at ?_)))
 dsimp only
 show wpAny _ _ (do ret (<-holding [Value.builtin "object.__class__"] (call (.builtin "getset_descriptor.__get__") [.builtin "object.__class__",.ref x,.ref D]))) _ _ _
 refine wpAny_bind (wpAny_holding (wpAny_call (PySem.W.class_get (ox:=ox) (od:=none) X I hm ?_)))
 exact wpAny_pure (PySem.W.handed_on rfl (wpAny_pure h))
end
section
variable {X:Cx}
structure zj9 (K:E9) (D:Addr):Prop where
 ga:FT K (.ref D) "__getattribute__"=some (some (.builtin "BaseException.__getattribute__"))
 noga:FT K (.ref D) "__getattr__"=some none
 be:GH K D (.type "BaseException")=some true
 hc:(IQ K D).isSome=true
 ha:FT K (.ref D) "__class__"=some (some (.builtin "object.__class__"))
 hn:HJ K (.builtin "object.__class__") "__get__"=some (some (.builtin "getset_descriptor.__get__"))
 htk:Jr K (.builtin "object.__class__")=some true
 hm:GH K D (.type "object")=some true
theorem zgZ {K:E9} {x D:Addr} (e:zj9 K D):JI K (.ref x) (.ref D) (λh=>∃ox,Hv h x ox D none) where
 ty:=λ_ _ _ ⟨_,I⟩=>I.type
 it:=λ_ _ X _=>by
  obtain⟨cd,er⟩:=FO.mp e.hc
  unfold IQ at er
  split at er
  ·rename_i ho
   intro A' Q' E' s' k q
   unfold isType loadHead
   exact wpAny_bind (wpAny_loadPart (k _ _ (X _ _ ho)) (wpAny_pure q))
  ·cases er
 ne:=λh tp dd ae n sl X Ba=>by
  obtain⟨cd,er⟩:=FO.mp e.hc
  refine Bool.eq_false_iff.mpr λq=> ?_
  have z:D=tp:=Value.ref.inj (beq_iff_eq.mp q)
  subst z
  unfold IQ at er
  split at er
  ·rename_i ho
   have y:=(X _ _ ho).symm.trans Ba
   cases y
  ·cases er
 ca:=λ{_ _ _ _ _ s} X I k=>by
  obtain⟨ox,I⟩:=I
  obtain⟨cd,er⟩:=FO.mp e.hc
  have hf:Il K D none "__class__"=some (.bind (.builtin "getset_descriptor.__get__") (.builtin "object.__class__")):=by
   unfold Il
   rw[er,Ee,e.ha,Ee]
   simp[e.hn,e.htk]
  exact zf3 X I e.ga e.noga e.be hf e.hm k
inductive TyX (K:E9) (H:Hp):V->Value->Prop where
 |of {x:V} {t:Value} (h:UO K H x t):TyX K H x t
 |exc {e D:Addr} (h:H e=some (zkL e (.ref D))) (k:zj9 K D):TyX K H (.ref e) (.ref D)
 |sqt {a:Addr} {xs:List V} (h:SqT K H a xs):TyX K H (.ref a) (.type "tuple")
 |sql {a:Addr} {xs:List V} (h:SqL K H a xs):TyX K H (.ref a) (.type "list")
theorem TyX.kit {pins:List (Addr×Obj)} {σ:St} {H:Hp} {s:Shared} {x:V} {u t:Value} (I:Inv X pins σ H s) (rx:zK x u) (ty:TyX X.K H x t):∃Hh,JI X.K u t Hh/\Hh s.heap:=by
 cases ty with
 |of ty=>
  cases ty with
  |non=>cases (show u=Value.none from rx);exact⟨_,PySem.W.kitx_none,FU⟩
  |bl y=>cases (show u=Value.bool y from rx);exact⟨_,PySem.W.kitx_bool,FU⟩
  |int i=>obtain⟨t,q⟩:=(show ∃t,u=Value.int i t from rx);cases q;exact⟨_,PySem.W.kitx_int,FU⟩
  |str y=>obtain⟨t,q⟩:=(show ∃t,u=Value.str y t from rx);cases q;exact⟨_,PySem.W.kitx_str,FU⟩
  |flt y=>obtain⟨t,q⟩:=(show ∃t,u=Value.float y t from rx);cases q;exact⟨_,PySem.W.kitx_float,FU⟩
  | @lst a xs ea=>
   cases (show u=Value.ref a from rx)
   obtain⟨_,_,n,_,h1⟩:=(show ym X.prog X.w H s.heap a (.lst xs) from I.hok a _ ea)
   exact⟨_,HK,⟨_,h1,rfl⟩⟩
  | @frz a ob xs ea=>
   cases (show u=Value.ref a from rx)
   obtain⟨_,_,_,n,_,h1⟩:=(show ym X.prog X.w H s.heap a (.frz ob (.lst xs)) from I.hok a _ ea)
   exact⟨_,HK,⟨_,h1,rfl⟩⟩
  | @tup a xs ea=>
   cases (show u=Value.ref a from rx)
   obtain⟨_,_,_,p⟩:=(show ym X.prog X.w H s.heap a (.tup xs) from I.hok a _ ea)
   obtain⟨o,h1,h2,_⟩:=p
   exact⟨_,IW,⟨o,h1,h2⟩⟩
  | @dK a kvs ea=>
   cases (show u=Value.ref a from rx)
   obtain⟨_,_,vs,_,p⟩:=(show ym X.prog X.w H s.heap a (.dK kvs) from I.hok a _ ea)
   obtain⟨o,es,ep,h1,h2,_⟩:=p
   exact⟨_,J4,⟨o,h1,h2.1⟩⟩
  | @dT a kvs ea=>
   cases (show u=Value.ref a from rx)
   obtain⟨_,_,xs,_,o,es,ep,h1,h2,_⟩:=(show ym X.prog X.w H s.heap a (.dT kvs) from I.hok a _ ea)
   exact⟨_,J4,⟨o,h1,h2.1⟩⟩
  | @ins a C dx fs ea cl ha hn htk hm=>
   cases (show u=Value.ref a from rx)
   obtain⟨mA,O,_⟩:=ziS I.hok ea
   obtain⟨od,J,_⟩:=O.look
   exact⟨_,PySem.W.kitx_own (cl.get _) cl.hd ha hn htk hm,J⟩
 | @sqt a xs h=>
  cases (show u=Value.ref a from rx)
  obtain⟨ae,_,⟨o,h1,h2,_⟩,_⟩:=I.tuple h
  exact⟨_,IW,⟨o,h1,h2⟩⟩
 | @sql a xs h=>
  cases (show u=Value.ref a from rx)
  obtain⟨ae,_,⟨o,n,h1,h2,_⟩,_⟩:=I.list h
  exact⟨_,HK,⟨o,h1,h2⟩⟩
 | @exc e D h k=>
  cases (show u=Value.ref e from rx)
  obtain⟨⟨ob,h1,h2,h3,vs,h4⟩,_⟩:=(show ym X.prog X.w H s.heap e (zkL e (.ref D)) from I.hok e _ h)
  refine⟨_,zgZ k,ob,h1,h2,?_,?_⟩
  ·unfold PySem.W.notCls
   rw[h4]
  ·rw[h3];trivial
noncomputable def zl5:V->Option Value
 | .ref a=>some (.ref a)
 | .ty n=>some (.type n)
 |_=>none
theorem zg0 {c:V} {cv u:Value} (h:zl5 c=some cv) (r:zK c u):u=cv:=by
 cases c with
 |ref a=>cases h;exact r
 |ty n=>cases h;exact r
 |_=>cases h
theorem zK.nb {x:V} {u:Value} (r:zK x u):u≠ .builtin "__main__.__loader__#opaque":=by
 cases x with
 |non=>rintro rfl;cases r
 |bl b=>rintro rfl;cases r
 |int i=>rintro rfl;obtain⟨_,q⟩:=r;cases q
 |str i=>rintro rfl;obtain⟨_,q⟩:=r;cases q
 |byt i=>rintro rfl;obtain⟨_,q⟩:=r;cases q
 |flt i=>rintro rfl;obtain⟨_,q⟩:=r;cases q
 |ref a=>rintro rfl;cases r
 |ty a=>rintro rfl;cases r
def zi0 (K:E9):List V->Hp->VK->Prop:=λxs H Q=>∃x c cv t b,xs=[x,c]/\zl5 c=some cv/\TyX K H x t/\Ff K t cv=some b/\Q (.bl b) H
theorem zg1:vy X (.builtin "isinstance") (zi0 X.K):=by
 intro pins s σ H xs us Q I r h
 obtain⟨x,c,cv,t,b,rfl,hc,ty,e,q⟩:=h
 obtain⟨u,w',rfl,ru,rw'⟩:=zlZ r
 obtain rfl:=zg0 hc rw'
 obtain⟨Hh,Z,p⟩:=ty.kit I ru
 exact PySem.W.kia_one Z I.kIn p e ru.nb λtk=>⟨.bl b,H,I.tok tk,rfl,q⟩
end
theorem TR {K:E9} {t:Value}:Ff K t t=some true:=by unfold Ff;rw[if_pos (by simp)]
theorem zcf {K:E9}:Ff K (.type "bool") (.type "int")=some true:=by
 have h:(fastBuiltinMro "bool").map (·.contains (.type "int"))=some true:=by decide+kernel
 have hm:Gk "int"=true:=by decide+kernel
 unfold Ff IE
 rw[if_neg ∅]
 show (if Gk "int"=true then HF K (.type "bool") (.type "int") else none)=_
 rw[if_pos hm]
 exact h
theorem zcg {K:E9}:Ff K (.type "int") (.type "bool")=some false:=by
 have h:(fastBuiltinMro "int").map (·.contains (.type "bool"))=some false:=by decide+kernel
 have hm:Gk "bool"=true:=by decide+kernel
 unfold Ff IE
 rw[if_neg ∅]
 show (if Gk "bool"=true then HF K (.type "int") (.type "bool") else none)=_
 rw[if_pos hm]
 exact h
end L2
namespace L2
open PySem PySem.Spec PyProof.Rows
inductive D where
 |non|bl (b:Bool)|int (i:Int)|str (x:Str)|tup (l:List D)|lst (l:List D)|ins (C:Addr) (ns:List Str) (l:List D)
mutual
inductive Is (K:E9) (H:Hp):V->D->Prop where
 |non:Is K H .non .non
 |bl (b:Bool):Is K H (.bl b) (.bl b)
 |int (i:Int):Is K H (.int i) (.int i)
 |str (x:Str):Is K H (.str x) (.str x)
 |tup {a:Addr} {xs:List V} {ds:List D}:SqT K H a xs->IsL K H xs ds->Is K H (.ref a) (.tup ds)
 |lst {a:Addr} {xs:List V} {ds:List D}:SqL K H a xs->IsL K H xs ds->Is K H (.ref a) (.lst ds)
 |ins {a C dx:Addr} {ns:List Str} {xs:List V} {ds:List D}:H a=some (.ins C dx (ns.zip xs))->ns.length=xs.length->IsL K H xs ds->Is K H (.ref a) (.ins C ns ds)
inductive IsL (K:E9) (H:Hp):List V->List D->Prop where
 |nil:IsL K H [] []
 |cons {v:V} {d:D} {vs:List V} {ds:List D}:Is K H v d->IsL K H vs ds->IsL K H (v::vs) (d::ds)
end
theorem vA {H:Hp} {p:Addr} {o:HO} (h:H p=none):WL H (upd H p o):=λb u e=>by rw[yb (xK e h)];exact e
theorem IsL.len {K:E9} {H:Hp}:∀{vs:List V} {ds:List D},IsL K H vs ds->vs.length=ds.length
 |_,_,.nil=>rfl
 |_,_,.cons _ l=>by rw[EB,EB,l.len]
theorem IsL.get {K:E9} {H:Hp}:∀{vs:List V} {ds:List D} {i:Nat} {d:D},IsL K H vs ds->ds[i]? =some d->∃v,vs[i]? =some v/\Is K H v d
 |_,_,_,_,.nil,e=>by simp at e
 |_,_,0,_,.cons h _,e=>by simp at e;subst e;exact⟨_,rfl,h⟩
 |_,_,i+1,d,.cons _ l,e=>by
  obtain⟨v,e1,e2⟩:=l.get (i:=i) (d:=d) (by simpa using e)
  exact⟨v,by simpa using e1,e2⟩
theorem Is.int_inv {K:E9} {H:Hp} {v:V} {i:Int} (h:Is K H v (.int i)):v= .int i:=by cases h;rfl
theorem Is.bl_inv {K:E9} {H:Hp} {v:V} {b:Bool} (h:Is K H v (.bl b)):v= .bl b:=by cases h;rfl
theorem Is.str_inv {K:E9} {H:Hp} {v:V} {b:Str} (h:Is K H v (.str b)):v= .str b:=by cases h;rfl
theorem Is.non_inv {K:E9} {H:Hp} {v:V} (h:Is K H v .non):v= .non:=by cases h;rfl
theorem Is.tup_inv {K:E9} {H:Hp} {v:V} {ds:List D} (h:Is K H v (.tup ds)):∃a xs,v= .ref a/\SqT K H a xs/\IsL K H xs ds:=by cases h with|tup a b=>exact⟨_,_,rfl,a,b⟩
theorem Is.lst_inv {K:E9} {H:Hp} {v:V} {ds:List D} (h:Is K H v (.lst ds)):∃a xs,v= .ref a/\SqL K H a xs/\IsL K H xs ds:=by cases h with|lst a b=>exact⟨_,_,rfl,a,b⟩
noncomputable abbrev dQ (a b:Int):D:= .tup [.int a,.int b]
section
variable {σ:St} {H:Hp} {Q:VK} {ta tb tc:TE} {D':VO} {v:V} {i:Nat}
end
local macro_rules | `(tactic| walk_at "rd") => `(tactic| repeat (first | refine t7 ?_ | refine tG ?_ | refine lX ?_ | refine t4 rfl ?_ | refine DC ?_ | refine AU ?_ | refine AW ?_ | refine DE ?_ | refine AO ?_ | refine tF ?_ | refine DG ?_ | refine DF ?_ | refine AV ?_ | refine tj ?_ | refine tH ?_ | refine AQ ?_ | refine pw ?_ | refine tf ?_ | refine pf ?_ | refine tE ?_ | refine ph ?_ | refine pj ?_ | refine t8 ?_ | refine pd ?_ | refine tD ?_ | refine tm ?_ | refine pk ?_ | refine pq ?_ | refine AX ?_ | refine t5 ?_ | refine tu ?_ | refine t9 ?_ | refine pe ?_ | refine lW ?_))
end L2
namespace L2
open PySem PySem.Spec PyProof.Rows
section
variable {σ:St} {H:Hp} {Q:VK} {D':VO} {E:XK}
end
theorem Fun.okE {P:Program} {w:World} {K:E9} {mg:Str->Option Value} {base:Heap} {x qual:Str} {st:Stmt} {f:Addr} {fd:FuncData} {N ps:List Str} {k:Nat} {sp:Sp} (F:Fun K x qual st f fd) (S:zY N ps (zp st)) (len:∀vs H Q E,sp vs H Q E->vs.length=ps.length)
  (gk:∀(aO:Value) (A:Around) (outer:List Env) (s:Shared) (H:Hp) (vs:List V) (Q:VK) (E:XK),vk k (A.deeper (envOfC qual (zp st) s.heap.objs.size f aO))->sp vs H Q E->
   ∃t,PSs (zda (CXE P w) P w K mg base N qual (zp st) f aO A outer s H E) (zS st) t/\t {nx:=λ_ H'=>Q .non H',rt:=Q} (XE N vs) H):xE P w K mg base (CXE P w) (k+1) f fd ps sp:=by
 obtain⟨oc,od,kV,doc,pm,an,aO,ct,i7,rfl,lk,er⟩:=F.ex
 exact zl2 lk er S len λA outer s H vs Q E hr ik=>gk aO A outer s H vs Q E hr ik
section
variable {σ:St} {H:Hp} {Q:VK} {D':VO} {E:XK} {EX:Value->Hp->Prop}
end
section
variable {X:Cx} {K:E9}
theorem vB (h:X.K=K:=by rfl):IxR X (zkF K):=h ▸ zkG
theorem zJ (h:X.K=K:=by rfl):IxR X (zkE K):=h ▸ ziV
theorem Wl (h:X.K=K:=by rfl):vy X (.builtin "isinstance") (zi0 K):=h ▸ zg1
theorem wK (h:X.K=K:=by rfl):vy X (.builtin "len") (λxs H Q=>∃p ys,xs=[.ref p]/\(SqL K H p ys\/SqT K H p ys)/\Q (.int ys.length) H):=h ▸ zb9
theorem WM (h:X.K=K:=by rfl):vy X (.type "list") (λxs H Q=>∃p ys,xs=[.ref p]/\(SqL K H p ys\/SqT K H p ys)/\∀l,H l=none->Q (.ref l) (upd H l (.lst ys))):=h ▸ zca
theorem Uz (h:X.K=K:=by rfl):vy X (.type "tuple") (λxs H Q=>∃p ys,xs=[.ref p]/\((SqL K H p ys/\∀l,H l=none->Q (.ref l) (upd H l (.tup ys)))\/(SqT K H p ys/\Q (.ref p) H))):=h ▸ za7
theorem zg2 (h:X.K=K:=by rfl):SlR X (zgP K):=h ▸ ziW
variable {tg l:Expr} {tl:TE}
theorem yr (hl:PE X l tl) (h:X.K=K:=by rfl):PI X tg l (zgM K tl):=h ▸ ziQ hl
theorem ve {es:List Expr} {k:Nat} {t:TGs} {n:Nat} {pos:Pos} (hc:X.calm=true) (h:PGs X es t) (hK:X.K=K:=by rfl)
  (hn:(assignEach es X.env).length=n:=by rfl) (eX:(assignEach es X.env).findIdx? (·.1)=none:=by rfl):PG X (.Tuple es k pos) (ziP K n t):=hK ▸ zky hc h hn eX
theorem xa {sc:Scope}:vz X sc [] []:=trivial
theorem yE {sc:Scope} {r:List (Option Nat)} {n:List Str} {x:Str} (h:vz X sc r n):vz X sc (none::r) (x::n):=h
theorem vC {sc:Scope} {r:List (Option Nat)} {n:List Str} {x:Str} {i:Nat} (h1:X.N[i]? =some x) (h2:sc.names.lookup x=some .free) (h:vz X sc r n):vz X sc (some i::r) (x::n):=⟨⟨h1,h2⟩,h⟩
end
noncomputable def zka (osc sc:Scope):Bool:=sc.names.all (λy=>y.2 != .cell)&&sc.kind== .function&&sc.names.all (λy=>y.2 != .local||sc.names.lookup y.1==some .local)&&
 sc.names.all (λy=>y.2 != .free||(osc.names.lookup y.1==some .cell||osc.names.lookup y.1==some .free))
theorem blk {X:Cx} {osc sc:Scope} (hs:X.env.scope=osc) (h:zka osc sc=true):Wj X sc:=by
 unfold zka at h
 simp only[FG,Fx,bne_iff_ne,ne_eq,beq_iff_eq,Bool.or_eq_true] at h
 obtain⟨⟨⟨h1,h2⟩,h3⟩,h4⟩:=h
 refine⟨h1,h2,λy hy e=>(h3 y hy).resolve_left λz=>z e,λy hy e=> ?_⟩
 show X.env.scope.names.lookup y.1=_\/X.env.scope.names.lookup y.1=_
 rw[hs]
 exact (h4 y hy).resolve_left λz=>z e
section
variable {g:TG} {tb:TS} {σ:St} {H:Hp} {nx:St->Hp->Prop} {rt:VK}
end
mutual
noncomputable def D.depth:D->Nat
 | .tup l=>D.depths l+1
 | .lst l=>D.depths l+1
 | .ins _ _ _=>1000
 |_=>0
noncomputable def D.depths:List D->Nat
 |[]=>0
 |d::r=>max (D.depth d) (D.depths r)
end
section
variable {X:Cx} {pins:List (Addr×Obj)} {σ:St} {H:Hp} {s:Shared}
end
section
variable {σ:St} {H:Hp} {Q:VK} {D':VO} {cap:List (Option Nat)} {wi:TI} {g:TG} {tt:TT} {te:TE}
variable {acc:Addr} {H0:Hp} {Qh:Hp->Prop}
end
section
variable {X:Cx}
end
section
variable {X:Cx} {pins:List (Addr×Obj)} {σ:List (Option V)} {H H':Hp} {s:Shared} {h':Heap}
theorem Inv.turnedL {t':Nat} {fp:List Addr} (I:Inv X pins σ H s) (k:∀b o,b∉fp->s.heap.get? b=some o->h'.get? b=some o) (hf:∀b∈fp,za5 X pins H b):Inv X pins σ H {s with heap:=h',toks:=t'}:=by
 have jV:∀b u,H b=some u->b∉fp:=λb u e z=>by rw[(hf b z).1] at e;cases e
 refine I.step (g':=s.gens) (d':=s.drawn) (ch:=fp) (λb hb=> ?_) (λb o _ _ hc e _=>k b o hc e) (λb o _ _ hc e _=>⟨o.slots,k b o hc e⟩) (λ_ _ _ _ n=>n)
  (λb o hc e=>⟨o,k b o hc e⟩) (λ_ _ e=>e) (λ_ _ _ e=>e) (λb ps e=>⟨#[],by rw[e];simp⟩) (λm hm=> ?_) (λb u e=> ?_) I.bare
 ·obtain⟨f0,f1,f2,f3,f4,f5⟩:=hf b hb
  exact⟨f3,f1,f4,f5⟩
 ·obtain⟨o,es,ep,ho,r⟩:=hm
  exact⟨o,es,ep,k _ o (λz=>(hf _ z).2.1 rfl) ho,r⟩
 ·refine (I.hok b u e).stay (λc v hc q=>k c v ?_ q) (λ_ q=>q) λ_ _ q=>q
  rcases hc with z|z
  ·rw[z];exact jV b u e
  ·exact jV c _ z
theorem Inv.turnedT {t':Nat} {fp:List Addr} {ys:List V} {us:List Value} (I:Inv X pins σ H s) (hv:zT ys us) (hl:ys.length<=sizeLine) (k:∀b o,b∉fp->s.heap.get? b=some o->h'.get? b=some o)
  (hp:h'.get? s.heap.objs.size=some {cls:= .type "tuple",data:= .seq us.toArray}) (hf:∀b∈fp,za5 X pins H b) (hx:∀b∈fp,∃o,s.heap.get? b=some o):
  Inv X pins σ (upd H s.heap.objs.size (.tup ys)) {s with heap:=h',toks:=t'}/\H s.heap.objs.size=none/\∀b∈fp,upd H s.heap.objs.size (.tup ys) b=none:=by
 have fr:H s.heap.objs.size=none:=I.hok.fresh (Ek _)
 have nb:∀b∈fp,b≠s.heap.objs.size:=λb hb z=>by
  obtain⟨o,e⟩:=hx b hb
  exact absurd (Heap.lt_size e) (by rw[z];exact Fv _)
 have fb:∀b∈fp,upd H s.heap.objs.size (.tup ys) b=none:=λb hb=>by rw[yb (nb b hb)];exact (hf b hb).1
 have I0:Inv X pins σ (upd H s.heap.objs.size (.tup ys)) {s with heap:=s.heap.push {cls:= .type "tuple",data:= .seq us.toArray}}:=
  I.laid (t':=s.toks) (λb o e=>Heap.get?_push_of_some _ e) (Ek _) ⟨hl,us,hv,IsTup.new _ _⟩
 refine⟨Inv.turnedL (s:={s with heap:=s.heap.push {cls:= .type "tuple",data:= .seq us.toArray}}) (t':=t') (fp:=fp) I0 (λb o hb e=> ?_) (λb hb=> ?_),fr,fb⟩
 ·by_cases z:b=s.heap.objs.size
  ·subst z
   rw[Heap.get?_push_size _ rfl] at e
   cases e
   exact hp
  ·refine k b o hb ?_
   rwa [Heap.get?_push_ne _ _ _ z] at e
 ·obtain⟨f0,f1,f2,f3,f4,f5⟩:=hf b hb
  exact⟨fb b hb,f1,f2,f3,f4,f5⟩
end
noncomputable def Ite (K:E9) (a:Addr):It:=
 ⟨λi H=>∃xs x,SqL K H a xs/\xs[i]? =some x,λi H x H'=>∃p y,x= .ref p/\H p=none/\H'=upd H p (.tup [.int i,y])/\∀xs,SqL K H a xs->xs[i]? =some y,λi H=>∃xs,SqL K H a xs/\xs.length<=i⟩
theorem zf4 {P:Program} {w:World} {K:E9} {elts:List Expr} {k:Nat} {tp:Pos} (a e it:Addr) (cq:e≠it):
  zgL P w K (.Tuple elts k tp) (Ite K a) [e,it] e (λi h=>(∃old,IsEnum h e it i old)/\h.IsListIter it a i) where
 mem:=by simp
 obj:=λi h st b hb=>by
  obtain⟨⟨old,he⟩,o,e',c,d⟩:=st
  rcases (by simpa using hb:b=e\/b=it) with rfl|rfl
  ·exact⟨_,he,λv z=>by cases z⟩
  ·exact⟨o,e',λv z=>by rw[d] at z;cases z⟩
 keep:=λi h h' st k=>⟨let ⟨old,he⟩:=st.1;⟨old,k e (by simp) _ he⟩,st.2.at λo e=>k it (by simp) o e⟩
 item:=by
  intro X hP hw hK hc i pins s σ H E I hf st hg
  subst hP hw hK
  obtain⟨xs,x,hq,hx⟩:=hg
  obtain⟨ae,rv,p,hz⟩:=I.list hq
  obtain⟨u,hu,ru⟩:=rv.get hx
  obtain⟨⟨old,he⟩,hit⟩:=st
  refine wpAny_pyNext_enum_item he hit p.isList (x:=u) (by simpa using hu) cq λh1 iB gY gD DH BI=> ?_
  refine⟨_,rfl,?_⟩
  refine wpAny_letOwnedTupleGo_enum (s:={s with heap:=h1,toks:=s.toks+1}) iB λh2 ji g7=> ?_
  have g7:Heap.SameBut e h1 h2:=g7
  have Ao:e<s.heap.objs.size:=Heap.lt_size he
  have vv:zT [V.int i,x] [.int i s.toks,u]:= .cons ⟨_,rfl⟩ (.cons ru .nil)
  have T:=Inv.turnedT (h':=h2) (t':=s.toks+1) (fp:=[e,it]) I vv (by show 2<=sizeLine;decide) (λb o hb eb=> ?_) ((g7.2 _ (GR Ao)).trans gD) hf (λb hb=> ?_)
  ·obtain⟨I2,fr,fb⟩:=T
   exact⟨.ref s.heap.objs.size,_,I2,rfl,⟨_,x,rfl,fr,rfl,λys hy=>by rw[I.list_inj hy hq];exact hx⟩,⟨⟨_,ji⟩,gY.at λo eo=>(g7.2 it cq.symm).trans eo⟩,fb⟩
  ·have hb:b≠e/\b≠it:=by simpa using hb
   exact (g7.2 b hb.1).trans (BI b o hb.1 hb.2 eb)
  ·obtain⟨o,eo,_⟩:=hit
   rcases (by simpa using hb:b=e\/b=it) with rfl|rfl
   ·exact⟨_,he⟩
   ·exact⟨o,eo⟩
 done:=by
  intro X hP hw hK hc i pins s σ H E I hf st hg
  subst hP hw hK
  obtain⟨xs,hq,hx⟩:=hg
  obtain⟨ae,rv,p,hz⟩:=I.list hq
  have hl:=rv.length
  obtain⟨⟨old,he⟩,hit⟩:=st
  exact wpAny_pyNext_enum_end (I.ok.hd hc) he hit p.isList (by simp;omega) λh' eb=>⟨rfl,Inv.turnedL (t':=s.toks) (fp:=[e,it]) I (λb o hb eo=>eb b o (λz=>hb (by simp[z])) eo) hf⟩
 self:=λ_ _ _ _ _ st h=>let ⟨⟨_,he⟩,_⟩:=st;wpAny_pyIter_enum he h
section
variable {X:Cx}
def zkb (K:E9) (ta:TA):TI:=λσ H R=>ta σ H λvs H1=>∃a,vs=[.ref a]/\(∃xs,SqL K H1 a xs)/\R (Ite K a) H1
theorem UY {K:E9} {elts:List Expr} {k:Nat} {tp:Pos} {l:Expr} {ta:TA} {p pos:Pos} (hg:Gl X "enumerate") (hm:X.mg "enumerate"=none) (ha:PA X [l] ta) (hK:X.K=K:=by rfl) (hs:starEach [l] X.env=[(false,eval l X.env)]:=by rfl):
  PI X (.Tuple elts k tp) (.Call (.Name "enumerate" p) [l] [] pos) (zkb K ta):=by
 subst hK
 intro pins s σ H R I h
 refine Call_ (ZT I hg hm Boot.«enumerate» (Ft (thn (ha pos pins s σ H _ I h) ?_) hs rfl))
 rintro us s1 ⟨vs,H1,I1,r1,q1⟩
 obtain⟨a,e,⟨xs,hq⟩,q⟩:=q1
 subst e
 obtain⟨u,rfl,ru⟩:=ZU r1
 cases ru
 obtain⟨ae,rv,p,hz⟩:=I1.list hq
 refine call_enumerate_list p.isList λh' he hit hsz hk=> ?_
 have I2:Inv X pins σ H1 {s1 with heap:=h'}:=I1.kept (t':=s1.toks) hk
 refine wpAny_pyIter_enum (s:={s1 with heap:=h'}) he ?_
 refine⟨s1.heap.objs.size+1,[s1.heap.objs.size+1,s1.heap.objs.size],_,_,H1,rfl,I2,zf4 a (s1.heap.objs.size+1) s1.heap.objs.size (Jh _),⟨⟨_,he⟩,hit⟩,λb hb=> ?_,q⟩
 have hb:s1.heap.objs.size<=b:=by
  rcases (by simpa using hb:b=s1.heap.objs.size+1\/b=s1.heap.objs.size) with rfl|rfl
  ·exact Gr _
  ·exact Ek _
 exact Inv.fpOk I1 hb (I1.hok.fresh hb)|>λ⟨f0,f1,f2,f3,f4,f5⟩=>⟨f0,f1,f2,f3,f4,f5⟩
end
structure ZA (z TI TO i1 i2:Addr):Prop where
 TIz:TI≠z
 TOz:TO≠z
 i1z:i1≠z
 i2z:i2≠z
 TITO:TI≠TO
 TIi1:TI≠i1
 TIi2:TI≠i2
 TOi1:TO≠i1
 TOi2:TO≠i2
 i12:i1≠i2
section
variable {X:Cx}
end
section
variable {σ:St} {H:Hp} {cap:List (Option Nat)} {g:TG} {tt:TT} {te:TE} {acc:Addr} {H0:Hp} {Qh:Hp->Prop}
structure zmE (J:It) (n:Nat) (f:Nat->Option (V×V)) (ok:Hp->Prop):Prop where
 go:∀i H,ok H->i<n->J.go i H
 stop:∀H,ok H->J.stop n H
 yld:∀i H x H',ok H->i<n->J.yld i H x H'->∃p u v,x= .ref p/\H p=none/\H'=upd H p (.tup [u,v])/\f i=some (u,v)
end
section
variable {σ:St} {H:Hp} {Q:VK} {D':VO}
end
section
variable {σ:St} {H:Hp} {Q:VK}
end
open Classical in
noncomputable def frG (H H':Hp):Hp:=λb=>match H' b with
 |some (.lst xs)=>if H b=none then some (.lst xs) else none
 |o=>o
def Dom (H H':Hp):Prop:=∀b,H' b=none->H b=none
structure Acc (K:E9) (H0:Hp) (acc:Addr) (ys:List V) (ds:List D) (H:Hp):Prop where
 at_:H acc=some (.lst ys)
 new:IsL K (frG (upd H0 acc (.lst [])) H) ys ds
 same:WL H0 H
 dom:Dom (upd H0 acc (.lst [])) H
section
variable {X:Cx}
theorem VT (ns:List Int):∀k,preSum (λi=>ns.getD i 0) k=(ns.take k).sum
 |0=>by simp[preSum]
 |k+1=>by
  unfold preSum
  rw[VT ns k,List.take_add_one,Im]
  cases h:ns[k]? <;>simp[Ec,h]
def zl6 (K:E9):List V->Hp->VK->Prop:=λxs H Q=>∃(p:Addr) (ns:List Int),xs=[.ref p]/\SqL K H p (ns.map V.int)/\Q (.int ns.sum) H
theorem YK {K:E9} (hc:X.calm=true) (hK:X.K=K:=by rfl):vy X (.builtin "sum") (zl6 K):=by
 subst hK
 intro pins s σ H xs us Q I r h
 obtain⟨p,ns,rfl,hq,q⟩:=h
 obtain⟨u,rfl,ru⟩:=ZU r
 cases ru
 obtain⟨ae,rv,pl,hz⟩:=I.list hq
 have lt:p<s.heap.objs.size:=by
  obtain⟨o,n,e,_⟩:=id pl
  exact Heap.lt_size e
 have hl:=rv.length
 rw[Eb] at hl
 refine call_sum_walkAnyS (wpAny_pyIter_list pl.isList ?_)
 have W:=(Walks.list (prog:=X.prog) (w:=X.w) (A:=X.A.in1) (I.ok.hd hc) s.heap.objs.size p (Ep lt) ae.toArray).toS
 refine⟨s.heap.objs.size,_,_,_,_,_,_,λi=>ns.getD i 0,rfl,W,?_,?_,?_,?_⟩
 ·exact⟨⟨_,Heap.get?_push_size _ rfl,rfl,rfl⟩,Heap.IsList.push pl.isList _⟩
 ·intro b hb
  rw[Heap.size_push]
  rcases (by simpa using hb:b=s.heap.objs.size\/b=p) with rfl|rfl
  ·exact G3 _
  ·exact Fu lt
 ·intro i v hv
  have hv:ae[i]? =some v:=by simpa using hv
  have hi:i<ns.length:=by rw[hl];exact (E8.1 hv).1
  obtain⟨u,hu,t,ru⟩:=rv.get (i:=i) (x:=V.int ns[i]) (by rw[Ef,DZ hi];rfl)
  rw[hu] at hv
  cases hv
  refine⟨t,?_⟩
  rw[ru]
  show Value.int ns[i] t=Value.int (ns.getD i 0) t
  rw[Ec,DZ hi,HV]
 ·intro s' t' m
  have I1:Inv X pins σ H {s with heap:=s'.heap,toks:=s'.toks}:=I.kept λb o e=>m.heap b o (λz=>by
   have z:b=s.heap.objs.size:=by simpa using z
   exact absurd (Heap.lt_size e) (by rw[z];exact Fv _)) (Heap.get?_push_of_some _ e)
  have e:({s with heap:=s'.heap,toks:=s'.toks}:Shared)=s':=by
   have h1:=m.gens
   have h2:=m.drawn
   have h3:=m.os
   cases s'
   simp only at h1 h2 h3
   subst h1 h2 h3
   rfl
  rw[e] at I1
  refine⟨.int ns.sum,H,I1,⟨t',?_⟩,q⟩
  rw[VT]
  have:ae.toArray.size=ns.length:=by rw[EC,<-hl]
  rw[this,F0]
end
section
variable {σ:St} {H:Hp} {Q:VK}
end
section
variable {σ:St} {H:Hp} {v:V}
end
end L2
namespace L2
open PySem PySem.Spec PyProof.Rows PyProof
section
variable {X:Cx}
theorem zkM {K:E9} {a b:String} (h1:(Value.type a==Value.type b)=false) (h:(fastBuiltinMro a).map (·.contains (.type b))=some false) (hm:Gk b=true) (hs:HF K (.type a) (.type b)=(fastBuiltinMro a).map (·.contains (.type b))):Ff K (.type a) (.type b)=some false:=by
 unfold Ff IE
 rw[if_neg (by rw[h1];decide)]
 show (if Gk b=true then HF K (.type a) (.type b) else none)=_
 rw[if_pos hm,hs,h]
end
end L2
namespace L2
open PySem PySem.Spec PyProof.Rows
open AutoSeq1 (wpAny_loadPart')
section
variable {prog:Program} {w:World} {A:Around} {E:Value->Shared->Prop} {s:Shared}
end
section
variable {X:Cx}
end
end L2
namespace L2
open PySem PySem.Spec PyProof.Rows
section
variable {prog:Program} {w:World} {A:Around} {E:Value->Shared->Prop} {s:Shared}
noncomputable abbrev zT1 (h:Heap) (l1:Addr):Heap:=h.push {cls:= .type "tuple_iterator",data:= .fields #[.ref l1,.int 0 0]}
noncomputable abbrev zT2 (h:Heap) (l1 l2:Addr):Heap:=(zT1 h l1).push {cls:= .type "tuple_iterator",data:= .fields #[.ref l2,.int 0 0]}
noncomputable abbrev zT3 (h:Heap) (l1 l2:Addr):Heap:=(zT2 h l1 l2).push {cls:= .type "tuple",data:= .seq #[.ref h.objs.size,.ref (zT1 h l1).objs.size]}
noncomputable abbrev zT4 (h:Heap) (l1 l2:Addr):Heap:=(zT3 h l1 l2).push {cls:= .type "tuple",data:= .seq #[.none,.none]}
noncomputable abbrev zT5 (h:Heap) (l1 l2:Addr):Heap:=(zT4 h l1 l2).push {cls:= .type "zip",data:= .fields #[.none,.bool false,.bool false,.ref (zT2 h l1 l2).objs.size,.ref (zT3 h l1 l2).objs.size]}
end
section
variable {X:Cx}
end
mutual
def D.small (n:Nat):D->Prop
 | .int i=>i.natAbs<2^n
 | .tup l=>D.smalls n l
 | .lst l=>D.smalls n l
 | .non=>True
 | .bl _=>True
 | .str _=>False
 | .ins _ _ _=>False
def D.smalls (n:Nat):List D->Prop
 |[]=>True
 |d::r=>D.small n d/\D.smalls n r
end
mutual
noncomputable def D.wt (n:Nat):D->Nat
 | .tup l=>D.wts n l
 | .lst l=>D.wts n l
 | .int _=>n
 |_=>0
noncomputable def D.wts (n:Nat):List D->Nat
 |[]=>0
 |d::r=>D.wt n d+1+D.wts n r
end
section
variable {X:Cx} {pins:List (Addr×Obj)} {σ:St} {H:Hp} {s:Shared}
end
structure zmy (n:Nat) (d:D):Prop where
 seq:∃l,d= .tup l\/d= .lst l
 small:D.small n d
 n0:8<=n
 n1:n<=1900
 deep:D.depth d<=40
 size:(n+3)*D.wt n d+n+1<=16777216
section
variable {X:Cx}
end
noncomputable abbrev zl7 (t:Addr) (i:Int):Obj:={cls:= .type "reversed",data:= .fields #[.ref t,rawInt i]}
noncomputable abbrev zmH (h:Heap) (a t:Addr) (i:Int):Prop:=h.get? a=some (zl7 t i)
section
variable {prog:Program} {w:World} {A:Around} {E:Value->Shared->Prop} {s:Shared}
end
section
variable {X:Cx} {tg:Expr}
end
end L2
namespace L2
open PySem PySem.Spec PyProof.Rows PyProof
section
variable {X:Cx}
end
end L2
namespace L2
open PySem PySem.Spec PyProof.Rows
section
variable {X:Cx}
theorem Inv.lstR {pins:List (Addr×Obj)} {σ:St} {H:Hp} {s:Shared} {l:Addr} {xs:List V} (I:Inv X pins σ H s) (hH:SqX X.K H l xs):xs.length<=sizeLine/\∃(ae:List Value) (n:Nat),zT xs ae/\xs.length=ae.length/\s.heap.get? l=some {cls:= .type "list",data:= .seq ae.toArray n}:=by
 rcases hH with hH|⟨ae,n,hk,hz,r⟩
 ·obtain⟨z,ae,n,r,e⟩:=hH.ok I.hok
  exact⟨z,ae,n,r,r.length,e⟩
 ·have hl:=r.length
  have ef:ae.toList.length=ae.size:=Fe
  exact⟨⋯,ae.toList,n,r,r.length,I.kIn l _ hk⟩
end
theorem zf5:typeLookup (.type "list_reverseiterator") "__len__"=pure none:=by rw[typeLookup_type,builtinLookup_eq_fast];kernel_rfl
theorem zg3:typeLookup (.type "list_reverseiterator") "__length_hint__"=pure (some (.builtin "list_reverseiterator.__length_hint__")):=by rw[typeLookup_type,builtinLookup_eq_fast];kernel_rfl
section
variable {prog:Program} {w:World} {A:Around} {E:Value->Shared->Prop} {s:Shared}
theorem zek {R:Result->Shared->Prop} (hh:A.handled=none) {it l:Addr} {items:Array Value} (hn:items.size<=sizeLine) (S:Addr) (res:Value) (c₀:Nat) (hS:s.heap.get? S=some {cls:= .type "list",data:= .seq #[] c₀})
  (hit:s.heap.IsRevIter it l ((items.size:Int)-1)) (hl:s.heap.IsList l items) (kA:l≠it) (uw:S≠it) (Cv:S≠l)
  (hR:∀h' tk acc' c',(∀b o,b≠S->b≠it->s.heap.get? b=some o->h'.get? b=some o)->h'.get? S=some {cls:= .type "list",dict:=none,data:= .seq acc' c',slots:= #[]}->
   ItemsOf (λi v=>items[items.size-1-i]? =some v) acc' items.size->R (.ok (.ret res)) {s with heap:=h',toks:=tk}):
  wpAny (model prog w) A.in1 (Builtin.List.listExtendWith (.ref S) (.ref it) res)
   (λfin s'=>match fin with| .done f=>R (.ok f) s'| .again c'=>c'.quiet=true/\codeAny (model prog w) A c' R s') (λe s'=>R (.error e) s') s:=by
 have mx:S∉[it,l]:=λhm=>by
  rcases Er.mp hm with e|hm
  ·exact uw e
  ·exact Cv (EG.mp hm)
 have W:=(Walks.listRev (prog:=prog) (w:=w) (A:=A.in1) hh it l kA items).toS
 have eX:0<=items.size/\s.heap.IsRevIter it l ((items.size:Int)-1-((0:Nat):Int))/\s.heap.IsList l items:=⟨FR _,by simpa using hit,hl⟩
 unfold Builtin.List.listExtendWith
 refine wpAny_bind (wpAny_typeOf (T:="list_reverseiterator") hit.typeIs ?_)
 have h1:Builtin.List.listSameRef (.ref S) (.ref it)=false:=by simp[Builtin.List.listSameRef,uw]
 rw[if_neg (by rw[h1];decide)]
 refine wpAny_bind (wpAny_pyIter_revIter hit ?_)
 refine wpAny_bind (wpAny_holding ?_)
 unfold Builtin.List.listLengthHint
 refine wpAny_bind (wpAny_specialOf hit.typeIs zf5 ?_)
 show wpAny _ A.in1 (specialOf (Value.ref it) (Str.ofString "__length_hint__")>>=_) _ _ _
 refine wpAny_bind (wpAny_specialOf hit.typeIs zg3 ?_)
 (generalize hid:("list_reverseiterator.__length_hint__":String)=lV;(fail_if_success (clear hid lV));wp_delta;rw[show splitId lV=some ("list_reverseiterator","__length_hint__") from by subst hid;decide+kernel];subst hid)
 refine wpAny_bind (wpAny_isInstance (b:=true) hit.typeIs (by rw[isSubtype_type];kernel_rfl) ?_)
 refine wpAny_pure ?_
 rw[if_neg ∅]
 refine wpAny_pure ⟨plainId_quiet F.plain_extend_loop _,codeAny_extend_loopS W hn _ mx _ items.size 0 _ _ _ rfl (FR _) eX hS (ItemsOf.nil _) λs' acc' c' hm hV bb=> ?_⟩
 rw[Moved.eq_with hm]
 refine hR s'.heap s'.toks acc' c' (λb ob hb uv e=>hm.heap b ob (λaw=> ?_) e) hV bb
 rcases Er.mp aw with e'|aw
 ·exact hb e'
 ·exact uv (EG.mp aw)
theorem zbc {Q:Value->Shared->Prop} (hh:A.handled=none) {it l:Addr} {items:Array Value} (hn:items.size<=sizeLine) (hit:s.heap.IsRevIter it l ((items.size:Int)-1)) (hl:s.heap.IsList l items) (kA:l≠it)
  (hQ:∀h' tk acc' c',(∀b o,b≠it->s.heap.get? b=some o->h'.get? b=some o)->
   h'.get? s.heap.objs.size=some {cls:= .type "list",dict:=none,data:= .seq acc' c',slots:= #[]}->ItemsOf (λi v=>items[items.size-1-i]? =some v) acc' items.size->Q (.ref s.heap.objs.size) {s with heap:=h',toks:=tk}):
  wpAny (model prog w) A (call (.type "list") [.ref it]) Q E s:=by
 refine callType_codes (Q₁:=λobj s₁=>obj= .ref s.heap.objs.size/\s₁={s with heap:=s.heap.push {cls:= .type "list",data:= .seq #[]}}) F.called_list (F.typeCall_list_1 _) F.entry_list_init
  (code_list_new _ ⟨rfl,rfl⟩) λobj s₁ h₁=> ?_
 obtain⟨rfl,rfl⟩:=h₁
 have hS:(s.heap.push {cls:= .type "list",data:= .seq #[]}).get? s.heap.objs.size=some {cls:= .type "list",data:= .seq #[]}:=Heap.get?_push_size _ rfl
 refine⟨⟨_,hS,rfl⟩,F.args_list_init_2 _ _,?_⟩
 show wpAny _ _ (do let old <-Builtin.List.listItems (.ref s.heap.objs.size);Builtin.List.listUpdate (.ref s.heap.objs.size) (λ_=> #[]);letGo old.toList.reverse;Builtin.List.listExtendWith (.ref s.heap.objs.size) (.ref it) .none) _ _ _
 refine wpAny_bind ?_
 unfold Builtin.List.listItems
 refine wpAny_bind (wpAny_seqItems hS rfl (wpAny_pure ?_))
 show wpAny _ _ (updateSeq s.heap.objs.size (λ_=> #[])>>=λ_=>letGo (#[]:Array Value).toList.reverse>>=λ_=>Builtin.List.listExtendWith (.ref s.heap.objs.size) (.ref it) .none) _ _ _
 refine wpAny_bind (wpAny_updateSeq hS rfl ?_)
 have Ct:=Heap.get?_update_self (Obj.mapSeq (λ_=>(#[]:Array Value))) hS rfl
 have ltI:it<s.heap.objs.size:=let ⟨_,ho,_⟩:=hit;Heap.lt_size ho
 have lU:l<s.heap.objs.size:=let ⟨_,ho,_⟩:=hl;Heap.lt_size ho
 have oth:∀b o,b≠s.heap.objs.size->(s.heap.push {cls:= .type "list",data:= .seq #[]}).get? b=some o->((s.heap.push {cls:= .type "list",data:= .seq #[]}).update s.heap.objs.size (Obj.mapSeq (λ_=>(#[]:Array Value)))).get? b=some o:=
  λb o hb e=>(Heap.get?_update_other _ _ (Gw hb)).trans e
 have old:∀b o,s.heap.get? b=some o->((s.heap.push {cls:= .type "list",data:= .seq #[]}).update s.heap.objs.size (Obj.mapSeq (λ_=>(#[]:Array Value)))).get? b=some o:=
  λb o e=>oth b o (Ep (Heap.lt_size e)) (Heap.get?_push_of_some _ e)
 refine wpAny_bind (wpAny_letGo ?_)
 refine zek (A:=A.in1) (items:=items) hh hn s.heap.objs.size .none _ Ct (hit.at λo e=>old _ o e) (hl.at λo e=>old _ o e) kA (Gw (Ep ltI)) (Gw (Ep lU)) λh' tk acc' c' hk hV bb=> ?_
 exact⟨rfl,hQ h' tk acc' c' (λb o hb e=>hk b o (Ep (Heap.lt_size e)) hb (old b o e)) hV bb⟩
end
section
variable {X:Cx}
def zds (K:E9) (te:TE):TE:=λσ H Q=>te σ H λx H1=>∃p ys,x= .ref p/\SqX K H1 p ys/\∀l,H1 l=none->Q (.ref l) (upd H1 l (.lst ys.reverse))
theorem zel {K:E9} {e:Expr} {te:TE} {p p2 pos dF:Pos} (hc:X.calm=true) (hg:Gl X "list") (hm:X.mg "list"=none) (jf:Gl X "reversed") (q9:X.mg "reversed"=none) (ha:PE X e te) (hK:X.K=K:=by rfl)
  (ji:starEach [e] X.env=[(false,eval e X.env)]:=by rfl) (he:starEach [.Call (.Name "reversed" p2) [e] [] dF] X.env=[(false,eval (.Call (.Name "reversed" p2) [e] [] dF) X.env)]:=by rfl):
  PE X (.Call (.Name "list" p) [.Call (.Name "reversed" p2) [e] [] dF] [] pos) (zds K te):=by
 subst hK
 intro pins s σ H Q I h
 refine wpAny_Call_Name_kw (ZT I hg hm boot_list ?_ ∅ ∅)
 refine Ft ?_ he rfl
 rw[he]
 show wpAny _ _ (spliced ((false,eval (.Call (.Name "reversed" p2) [e] [] dF) X.env)::backTo pos [])) _ _ s
 refine Calls.spliced_cons ?_
 refine wpAny_Call_Name_kw (ZT I jf q9 Boot.«reversed» ?_ ∅ ∅)
 refine Ft ?_ ji rfl
 refine thn (za ha zf ji dF pins s σ H (λvs H1=>∃p ys,vs=[.ref p]/\SqX X.K H1 p ys/\∀l,H1 l=none->Q (.ref l) (upd H1 l (.lst ys.reverse))) I ?_) λus s1 ⟨vs,H1,I1,r1,q1⟩=> ?_
 ·have h:te σ H λx H1=>∃p ys,x= .ref p/\SqX X.K H1 p ys/\∀l,H1 l=none->Q (.ref l) (upd H1 l (.lst ys.reverse)):=h
  show te σ H λx H1=>∃p ys,[x]=[V.ref p]/\SqX X.K H1 p ys/\∀l,H1 l=none->Q (.ref l) (upd H1 l (.lst ys.reverse))
  have e:(λ(x:V) (H1:Hp)=>∃p ys,[x]=[V.ref p]/\SqX X.K H1 p ys/\∀l,H1 l=none->Q (.ref l) (upd H1 l (.lst ys.reverse)))=λx H1=>∃p ys,x= .ref p/\SqX X.K H1 p ys/\∀l,H1 l=none->Q (.ref l) (upd H1 l (.lst ys.reverse)):=by
   funext x H1
   simp
  rw[e]
  exact h
 obtain⟨p,ys,rfl,hq,q⟩:=q1
 obtain⟨u,rfl,ru⟩:=ZU r1
 cases ru
 obtain⟨z,ae,n,r,hl,e1⟩:=I1.lstR hq
 have hL:s1.heap.IsList p ae.toArray:=⟨_,e1,rfl,n,rfl⟩
 have An:p<s1.heap.objs.size:=Heap.lt_size e1
 refine call_reversed_list hL ?_
 refine Calls.spliced_nil ?_
 refine zbc (items:=ae.toArray) (I1.ok.hd hc) (by rw[EC];omega) ⟨_,Heap.get?_push_size _ rfl,rfl,rfl⟩ (hL.push _) (Ep An) λh' tk acc' c' hk hV bb=> ?_
 have kept:∀b o,s1.heap.get? b=some o->h'.get? b=some o:=λb o e=>hk b o (Ep (Heap.lt_size e)) (Heap.get?_push_of_some _ e)
 have hsz:s1.heap.objs.size<=(s1.heap.push (revObj p ((ae.toArray.size:Int)-1))).objs.size:=by rw[Heap.size_push];exact Gr _
 have ha:acc'.toList=ae.reverse:=by
  obtain⟨a1,a2⟩:=bb
  refine FY λi=> ?_
  by_cases hi:i<ae.length
  ·have cm:i<acc'.size:=by rw[a1,EC];exact hi
   have e3:acc'.toList[i]? =some acc'[i]:=by simp[cm]
   have e4:=a2 i acc'[i] (by simp[cm])
   rw[e3,Hk hi,<-e4]
   simp
  ·rw[EY (by simp[a1];omega),EY (by simp;omega)]
 have hv:zT ys.reverse ae.reverse:=r.reverse
 refine⟨.ref _,_,I1.laid (o:= .lst ys.reverse) (t':=tk) kept hsz ⟨by rw[G1];exact z,ae.reverse,c',hv,?_⟩,rfl,q _ (I1.hok.fresh hsz)⟩
 rw[hV,<-ha]
end
end L2
namespace HT
open PySem PyProof.Rows
section
variable {prog:Program} {w:World} {A:Around} {E:Value->Shared->Prop} {s:Shared}
end
end HT
namespace L2
open PySem PySem.Spec PyProof.Rows
section
variable {X:Cx}
section
variable {X:Cx} {tg:Expr}
end
end
section
variable {env:Env} {r:List Expr}
theorem xw {a b c}:starEach (.Tuple a b c::r) env=(false,eval (.Tuple a b c) env)::starEach r env:=by rw[starEach];simp
theorem Vm {a b}:starEach (.List a b::r) env=(false,eval (.List a b) env)::starEach r env:=by rw[starEach];simp
theorem zk {a b c}:starEach (.Constant a b c::r) env=(false,eval (.Constant a b c) env)::starEach r env:=by rw[starEach];simp
theorem zj {a b}:starEach (.Name a b::r) env=(false,eval (.Name a b) env)::starEach r env:=by rw[starEach];simp
theorem yt {a b c}:starEach (.Subscript a b c::r) env=(false,eval (.Subscript a b c) env)::starEach r env:=by rw[starEach];simp
theorem zZ {a b c d}:starEach (.BinOp a b c d::r) env=(false,eval (.BinOp a b c d) env)::starEach r env:=by rw[starEach];simp
theorem TU {a b c}:starEach (.UnaryOp a b c::r) env=(false,eval (.UnaryOp a b c) env)::starEach r env:=by rw[starEach];simp
theorem ya {a b c d}:starEach (.Call a b c d::r) env=(false,eval (.Call a b c d) env)::starEach r env:=by rw[starEach];simp
end
end L2
namespace L2
open PySem PySem.Spec PyProof.Rows PySem.Builtin
section
variable {X:Cx}
end
end L2
namespace L2
open PySem PySem.Spec PyProof.Rows PySem.Calls
noncomputable def yQ (ns:List Int):List Int:=ns.mergeSort λa b=>decide (a<=b)
theorem vS (ns:List Int):(yQ ns).Perm ns:=IT _ _
theorem zch (ns:List Int):(yQ ns).Pairwise (· <= ·):=by
 have h:=Ig (le:=λa b:Int=>decide (a<=b)) (by intro a b c h1 h2;simp at*;omega) (by intro a b;simp;omega) ns
 exact h.imp λh=>by simpa using h
theorem TV {ns ms:List Int} (p:ms.Perm ns) (o:ms.Pairwise (· <= ·)):ms=yQ ns:=Ji (p.trans (vS ns).symm) o (zch ns)
theorem Wm (ns:List Int):(yQ ns).length=ns.length:=(vS ns).length_eq
section
variable {X:Cx}
end
section
variable {prog:Program} {w:World} {A:Around} {E:Value->Shared->Prop} {s:Shared} {T:String} {r d:Addr} {n:Nat} {P:Nat->Value->Prop} {OK:Heap->Prop} {Q:Value->Shared->Prop}
theorem XH {R:List Value->Shared->Prop} (K:GX prog w T r d n P OK) (hh:A.handled=none) (hok:OK s.heap) (hn:n<=sizeLine)
  (fin:∀(g:Heap) (k:Nat) (xs:Array Value),(∀b o,s.heap.get? b=some o->g.get? b=some o)->s.heap.objs.size<g.objs.size->ItemsOf P xs n->R xs.toList {s with heap:=g,toks:=k}):
  wpAny (model prog w) A (collect (.ref r)) R E s:=by
 obtain⟨lr,ld⟩:=K.there _ hok
 unfold collect
 refine wpAny_bind (wpAny_runValue ?_)
 refine codeAny_builtin entry_proto_collect' ?_
 rw[Around.under_plainId HB _]
 refine wpAny_bind (m:=newList []) ?_
 refine wpAny_newObj_type ?_
 refine wpAny_pure ⟨plainId_quiet Gu _,?_⟩
 refine codeAny_builtin entry_list_iadd' ?_
 rw[Around.under_plainId Gu _]
 have dZ:(s.heap.push {cls:= .type "list",data:= .seq ([]:List Value).toArray}).get? s.heap.objs.size=some {cls:= .type "list",data:= .seq #[]}:=Heap.get?_push_size _ rfl
 have step:=PySem.W.kdl_extend (A:=A) (s:={s with heap:=s.heap.push {cls:= .type "list",data:= .seq ([]:List Value).toArray}})
  (R:=λ(q:Result) (s':Shared)=>∃(g:Heap) (k:Nat) (xs:Array Value) (c:Nat),q= .ok (.ret (.ref s.heap.objs.size))/\s'={s with heap:=g,toks:=k}/\(∀b o,s.heap.get? b=some o->g.get? b=some o)/\
   g.get? s.heap.objs.size=some {cls:= .type "list",dict:=none,data:= .seq xs c,slots:= #[]}/\ItemsOf P xs n)
  K hh (K.keep _ _ hok λ_ _ _ e=>Heap.get?_push_of_some _ e) s.heap.objs.size (GR lr) (GR ld) (.ref s.heap.objs.size) 0 dZ
  (λg k xs c kp ha it=>⟨g,k,xs,c,rfl,rfl,λb o e=>kp b o (Ep (Heap.lt_size e)) (Heap.get?_push_of_some _ e),ha,it⟩) hn
 refine wpAny_mono step (λf s' x=> ?_) λe s' x=> ?_
 ·cases f with
  |done f0=>
   obtain⟨g,k,xs,c,e,rfl,kp,ha,it⟩:=x
   cases e
   exact wpAny_bind (wpAny_load ha (wpAny_pure (fin g k xs kp (Heap.lt_size ha) it)))
  |again c0=>
   refine⟨x.1,codeAny_mono x.2 λq s2 y=> ?_⟩
   obtain⟨g,k,xs,c,rfl,rfl,kp,ha,it⟩:=y
   exact wpAny_bind (wpAny_load ha (wpAny_pure (fin g k xs kp (Heap.lt_size ha) it)))
 ·obtain⟨_,_,_,_,z,_⟩:=x
  cases z
theorem zem (K:GX prog w T r d n P OK) (hh:A.handled=none) (hok:OK s.heap) (hn:n<=sizeLine) (cJ:n<64) {ns:List Int} (ip:∀vs:List Value,vs.length=n->(∀(j:Nat) (v:Value),vs[j]? =some v->P j v)->IntsAre vs ns)
  (h:∀(D:Addr) (h':Heap) (tk e:Nat) (out:Array Value),(∀b o,s.heap.get? b=some o->h'.get? b=some o)->s.heap.objs.size<=D->h'.get? D=some (seqObj "list" out e)->IntsAre out.toList (yQ ns)->Q (.ref D) {s with heap:=h',toks:=tk}):
  wpAny (model prog w) A (call (.builtin "sorted") [.ref r]) Q E s:=by
 refine call_function_entry kind_sorted plain_sorted entry_sorted (args_sorted1 _) ?_
 unfold Builtin.«sorted»
 refine wpAny_bind (m:=checkCount "sorted" 1 1 _) (wpAny_pure ?_)
 refine wpAny_bind (XH (A:=A.in1) K hh hok hn λh' tk acc hk bS bb=> ?_)
 have hl:acc.toList.length=n:=by rw[Fe];exact bb.1
 have hI:=ip acc.toList hl (λj v e=>bb.2 j v (by rw[<-Fo];exact e))
 refine wpAny_bind (wpAny_newList ?_ (by rw[hl];exact hn))
 have ki:(h'.push {cls:= .type "list",data:= .seq acc.toList.toArray}).get? h'.objs.size=some (seqObj "list" acc.toList.toArray 0):=Heap.get?_push_size _ rfl
 have hsz:s.heap.objs.size<=h'.objs.size:=EL bS
 refine wpAny_bind (wpAny_holding (wpAny_call_entry slot_list_sort ⟨_,ki,rfl⟩ entry_list_sort (list_sort_tree ki hI ⋯ λout ns' a1 a2 a3=>⟨_,rfl,?_⟩) (args_list_sort _)))
 obtain rfl:=TV a2 a3
 obtain⟨e,he⟩:=sortedHeap_at (out:=out) ki
 refine wpAny_pure ⟨_,rfl,h _ _ tk e out (λb o eb=> ?_) hsz he a1⟩
 have hb:=hk b o eb
 have lt:=Heap.lt_size hb
 rw[sortedHeap_old (Ep lt) (by rw[Heap.size_push];exact Fu lt)]
 exact Heap.get?_push_of_some _ hb
end
section
variable {X:Cx}
theorem zbE {P:Program} {w:World} {kvs:List (Key×V)} {vs:List (Key×Value)} {ns:List Int} (rel:KV kvs vs) (hk:kvs.map (·.1)=ns.map F6) (us:List Value) (hl:us.length=vs.length)
  (hp:∀(i:Nat) (u:Value),us[i]? =some u->∃k x,vs[i]? =some (k,x)/\(zN P w).is k u=true):IntsAre us ns:=by
 have e1:vs.map (·.1)=ns.map F6:=rel.keys.symm.trans hk
 clear rel hk
 induction us generalizing vs ns with
 |nil=>
  have:vs=[]:=Gv.1 (by simpa using hl.symm)
  subst this
  cases ns with
  |nil=>exact .nil
  |cons n r=>simp at e1
 |cons u us ih=>
  obtain⟨k,x,e2,e3⟩:=hp 0 u rfl
  cases vs with
  |nil=>simp at e2
  |cons p vs=>
   simp at e2
   subst e2
   cases ns with
   |nil=>simp at e1
   |cons n r=>
    simp only[Eg,Io] at e1
    obtain⟨e4,e1⟩:=e1
    have e4:k=F6 n:=e4
    subst e4
    have e3:Wy (F6 n) u=true:=e3
    rcases yx e3 with⟨i,t,e5,rfl⟩|⟨i,t,e5,_⟩
    ·cases e5
     exact .cons _ _ (ih (by simpa using hl) (λi u h=>by simpa using hp (i+1) u (by simpa using h)) e1)
    ·cases e5
def zg4:List V->Hp->VK->Prop:=λxs H Q=>∃(a:Addr) (kvs:List (Key×V)) (ns:List Int),xs=[.ref a]/\H a=some (.dK kvs)/\kvs.map (·.1)=ns.map F6/\ns.length<64/\∀l,H l=none->Q (.ref l) (upd H l (.lst ((yQ ns).map V.int)))
theorem zdt {pins:List (Addr×Obj)} {σ:St} {H:Hp} {s:Shared} {Q:VK} {D:Addr} {g:Heap} {tk e:Nat} {out:Array Value} {ms:List Int} (I:Inv X pins σ H s) (kp:∀b o,s.heap.get? b=some o->g.get? b=some o) (hD:s.heap.objs.size<=D) (ha:g.get? D=some (seqObj "list" out e)) (hi:IntsAre out.toList ms) (hz:ms.length<=sizeLine)
  (q:∀l,H l=none->Q (.ref l) (upd H l (.lst (ms.map V.int)))):EP X pins σ Q (.ref D) {s with heap:=g,toks:=tk}:=
 ⟨.ref D,_,I.laid (t':=tk) kp hD (show ym X.prog X.w _ _ _ (.lst (ms.map V.int)) from ⟨by rw[Eb];exact hz,out.toList,e,VR hi,by rw[ha]⟩),rfl,q _ (I.hok.fresh hD)⟩
theorem WN {n:Nat} (h:n<64):n<=sizeLine:=Ey (EL h) ∅
theorem zen (hc:X.calm=true):vy X (.builtin "sorted") zg4:=by
 intro pins s σ H xs us Q I r h
 obtain⟨a,kvs,ns,rfl,ha,hk,cJ,q⟩:=h
 obtain⟨u,rfl,ru⟩:=ZU r
 cases ru
 obtain⟨hz,lo,vs,rel,dd⟩:=zdh I.hok ha
 obtain⟨ep,dB⟩:=dd.dictAt
 have hl:vs.length=ns.length:=by rw[<-rel.length,<-Eb (f:=(·.1)),hk,Eb]
 refine zem (PySem.W.kdl_dict (knd:=zN X.prog X.w) (kvs:=vs) (ep:=ep) lo) (I.ok.hd hc) dB (by rw[hl];exact WN cJ) (by rw[hl];exact cJ) (ns:=ns) (λus hu hp=>zbE rel hk us hu hp) λD g tk e out kp hD ha hi=> ?_
 exact zdt I kp hD ha hi (by rw[Wm];exact WN cJ) q
noncomputable def WB (p a:Addr):HO:= .ext λh=>Ht h p a
noncomputable def zdu (p a:Addr):HO:= .ext λh=>h.IsValuesView p a
def zbF:V->List V->Hp->VK->Prop:=λx vs H Q=>∃(a:Addr) (kvs:List (Key×V)),x= .ref a/\vs=[]/\Rd H a (.dK kvs)/\∀p,H p=none->Q (.ref p) (upd H p (WB p a))
def zkc:V->List V->Hp->VK->Prop:=λx vs H Q=>∃(a:Addr) (kvs:List (Key×V)),x= .ref a/\vs=[]/\Rd H a (.dK kvs)/\∀p,H p=none->Q (.ref p) (upd H p (zdu p a))
theorem zfc:MtR X "dict.keys" zbF:=by
 intro pins s σ H x xs v us Q I rx r h
 obtain⟨a,kvs,rfl,rfl,ha,q⟩:=h
 cases rx
 cases r
 obtain⟨hz,lo,vs,rel,dd⟩:=XA I.hok ha
 have hn:(s.heap.push {cls:= .type "dict_keys",data:= .fields #[.ref a]}).get? s.heap.objs.size=some {cls:= .type "dict_keys",data:= .fields #[.ref a]}:=Heap.get?_push_size _ rfl
 refine call_meetsIn Hd dd.typeIs PySem.F.entry_dict_keys (PySem.F.args_dict_keys_1 _) (PySem.W.kdl_meets_keys (zN X.prog X.w) a lo) ⟨⟨vs,dd⟩,?_⟩
 refine⟨.ref s.heap.objs.size,_,I.laid (t':=s.toks) (o:=WB s.heap.objs.size a) (λ_ _ e=>Heap.get?_push_of_some _ e) (Ek _) ⟨⟨_,hn,rfl,rfl⟩,⟨_,hn⟩,λh1 h2 ⟨o,e1,e2⟩ e3=>⟨o,e3 _ e1,e2⟩⟩,rfl,q _ I.fresh⟩
theorem zi1:MtR X "dict.values" zkc:=by
 intro pins s σ H x xs v us Q I rx r h
 obtain⟨a,kvs,rfl,rfl,ha,q⟩:=h
 cases rx
 cases r
 obtain⟨hz,lo,vs,rel,dd⟩:=XA I.hok ha
 have hn:(s.heap.push {cls:= .type "dict_values",data:= .fields #[.ref a]}).get? s.heap.objs.size=some {cls:= .type "dict_values",data:= .fields #[.ref a]}:=Heap.get?_push_size _ rfl
 refine call_meetsIn HW dd.typeIs PySem.F.entry_dict_values (PySem.F.args_dict_values_1 _) (meets_dict_values (zN X.prog X.w) a lo) ⟨⟨vs,dd⟩,?_⟩
 refine⟨.ref s.heap.objs.size,_,I.laid (t':=s.toks) (o:=zdu s.heap.objs.size a) (λ_ _ e=>Heap.get?_push_of_some _ e) (Ek _) ⟨⟨_,hn,rfl,rfl⟩,⟨_,hn⟩,λh1 h2 ⟨o,e1,e2⟩ e3=>⟨o,e3 _ e1,e2⟩⟩,rfl,q _ I.fresh⟩
def zkd:List V->Hp->VK->Prop:=λxs H Q=>∃(p a:Addr) (kvs:List (Key×V)) (ns:List Int),xs=[.ref p]/\H p=some (zdu p a)/\Rd H a (.dK kvs)/\kvs.map (·.2)=ns.map V.int/\Q (.int ns.sum) H
end
section
variable {prog:Program} {w:World} {A:Around} {E:Value->Shared->Prop} {s:Shared} {T:String} {r d:Addr} {n:Nat} {P:Nat->Value->Prop} {OK:Heap->Prop} {Q:Value->Shared->Prop}
theorem zi2 (K:GX prog w T r d n P OK) (hh:A.handled=none) (hok:OK s.heap) (f:Nat->Int) (hf:∀(i:Nat) (v:Value),P i v->∃t:Tok,v=Value.int (f i) t)
  (fin:∀(g:Heap) (k:Nat) (t:Tok),(∀b o,s.heap.get? b=some o->g.get? b=some o)->Q (.int (preSum f n) t) {s with heap:=g,toks:=k}):
  wpAny (model prog w) A (call (.builtin "sum") [.ref r]) Q E s:=by
 obtain⟨ob,Sg,go,Wk,s0⟩:=K.iter A.in1 s hh hok
 refine call_sum_walkAnyS (go _ _ ⟨s.heap.objs.size,_,_,_,n,P,_,f,rfl,Wk.toS,s0,λb hb=> ?_,hf,λs' t hm=> ?_⟩)
 ·show b<(s.heap.push ob).objs.size
  rw[Heap.size_push]
  rcases (by simpa using hb:b=s.heap.objs.size\/b=d) with rfl|rfl
  ·exact G3 _
  ·exact Fu (K.there _ hok).2
 ·rw[Moved.eq_with hm]
  refine fin s'.heap s'.toks t λb o e=>hm.heap b o (λz=> ?_) (Heap.get?_push_of_some _ e)
  have lt:=Heap.lt_size e
  rw[EG.mp z] at lt
  exact absurd lt (Fv _)
end
section
variable {X:Cx}
theorem KV.valsR {kvs:List (Key×V)} {vs:List (Key×Value)} {i:Nat} {k:Key} {u:Value} (rel:KV kvs vs) (h:vs[i]? =some (k,u)):∃v,(kvs.map (·.2))[i]? =some v/\zK v u:=by
 unfold KV at rel
 induction rel generalizing i with
 |nil=>simp at h
 |cons a t ih=>
  cases i with
  |zero=>
   simp at h
   subst h
   exact⟨_,rfl,a.2⟩
  |succ i=>simpa using ih (i:=i) (by simpa using h)
theorem zf6 (hc:X.calm=true):vy X (.builtin "sum") zkd:=by
 intro pins s σ H xs us Q I r h
 obtain⟨p,a,kvs,ns,rfl,hp,ha,hk,q⟩:=h
 obtain⟨u,rfl,ru⟩:=ZU r
 cases ru
 obtain⟨hz,lo,vs,rel,dd⟩:=XA I.hok ha
 obtain⟨ep,dB⟩:=dd.dictAt
 have hv:s.heap.IsValuesView p a:=(show ym X.prog X.w H s.heap p (zdu p a) from I.hok p _ hp).1
 have hl:vs.length=ns.length:=by rw[<-rel.length,<-Eb (f:=(·.2)),hk,Eb]
 refine zi2 (PySem.W.kdl_values (knd:=zN X.prog X.w) (kvs:=vs) (ep:=ep)) (I.ok.hd hc) ⟨hv,dB⟩ (λi=>ns.getD i 0) (λi v hp=> ?_) λg k t kp=> ?_
 ·obtain⟨key,e1⟩:=hp
  obtain⟨y,e2,e3⟩:=rel.valsR e1
  rw[hk,Ef] at e2
  cases e4:ns[i]? with
  |none=>rw[e4] at e2;cases e2
  |some m=>
   rw[e4] at e2
   cases e2
   obtain⟨t,rfl⟩:=e3
   exact⟨t,by rw[Ec,e4];rfl⟩
 ·have e:preSum (λi=>ns.getD i 0) vs.length=ns.sum:=by
   rw[VT ns,hl,F0]
  rw[e]
  exact⟨.int ns.sum,H,I.kept kp,⟨t,rfl⟩,q⟩
def zeo (K:E9) (neg:Bool):R2:=λx y H Q=>∃a b xs,x= .ref a/\y= .ref b/\SqL K H a xs/\SqL K H b []/\Q (.bl (neg !=xs.isEmpty)) H
theorem zg5 {k:Nat} {K:E9} (hr:vk k X.A) (hK:X.K=K:=by rfl):OpR X (compareOp .Eq) (zeo K false):=by
 subst hK
 intro pins s σ H x y v u Q I rx ry h
 obtain⟨a,b,xs,rfl,rfl,h1,h2,q⟩:=h
 cases rx;cases ry
 have hu:X.A.units+41<cLine:=F8 ⋯ hr.units
 obtain⟨ae,r1,p1,_⟩:=I.list h1
 obtain⟨bF,r2,p2,_⟩:=I.list h2
 cases r2
 cases r1 with
 |nil=>
  refine SeqAt.eq_listAt (e:=λ_=>true) p1.isList p2.isList rfl ⋯ (λi y1 _=>absurd y1 (Ju i)) ?_
  exact⟨.bl true,H,I,rfl,q⟩
 |cons c t=>
  refine SeqAt.eq_list_lengthsAt p1.isList p2.isList (by simp) ⋯ ?_
  exact⟨.bl false,H,I,rfl,q⟩
end
end L2
namespace L2
open PySem
inductive Xv where
 |non|bl (b:Bool)|int (i:Int)|str (x:Str)|tup (xs:List Xv)|ct (xs:List Xv)|ref (n:Nat)
inductive Ce where
 |lst (xs:List Xv)
 |frz (xs:List Xv)
 |dk (kvs:List (Key×Xv))
 |dt (kvs:List (List Key×Xv))
 |ins (nm:Str) (fs:List (Str×Xv))
 |fdk (kvs:List (Key×Xv))
 |dn (kvs:List (NK×Xv×Xv))
 |exc (nm:Str)
abbrev Sto:=List Ce
abbrev Rho:=List (Option Xv)
noncomputable def Ce.fz:Ce->Bool
 | .frz _=>true
 | .fdk _=>true
 | .exc _=>true
 |_=>false
noncomputable def HO.mu:HO->Bool
 | .lst _=>true
 | .dK _=>true
 | .dT _=>true
 | .dN _=>true
 | .ins _ _ _=>true
 | .set _ _=>true
 |_=>false
def ZE (H H':Hp):Prop:=∀b u,H b=some u->u.mu=false->H' b=some u
theorem ZE.refl (H:Hp):ZE H H:=λ_ _ e _=>e
theorem ZE.trans {H H1 H2:Hp} (a:ZE H H1) (b:ZE H1 H2):ZE H H2:=λx u e m=>b x u (a x u e m) m
theorem ZE.same {H H':Hp} (S:WL H H'):ZE H H':=λb u e _=>S b u e
structure Ext (j:List Addr) (H:Hp) (j':List Addr) (H':Hp):Prop where
 pre:∀(n:Nat) a,j[n]? =some a->j'[n]? =some a
 imm:ZE H H'
theorem Ext.refl {j:List Addr} {H:Hp}:Ext j H j H:=⟨λ_ _ e=>e,ZE.refl _⟩
theorem Ext.trans {j j1 j2:List Addr} {H H1 H2:Hp} (a:Ext j H j1 H1) (b:Ext j1 H1 j2 H2):Ext j H j2 H2:=⟨λn x e=>b.pre n x (a.pre n x e),a.imm.trans b.imm⟩
theorem Ext.same {j:List Addr} {H H':Hp} (S:WL H H'):Ext j H j H':=⟨λ_ _ e=>e,ZE.same S⟩
mutual
inductive Xis (K:E9) (j:List Addr) (H:Hp):Xv->V->Prop where
 |non:Xis K j H .non .non
 |bl (b:Bool):Xis K j H (.bl b) (.bl b)
 |int (i:Int):Xis K j H (.int i) (.int i)
 |str (x:Str):Xis K j H (.str x) (.str x)
 |tup {a:Addr} {vs:List V} {xs:List Xv}:H a=some (.tup vs)->zO K j H xs vs->Xis K j H (.tup xs) (.ref a)
 |ct {a:Addr} {vs:List V} {xs:List Xv}:(∀H,SqT K H a vs)->zO K j H xs vs->Xis K j H (.ct xs) (.ref a)
 |ref {n:Nat} {a:Addr}:j[n]? =some a->Xis K j H (.ref n) (.ref a)
inductive zO (K:E9) (j:List Addr) (H:Hp):List Xv->List V->Prop where
 |nil:zO K j H [] []
 |cons {x:Xv} {v:V} {xs:List Xv} {vs:List V}:Xis K j H x v->zO K j H xs vs->zO K j H (x::xs) (v::vs)
end
mutual
theorem Xis.mono {K:E9} {j j':List Addr} {H H':Hp} (S:Ext j H j' H'):∀{x:Xv} {v:V},Xis K j H x v->Xis K j' H' x v
 |_,_,.non=> .non
 |_,_,.bl b=> .bl b
 |_,_,.int i=> .int i
 |_,_,.str x=> .str x
 |_,_,.tup h l=> .tup (S.imm _ _ h rfl) (zO.mono S l)
 |_,_,.ct h l=> .ct h (zO.mono S l)
 |_,_,.ref h=> .ref (S.pre _ _ h)
theorem zO.mono {K:E9} {j j':List Addr} {H H':Hp} (S:Ext j H j' H'):∀{xs:List Xv} {vs:List V},zO K j H xs vs->zO K j' H' xs vs
 |_,_,.nil=> .nil
 |_,_,.cons h l=> .cons (Xis.mono S h) (zO.mono S l)
end
section
variable {K:E9} {j:List Addr} {H:Hp}
theorem zO.len:∀{xs:List Xv} {vs:List V},zO K j H xs vs->vs.length=xs.length
 |_,_,.nil=>rfl
 |_,_,.cons _ l=>by rw[EB,EB,l.len]
theorem zO.get:∀{xs:List Xv} {vs:List V} {i:Nat} {x:Xv},zO K j H xs vs->xs[i]? =some x->∃v,vs[i]? =some v/\Xis K j H x v
 |_,_,_,_,.nil,e=>by simp at e
 |_,_,0,_,.cons h _,e=>by simp at e;subst e;exact⟨_,rfl,h⟩
 |_,_,i+1,x,.cons _ l,e=>by
  obtain⟨v,e1,e2⟩:=l.get (i:=i) (x:=x) (by simpa using e)
  exact⟨v,by simpa using e1,e2⟩
theorem zO.append:∀{xs ys:List Xv} {vs ws:List V},zO K j H xs vs->zO K j H ys ws->zO K j H (xs++ys) (vs++ws)
 |_,_,_,_,.nil,h=>h
 |_,_,_,_,.cons h l,k=> .cons h (l.append k)
theorem zO.one {v:V} {x:Xv} (h:Xis K j H x v):zO K j H [x] [v]:= .cons h .nil
theorem zO.take:∀{xs:List Xv} {vs:List V} (n:Nat),zO K j H xs vs->zO K j H (xs.take n) (vs.take n)
 |_,_,0,_=> .nil
 |_,_,_+1,.nil=> .nil
 |_,_,n+1,.cons h l=> .cons h (l.take n)
theorem zO.drop:∀{xs:List Xv} {vs:List V} (n:Nat),zO K j H xs vs->zO K j H (xs.drop n) (vs.drop n)
 |_,_,0,h=>h
 |_,_,_+1,.nil=> .nil
 |_,_,n+1,.cons h l=>l.drop n
theorem zO.ints:∀ns:List Int,zO K j H (ns.map Xv.int) (ns.map V.int)
 |[]=> .nil
 |n::r=> .cons (.int n) (zO.ints r)
theorem zO.reverse:∀{xs:List Xv} {vs:List V},zO K j H xs vs->zO K j H xs.reverse vs.reverse
 |_,_,.nil=> .nil
 |_,_,.cons h l=>by
  rw[Hb,Hb]
  exact l.reverse.append (.one h)
theorem zO.set {v:V} {x:Xv} (hv:Xis K j H x v):∀{xs:List Xv} {vs:List V} (n:Nat),zO K j H xs vs->zO K j H (xs.set n x) (vs.set n v)
 |_,_,_,.nil=> .nil
 |_,_,0,.cons _ l=> .cons hv l
 |_,_,n+1,.cons h l=> .cons h (l.set hv n)
theorem zO.at_ {xs:List Xv} {vs:List V} {i:Int} {x:Xv} (h:zO K j H xs vs) (e:atI xs i=some x):∃v,atI vs i=some v/\Xis K j H x v:=by
 unfold atI at e ⊢
 rw[h.len]
 cases e1:ixN xs.length i with
 |none=>rw[e1] at e;cases e
 |some m=>
  rw[e1] at e
  obtain⟨v,e3,e4⟩:=h.get (i:=m) e
  exact⟨v,e3,e4⟩
theorem Xis.int_inv {v:V} {i:Int} (h:Xis K j H (.int i) v):v= .int i:=by cases h;rfl
theorem Xis.bl_inv {v:V} {b:Bool} (h:Xis K j H (.bl b) v):v= .bl b:=by cases h;rfl
theorem Xis.ref_inv {v:V} {n:Nat} (h:Xis K j H (.ref n) v):∃a,v= .ref a/\j[n]? =some a:=by cases h with|ref e=>exact⟨_,rfl,e⟩
theorem Xis.tup_inv {v:V} {xs:List Xv} (h:Xis K j H (.tup xs) v):∃a vs,v= .ref a/\H a=some (.tup vs)/\zO K j H xs vs:=by cases h with|tup a b=>exact⟨_,_,rfl,a,b⟩
theorem zO.cons_inv {vs:List V} {x:Xv} {xs:List Xv} (h:zO K j H (x::xs) vs):∃v r,vs=v::r/\Xis K j H x v/\zO K j H xs r:=by cases h with|cons a b=>exact⟨_,_,rfl,a,b⟩
theorem zO.nil_inv {vs:List V} (h:zO K j H [] vs):vs=[]:=by cases h;rfl
theorem zO.d1 {vs:List V} {a:Xv} (h:zO K j H [a] vs):∃x,vs=[x]/\Xis K j H a x:=by
 obtain⟨x,r,rfl,hx,h⟩:=h.cons_inv
 obtain rfl:=h.nil_inv
 exact⟨x,rfl,hx⟩
theorem zO.d2 {vs:List V} {a b:Xv} (h:zO K j H [a,b] vs):∃x y,vs=[x,y]/\Xis K j H a x/\Xis K j H b y:=by
 obtain⟨x,r,rfl,hx,h⟩:=h.cons_inv
 obtain⟨y,rfl,hy⟩:=h.d1
 exact⟨x,y,rfl,hx,hy⟩
noncomputable def Xv.tupOf:Xv->Option (List Xv)
 | .tup xs=>some xs
 | .ct xs=>some xs
 |_=>none
theorem Xis.tupO {v:V} {x:Xv} {xs:List Xv} (h:Xis K j H x v) (e:x.tupOf=some xs):∃a vs,v= .ref a/\SqT K H a vs/\zO K j H xs vs:=by
 cases h with
 |tup h l=>simp[Xv.tupOf] at e;subst e;exact⟨_,_,rfl,SqT.of h,l⟩
 |ct h l=>simp[Xv.tupOf] at e;subst e;exact⟨_,_,rfl,h H,l⟩
 |_=>simp[Xv.tupOf] at e
end
inductive KX {κ:Type} (K:E9) (j:List Addr) (H:Hp):List (κ×Xv)->List (κ×V)->Prop where
 |nil:KX K j H [] []
 |cons {k:κ} {x:Xv} {v:V} {r:List (κ×Xv)} {rs:List (κ×V)}:Xis K j H x v->KX K j H r rs->KX K j H ((k,x)::r) ((k,v)::rs)
theorem KX.mono {κ:Type} {K:E9} {j j':List Addr} {H H':Hp} (S:Ext j H j' H'):∀{xs:List (κ×Xv)} {vs:List (κ×V)},KX K j H xs vs->KX K j' H' xs vs
 |_,_,.nil=> .nil
 |_,_,.cons h l=> .cons (h.mono S) (l.mono S)
mutual
noncomputable def YL:Xv->Option NK
 | .int i=>some (.int i)
 | .str x=>some (.str x)
 | .tup l=>(YM l).map .tup
 | .ct l=>(YM l).map .tup
 | .non=>none
 | .bl _=>none
 | .ref _=>none
noncomputable def YM:List Xv->Option (List NK)
 |[]=>some []
 |x::r=>(YL x).bind λk=>(YM r).map (k:: ·)
end
inductive NX (K:E9) (j:List Addr) (H:Hp):List (NK×Xv×Xv)->List (NK×Addr×V)->Prop where
 |nil:NX K j H [] []
 |cons {k:NK} {x y:Xv} {b:Addr} {v:V} {r:List (NK×Xv×Xv)} {rs:List (NK×Addr×V)}:YL x=some k/\yi k<=8->Xis K j H x (.ref b)->Xis K j H y v->NX K j H r rs->NX K j H ((k,x,y)::r) ((k,b,v)::rs)
theorem NX.mono {K:E9} {j j':List Addr} {H H':Hp} (S:Ext j H j' H'):∀{xs:List (NK×Xv×Xv)} {vs:List (NK×Addr×V)},NX K j H xs vs->NX K j' H' xs vs
 |_,_,.nil=> .nil
 |_,_,.cons e h1 h2 l=> .cons e (h1.mono S) (h2.mono S) (l.mono S)
def zbd (K:E9) (j:List Addr) (H:Hp) (a:Addr):Ce->Prop
 | .lst xs=>∃vs,H a=some (.lst vs)/\zO K j H xs vs
 | .frz xs=>∃vs,((∃o,H a=some (.frz o (.lst vs)))\/∀H,SqX K H a vs)/\zO K j H xs vs
 | .dk kvs=>∃ks:List (Key×V),H a=some (.dK ks)/\KX K j H kvs ks
 | .dt kvs=>∃ks:List (List Key×V),H a=some (.dT ks)/\KX K j H kvs ks
 | .ins nm fs=>∃(C dx:Addr) (vs:List (Str×V)),Es K mainGlobals nm=some (some (.ref C))/\H a=some (.ins C dx vs)/\KX K j H fs vs
 | .fdk kvs=>∃(o:Obj) (ks:List (Key×V)),H a=some (.frz o (.dK ks))/\KX K j H kvs ks
 | .dn kvs=>∃ks:List (NK×Addr×V),H a=some (.dN ks)/\NX K j H kvs ks
 | .exc nm=>∃C:Addr,Es K mainGlobals nm=some (some (.ref C))/\H a=some (zkL a (.ref C))
theorem zbd.mu {K:E9} {j:List Addr} {H:Hp} {a:Addr}:∀{c:Ce},zbd K j H a c->c.fz=false->∃o,H a=some o/\o.mu=true
 | .lst _,⟨_,e,_⟩,_=>⟨_,e,rfl⟩
 | .frz _,_,z=>by cases z
 | .dk _,⟨_,e,_⟩,_=>⟨_,e,rfl⟩
 | .dt _,⟨_,e,_⟩,_=>⟨_,e,rfl⟩
 | .ins _ _,⟨_,_,_,_,e,_⟩,_=>⟨_,e,rfl⟩
 | .fdk _,_,z=>by cases z
 | .dn _,⟨_,e,_⟩,_=>⟨_,e,rfl⟩
 | .exc _,_,z=>by cases z
theorem zbd.mono {K:E9} {j j':List Addr} {H H':Hp} {a:Addr} (S:Ext j H j' H'):∀{c:Ce},(c.fz=false->H' a=H a)->zbd K j H a c->zbd K j' H' a c
 | .lst _,h,⟨_,e,l⟩=>⟨_,(h rfl).trans e,l.mono S⟩
 | .frz _,_,⟨_,.inl ⟨o,e⟩,l⟩=>⟨_,.inl ⟨o,S.imm _ _ e rfl⟩,l.mono S⟩
 | .frz _,_,⟨_,.inr e,l⟩=>⟨_,.inr e,l.mono S⟩
 | .dk _,h,⟨_,e,l⟩=>⟨_,(h rfl).trans e,l.mono S⟩
 | .dt _,h,⟨_,e,l⟩=>⟨_,(h rfl).trans e,l.mono S⟩
 | .ins _ _,h,⟨_,_,_,n,e,l⟩=>⟨_,_,_,n,(h rfl).trans e,l.mono S⟩
 | .fdk _,_,⟨_,_,e,l⟩=>⟨_,_,S.imm _ _ e rfl,l.mono S⟩
 | .dn _,h,⟨_,e,l⟩=>⟨_,(h rfl).trans e,l.mono S⟩
 | .exc _,_,⟨C,n,e⟩=>⟨C,n,S.imm _ _ e rfl⟩
structure Fm where
 H0:Hp
 j0:List Addr
 S0:Sto
structure En (K:E9) (F:Fm) (j:List Addr) (H:Hp) (σ:St) (ρ:Rho) (S:Sto):Prop where
 len:σ.length=ρ.length
 slot:∀(i:Nat) x,ρ[i]? =some (some x)->∃v,σ[i]? =some (some v)/\Xis K j H x v
 jl:j.length=S.length
 inj:∀(n m:Nat) a c d,j[n]? =some a->j[m]? =some a->S[n]? =some c->S[m]? =some d->c.fz=false->d.fz=false->n=m
 cel:∀(n:Nat) c a,S[n]? =some c->j[n]? =some a->zbd K j H a c
 ext:Ext F.j0 F.H0 j H
 old:∀(n:Nat) c,F.S0[n]? =some c->∃c',S[n]? =some c'/\(c'.fz=false->c.fz=false)/\(c.fz=true->c'=c)
 l0:F.j0.length=F.S0.length
 keep:∀b u,F.H0 b=some u->H b=some u\/∃(n:Nat) (c:Ce),F.j0[n]? =some b/\F.S0[n]? =some c/\c.fz=false
 fresh:∀(n:Nat) a,F.j0.length<=n->j[n]? =some a->F.H0 a=none
 dom:∀b,H b=none->F.H0 b=none
section
variable {K:E9} {F:Fm} {j j':List Addr} {H H':Hp} {σ σ':St} {ρ ρ':Rho} {S S':Sto} {v:V} {x:Xv} {a p:Addr} {o:HO} {i n:Nat} {c c':Ce}
theorem En.heap (E:En K F j H σ ρ S) (Sm:WL H H'):En K F j H' σ ρ S:=by
 have X:Ext j H j H':=Ext.same Sm
 refine⟨E.len,λi x e=> ?_,E.jl,E.inj,λn c a e1 e2=> ?_,E.ext.trans X,E.old,E.l0,λb u e=> ?_,E.fresh,λb e=>E.dom b ?_⟩
 ·obtain⟨v,e1,e2⟩:=E.slot i x e
  exact⟨v,e1,e2.mono X⟩
 ·have h:=E.cel n c a e1 e2
  refine h.mono X λz=> ?_
  obtain⟨o,e,_⟩:=h.mu z
  exact (Sm _ _ e).trans e.symm
 ·rcases E.keep b u e with h|h
  ·exact .inl (Sm _ _ h)
  ·exact .inr h
 ·cases e':H b with
  |none=>rfl
  |some u=>rw[Sm b u e'] at e;cases e
theorem En.new (E:En K F j H σ ρ S) (h:H p=none):En K F j (upd H p o) σ ρ S/\Ext j H j (upd H p o):=⟨E.heap (vA h),Ext.same (vA h)⟩
theorem En.cell (E:En K F j H σ ρ S) (h:H p=none) (hc:zbd K (j++[p]) (upd H p o) p c):En K F (j++[p]) (upd H p o) σ ρ (S++[c])/\Ext j H (j++[p]) (upd H p o):=by
 have X:Ext j H (j++[p]) (upd H p o):=⟨λn a e=>by rw[Ed (E8.1 e).1];exact e,ZE.same (vA h)⟩
 have ie:∀{n:Nat} {a:Addr},(j++[p])[n]? =some a->j[n]? =some a\/(n=j.length/\a=p):=λ{n a} e=>by
  by_cases hn:n<j.length
  ·rw[Ed hn] at e;exact .inl e
  ·rw[Eu ⋯] at e
   cases hm:n-j.length with
   |zero=>rw[hm] at e;simp at e;exact .inr ⟨⋯,e.symm⟩
   |succ m=>rw[hm] at e;simp at e
 have sat:∀{n:Nat} {d:Ce},(S++[c])[n]? =some d->S[n]? =some d\/(n=S.length/\d=c):=λ{n d} e=>by
  by_cases hn:n<S.length
  ·rw[Ed hn] at e;exact .inl e
  ·rw[Eu ⋯] at e
   cases hm:n-S.length with
   |zero=>rw[hm] at e;simp at e;exact .inr ⟨⋯,e.symm⟩
   |succ m=>rw[hm] at e;simp at e
 have lt:∀{n:Nat} {d:Ce},S[n]? =some d->n<S.length:=λe=>(E8.1 e).1
 have iP:∀{n:Nat} {a:Addr} {d:Ce},j[n]? =some a->S[n]? =some d->d.fz=false->a≠p:=λ{n a d} e1 e2 z q=>by
  subst q
  obtain⟨o',e,_⟩:=(E.cel n d a e2 e1).mu z
  rw[h] at e;cases e
 refine⟨⟨E.len,λi x e=> ?_,by simp[E.jl],λn m a c1 c2 e1 e2 e3 e4 z1 z2=> ?_,λn d a e1 e2=> ?_,E.ext.trans X,λn d e=> ?_,E.l0,λb u e=> ?_,λn a hn e=> ?_,λb e=> ?_⟩,X⟩
 ·obtain⟨v,e1,e2⟩:=E.slot i x e
  exact⟨v,e1,e2.mono X⟩
 ·rcases sat e3 with e3|⟨e3,_⟩
  ·have h1:j[n]? =some a:=by
    rcases ie e1 with h1|⟨h1,_⟩
    ·exact h1
    ·have:=lt e3;rw[E.jl] at h1;omega
   rcases sat e4 with e4|⟨e4,_⟩
   ·have h2:j[m]? =some a:=by
     rcases ie e2 with h2|⟨h2,_⟩
     ·exact h2
     ·have:=lt e4;rw[E.jl] at h2;omega
    exact E.inj n m a c1 c2 h1 h2 e3 e4 z1 z2
   ·have:a=p:=by
     rcases ie e2 with h2|⟨_,h2⟩
     ·have:=(E8.1 h2).1;rw[E.jl] at this;omega
     ·exact h2
    exact absurd this (iP h1 e3 z1)
  ·have:a=p:=by
    rcases ie e1 with h2|⟨_,h2⟩
    ·have:=(E8.1 h2).1;rw[E.jl] at this;omega
    ·exact h2
   rcases sat e4 with e4|⟨e4,_⟩
   ·have h2:j[m]? =some a:=by
     rcases ie e2 with h2|⟨h2,_⟩
     ·exact h2
     ·have:=lt e4;rw[E.jl] at h2;omega
    exact absurd this (iP h2 e4 z2)
   ·rw[e3,e4]
 ·rcases sat e1 with e1|⟨e1,rfl⟩
  ·have h2:j[n]? =some a:=by
    rcases ie e2 with h2|⟨h2,_⟩
    ·exact h2
    ·have:=lt e1;rw[E.jl] at h2;omega
   have hh:=E.cel n d a e1 h2
   exact hh.mono X λz=>yb (iP h2 e1 z)
  ·have:a=p:=by
    rcases ie e2 with h2|⟨_,h2⟩
    ·have:=(E8.1 h2).1;rw[E.jl] at this;omega
    ·exact h2
   subst this
   exact hc
 ·obtain⟨d',e1,e2⟩:=E.old n d e
  exact⟨d',by rw[Ed (lt e1)];exact e1,e2⟩
 ·rcases E.keep b u e with h'|h'
  ·exact .inl (vA h _ _ h')
  ·exact .inr h'
 ·rcases ie e with e|⟨_,rfl⟩
  ·exact E.fresh n a hn e
  ·exact E.dom _ h
 ·refine E.dom b ?_
  cases e':H b with
  |none=>rfl
  |some u=>rw[vA h b u e'] at e;cases e
theorem En.writeF (E:En K F j H σ ρ S) (hs:S[n]? =some c) (z:c.fz=false) (hj:j[n]? =some a) (hc:∀X:Ext j H j (upd H a o),zbd K j (upd H a o) a c'):En K F j (upd H a o) σ ρ (S.set n c')/\Ext j H j (upd H a o):=by
 obtain⟨o0,h0,m0⟩:=(E.cel n c a hs hj).mu z
 have X:Ext j H j (upd H a o):=⟨λ_ _ e=>e,λb u e m=>by
  have:b≠a:=λq=>by subst q;rw[h0] at e;cases e;rw[m] at m0;cases m0
  rw[yb this];exact e⟩
 have sat:∀{m:Nat} {d:Ce},(S.set n c')[m]? =some d->(m=n/\d=c')\/(m≠n/\S[m]? =some d):=λ{m d} e=>by
  rw[Ex] at e
  split at e
  ·rename_i q
   split at e
   ·cases e;exact .inl ⟨q.symm,rfl⟩
   ·cases e
  ·rename_i q
   exact .inr ⟨λr=>q r.symm,e⟩
 have uy:∀{m:Nat} {d:Ce},(S.set n c')[m]? =some d->∃d',S[m]? =some d'/\(d.fz=false->d'.fz=false):=λ{m d} e=>by
  rcases sat e with⟨rfl,rfl⟩|⟨_,e⟩
  ·exact⟨c,hs,λ_=>z⟩
  ·exact⟨d,e,λy=>y⟩
 refine⟨⟨E.len,λi x e=> ?_,by simp[E.jl],λk m b c1 c2 e1 e2 e3 e4 z1 z2=> ?_,λm d b e1 e2=> ?_,E.ext.trans X,λm d e=> ?_,E.l0,λb u e=> ?_,E.fresh,λb e=> ?_⟩,X⟩
 ·obtain⟨v,e1,e2⟩:=E.slot i x e
  exact⟨v,e1,e2.mono X⟩
 ·obtain⟨d1,f1,g1⟩:=uy e3
  obtain⟨d2,f2,g2⟩:=uy e4
  exact E.inj k m b d1 d2 e1 e2 f1 f2 (g1 z1) (g2 z2)
 ·rcases sat e1 with⟨rfl,rfl⟩|⟨q,e1⟩
  ·rw[hj] at e2
   cases e2
   exact hc X
  ·refine (E.cel m d b e1 e2).mono X λzd=>yb λr=> ?_
   subst r
   exact q (E.inj m n b d c e2 hj e1 hs zd z)
 ·obtain⟨d',e1,e2,e3⟩:=E.old m d e
  by_cases q:m=n
  ·subst q
   rw[hs] at e1
   cases e1
   refine⟨c',by rw[Ex,if_pos rfl,if_pos (E8.1 hs).1],λ_=>e2 z,λy=> ?_⟩
   rw[e2 z] at y
   cases y
  ·exact⟨d',by rw[Ex,if_neg (λr=>q r.symm)];exact e1,e2,e3⟩
 ·by_cases q:b=a
  ·subst q
   by_cases hn:n<F.j0.length
   ·have uh:F.j0[n]? =some b:=by
     have e1:F.j0[n]? =some F.j0[n]:=DZ hn
     have e2:=E.ext.pre n _ e1
     rw[hj] at e2
     cases e2
     exact e1
    have gG:n<F.S0.length:=by rw[<-E.l0];exact hn
    obtain⟨d',f1,f2,_⟩:=E.old n _ (DZ gG)
    rw[hs] at f1
    cases f1
    exact .inr ⟨n,_,uh,DZ gG,f2 z⟩
   ·rw[E.fresh n b ⋯ hj] at e
    cases e
  ·rcases E.keep b u e with h|h
   ·exact .inl (by rw[yb q];exact h)
   ·exact .inr h
 ·by_cases q:b=a
  ·subst q;rw[yj] at e;cases e
  ·rw[yb q] at e;exact E.dom b e
theorem En.write (E:En K F j H σ ρ S) (hs:S[n]? =some c) (z:c.fz=false) (hj:j[n]? =some a) (_:c'.fz=false) (hc:∀X:Ext j H j (upd H a o),zbd K j (upd H a o) a c'):En K F j (upd H a o) σ ρ (S.set n c')/\Ext j H j (upd H a o):=E.writeF hs z hj hc
theorem En.slots (E:En K F j H σ ρ S) (hl:σ'.length=ρ'.length) (h:∀(i:Nat) x,ρ'[i]? =some (some x)->∃v,σ'[i]? =some (some v)/\Xis K j H x v):En K F j H σ' ρ' S:=
 ⟨hl,h,E.jl,E.inj,E.cel,E.ext,E.old,E.l0,E.keep,E.fresh,E.dom⟩
theorem En.set (E:En K F j H σ ρ S) (h:Xis K j H x v):En K F j H (σ.set i (some v)) (ρ.set i (some x)) S:=E.slots (by simp[E.len]) λk y e=>by
 rw[Ex] at e ⊢
 split at e
 ·rename_i q
  subst q
  split at e
  ·rename_i hl
   cases e
   rw[if_pos rfl,if_pos (by rw[E.len];exact hl)]
   exact⟨v,rfl,h⟩
  ·cases e
 ·rename_i q
  rw[if_neg q]
  exact E.slot k y e
theorem En.enter (E:En K F j H σ ρ S) (hl:σ'.length=ρ'.length) (h:∀(i:Nat) x,ρ'[i]? =some (some x)->∃v,σ'[i]? =some (some v)/\Xis K j H x v):En K ⟨H,j,S⟩ j H σ' ρ' S:=
 ⟨hl,h,E.jl,E.inj,E.cel,Ext.refl,λn c e=>⟨c,e,λz=>z,λ_=>rfl⟩,E.jl,λb u e=> .inl e,λn a hn e=>by have:=(E8.1 e).1;dsimp only at hn;omega,λb e=>e⟩
theorem En.leave (E:En K F j H σ ρ S) (X:En K ⟨H,j,S⟩ j' H' σ' ρ' S'):En K F j' H' σ ρ S'/\Ext j H j' H':=by
 have e:Ext j H j' H':=X.ext
 refine⟨⟨E.len,λi x h=> ?_,X.jl,X.inj,X.cel,E.ext.trans e,λn c h=> ?_,E.l0,λb u h=> ?_,λn a hn h=> ?_,λb h=>E.dom b (X.dom b h)⟩,e⟩
 ·obtain⟨v,e1,e2⟩:=E.slot i x h
  exact⟨v,e1,e2.mono e⟩
 ·obtain⟨c1,e1,e2,e3⟩:=E.old n c h
  obtain⟨c2,f1,f2,f3⟩:=X.old n c1 e1
  refine⟨c2,f1,λz=>e2 (f2 z),λz=> ?_⟩
  obtain rfl:=e3 z
  exact f3 z
 ·rcases E.keep b u h with h1|h1
  ·rcases X.keep b u h1 with h2|⟨n,c,h2,h3,h4⟩
   ·exact .inl h2
   ·by_cases hn:n<F.j0.length
    ·have e1:F.j0[n]? =some F.j0[n]:=DZ hn
     have e2:=E.ext.pre n _ e1
     have qH:j[n]? =some b:=h2
     rw[qH] at e2
     cases e2
     have gG:n<F.S0.length:=by rw[<-E.l0];exact hn
     obtain⟨c1,f1,f2,_⟩:=E.old n _ (DZ gG)
     have qG:S[n]? =some c:=h3
     rw[qG] at f1
     cases f1
     exact .inr ⟨n,_,e1,DZ gG,f2 h4⟩
    ·have:=E.fresh n b ⋯ h2
     rw[this] at h;cases h
  ·exact .inr h1
 ·by_cases hm:n<j.length
  ·have e1:j[n]? =some j[n]:=DZ hm
   have e2:=e.pre n _ e1
   rw[h] at e2
   cases e2
   exact E.fresh n _ hn e1
  ·exact E.dom a (X.fresh n a (by dsimp only;omega) h)
theorem En.grow {k:Nat} (E:En K F j H σ ρ S):En K F j H (σ++F4 k none) (ρ++F4 k none) S:=E.slots (by simp[E.len]) λi x e=>by
 by_cases hi:i<ρ.length
 ·rw[Ed hi] at e
  rw[Ed (by rw[E.len];exact hi)]
  exact E.slot i x e
 ·rw[Eu ⋯,FX] at e
  split at e
  ·cases e
  ·cases e
end
inductive Rs (α:Type) where
 |ok (a:α) (S:Sto)
 |ex (c:Str) (S:Sto)
abbrev TwE:=Rho->Sto->Option (Rs Xv)
abbrev TwT:=Rho->Sto->Option (Rs Bool)
abbrev TwL:=Rho->Sto->Option (Rs (List Xv))
abbrev TwO:=Rho->Sto->Option (Rs (Option Int))
abbrev TwG:=Xv->Rho->Sto->Option (Rs Rho)
abbrev zci:=List Xv->Rho->Sto->Option (Rs Rho)
abbrev TwI:=Rho->Sto->Option (Rs (Sto->Option (List Xv)))
inductive Fl where
 |nx (ρ:Rho) (S:Sto)
 |bk (ρ:Rho) (S:Sto)
 |ct (ρ:Rho) (S:Sto)
 |rt (x:Xv) (S:Sto)
 |ex (c:Str) (S:Sto)
abbrev TwS:=Rho->Sto->Option Fl
noncomputable def rb {α β:Type} (m:Option (Rs α)) (f:α->Sto->Option (Rs β)):Option (Rs β):=match m with
 |some (.ok a S)=>f a S
 |some (.ex c S)=>some (.ex c S)
 |none=>none
noncomputable def sb {α:Type} (m:Option (Rs α)) (f:α->Sto->Option Fl):Option Fl:=match m with
 |some (.ok a S)=>f a S
 |some (.ex c S)=>some (.ex c S)
 |none=>none
theorem zA {α β:Type} {m:Option (Rs α)} {f:α->Sto->Option (Rs β)} {r:Rs β} (h:rb m f=some r):(∃a S,m=some (.ok a S)/\f a S=some r)\/∃c S,m=some (.ex c S)/\r= .ex c S:=by
 unfold rb at h
 split at h
 ·exact .inl ⟨_,_,rfl,h⟩
 ·cases h;exact .inr ⟨_,_,rfl,rfl⟩
 ·cases h
theorem xt {α:Type} {m:Option (Rs α)} {f:α->Sto->Option Fl} {r:Fl} (h:sb m f=some r):(∃a S,m=some (.ok a S)/\f a S=some r)\/∃c S,m=some (.ex c S)/\r= .ex c S:=by
 unfold sb at h
 split at h
 ·exact .inl ⟨_,_,rfl,h⟩
 ·cases h;exact .inr ⟨_,_,rfl,rfl⟩
 ·cases h
def PX (K:E9) (F:Fm) (j:List Addr) (H:Hp) (E:XK) (c:Str) (S':Sto):Prop:=
 ∀j' H' σ' ρ' C,Ext j H j' H'->En K F j' H' σ' ρ' S'->Es K mainGlobals c=some (some (.ref C))->E (.ref C) none H'
theorem PX.mono {K:E9} {F:Fm} {j j1:List Addr} {H H1:Hp} {E:XK} {c:Str} {S':Sto} (h:PX K F j H E c S') (e:Ext j H j1 H1):PX K F j1 H1 E c S':=λj' H' σ' ρ' C x y z=>h j' H' σ' ρ' C (e.trans x) y z
def Po {α:Type} (K:E9) (F:Fm) (j:List Addr) (H:Hp) (σ:St) (ρ:Rho) (E:XK) (P:α->List Addr->Hp->Prop):Rs α->Prop
 | .ok a S'=>∀j' H',Ext j H j' H'->En K F j' H' σ ρ S'->P a j' H'
 | .ex c S'=>PX K F j H E c S'
theorem Po.step {α:Type} {K:E9} {F:Fm} {j j1:List Addr} {H H1:Hp} {σ:St} {ρ:Rho} {E:XK} {P:α->List Addr->Hp->Prop}:∀{r:Rs α},Po K F j H σ ρ E P r->Ext j H j1 H1->Po K F j1 H1 σ ρ E P r
 | .ok a S',h,e=>λj' H' x y=>h j' H' (e.trans x) y
 | .ex c S',h,e=>PX.mono h e
noncomputable abbrev PoV (K:E9) (Q:VK):Xv->List Addr->Hp->Prop:=λx j' H'=>∀v,Xis K j' H' x v->Q v H'
def RE (K:E9) (E:XK) (t:TE) (m:TwE):Prop:=∀{F:Fm} {j:List Addr} {σ:St} {H:Hp} {ρ:Rho} {S:Sto} {r:Rs Xv} {Q:VK},En K F j H σ ρ S->m ρ S=some r->Po K F j H σ ρ E (PoV K Q) r->t σ H Q
def RT (K:E9) (E:XK) (t:TT) (m:TwT):Prop:=∀{F:Fm} {j:List Addr} {σ:St} {H:Hp} {ρ:Rho} {S:Sto} {r:Rs Bool} {Q:Bool->Hp->Prop},En K F j H σ ρ S->m ρ S=some r->Po K F j H σ ρ E (λb _ H'=>Q b H') r->t σ H Q
def RL (K:E9) (E:XK) (t:TA) (m:TwL):Prop:=∀{F:Fm} {j:List Addr} {σ:St} {H:Hp} {ρ:Rho} {S:Sto} {r:Rs (List Xv)} {Q:List V->Hp->Prop},En K F j H σ ρ S->m ρ S=some r->Po K F j H σ ρ E (λxs j' H'=>∀vs,zO K j' H' xs vs->Q vs H') r->t σ H Q
def RO (K:E9) (E:XK) (t:TO) (m:TwO):Prop:=∀{F:Fm} {j:List Addr} {σ:St} {H:Hp} {ρ:Rho} {S:Sto} {r:Rs (Option Int)} {Q:Option Int->Hp->Prop},En K F j H σ ρ S->m ρ S=some r->Po K F j H σ ρ E (λo _ H'=>Q o H') r->t σ H Q
def PoG (K:E9) (F:Fm) (j:List Addr) (H:Hp) (E:XK) (R:St->Hp->Prop):Rs Rho->Prop
 | .ok ρ' S'=>∀σ' j' H',Ext j H j' H'->En K F j' H' σ' ρ' S'->R σ' H'
 | .ex c S'=>PX K F j H E c S'
theorem PoG.step {K:E9} {F:Fm} {j j1:List Addr} {H H1:Hp} {E:XK} {R:St->Hp->Prop}:∀{r:Rs Rho},PoG K F j H E R r->Ext j H j1 H1->PoG K F j1 H1 E R r
 | .ok a S',h,e=>λσ' j' H' x y=>h σ' j' H' (e.trans x) y
 | .ex c S',h,e=>PX.mono h e
def RG (K:E9) (E:XK) (t:TG) (g:TwG):Prop:=∀{F:Fm} {j:List Addr} {σ:St} {H:Hp} {ρ:Rho} {S:Sto} {r:Rs Rho} {x:Xv} {v:V} {R:St->Hp->Prop},En K F j H σ ρ S->Xis K j H x v->g x ρ S=some r->PoG K F j H E R r->t v σ H R
def RGs (K:E9) (E:XK) (t:TGs) (g:zci):Prop:=∀{F:Fm} {j:List Addr} {σ:St} {H:Hp} {ρ:Rho} {S:Sto} {r:Rs Rho} {xs:List Xv} {vs:List V} {R:St->Hp->Prop},En K F j H σ ρ S->zO K j H xs vs->g xs ρ S=some r->PoG K F j H E R r->t vs σ H R
def zi3 (K:E9) (F:Fm) (j:List Addr) (H:Hp) (E:XK) (D':VO):Fl->Prop
 | .nx ρ S=>∀σ j' H',Ext j H j' H'->En K F j' H' σ ρ S->D'.nx σ H'
 | .bk ρ S=>∀σ j' H',Ext j H j' H'->En K F j' H' σ ρ S->D'.bk σ H'
 | .ct ρ S=>∀σ j' H',Ext j H j' H'->En K F j' H' σ ρ S->D'.ct σ H'
 | .rt x S=>∀v σ ρ j' H',Ext j H j' H'->En K F j' H' σ ρ S->Xis K j' H' x v->D'.rt v H'
 | .ex c S=>PX K F j H E c S
theorem zi3.step {K:E9} {F:Fm} {j j1:List Addr} {H H1:Hp} {E:XK} {D':VO}:∀{fl:Fl},zi3 K F j H E D' fl->Ext j H j1 H1->zi3 K F j1 H1 E D' fl
 | .nx _ _,h,e=>λσ j' H' x y=>h σ j' H' (e.trans x) y
 | .bk _ _,h,e=>λσ j' H' x y=>h σ j' H' (e.trans x) y
 | .ct _ _,h,e=>λσ j' H' x y=>h σ j' H' (e.trans x) y
 | .rt _ _,h,e=>λv σ ρ j' H' x y z=>h v σ ρ j' H' (e.trans x) y z
 | .ex _ _,h,e=>PX.mono h e
def RS (K:E9) (E:XK) (t:TS) (m:TwS):Prop:=∀{F:Fm} {j:List Addr} {D':VO} {σ:St} {H:Hp} {ρ:Rho} {S:Sto} {fl:Fl},En K F j H σ ρ S->m ρ S=some fl->zi3 K F j H E D' fl->t D' σ H
def zl8 (K:E9) (j:List Addr) (H:Hp) (J:It) (get:Sto->Option (List Xv)):Prop:=∀{F:Fm} {j':List Addr} {H':Hp} {σ:St} {ρ:Rho} {S:Sto} {xs:List Xv} (i:Nat),Ext j H j' H'->En K F j' H' σ ρ S->get S=some xs->
 (∀x,xs[i]? =some x->J.go i H'/\∀v H'',J.yld i H' v H''->WL H' H''/\Xis K j' H'' x v)/\(i=xs.length->J.stop i H')
def RI (K:E9) (E:XK) (t:TI) (m:TwI):Prop:=∀{F:Fm} {j:List Addr} {σ:St} {H:Hp} {ρ:Rho} {S:Sto} {r:Rs (Sto->Option (List Xv))} {R:It->Hp->Prop},En K F j H σ ρ S->m ρ S=some r->Po K F j H σ ρ E (λget j' H'=>∀J,zl8 K j' H' J get->R J H') r->t σ H R
abbrev Op2:=Xv->Xv->Sto->Option (Xv×Sto)
abbrev Opn:=List Xv->Sto->Option (Xv×Sto)
def WP (K:E9) (r:R2) (f:Op2):Prop:=∀{F:Fm} {j:List Addr} {σ:St} {H:Hp} {ρ:Rho} {S S':Sto} {x y z:Xv} {u v:V} {Q:VK},En K F j H σ ρ S->Xis K j H x u->Xis K j H y v->f x y S=some (z,S')->(∀w j' H',Ext j H j' H'->En K F j' H' σ ρ S'->Xis K j' H' z w->Q w H')->r u v H Q
def zl9 (K:E9) (r:V->Hp->VK->Prop) (f:Xv->Sto->Option (Xv×Sto)):Prop:=∀{F:Fm} {j:List Addr} {σ:St} {H:Hp} {ρ:Rho} {S S':Sto} {x z:Xv} {u:V} {Q:VK},En K F j H σ ρ S->Xis K j H x u->f x S=some (z,S')->(∀w j' H',Ext j H j' H'->En K F j' H' σ ρ S'->Xis K j' H' z w->Q w H')->r u H Q
def TW (K:E9) (r:List V->Hp->VK->Prop) (f:Opn):Prop:=∀{F:Fm} {j:List Addr} {σ:St} {H:Hp} {ρ:Rho} {S S':Sto} {xs:List Xv} {z:Xv} {vs:List V} {Q:VK},En K F j H σ ρ S->zO K j H xs vs->f xs S=some (z,S')->(∀w j' H',Ext j H j' H'->En K F j' H' σ ρ S'->Xis K j' H' z w->Q w H')->r vs H Q
noncomputable def ze (i:Nat):TwE:=λρ S=>match ρ[i]? with
 |some (some x)=>some (.ok x S)
 |_=>none
noncomputable def eC (x:Xv):TwE:=λ_ S=>some (.ok x S)
noncomputable def okP (o:Option (Xv×Sto)):Option (Rs Xv):=o.map λp=> .ok p.1 p.2
theorem wA {o:Option (Xv×Sto)} {r:Rs Xv} (h:okP o=some r):∃z S,o=some (z,S)/\r= .ok z S:=by
 cases o with
 |none=>cases h
 |some p=>cases h;exact⟨_,_,rfl,rfl⟩
noncomputable def eOp (f:Op2) (a b:TwE):TwE:=λρ S=>rb (a ρ S) λx S1=>rb (b ρ S1) λy S2=>okP (f x y S2)
noncomputable def eUn (f:Xv->Sto->Option (Xv×Sto)) (a:TwE):TwE:=λρ S=>rb (a ρ S) λx S1=>okP (f x S1)
noncomputable def bE (m:TwE):TwT:=λρ S=>rb (m ρ S) λx S1=>match x with
 | .bl b=>some (.ok b S1)
 |_=>none
noncomputable def zkN (a b:TwT):TwT:=λρ S=>rb (a ρ S) λx S1=>if x then b ρ S1 else some (.ok false S1)
noncomputable def bOr (a b:TwT):TwT:=λρ S=>rb (a ρ S) λx S1=>if x then some (.ok true S1) else b ρ S1
noncomputable def zf7 (a:TwT):TwT:=λρ S=>rb (a ρ S) λx S1=>some (.ok (!x) S1)
noncomputable def evL:List TwE->TwL
 |[]=>λ_ S=>some (.ok [] S)
 |m::r=>λρ S=>rb (m ρ S) λx S1=>rb (evL r ρ S1) λxs S2=>some (.ok (x::xs) S2)
noncomputable def vD (ms:List TwE):TwE:=λρ S=>rb (evL ms ρ S) λxs S1=>some (.ok (.tup xs) S1)
noncomputable def Zr (ms:List TwE):TwE:=λρ S=>rb (evL ms ρ S) λxs S1=>some (.ok (.ref S1.length) (S1++[.lst xs]))
noncomputable def eFn (f:Opn) (ms:List TwE):TwE:=λρ S=>rb (evL ms ρ S) λxs S1=>okP (f xs S1)
section
variable {K:E9} {E:XK} {F:Fm} {j:List Addr} {H:Hp} {σ:St} {ρ:Rho} {S:Sto}
theorem Po.val {Q:VK} {x:Xv} {v:V} (k:Po K F j H σ ρ E (PoV K Q) (.ok x S)) (En0:En K F j H σ ρ S) (h:Xis K j H x v):Q v H:=k j H Ext.refl En0 v h
theorem zb (i:Nat):RE K E (zkt i) (ze i):=by
 intro F j σ H ρ S r Q En0 e k
 unfold ze at e
 split at e
 ·rename_i x ex
  cases e
  obtain⟨v,e1,e2⟩:=En0.slot i _ ex
  exact⟨v,e1,k.val En0 e2⟩
 ·cases e
theorem zi4 {v:V} {x:Xv} (h:∀j H,Xis K j H x v):RE K E (tC v) (eC x):=λEn0 e k=>by
 cases e
 exact k.val En0 (h _ _)
theorem zo (i:Int):RE K E (tC (.int i)) (eC (.int i)):=zi4 λ_ _=> .int i
theorem TX (b:Bool):RE K E (tC (.bl b)) (eC (.bl b)):=zi4 λ_ _=> .bl b
theorem zt {r:R2} {f:Op2} {ta tb:TE} {a b:TwE} (ho:WP K r f) (ha:RE K E ta a) (hb:RE K E tb b):RE K E (tOp r ta tb) (eOp f a b):=by
 intro F j σ H ρ S r Q En0 e k
 rcases zA e with⟨x,S1,e1,e⟩|⟨c,S1,e1,rfl⟩
 ·refine ha En0 e1 λj1 H1 X1 E1 u hu=> ?_
  rcases zA e with⟨y,S2,e2,e⟩|⟨c,S2,e2,rfl⟩
  ·obtain⟨z,S3,e3,rfl⟩:=wA e
   exact hb E1 e2 λj2 H2 X2 E2 v hv=>ho E2 (hu.mono X2) hv e3 λw j3 H3 X3 E3 hw=>k _ _ (X1.trans (X2.trans X3)) E3 _ hw
  ·exact hb E1 e2 (PX.mono k X1)
 ·exact ha En0 e1 k
theorem TY {r:V->Hp->VK->Prop} {f:Xv->Sto->Option (Xv×Sto)} {ta:TE} {a:TwE} (ho:zl9 K r f) (ha:RE K E ta a):RE K E (tUn r ta) (eUn f a):=by
 intro F j σ H ρ S r Q En0 e k
 rcases zA e with⟨x,S1,e1,e⟩|⟨c,S1,e1,rfl⟩
 ·obtain⟨z,S3,e3,rfl⟩:=wA e
  exact ha En0 e1 λj1 H1 X1 E1 u hu=>ho E1 hu e3 λw j3 H3 X3 E3 hw=>k _ _ (X1.trans X3) E3 _ hw
 ·exact ha En0 e1 k
theorem ZL {t:TE} {m:TwE} (h:RE K E t m):RT K E (tB t) (bE m):=by
 intro F j σ H ρ S r Q En0 e k
 rcases zA e with⟨x,S1,e1,e⟩|⟨c,S1,e1,rfl⟩
 ·split at e
  ·cases e
   exact h En0 e1 λj1 H1 X1 E1 u hu=>⟨_,hu.bl_inv,k _ _ X1 E1⟩
  ·cases e
 ·exact h En0 e1 k
theorem vf {t:TE} {m:TwE} (h:RE K E t m):RT K E (zj1 t) (bE m):=ZL h
theorem zkO {t u:TT} {a b:TwT} (ha:RT K E t a) (hb:RT K E u b):RT K E (zlP t u) (zkN a b):=by
 intro F j σ H ρ S r Q En0 e k
 rcases zA e with⟨x,S1,e1,e⟩|⟨c,S1,e1,rfl⟩
 ·refine ha En0 e1 λj1 H1 X1 E1=> ?_
  cases x with
  |true=>exact hb E1 e (k.step X1)
  |false=>cases e;exact k _ _ X1 E1
 ·exact ha En0 e1 k
theorem zbG {t u:TT} {a b:TwT} (ha:RT K E t a) (hb:RT K E u b):RT K E (tOr t u) (bOr a b):=by
 intro F j σ H ρ S r Q En0 e k
 rcases zA e with⟨x,S1,e1,e⟩|⟨c,S1,e1,rfl⟩
 ·refine ha En0 e1 λj1 H1 X1 E1=> ?_
  cases x with
  |true=>cases e;exact k _ _ X1 E1
  |false=>exact hb E1 e (k.step X1)
 ·exact ha En0 e1 k
theorem zcj {t:TT} {a:TwT} (ha:RT K E t a):RT K E (zlQ t) (zf7 a):=by
 intro F j σ H ρ S r Q En0 e k
 rcases zA e with⟨x,S1,e1,e⟩|⟨c,S1,e1,rfl⟩
 ·cases e
  exact ha En0 e1 λj1 H1 X1 E1=>k _ _ X1 E1
 ·exact ha En0 e1 k
theorem zg:RL K E zc9 (evL []):=λEn0 e k=>by
 cases e
 exact k _ _ Ext.refl En0 [] .nil
theorem zc {ta:TE} {tr:TA} {m:TwE} {ms:List TwE} (ha:RE K E ta m) (hr:RL K E tr (evL ms)):RL K E (Wz ta tr) (evL (m::ms)):=by
 intro F j σ H ρ S r Q En0 e k
 rcases zA e with⟨x,S1,e1,e⟩|⟨c,S1,e1,rfl⟩
 ·refine ha En0 e1 λj1 H1 X1 E1 u hu=> ?_
  rcases zA e with⟨xs,S2,e2,e⟩|⟨c,S2,e2,rfl⟩
  ·cases e
   exact hr E1 e2 λj2 H2 X2 E2 vs hv=>k _ _ (X1.trans X2) E2 (u::vs) (.cons (hu.mono X2) hv)
  ·exact hr E1 e2 (PX.mono k X1)
 ·exact ha En0 e1 k
theorem UZ:∀{ms:List TwE} {ρ:Rho} {S S':Sto} {xs:List Xv},evL ms ρ S=some (.ok xs S')->xs.length=ms.length
 |[],_,_,_,_,h=>by cases h;rfl
 |m::ms,ρ,S,S',xs,h=>by
  rcases zA h with⟨x,S1,e1,h⟩|⟨c,S1,e1,z⟩
  ·rcases zA h with⟨ys,S2,e2,h⟩|⟨c,S2,e2,z⟩
   ·cases h
    simp[UZ e2]
   ·cases z
  ·cases z
theorem yM {t:TA} {ms:List TwE} (h:RL K E t (evL ms)) (hl:ms.length<=1000:=by simp):RE K E (zl0 t) (vD ms):=by
 intro F j σ H ρ S r Q En0 e k
 rcases zA e with⟨xs,S1,e1,e⟩|⟨c,S1,e1,rfl⟩
 ·cases e
  refine h En0 e1 λj1 H1 X1 E1 vs hv=>⟨?_,λp hp=> ?_⟩
  ·rw[hv.len,UZ e1]
   exact Ey hl ∅
  ·obtain⟨E2,X2⟩:=E1.new (o:= .tup vs) hp
   exact k _ _ (X1.trans X2) E2 _ (.tup yj (hv.mono X2))
 ·exact h En0 e1 k
theorem En.lst {xs:List Xv} {vs:List V} {p:Addr} (En0:En K F j H σ ρ S) (hv:zO K j H xs vs) (hp:H p=none):En K F (j++[p]) (upd H p (.lst vs)) σ ρ (S++[.lst xs])/\Ext j H (j++[p]) (upd H p (.lst vs))/\Xis K (j++[p]) (upd H p (.lst vs)) (.ref S.length) (.ref p):=by
 have X:Ext j H (j++[p]) (upd H p (.lst vs)):=⟨λn a e=>by rw[Ed (E8.1 e).1];exact e,ZE.same (vA hp)⟩
 obtain⟨E1,_⟩:=En0.cell (o:= .lst vs) (c:= .lst xs) hp ⟨vs,yj,hv.mono X⟩
 exact⟨E1,X,.ref (by rw[<-En0.jl];simp)⟩
theorem xl {t:TA} {ms:List TwE} (h:RL K E t (evL ms)) (hl:ms.length<=1000:=by simp):RE K E (zl1 t) (Zr ms):=by
 intro F j σ H ρ S r Q En0 e k
 rcases zA e with⟨xs,S1,e1,e⟩|⟨c,S1,e1,rfl⟩
 ·cases e
  refine h En0 e1 λj1 H1 X1 E1 vs hv=>⟨?_,λp hp=> ?_⟩
  ·rw[hv.len,UZ e1]
   exact Ey hl ∅
  ·obtain⟨E2,X2,h2⟩:=E1.lst hv hp
   exact k _ _ (X1.trans X2) E2 _ h2
 ·exact h En0 e1 k
theorem xV {t:TA} {ms:List TwE} {r:List V->Hp->VK->Prop} {f:Opn} (hr:TW K r f) (h:RL K E t (evL ms)):RE K E (tCB r t) (eFn f ms):=by
 intro F j σ H ρ S r Q En0 e k
 rcases zA e with⟨xs,S1,e1,e⟩|⟨c,S1,e1,rfl⟩
 ·obtain⟨z,S3,e3,rfl⟩:=wA e
  exact h En0 e1 λj1 H1 X1 E1 vs hv=>hr E1 hv e3 λw j3 H3 X3 E3 hw=>k _ _ (X1.trans X3) E3 _ hw
 ·exact h En0 e1 k
end
noncomputable def zu (S:Sto):Xv->Option (List Xv)
 | .ref n=>match S[n]? with
  |some (.lst xs)=>some xs
  |some (.frz xs)=>some xs
  |_=>none
 |_=>none
noncomputable def Vn (S:Sto) (x:Xv):Option (List Xv):=match x.tupOf with
 |some xs=>some xs
 |none=>zu S x
noncomputable def UR (S:Sto):Xv->Option (Nat×List Xv)
 | .ref n=>match S[n]? with
  |some (.lst xs)=>some (n,xs)
  |_=>none
 |_=>none
section
variable {K:E9} {E:XK} {F:Fm} {j:List Addr} {H:Hp} {σ:St} {ρ:Rho} {S:Sto} {x:Xv} {v:V}
theorem En.lstAt {xs:List Xv} (E0:En K F j H σ ρ S) (hx:Xis K j H x v) (h:L2.zu S x=some xs):∃a vs,v= .ref a/\SqX K H a vs/\zO K j H xs vs:=by
 cases x<;>simp only[L2.zu,reduceCtorEq] at h
 obtain⟨a,rfl,hj⟩:=hx.ref_inv
 split at h
 ·cases h
  obtain⟨vs,e1,e2⟩:=E0.cel _ _ _ (by assumption) hj
  exact⟨a,vs,rfl,SqX.of e1,e2⟩
 ·cases h
  obtain⟨vs,e1,e2⟩:=E0.cel _ _ _ (by assumption) hj
  refine⟨a,vs,rfl,?_,e2⟩
  rcases e1 with⟨o,e1⟩|e1
  ·exact .inl (.inr ⟨o,e1⟩)
  ·exact e1 H
 ·cases h
theorem En.seqAt {xs:List Xv} (E0:En K F j H σ ρ S) (hx:Xis K j H x v) (h:L2.Vn S x=some xs):∃a vs,v= .ref a/\(SqX K H a vs\/SqT K H a vs)/\zO K j H xs vs:=by
 unfold L2.Vn at h
 split at h
 ·cases h
  obtain⟨a,vs,e1,e2,e3⟩:=hx.tupO (by assumption)
  exact⟨a,vs,e1,.inr e2,e3⟩
 ·obtain⟨a,vs,e1,e2,e3⟩:=E0.lstAt hx h
  exact⟨a,vs,e1,.inl e2,e3⟩
theorem zbH {n:Nat} {xs:List Xv} (h:UR S x=some (n,xs)):x= .ref n/\S[n]? =some (.lst xs):=by
 cases x<;>simp only[UR,reduceCtorEq] at h
 split at h
 ·cases h;exact⟨rfl,by assumption⟩
 ·cases h
theorem En.wl {n:Nat} {xs:List Xv} (E0:En K F j H σ ρ S) (hx:Xis K j H x v) (h:UR S x=some (n,xs)):∃a vs,v= .ref a/\j[n]? =some a/\H a=some (.lst vs)/\zO K j H xs vs:=by
 obtain⟨rfl,hs⟩:=zbH h
 obtain⟨a,rfl,hj⟩:=hx.ref_inv
 obtain⟨vs,e1,e2⟩:=E0.cel _ _ _ hs hj
 exact⟨a,vs,rfl,hj,e1,e2⟩
theorem En.wr {n:Nat} {xs ys:List Xv} {ws:List V} {a:Addr} (E0:En K F j H σ ρ S) (h:UR S x=some (n,xs)) (hj:j[n]? =some a) (hw:zO K j H ys ws):En K F j (upd H a (.lst ws)) σ ρ (S.set n (.lst ys))/\Ext j H j (upd H a (.lst ws)):=
 E0.write (zbH h).2 rfl hj rfl λX=>⟨ws,yj,hw.mono X⟩
theorem tyL {a:Addr} {vs:List V} (h:SqL K H a vs):tyV K "list" (.ref a) H:= .inl ⟨rfl,vs,h⟩
noncomputable def XI:Op2:=λx y S=>match x.tupOf,y with
 |some xs,.int i=>(atI xs i).map λz=>(z,S)
 |_,_=>none
noncomputable def xm:Op2:=λx y S=>match zu S x,y with
 |some xs,.int i=>(atI xs i).map λz=>(z,S)
 |_,_=>none
theorem ZV:WP K (zkF K) XI:=by
 intro F j σ H ρ S S' x y z u v Q E0 hx hy h k
 unfold XI at h
 split at h
 ·rename_i xs i ex
  cases e:atI xs i with
  |none=>rw[e] at h;cases h
  |some z'=>
   rw[e] at h
   cases h
   obtain⟨a,vs,rfl,h1,h2⟩:=hx.tupO ex
   obtain⟨w,e1,e2⟩:=h2.at_ e
   exact⟨a,vs,_,w,rfl,hy.int_inv,h1,e1,k _ _ _ Ext.refl E0 e2⟩
 ·cases h
theorem yp:WP K (zkE K) xm:=by
 intro F j σ H ρ S S' x y z u v Q E0 hx hy h k
 unfold xm at h
 split at h
 ·rename_i xs i ex
  cases e:atI xs i with
  |none=>rw[e] at h;cases h
  |some z'=>
   rw[e] at h
   cases h
   obtain⟨a,vs,rfl,h1,h2⟩:=E0.lstAt hx ex
   obtain⟨w,e1,e2⟩:=h2.at_ e
   exact⟨a,vs,_,w,rfl,hy.int_inv,h1.sql,e1,k _ _ _ Ext.refl E0 e2⟩
 ·cases h
noncomputable def zfd (m:TwE):TwO:=λρ S=>rb (m ρ S) λx S1=>match x with
 | .int i=>some (.ok (some i) S1)
 |_=>none
theorem zfe {t:TE} {m:TwE} (h:RE K E t m):RO K E (zj3 t) (zfd m):=by
 intro F j σ H ρ S r Q En0 e k
 rcases zA e with⟨x,S1,e1,e⟩|⟨c,S1,e1,rfl⟩
 ·split at e
  ·cases e
   exact h En0 e1 λj1 H1 X1 E1 u hu=>⟨_,hu.int_inv,k _ _ X1 E1⟩
  ·cases e
 ·exact h En0 e1 k
noncomputable def zck {α:Type} (xs:List α) (lo hi:Option Int):List α:=(xs.drop (HT.sIx xs.length 0 lo)).take (HT.sIx xs.length xs.length hi-HT.sIx xs.length 0 lo)
theorem zO.cut {xs:List Xv} {vs:List V} (h:zO K j H xs vs) (lo hi:Option Int):zO K j H (zck xs lo hi) (zfW vs lo hi):=by
 unfold zfW zck
 rw[h.len]
 exact (h.drop _).take _
noncomputable def eSl (f:Xv->Option Int->Option Int->Sto->Option (Xv×Sto)) (m:TwE) (lo hi:TwO):TwE:=λρ S=>rb (m ρ S) λx S1=>rb (lo ρ S1) λy S2=>rb (hi ρ S2) λz S3=>okP (f x y z S3)
def zke (K:E9) (r:V->Option Int->Option Int->Hp->VK->Prop) (f:Xv->Option Int->Option Int->Sto->Option (Xv×Sto)):Prop:=∀{F:Fm} {j:List Addr} {σ:St} {H:Hp} {ρ:Rho} {S S':Sto} {x z:Xv} {lo hi:Option Int} {u:V} {Q:VK},En K F j H σ ρ S->Xis K j H x u->f x lo hi S=some (z,S')->(∀w j' H',Ext j H j' H'->En K F j' H' σ ρ S'->Xis K j' H' z w->Q w H')->r u lo hi H Q
theorem zma {r:V->Option Int->Option Int->Hp->VK->Prop} {f:Xv->Option Int->Option Int->Sto->Option (Xv×Sto)} {te:TE} {tl th:TO} {m:TwE} {lo hi:TwO} (ho:zke K r f) (hm:RE K E te m) (hl:RO K E tl lo) (hh:RO K E th hi):RE K E (tSl r te tl th) (eSl f m lo hi):=by
 intro F j σ H ρ S r Q En0 e k
 rcases zA e with⟨x,S1,e1,e⟩|⟨c,S1,e1,rfl⟩
 ·refine hm En0 e1 λj1 H1 X1 E1 u hu=> ?_
  rcases zA e with⟨y,S2,e2,e⟩|⟨c,S2,e2,rfl⟩
  ·refine hl E1 e2 λj2 H2 X2 E2=> ?_
   rcases zA e with⟨z,S3,e3,e⟩|⟨c,S3,e3,rfl⟩
   ·obtain⟨w,S4,e4,rfl⟩:=wA e
    exact hh E2 e3 λj3 H3 X3 E3=>ho E3 (hu.mono (X2.trans X3)) e4 λw j4 H4 X4 E4 hw=>k _ _ (X1.trans (X2.trans (X3.trans X4))) E4 _ hw
   ·exact hh E2 e3 (PX.mono k (X1.trans X2))
  ·exact hl E1 e2 (PX.mono k X1)
 ·exact hm En0 e1 k
noncomputable def zep:Xv->Option Int->Option Int->Sto->Option (Xv×Sto):=λx lo hi S=>(zu S x).map λxs=>(.ref S.length,S++[.lst (zck xs lo hi)])
theorem zmb:zke K (zgP K) zep:=by
 intro F j σ H ρ S S' x z lo hi u Q E0 hx h k
 unfold zep at h
 cases e:zu S x with
 |none=>rw[e] at h;cases h
 |some xs=>
  rw[e] at h
  cases h
  obtain⟨a,vs,rfl,h1,h2⟩:=E0.lstAt hx e
  refine⟨a,vs,rfl,h1.sql,λp hp=> ?_⟩
  obtain⟨E1,X1,h3⟩:=E0.lst (h2.cut lo hi) hp
  exact k _ _ _ X1 E1 h3
theorem zkP {te:TE} {tl th:TO} {m:TwE} {lo hi:TwO} (hm:RE K E te m) (hl:RO K E tl lo) (hh:RO K E th hi):RE K E (tSl (zgP K) te tl th) (eSl zep m lo hi):= @zma K E (zgP K) zep te tl th m lo hi (@zmb K) hm hl hh
abbrev OpM:=Xv->List Xv->Sto->Option (Xv×Sto)
def zkQ (K:E9) (r:V->List V->Hp->VK->Prop) (f:OpM):Prop:=∀{F:Fm} {j:List Addr} {σ:St} {H:Hp} {ρ:Rho} {S S':Sto} {x z:Xv} {ys:List Xv} {u:V} {vs:List V} {Q:VK},En K F j H σ ρ S->Xis K j H x u->zO K j H ys vs->f x ys S=some (z,S')->(∀w j' H',Ext j H j' H'->En K F j' H' σ ρ S'->Xis K j' H' z w->Q w H')->r u vs H Q
noncomputable def eMt (f:OpM) (o:TwE) (ms:List TwE):TwE:=λρ S=>rb (o ρ S) λx S1=>(zu S1 x).bind λ_=>rb (evL ms ρ S1) λys S2=>okP (f x ys S2)
theorem ZF {r:V->List V->Hp->VK->Prop} {f:OpM} {to:TE} {t:TA} {o:TwE} {ms:List TwE} (hr:zkQ K r f) (ho:RE K E to o) (ht:RL K E t (evL ms)):RE K E (tBM K "list" r to t) (eMt f o ms):=by
 intro F j σ H ρ S r Q En0 e k
 rcases zA e with⟨x,S1,e1,e⟩|⟨c,S1,e1,rfl⟩
 ·refine ho En0 e1 λj1 H1 X1 E1 u hu=> ?_
  cases el:L2.zu S1 x with
  |none=>rw[el] at e;cases e
  |some l=>
   rw[el] at e
   obtain⟨a,vs,rfl,h1,_⟩:=E1.lstAt hu el
   refine⟨tyL h1.sql,?_⟩
   rcases zA e with⟨ys,S2,e2,e⟩|⟨c,S2,e2,rfl⟩
   ·obtain⟨z,S3,e3,rfl⟩:=wA e
    exact ht E1 e2 λj2 H2 X2 E2 ws hw=>hr E2 (hu.mono X2) hw e3 λw j3 H3 X3 E3 hz=>k _ _ (X1.trans (X2.trans X3)) E3 _ hz
   ·exact ht E1 e2 (PX.mono k X1)
 ·exact ho En0 e1 k
noncomputable def yo:OpM:=λx ys S=>match UR S x,ys with
 |some (n,xs),[y]=>if xs.length<sizeLine then some (.non,S.set n (.lst (xs++[y]))) else none
 |_,_=>none
theorem yA:zkQ K ze6 yo:=by
 intro F j σ H ρ S S' x z ys u vs Q E0 hx hy h k
 unfold yo at h
 split at h
 ·rename_i n xs y e
  split at h
  ·rename_i hl
   cases h
   obtain⟨a,ws,rfl,hj,h1,h2⟩:=E0.wl hx e
   obtain⟨w,rfl,hw⟩:=hy.d1
   obtain⟨E1,X1⟩:=E0.wr e hj (h2.append (.one hw))
   exact⟨a,ws,w,rfl,rfl,h1,by rw[h2.len];exact hl,k _ _ _ X1 E1 .non⟩
  ·cases h
 ·cases h
noncomputable def zF (a b:TwS):TwS:=λρ S=>match a ρ S with
 |some (.nx ρ1 S1)=>b ρ1 S1
 |r=>r
noncomputable def xG:TwS:=λρ S=>some (.nx ρ S)
noncomputable def yc (m:TwE) (g:TwG):TwS:=λρ S=>sb (m ρ S) λx S1=>sb (g x ρ S1) λρ1 S2=>some (.nx ρ1 S2)
noncomputable def vt (m:TwE):TwS:=λρ S=>sb (m ρ S) λ_ S1=>some (.nx ρ S1)
noncomputable def wg (m:TwE):TwS:=λρ S=>sb (m ρ S) λx S1=>some (.rt x S1)
noncomputable def sIf (c:TwT) (a b:TwS):TwS:=λρ S=>sb (c ρ S) λx S1=>if x then a ρ S1 else b ρ S1
noncomputable def zg6 (i k:Nat) (ms:List TwE):TwS:=λρ S=>sb (evL ms ρ S) λxs S1=>match xs with
 |[a,b]=>some (.nx ((ρ.set i (some a)).set k (some b)) S1)
 |_=>none
noncomputable def turn (r:Option Fl) (go:Rho->Sto->Option Fl):Option Fl:=match r with
 |some (.nx ρ S)=>go ρ S
 |some (.ct ρ S)=>go ρ S
 |some (.bk ρ S)=>some (.nx ρ S)
 |r=>r
noncomputable def WC (get:Sto->Option (List Xv)) (g:TwG) (b:TwS):Nat->Nat->Rho->Sto->Option Fl
 |0,_,_,_=>none
 |f+1,i,ρ,S=>(get S).bind λxs=>match xs[i]? with
  |none=>if i=xs.length then some (.nx ρ S) else none
  |some x=>sb (g x ρ S) λρ1 S1=>turn (b ρ1 S1) λρ2 S2=>WC get g b f (i+1) ρ2 S2
noncomputable def Yr (m:TwI) (g:TwG) (b:TwS):TwS:=λρ S=>sb (m ρ S) λget S1=>(get S1).bind λxs=>WC get g b (xs.length+1) 0 ρ S1
noncomputable def US (c:TwT) (b:TwS):Nat->Rho->Sto->Option Fl
 |0,_,_=>none
 |n+1,ρ,S=>sb (c ρ S) λx S1=>if x then turn (b ρ S1) λρ2 S2=>US c b n ρ2 S2 else some (.nx ρ S1)
noncomputable def sWh (n:Nat) (c:TwT) (b:TwS):TwS:=λρ S=>US c b n ρ S
noncomputable def gN (i:Nat):TwG:=λx ρ S=>some (.ok (ρ.set i (some x)) S)
noncomputable def vN:zci:=λxs ρ S=>match xs with
 |[]=>some (.ok ρ S)
 |_=>none
noncomputable def yh (g:TwG) (gs:zci):zci:=λxs ρ S=>match xs with
 |x::r=>rb (g x ρ S) λρ1 S1=>gs r ρ1 S1
 |_=>none
noncomputable def gT (n:Nat) (gs:zci):TwG:=λx ρ S=>x.tupOf.bind λl=>if l.length=n then gs l ρ S else none
noncomputable def WQ (o mi:TwE):TwG:=λd ρ S=>rb (o ρ S) λx S1=>rb (mi ρ S1) λy S2=>match UR S2 x,y with
 |some (n,xs),.int i=>(ixN xs.length i).map λk=> .ok ρ (S2.set n (.lst (xs.set k d)))
 |_,_=>none
theorem zm {i:Nat}:RG K E (zbt i) (gN i):=λE0 hx e k=>by
 cases e
 exact k _ _ _ Ext.refl (E0.set hx)
theorem wL:RGs K E zkx vN:=by
 intro F j σ H ρ S r xs vs R E0 hv e k
 unfold vN at e
 split at e
 ·cases e
  obtain rfl:=hv.nil_inv
  exact⟨rfl,k _ _ _ Ext.refl E0⟩
 ·cases e
theorem zR {t:TG} {u:TGs} {g:TwG} {gs:zci} (h1:RG K E t g) (h2:RGs K E u gs):RGs K E (zgI t u) (yh g gs):=by
 intro F j σ H ρ S r xs vs R E0 hv e k
 unfold yh at e
 split at e
 ·obtain⟨w,ws,rfl,hw,eI⟩:=hv.cons_inv
  rcases zA e with⟨ρ1,S1,e1,e⟩|⟨c,S1,e1,rfl⟩
  ·exact⟨w,ws,rfl,h1 E0 hw e1 λσ1 j1 H1 X1 E1=>h2 E1 (eI.mono X1) e (k.step X1)⟩
  ·exact⟨w,ws,rfl,h1 E0 hw e1 k⟩
 ·cases e
theorem Zs {n:Nat} {t:TGs} {gs:zci} (h:RGs K E t gs):RG K E (ziP K n t) (gT n gs):=by
 intro F j σ H ρ S r x v R E0 hx e k
 unfold gT at e
 cases ex:x.tupOf with
 |none=>rw[ex] at e;cases e
 |some l=>
  rw[ex] at e
  dsimp only[Jc] at e
  split at e
  ·rename_i hn
   obtain⟨a,vs,rfl,h1,h2⟩:=hx.tupO ex
   exact⟨a,vs,rfl,h1,by rw[h2.len];exact hn,h E0 h2 e k⟩
  ·cases e
theorem TZ {to ti:TE} {o mi:TwE} (ho:RE K E to o) (hi:RE K E ti mi):RG K E (zlV to ti zj4) (WQ o mi):=by
 intro F j σ H ρ S r d vd R E0 hd e k
 rcases zA e with⟨x,S1,e1,e⟩|⟨c,S1,e1,rfl⟩
 ·refine ho E0 e1 λj1 H1 X1 E1 u hu=> ?_
  rcases zA e with⟨y,S2,e2,e⟩|⟨c,S2,e2,rfl⟩
  ·refine hi E1 e2 λj2 H2 X2 E2 w hw=> ?_
   split at e
   ·rename_i n xs i ex
    cases e3:ixN xs.length i with
    |none=>rw[e3] at e;cases e
    |some m=>
     rw[e3] at e
     cases e
     obtain⟨a,vs,rfl,hj,h1,h2⟩:=E2.wl (hu.mono X2) ex
     obtain⟨E3,X3⟩:=E2.wr ex hj (h2.set (hd.mono (X1.trans X2)) m)
     exact⟨a,vs,i,m,rfl,hw.int_inv,h1,by rw[h2.len];exact e3,k _ _ _ (X1.trans (X2.trans X3)) E3⟩
   ·cases e
  ·exact hi E1 e2 (PX.mono k X1)
 ·exact ho E0 e1 k
theorem yz:RS K E zjW xG:=λE0 e k=>by
 cases e
 exact k _ _ _ Ext.refl E0
theorem zq {t u:TS} {a b:TwS} (ha:RS K E t a) (hb:RS K E u b):RS K E (zlR t u) (zF a b):=by
 intro F j D' σ H ρ S fl E0 e k
 unfold zF at e
 split at e
 ·rename_i ρ1 S1 e1
  exact ha (D':={D' with nx:=u D'}) E0 e1 λσ1 j1 H1 X1 E1=>hb E1 e (k.step X1)
 ·rename_i hn
  refine ha (D':={D' with nx:=u D'}) E0 e ?_
  cases fl with
  |nx ρ1 S1=>exact absurd e (hn ρ1 S1)
  |bk ρ1 S1=>exact k
  |ct ρ1 S1=>exact k
  |rt x S1=>exact k
  |ex c S1=>exact k
theorem zB {te:TE} {g:TG} {m:TwE} {g':TwG} (h:RE K E te m) (hg:RG K E g g'):RS K E (zkz te g) (yc m g'):=by
 intro F j D' σ H ρ S fl E0 e k
 rcases xt e with⟨x,S1,e1,e⟩|⟨c,S1,e1,rfl⟩
 ·refine h E0 e1 λj1 H1 X1 E1 u hu=> ?_
  rcases xt e with⟨ρ1,S2,e2,e⟩|⟨c,S2,e2,rfl⟩
  ·cases e
   exact hg E1 hu e2 λσ2 j2 H2 X2 E2=>k _ _ _ (X1.trans X2) E2
  ·exact hg E1 hu e2 (PX.mono k X1)
 ·exact h E0 e1 k
theorem xN {te:TE} {m:TwE} (h:RE K E te m):RS K E (zjX te) (vt m):=by
 intro F j D' σ H ρ S fl E0 e k
 rcases xt e with⟨x,S1,e1,e⟩|⟨c,S1,e1,rfl⟩
 ·cases e
  exact h E0 e1 λj1 H1 X1 E1 u hu=>k _ _ _ X1 E1
 ·exact h E0 e1 k
theorem yf {te:TE} {m:TwE} (h:RE K E te m):RS K E (zlS te) (wg m):=by
 intro F j D' σ H ρ S fl E0 e k
 rcases xt e with⟨x,S1,e1,e⟩|⟨c,S1,e1,rfl⟩
 ·cases e
  exact h E0 e1 λj1 H1 X1 E1 u hu=>k _ _ _ _ _ X1 E1 hu
 ·exact h E0 e1 k
theorem wB {c:TT} {t u:TS} {m:TwT} {a b:TwS} (hc:RT K E c m) (ha:RS K E t a) (hb:RS K E u b):RS K E (zlT c t u) (sIf m a b):=by
 intro F j D' σ H ρ S fl E0 e k
 rcases xt e with⟨x,S1,e1,e⟩|⟨c,S1,e1,rfl⟩
 ·refine hc E0 e1 λj1 H1 X1 E1=> ?_
  cases x with
  |true=>exact ha E1 e (k.step X1)
  |false=>exact hb E1 e (k.step X1)
 ·exact hc E0 e1 k
theorem zg7 {i m:Nat} {t:TA} {ms:List TwE} (h:RL K E t (evL ms)):RS K E (zlW i m t) (zg6 i m ms):=by
 intro F j D' σ H ρ S fl E0 e k
 rcases xt e with⟨xs,S1,e1,e⟩|⟨c,S1,e1,rfl⟩
 ·split at e
  ·cases e
   refine h E0 e1 λj1 H1 X1 E1 vs hv=> ?_
   obtain⟨x,y,rfl,hx,hy⟩:=hv.d2
   exact⟨x,y,rfl,k _ _ _ X1 ((E1.set hx).set hy)⟩
  ·cases e
 ·exact h E0 e1 k
theorem zbI {r:Option Fl} {go:Rho->Sto->Option Fl} {fl:Fl} (h:turn r go=some fl):∃f,r=some f/\((∃ρ S,(f= .nx ρ S\/f= .ct ρ S)/\go ρ S=some fl)\/(∃ρ S,f= .bk ρ S/\fl= .nx ρ S)\/(f=fl/\((∃x S,fl= .rt x S)\/∃c S,fl= .ex c S))):=by
 unfold turn at h
 split at h
 ·exact⟨_,rfl,.inl ⟨_,_,.inl rfl,h⟩⟩
 ·exact⟨_,rfl,.inl ⟨_,_,.inr rfl,h⟩⟩
 ·cases h;exact⟨_,rfl,.inr (.inl ⟨_,_,rfl,rfl⟩)⟩
 ·rename_i n1 n2 n3
  refine⟨fl,h,.inr (.inr ⟨rfl,?_⟩)⟩
  cases fl with
  |nx ρ S=>exact absurd h (n1 ρ S)
  |ct ρ S=>exact absurd h (n2 ρ S)
  |bk ρ S=>exact absurd h (n3 ρ S)
  |rt x S=>exact .inl ⟨x,S,rfl⟩
  |ex c S=>exact .inr ⟨c,S,rfl⟩
theorem wj {wi:TI} {g:TG} {tb:TS} {m:TwI} {g':TwG} {b:TwS} (hi:RI K E wi m) (hg:RG K E g g') (hb:RS K E tb b):RS K E (zlX wi g tb) (Yr m g' b):=by
 intro F j D' σ H ρ S fl E0 e k
 rcases xt e with⟨get,S1,e1,e⟩|⟨c,S1,e1,rfl⟩
 ·refine hi E0 e1 λj1 H1 X1 E1 J ok=> ?_
  cases eg:get S1 with
  |none=>rw[eg] at e;cases e
  |some xs=>
   rw[eg] at e
   refine⟨λi n σ H=>∃j2 ρ2 S2,Ext j1 H1 j2 H/\En K F j2 H σ ρ2 S2/\WC get g' b n i ρ2 S2=some fl,⟨xs.length+1,j1,ρ,S1,Ext.refl,E1,e⟩,?_⟩
   rintro i n σ2 H2 ⟨j2,ρ2,S2,X2,E2,e2⟩
   cases n with
   |zero=>cases e2
   |succ n=>
    unfold WC at e2
    cases jx:get S2 with
    |none=>rw[jx] at e2;cases e2
    |some ys=>
     rw[jx] at e2
     dsimp only[Jc] at e2
     obtain⟨go,stop⟩:=ok i X2 E2 jx
     split at e2
     ·split at e2
      ·rename_i hl
       cases e2
       exact .inl ⟨stop hl,k _ _ _ (X1.trans X2) E2⟩
      ·cases e2
     ·rename_i x ex
      obtain⟨g1,g2⟩:=go x ex
      refine .inr ⟨g1,λσ' H'=>∃j3 ρ3 S3,Ext j1 H1 j3 H'/\En K F j3 H' σ' ρ3 S3/\WC get g' b n (i+1) ρ3 S3=some fl,λ_ _ z=>⟨n,G3 _,z⟩,λv H3 hy=> ?_⟩
      obtain⟨Sm,hv⟩:=g2 v H3 hy
      have E3:=E2.heap Sm
      have X3:Ext j2 H2 j2 H3:=Ext.same Sm
      rcases xt e2 with⟨ρ4,S4,e4,e2⟩|⟨c,S4,e4,rfl⟩
      ·refine hg E3 hv e4 λσ4 j4 H4 X4 E4=> ?_
       obtain⟨f5,e5,h5⟩:=zbI e2
       refine hb E4 e5 ?_
       have X14:=X2.trans (X3.trans X4)
       rcases h5 with⟨ρ6,S6,h6,e6⟩|⟨ρ6,S6,rfl,rfl⟩|⟨rfl,h6⟩
       ·rcases h6 with rfl|rfl
        ·exact λσ5 j5 H5 X5 E5=>⟨j5,ρ6,S6,X14.trans X5,E5,e6⟩
        ·exact λσ5 j5 H5 X5 E5=>⟨j5,ρ6,S6,X14.trans X5,E5,e6⟩
       ·exact λσ5 j5 H5 X5 E5=>k _ _ _ (X1.trans (X14.trans X5)) E5
       ·rcases h6 with⟨x6,S6,rfl⟩|⟨c6,S6,rfl⟩
        ·exact λv σ5 ρ5 j5 H5 X5 E5 hv=>k v σ5 ρ5 _ _ (X1.trans (X14.trans X5)) E5 hv
        ·exact PX.mono k (X1.trans X14)
      ·exact hg E3 hv e4 (PX.mono k (X1.trans (X2.trans X3)))
 ·exact hi E0 e1 k
theorem zaa {c:TT} {tb:TS} {m:TwT} {b:TwS} {n:Nat} (hc:RT K E c m) (hb:RS K E tb b):RS K E (zgK c tb) (sWh n m b):=by
 intro F j D' σ H ρ S fl E0 e k
 refine⟨λn σ2 H2=>∃j2 ρ2 S2,Ext j H j2 H2/\En K F j2 H2 σ2 ρ2 S2/\US m b n ρ2 S2=some fl,⟨n,j,ρ,S,Ext.refl,E0,e⟩,?_⟩
 rintro n σ2 H2 ⟨j2,ρ2,S2,X2,E2,e2⟩
 cases n with
 |zero=>cases e2
 |succ n=>
  unfold US at e2
  rcases xt e2 with⟨x,S3,e3,e2⟩|⟨c,S3,e3,rfl⟩
  ·refine hc E2 e3 λj3 H3 X3 E3=> ?_
   have X13:=X2.trans X3
   cases x with
   |false=>cases e2;exact k _ _ _ X13 E3
   |true=>
    obtain⟨f5,e5,h5⟩:=zbI e2
    refine⟨λσ' H'=>∃j3 ρ3 S3,Ext j H j3 H'/\En K F j3 H' σ' ρ3 S3/\US m b n ρ3 S3=some fl,λσ' H' z=>⟨n,G3 _,z⟩,hb E3 e5 ?_⟩
    rcases h5 with⟨ρ6,S6,h6,e6⟩|⟨ρ6,S6,rfl,rfl⟩|⟨rfl,h6⟩
    ·rcases h6 with rfl|rfl
     ·exact λσ5 j5 H5 X5 E5=>⟨j5,ρ6,S6,X13.trans X5,E5,e6⟩
     ·exact λσ5 j5 H5 X5 E5=>⟨j5,ρ6,S6,X13.trans X5,E5,e6⟩
    ·exact λσ5 j5 H5 X5 E5=>k _ _ _ (X13.trans X5) E5
    ·rcases h6 with⟨x6,S6,rfl⟩|⟨c6,S6,rfl⟩
     ·exact λv σ5 ρ5 j5 H5 X5 E5 hv=>k v σ5 ρ5 _ _ (X13.trans X5) E5 hv
     ·exact PX.mono k X13
  ·exact hc E2 e3 (PX.mono k X2)
noncomputable def iL (m:TwE):TwI:=λρ S=>rb (m ρ S) λx S1=>(zu S1 x).map λ_=> .ok (λS=>zu S x) S1
theorem yN {t:TE} {m:TwE} (h:RE K E t m):RI K E (zgM K t) (iL m):=by
 intro F j σ H ρ S r R En0 e k
 rcases zA e with⟨x,S1,e1,e⟩|⟨c,S1,e1,rfl⟩
 ·cases el:zu S1 x with
  |none=>rw[el] at e;cases e
  |some l=>
   rw[el] at e
   cases e
   refine h En0 e1 λj1 H1 X1 E1 u hu=> ?_
   obtain⟨a,vs,rfl,h1,_⟩:=E1.lstAt hu el
   refine⟨a,rfl,⟨vs,h1.sql⟩,k _ _ X1 E1 _ ?_⟩
   intro F2 j2 H2 σ2 ρ2 S2 xs i X2 E2 e2
   obtain⟨a',ws,ea,g1,g2⟩:=E2.lstAt (hu.mono X2) e2
   cases ea
   refine⟨λy ey=> ?_,λhle=>⟨ws,g1.sql,by rw[g2.len];omega⟩⟩
   obtain⟨w,f1,f2⟩:=g2.get ey
   refine⟨⟨ws,w,g1.sql,f1⟩,?_⟩
   rintro v' H' ⟨rfl,hx⟩
   have:=hx ws g1.sql
   rw[f1] at this
   cases this
   exact⟨WL.refl _,f2⟩
 ·exact h En0 e1 k
noncomputable def Zt (lo:Int) (n:Nat):List Xv:=(F7 n).map λ(k:Nat)=>Xv.int (lo+(k:Int))
noncomputable def iR1 (m:TwE):TwI:=λρ S=>rb (m ρ S) λx S1=>match x with
 | .int j=>if -(2^62)<=j/\j<2^62 then some (.ok (λ_=>some (Zt 0 j.toNat)) S1) else none
 |_=>none
noncomputable def iR2 (m n:TwE):TwI:=λρ S=>rb (m ρ S) λx S1=>rb (n ρ S1) λy S2=>match x,y with
 | .int i,.int j=>if -(2^62)<=i/\i<2^62/\ -(2^62)<=j/\j<2^62 then some (.ok (λ_=>some (Zt i (j-i).toNat)) S2) else none
 |_,_=>none
theorem zdv {lo:Int} {n:Nat}:zl8 K j H (Itr lo n) (λ_=>some (Zt lo n)):=by
 intro F2 j2 H2 σ2 ρ2 S2 xs i X2 E2 e2
 cases e2
 refine⟨λd hd=> ?_,λhle=> ?_⟩
 ·unfold Zt at hd
  rw[Ef] at hd
  have hi:i<n:=by
   apply FA
   intro hn
   rw[EY (by simp;omega)] at hd
   cases hd
  rw[Hu hi] at hd
  cases hd
  refine⟨hi,?_⟩
  rintro x H' ⟨rfl,rfl⟩
  exact⟨WL.refl _,.int _⟩
 ·unfold Zt at hle
  simp at hle
  show n<=i
  omega
theorem wb {t:TE} {m:TwE} (h:RE K E t m):RI K E (zjZ (Wz t zc9)) (iR1 m):=by
 intro F j σ H ρ S r R En0 e k
 rcases zA e with⟨x,S1,e1,e⟩|⟨c,S1,e1,rfl⟩
 ·split at e
  ·split at e
   ·rename_i hb
    cases e
    exact h En0 e1 λj1 H1 X1 E1 u hu=>⟨_,by rw[hu.int_inv],hb.1,hb.2,k _ _ X1 E1 _ zdv⟩
   ·cases e
  ·cases e
 ·exact h En0 e1 k
theorem zf8 {t u:TE} {m n:TwE} (h:RE K E t m) (h2:RE K E u n):RI K E (zj0 (Wz t (Wz u zc9))) (iR2 m n):=by
 intro F j σ H ρ S r R En0 e k
 rcases zA e with⟨x,S1,e1,e⟩|⟨c,S1,e1,rfl⟩
 ·refine h En0 e1 λj1 H1 X1 E1 u hu=> ?_
  rcases zA e with⟨y,S2,e2,e⟩|⟨c,S2,e2,rfl⟩
  ·split at e
   ·split at e
    ·rename_i hb
     cases e
     exact h2 E1 e2 λj2 H2 X2 E2 w hw=>⟨_,_,by rw[hu.int_inv,hw.int_inv],hb,k _ _ (X1.trans X2) E2 _ zdv⟩
    ·cases e
   ·cases e
  ·exact h2 E1 e2 (PX.mono k X1)
 ·exact h En0 e1 k
end
noncomputable def rn {α β:Type} (m:Option (Rs α)) (f:α->Sto->Option β):Option β:=match m with
 |some (.ok a S)=>f a S
 |_=>none
theorem zcl {α β:Type} {m:Option (Rs α)} {f:α->Sto->Option β} {r:β} (h:rn m f=some r):∃a S,m=some (.ok a S)/\f a S=some r:=by
 unfold rn at h
 split at h
 ·exact⟨_,_,rfl,h⟩
 ·cases h
noncomputable def Ys (cap:List (Option Nat)) (ρ:Rho):Rho:=cap.map λo=>o.bind λi=>(ρ[i]?).join
noncomputable def vE (get:Sto->Option (List Xv)) (g:TwG) (c:TwT) (e:TwE) (ρc:Rho):Nat->Nat->List Xv->Sto->Option (Rs Xv)
 |0,_,_,_=>none
 |f+1,i,es,S=>(get S).bind λxs=>match xs[i]? with
  |none=>if i=xs.length then some (.ok (.ref S.length) (S++[.lst es])) else none
  |some x=>rn (g x ρc S) λρ1 S1=>rn (c ρ1 S1) λb S2=>if b then rn (e ρ1 S2) λy S3=>if es.length<sizeLine then vE get g c e ρc f (i+1) (es++[y]) S3 else none
    else vE get g c e ρc f (i+1) es S2
noncomputable def wu (cap:List (Option Nat)) (m:TwI) (g:TwG) (c:TwT) (e:TwE):TwE:=λρ S=>rb (m ρ S) λget S1=>(get S1).bind λxs=>vE get g c e (Ys cap ρ) (xs.length+1) 0 [] S1
noncomputable def wR:TwT:=λ_ S=>some (.ok true S)
section
variable {K:E9} {E:XK} {F:Fm} {j j':List Addr} {H H':Hp} {σ σ':St} {ρ ρ':Rho} {S S':Sto} {x:Xv} {v:V} {a:Addr} {o:HO}
theorem xO:RT K E (λ_ H Q=>Q true H) wR:=λE1 e k=>by
 cases e
 exact k _ _ Ext.refl E1
def XJ (j:List Addr) (S:Sto) (a:Addr):Prop:=∀(n:Nat) c,j[n]? =some a->S[n]? =some c->c.fz=true
theorem En.notIn (E1:En K F j H σ ρ S) (h:H a=none):XJ j S a:=λn c e1 e2=>by
 cases z:c.fz with
 |true=>rfl
 |false=>
  obtain⟨o,e,_⟩:=(E1.cel n c a e2 e1).mu z
  rw[h] at e;cases e
theorem En.outside (E1:En K F j H σ ρ S) (h:XJ j S a) {o0:HO} (h0:H a=some o0) (m0:o0.mu=true) (hf:F.H0 a=none):En K F j (upd H a o) σ ρ S/\Ext j H j (upd H a o):=by
 have X:Ext j H j (upd H a o):=⟨λ_ _ e=>e,λb u e m=>by
  have:b≠a:=λq=>by subst q;rw[h0] at e;cases e;rw[m] at m0;cases m0
  rw[yb this];exact e⟩
 refine⟨⟨E1.len,λi x e=> ?_,E1.jl,E1.inj,λn c b e1 e2=> ?_,E1.ext.trans X,E1.old,E1.l0,λb u e=> ?_,E1.fresh,λb e=> ?_⟩,X⟩
 ·obtain⟨v,e1,e2⟩:=E1.slot i x e
  exact⟨v,e1,e2.mono X⟩
 ·refine (E1.cel n c b e1 e2).mono X λz=>yb λq=> ?_
  subst q
  rw[h n c e2 e1] at z;cases z
 ·have hb:b≠a:=λq=>by subst q;rw[hf] at e;cases e
  rcases E1.keep b u e with h|h
  ·exact .inl (by rw[yb hb];exact h)
  ·exact .inr h
 ·have hb:b≠a:=λq=>by subst q;rw[yj] at e;cases e
  rw[yb hb] at e
  exact E1.dom b e
theorem En.adopt {c:Ce} (E1:En K F j H σ ρ S) (h:XJ j S a) (hf:F.H0 a=none) (hc:zbd K (j++[a]) H a c):En K F (j++[a]) H σ ρ (S++[c])/\Ext j H (j++[a]) H:=by
 have X:Ext j H (j++[a]) H:=⟨λn b e=>by rw[Ed (E8.1 e).1];exact e,ZE.refl _⟩
 have lt:∀{n:Nat} {d:Ce},S[n]? =some d->n<S.length:=λe=>(E8.1 e).1
 have at_:∀{n:Nat} {b:Addr} {d:Ce},(j++[a])[n]? =some b->(S++[c])[n]? =some d->(j[n]? =some b/\S[n]? =some d)\/(n=S.length/\b=a/\d=c):=λ{n b d} e1 e2=>by
  by_cases hn:n<S.length
  ·rw[Ed hn] at e2
   rw[Ed (by rw[E1.jl];exact hn)] at e1
   exact .inl ⟨e1,e2⟩
  ·rw[Eu ⋯] at e2
   rw[Eu (by rw[E1.jl];omega),E1.jl] at e1
   cases hm:n-S.length with
   |zero=>rw[hm] at e1 e2;simp at e1 e2;exact .inr ⟨⋯,e1.symm,e2.symm⟩
   |succ m=>rw[hm] at e1;simp at e1
 refine⟨⟨E1.len,λi x e=> ?_,by simp[E1.jl],λn m b c1 c2 e1 e2 e3 e4 z1 z2=> ?_,λn d b e1 e2=> ?_,E1.ext.trans X,λn d e=> ?_,E1.l0,E1.keep,λn b hn e=> ?_,E1.dom⟩,X⟩
 ·obtain⟨v,e1,e2⟩:=E1.slot i x e
  exact⟨v,e1,e2.mono X⟩
 ·rcases at_ e1 e3 with⟨f1,f2⟩|⟨f1,f2,f3⟩
  ·rcases at_ e2 e4 with⟨g1,g2⟩|⟨g1,g2,g3⟩
   ·exact E1.inj n m b c1 c2 f1 g1 f2 g2 z1 z2
   ·subst g2
    rw[h n c1 f1 f2] at z1;cases z1
  ·rcases at_ e2 e4 with⟨g1,g2⟩|⟨g1,g2,g3⟩
   ·subst f2
    rw[h m c2 g1 g2] at z2;cases z2
   ·rw[f1,g1]
 ·rcases at_ e2 e1 with⟨f1,f2⟩|⟨f1,rfl,rfl⟩
  ·exact (E1.cel n d b f2 f1).mono X λ_=>rfl
  ·exact hc
 ·obtain⟨d',e1,e2⟩:=E1.old n d e
  exact⟨d',by rw[Ed (lt e1)];exact e1,e2⟩
 ·by_cases hm:n<j.length
  ·rw[Ed hm] at e
   exact E1.fresh n b hn e
  ·rw[Eu ⋯] at e
   cases hk:n-j.length with
   |zero=>rw[hk] at e;simp at e;subst e;exact hf
   |succ m=>rw[hk] at e;simp at e
theorem zf9 {cap:List (Option Nat)} (E1:En K F j H σ ρ S):(Zi cap σ).length=(Ys cap ρ).length/\∀(i:Nat) x,(Ys cap ρ)[i]? =some (some x)->∃v,(Zi cap σ)[i]? =some (some v)/\Xis K j H x v:=by
 refine⟨by simp[Zi,Ys],λi x h=> ?_⟩
 unfold Ys at h
 unfold Zi
 rw[Ef] at h ⊢
 cases e:cap[i]? with
 |none=>rw[e] at h;cases h
 |some o=>
  rw[e] at h
  cases o with
  |none=>simp at h
  |some k=>
   simp only[FI,Ee,Fg] at h ⊢
   cases q:ρ[k]? with
   |none=>rw[q] at h;simp at h
   |some z=>
    rw[q] at h
    simp at h
    subst h
    obtain⟨v,e1,e2⟩:=E1.slot k x q
    exact⟨v,by rw[e1];rfl,e2⟩
theorem xb {cap:List (Option Nat)} {wi:TI} {g:TG} {tt:TT} {te:TE} {m:TwI} {g':TwG} {c:TwT} {e:TwE} (hi:RI K E wi m) (hg:RG K E0 g g') (hc:RT K E0 tt c) (he:RE K E0 te e):RE K E (zgW cap wi g tt te) (wu cap m g' c e):=by
 intro F j σ H ρ S r Q En0 h k
 rcases zA h with⟨get,S1,e1,h⟩|⟨c1,S1,e1,rfl⟩
 ·refine hi En0 e1 λj1 H1 X1 E1 J ok acc bb=> ?_
  cases eg:get S1 with
  |none=>rw[eg] at h;cases h
  |some xs=>
   rw[eg] at h
   have hf:F.H0 acc=none:=E1.dom acc bb
   obtain⟨Ea,Xa⟩:=E1.new (o:= .lst []) bb
   refine⟨λi n ys H2=>∃j2 S2 es,Ext j1 H1 j2 H2/\En K F j2 H2 σ ρ S2/\H2 acc=some (.lst ys)/\zO K j2 H2 es ys/\XJ j2 S2 acc/\vE get g' c e (Ys cap ρ) n i es S2=some r,
    ⟨xs.length+1,j1,S1,[],Xa,Ea,yj,.nil,E1.notIn bb,h⟩,?_⟩
   rintro i n ys H2 ⟨j2,S2,es,X2,E2,h2,h8,nin,e2⟩
   cases n with
   |zero=>cases e2
   |succ n=>
    unfold vE at e2
    cases jx:get S2 with
    |none=>rw[jx] at e2;cases e2
    |some zs=>
     rw[jx] at e2
     dsimp only[Jc] at e2
     obtain⟨go,stop⟩:=ok i X2 E2 jx
     split at e2
     ·split at e2
      ·rename_i hl
       cases e2
       obtain⟨E3,X3⟩:=E2.adopt (c:= .lst es) nin hf ⟨ys,h2,h8.mono ⟨λn b e=>by rw[Ed (E8.1 e).1];exact e,ZE.refl _⟩⟩
       exact .inl ⟨stop hl,k _ _ (X1.trans (X2.trans X3)) E3 _ (.ref (by rw[<-E2.jl];simp))⟩
      ·cases e2
     ·rename_i x ex
      obtain⟨g1,g2⟩:=go x ex
      refine .inr ⟨g1,λv H3 hy=> ?_⟩
      obtain⟨Sm,hv⟩:=g2 v H3 hy
      have E3:=E2.heap Sm
      have X3:Ext j2 H2 j2 H3:=Ext.same Sm
      have h3:H3 acc=some (.lst ys):=Sm _ _ h2
      obtain⟨cl,cs⟩:=zf9 (cap:=cap) E3
      have I0:=E3.enter cl cs
      obtain⟨ρ4,S4,e4,e2⟩:=zcl e2
      obtain⟨b,S5,e5,e2⟩:=zcl e2
      have behind:∀{j6:List Addr} {H6:Hp} {σ6:St} {ρ6:Rho} {S6:Sto},En K ⟨H3,j2,S2⟩ j6 H6 σ6 ρ6 S6->En K F j6 H6 σ ρ S6/\Ext j2 H2 j6 H6/\H6 acc=some (.lst ys)/\XJ j6 S6 acc:=λ{j6 H6 σ6 ρ6 S6} X=>by
       obtain⟨E6,X6⟩:=E3.leave X
       refine⟨E6,X3.trans X6,?_,λn d q1 q2=> ?_⟩
       ·rcases X.keep acc _ h3 with q|⟨n,d,q1,q2,q3⟩
        ·exact q
        ·rw[nin n d q1 q2] at q3;cases q3
       ·by_cases hn:n<j2.length
        ·have p1:j2[n]? =some j2[n]:=DZ hn
         have p2:=X6.pre n _ p1
         rw[q1] at p2
         cases p2
         have gG:n<S2.length:=by rw[<-E2.jl];exact hn
         obtain⟨d',f1,_,f3⟩:=X.old n _ (DZ gG)
         rw[q2] at f1
         cases f1
         have hz:=nin n _ p1 (DZ gG)
         rw[f3 hz]
         exact hz
        ·have q:=X.fresh n acc (by dsimp only;omega) q1
         have q:H3 acc=none:=q
         rw[h3] at q;cases q
      refine hg I0 hv e4 λσ4 j4 H4 X4 I4=>hc I4 e5 λj5 H5 X5 I5=> ?_
      cases b with
      |true=>
       rw[if_pos rfl]
       rw[if_pos rfl] at e2
       obtain⟨y,S6,e6,e2⟩:=zcl e2
       split at e2
       ·rename_i hsz
        refine he I5 e6 λj6 H6 X6 I6 w hw=> ?_
        obtain⟨E6,X26,h6,gO⟩:=behind I6
        obtain⟨E7,X7⟩:=E6.outside (o:= .lst (ys++[w])) gO h6 rfl hf
        refine⟨h6,by rw[h8.len];exact hsz,n,G3 _,j6,S6,es++[y],X2.trans (X26.trans X7),E7,yj,((h8.mono X26).append (.one hw)).mono X7,gO,e2⟩
       ·cases e2
      |false=>
       rw[if_neg (by simp)]
       rw[if_neg (by simp)] at e2
       obtain⟨E6,X26,h6,gO⟩:=behind I5
       exact⟨n,G3 _,j5,S5,es,X2.trans X26,E6,h6,h8.mono X26,gO,e2⟩
 ·exact hi En0 e1 k
theorem vn {i:Nat} {cap:List (Option Nat)} {wi:TI} {g:TG} {tt:TT} {te:TE} {m:TwE} (h:RE K E (zgW cap wi g tt te) m):RS K E (zdo i cap wi g tt te) (yc m (gN i)):=by
 intro F j D' σ H ρ S fl E1 e k
 rcases xt e with⟨x,S1,e1,e⟩|⟨c,S1,e1,rfl⟩
 ·cases e
  exact h (Q:=λv H2=>D'.nx (σ.set i (some v)) H2) E1 e1 λj1 H1 X1 E1 u hu=>k _ _ _ X1 (E1.set hu)
 ·exact h (Q:=λv H2=>D'.nx (σ.set i (some v)) H2) E1 e1 k
abbrev TwF:=List Xv->Sto->Option (Rs Xv)
noncomputable def yZ (n k:Nat) (b:TwS):TwF:=λxs S=>if xs.length=n then match b (xs.map some++F4 k none) S with
  |some (.rt x S')=>some (.ok x S')
  |some (.nx _ S')=>some (.ok .non S')
  |some (.ex c S')=>some (.ex c S')
  |_=>none
 else none
def zmc (K:E9) (F:Fm) (Q:VK) (E:XK):Rs Xv->Prop
 | .ok x S'=>∀v j' H' σ ρ,En K F j' H' σ ρ S'->Xis K j' H' x v->Q v H'
 | .ex c S'=>∀j' H' σ ρ C,En K F j' H' σ ρ S'->Es K mainGlobals c=some (some (.ref C))->E (.ref C) none H'
def sTw (K:E9) (n:Nat) (tw:TwF):Sp:=λvs H Q E=>vs.length=n/\∃(j:List Addr) (S:Sto) (xs:List Xv) (r:Rs Xv),En K ⟨H,j,S⟩ j H (vs.map some) (xs.map some) S/\tw xs S=some r/\zmc K ⟨H,j,S⟩ Q E r
theorem xH {n k:Nat} {N:List Str} {t:TS} {b:TwS} {vs:List V} {Q:VK} (hN:N.length=n+k) (h:RS K E t b) (hs:sTw K n (yZ n k b) vs H Q E):t {nx:=λ_ H'=>Q .non H',rt:=Q} (XE N vs) H:=by
 obtain⟨hn,j,S,xs,r,E1,e,ret⟩:=hs
 have es:XE N vs=vs.map some++F4 k none:=by
  unfold XE
  rw[hN,hn,Ih]
 rw[es]
 unfold yZ at e
 split at e
 ·split at e
  ·rename_i x S' e1
   cases e
   exact h E1.grow e1 λv σ ρ j' H' X E' hv=>ret _ _ _ _ _ E' hv
  ·rename_i ρ' S' e1
   cases e
   exact h E1.grow e1 λσ j' H' X E'=>ret _ _ _ _ _ E' .non
  ·rename_i c S' e1
   cases e
   exact h E1.grow e1 λj' H' σ' ρ' C X E' hC=>ret _ _ _ _ _ E' hC
  ·cases e
 ·cases e
noncomputable def zC (tw:TwF) (ms:List TwE):TwE:=λρ S=>rb (evL ms ρ S) λxs S1=>tw xs S1
theorem zeq {xs:List Xv} {vs:List V} (hv:zO K j H xs vs):(vs.map some).length=(xs.map some).length/\∀(i:Nat) x,(xs.map some)[i]? =some (some x)->∃v,(vs.map some)[i]? =some (some v)/\Xis K j H x v:=by
 refine⟨by simp[hv.len],λi x h=> ?_⟩
 rw[Ef] at h ⊢
 cases e:xs[i]? with
 |none=>rw[e] at h;cases h
 |some y=>
  rw[e] at h
  simp at h
  subst h
  obtain⟨v,e1,e2⟩:=hv.get e
  exact⟨v,by rw[e1];rfl,e2⟩
theorem zga {n:Nat} {tw:TwF} {xs:List Xv} {vs:List V} {r:Rs Xv} {Q:VK} {E':XK} (E1:En K F j H σ ρ S) (hv:zO K j H xs vs) (hn:vs.length=n) (et:tw xs S=some r) (k:Po K F j H σ ρ E' (PoV K Q) r):sTw K n tw vs H Q E':=by
 obtain⟨l,s⟩:=zeq hv
 refine⟨hn,j,S,xs,r,E1.enter l s,et,?_⟩
 cases r with
 |ok x S'=>
  intro v j' H' σ' ρ' X hx
  obtain⟨E2,X2⟩:=E1.leave X
  exact k j' H' X2 E2 v hx
 |ex c S'=>
  intro j' H' σ' ρ' C X hC
  obtain⟨E2,X2⟩:=E1.leave X
  exact k j' H' σ ρ C X2 E2 hC
theorem zw {n:Nat} {tw:TwF} {ms:List TwE} {t:TA} (h:RL K E t (evL ms)) (hn:ms.length=n:=by rfl):RE K E (zj2 (sTw K n tw) [] E t) (zC tw ms):=by
 intro F j σ H ρ S r Q En0 e k
 rcases zA e with⟨xs,S1,e1,e⟩|⟨c,S1,e1,rfl⟩
 ·refine h En0 e1 λj1 H1 X1 E1 vs hv=> ?_
  rw[Gi]
  exact zga E1 hv (by rw[hv.len,UZ e1,hn]) e (k.step X1)
 ·exact h En0 e1 k
end
def zab (K:E9):Sp:=λvs H Q _=>∃(a:Addr) (ns:List Int),vs=[V.ref a]/\ziX H/\SqX K H a (ns.map V.int)/\ns.length<=63/\∀H',Q (.bl true) H'
theorem zkR {P:Program} {w:World} {K:E9} {mg:Str->Option Value} {base:Heap} {CX:CXT} {k:Nat} {f:Addr} {fd:FuncData} {ps:List Str} {tw:TwF} (Fn:xE P w K mg base CX k f fd ps (sTw K 1 tw))
  (h:∀ns:List Int,ns.length<=63->∃S,tw [.ref 0] [.frz (ns.map Xv.int)]=some (.ok (.bl true) S)):xE P w K mg base CX k f fd ps (zab K):=by
 refine Fn.imp ?_
 rintro vs H Q E ⟨a,ns,rfl,hO,hS,hl,q⟩
 obtain⟨S',e⟩:=h ns hl
 refine⟨rfl,[a],[.frz (ns.map Xv.int)],[.ref 0],_,?_,e,λv j' H' σ ρ E' hv=> ?_⟩
 ·refine⟨rfl,λi x e=> ?_,rfl,λn m b c d _ _ e3 _ z _=> ?_,λn c b e1 e2=> ?_,Ext.refl,λn c e=>⟨c,e,λz=>z,λ_=>rfl⟩,rfl,λb u e=> .inl e,λn b hn e=> ?_,λb e=>e⟩
  ·cases i with
   |zero=>simp at e;subst e;exact⟨_,rfl,.ref rfl⟩
   |succ i=>simp at e
  ·cases n with
   |zero=>simp at e3;subst e3;cases z
   |succ n=>simp at e3
  ·cases n with
   |zero=>
    simp at e1 e2
    subst e1 e2
    refine⟨ns.map V.int,?_,zO.ints ns⟩
    rcases hS with (hS|⟨o,hS⟩)|hS
    ·rcases hO a with z|⟨o,xs,z⟩
     ·rw[z] at hS;cases hS
     ·rw[z] at hS;cases hS
    ·exact .inl ⟨o,hS⟩
    ·exact .inr λH=> .inr hS
   |succ n=>simp at e1
  ·dsimp only at hn
   have:=(E8.1 e).1
   omega
 ·rw[hv.bl_inv]
  exact q H'
end L2
namespace L2
open PySem PySem.Spec PyProof.Rows
open PySem.Builtin.Int (intBits)
noncomputable def xI (g:Int->Int->Xv):Op2:=λx y S=>match x,y with
 | .int a,.int b=>some (g a b,S)
 |_,_=>none
noncomputable def xIC (c:Int->Int->Bool) (g:Int->Int->Xv):Op2:=λx y S=>match x,y with
 | .int a,.int b=>if c a b then some (g a b,S) else none
 |_,_=>none
noncomputable def vx:Op2:=xI λi j=> .int (i+j)
noncomputable def zer:Op2:=xI λi j=> .int (i-j)
noncomputable def zgb:Op2:=xIC (λi j=>decide ((-(2^64)<i/\i<2^64)\/(-(2^64)<j/\j<2^64))) λi j=> .int (i*j)
noncomputable def ZG:Op2:=xIC (λi j=>decide (intBits i+intBits j<=134217728)) λi j=> .int (i*j)
noncomputable def Xe:Op2:=xIC (λ_ j=>decide (0<j)) λi j=> .int (i % j)
noncomputable def WR:Op2:=xIC (λ_ j=>decide (j≠0/\intBits j<=9000)) λi j=> .int (i.fdiv j)
noncomputable def zes:Op2:=xIC (λi j=>decide (0<=j/\j<=1000000/\i.natAbs<2^64)) λi j=> .int (i^j.toNat)
noncomputable def dLt:Op2:=xI λi j=> .bl (decide (i<j))
noncomputable def dGt:Op2:=xI λi j=> .bl (decide (j<i))
noncomputable def zbe:Op2:=xI λi j=> .bl (decide (i=j))
noncomputable def zet:Op2:=xI λi j=> .bl (!decide (i=j))
noncomputable def Vo:Xv->Sto->Option (Xv×Sto):=λx S=>match x with
 | .int i=>some (.int (-i),S)
 |_=>none
section
variable {K:E9} {E:XK} {F:Fm} {j j':List Addr} {H H':Hp} {σ σ':St} {ρ ρ':Rho} {S S':Sto} {x:Xv} {v:V} {ta tb:TE} {a b:TwE}
theorem zg8 {g:Int->Int->V} {g':Int->Int->Xv} (hg:∀i k j H,Xis K j H (g' i k) (g i k)):WP K (rI0 g) (xI g'):=by
 intro F j σ H ρ S S' x y z u v Q E1 hx hy h k
 unfold xI at h
 split at h
 ·cases h
  exact⟨_,_,hx.int_inv,hy.int_inv,k _ _ _ Ext.refl E1 (hg _ _ _ _)⟩
 ·cases h
theorem zg9 {C:Int->Int->Prop} {c:Int->Int->Bool} {g:Int->Int->V} {g':Int->Int->Xv} (hc:∀i j,c i j=true->C i j) (hg:∀i k j H,Xis K j H (g' i k) (g i k)):WP K (rI C g) (xIC c g'):=by
 intro F j σ H ρ S S' x y z u v Q E1 hx hy h k
 unfold xIC at h
 split at h
 ·split at h
  ·cases h
   exact⟨_,_,hx.int_inv,hy.int_inv,hc _ _ (by assumption),k _ _ _ Ext.refl E1 (hg _ _ _ _)⟩
  ·cases h
 ·cases h
theorem zcm {p:Int->Int->Bool} (ha:RE K E ta a) (hb:RE K E tb b):RE K E (zc6 p ta tb) (eOp (xI λi j=> .bl (p i j)) a b):=
 zt (r:=rI0 λi j=> .bl (p i j)) (zg8 λi k _ _=> .bl _) ha hb
theorem yO:WP K (rI0 λi j=> .int (i+j)) vx:=zg8 λ_ _ _ _=> .int _
theorem zac:WP K (rI0 λi j=> .int (i-j)) zer:=zg8 λ_ _ _ _=> .int _
theorem zeu:WP K (rI zgN λi j=> .int (i*j)) zgb:=zg9 (λi j h=>by simpa [zgN] using h) λ_ _ _ _=> .int _
theorem vg:WP K (rI zj8 λi j=> .int (i*j)) ZG:=zg9 (λi j h=>⟨intBits i,intBits j,Ek _,Ek _,by simpa using h⟩) λ_ _ _ _=> .int _
theorem Zu:WP K (rI (λ_ j=>0<j) λi j=> .int (i % j)) Xe:=zg9 (λi j h=>by simpa using h) λ_ _ _ _=> .int _
theorem Vp:WP K (rI zgY λi j=> .int (i.fdiv j)) WR:=zg9 (λi j h=>by simpa [zgY] using h) λ_ _ _ _=> .int _
theorem zev:WP K (rI zkB λi j=> .int (i^j.toNat)) zes:=zg9 (λi j h=>by simpa [zkB] using h) λ_ _ _ _=> .int _
theorem zkf (ha:RE K E ta a) (hb:RE K E tb b):RE K E (tLt ta tb) (eOp dLt a b):=zcm ha hb
theorem zff (ha:RE K E ta a) (hb:RE K E tb b):RE K E (tGt ta tb) (eOp dGt a b):=zcm ha hb
theorem VU (ha:RE K E ta a) (hb:RE K E tb b):RE K E (zlN ta tb) (eOp zbe a b):=zcm ha hb
theorem zcn (ha:RE K E ta a) (hb:RE K E tb b):RE K E (zlO ta tb) (eOp zet a b):=zcm ha hb
theorem WT:zl9 K (rU λi=> .int (-i)) Vo:=by
 intro F j σ H ρ S S' x z u Q E1 hx h k
 unfold Vo at h
 split at h
 ·cases h
  exact⟨_,hx.int_inv,k _ _ _ Ext.refl E1 (.int _)⟩
 ·cases h
noncomputable def zha (g:Int->Xv):Opn:=λxs S=>match xs with
 |[.int i]=>some (g i,S)
 |_=>none
theorem zi5 {g:Int->V} {g':Int->Xv} (hg:∀i j H,Xis K j H (g' i) (g i)):TW K (λxs H Q=>∃i,xs=[V.int i]/\Q (g i) H) (zha g'):=by
 intro F j σ H ρ S S' xs z vs Q E1 hv h k
 unfold zha at h
 split at h
 ·cases h
  obtain⟨x,rfl,hx⟩:=hv.d1
  exact⟨_,by rw[hx.int_inv],k _ _ _ Ext.refl E1 (hg _ _ _)⟩
 ·cases h
noncomputable def zhb:Opn:=zha λi=> .int (if i<0 then -i else i)
theorem zhc:TW K (λxs H Q=>∃i,xs=[V.int i]/\Q (.int (if i<0 then -i else i)) H) zhb:=zi5 λ_ _ _=> .int _
noncomputable def WU:Opn:=λxs S=>match xs with
 |[x]=>(Vn S x).map λl=>(.int l.length,S)
 |_=>none
theorem Xf:TW K (λxs H Q=>∃p ys,xs=[V.ref p]/\(SqL K H p ys\/SqT K H p ys)/\Q (.int ys.length) H) WU:=by
 intro F j σ H ρ S S' xs z vs Q E1 hv h k
 unfold WU at h
 split at h
 ·rename_i x
  cases e:Vn S x with
  |none=>rw[e] at h;cases h
  |some l=>
   rw[e] at h
   cases h
   obtain⟨w,rfl,hx⟩:=hv.d1
   obtain⟨a,ws,rfl,h1,h2⟩:=E1.seqAt hx e
   refine⟨a,ws,rfl,?_,k _ _ _ Ext.refl E1 (by rw[h2.len];exact .int _)⟩
   rcases h1 with h1|h1
   ·exact .inl h1.sql
   ·exact .inr h1
 ·cases h
noncomputable def UA:Opn:=λxs S=>match xs with
 |[x]=>(Vn S x).map λl=>(.ref S.length,S++[.lst l])
 |_=>none
theorem zco:TW K (λxs H Q=>∃p ys,xs=[V.ref p]/\(SqL K H p ys\/SqT K H p ys)/\∀l,H l=none->Q (.ref l) (upd H l (.lst ys))) UA:=by
 intro F j σ H ρ S S' xs z vs Q E1 hv h k
 unfold UA at h
 split at h
 ·rename_i x
  cases e:Vn S x with
  |none=>rw[e] at h;cases h
  |some l=>
   rw[e] at h
   cases h
   obtain⟨w,rfl,hx⟩:=hv.d1
   obtain⟨a,ws,rfl,h1,h2⟩:=E1.seqAt hx e
   refine⟨a,ws,rfl,?_,λp hp=> ?_⟩
   ·rcases h1 with h1|h1
    ·exact .inl h1.sql
    ·exact .inr h1
   ·obtain⟨E2,X2,h3⟩:=E1.lst h2 hp
    exact k _ _ _ X2 E2 h3
 ·cases h
noncomputable def VW:Opn:=λxs S=>match xs with
 |[.tup l]=>some (.tup l,S)
 |[x]=>(zu S x).map λl=>(.tup l,S)
 |_=>none
theorem zdw:TW K (λxs H Q=>∃p ys,xs=[V.ref p]/\((SqL K H p ys/\∀l,H l=none->Q (.ref l) (upd H l (.tup ys)))\/(SqT K H p ys/\Q (.ref p) H))) VW:=by
 intro F j σ H ρ S S' xs z vs Q E1 hv h k
 unfold VW at h
 split at h
 ·cases h
  obtain⟨w,rfl,hx⟩:=hv.d1
  obtain⟨a,ws,rfl,h1,h2⟩:=hx.tup_inv
  exact⟨a,ws,rfl,.inr ⟨SqT.of h1,k _ _ _ Ext.refl E1 hx⟩⟩
 ·rename_i x _
  cases e:zu S x with
  |none=>rw[e] at h;cases h
  |some l=>
   rw[e] at h
   cases h
   obtain⟨w,rfl,hx⟩:=hv.d1
   obtain⟨a,ws,rfl,h1,h2⟩:=E1.lstAt hx e
   refine⟨a,ws,rfl,.inl ⟨h1.sql,λp hp=> ?_⟩⟩
   obtain⟨E2,X2⟩:=E1.new (o:= .tup ws) hp
   exact k _ _ _ X2 E2 (.tup yj (h2.mono X2))
 ·cases h
noncomputable def XB:List Xv->Option (List Int)
 |[]=>some []
 | .int i::r=>(XB r).map (i:: ·)
 |_::_=>none
theorem zad:∀{xs:List Xv} {ns:List Int} {vs:List V},XB xs=some ns->zO K j H xs vs->vs=ns.map V.int
 |[],ns,vs,e,h=>by cases e;exact h.nil_inv
 |x::r,ns,vs,e,h=>by
  obtain⟨v,ws,rfl,h1,h2⟩:=h.cons_inv
  cases x<;>simp only[XB,reduceCtorEq] at e
  cases e2:XB r with
  |none=>rw[e2] at e;cases e
  |some ms=>
   rw[e2] at e
   cases e
   rw[h1.int_inv,zad e2 h2]
   rfl
theorem zbJ (ns:List Int):XB (ns.map Xv.int)=some ns:=by
 induction ns with
 |nil=>rfl
 |cons n r ih=>simp[XB,ih]
noncomputable def zae:Opn:=λxs S=>match xs with
 |[x]=>((zu S x).bind XB).map λns=>(.int ns.sum,S)
 |_=>none
theorem zaf:TW K (zl6 K) zae:=by
 intro F j σ H ρ S S' xs z vs Q E1 hv h k
 unfold zae at h
 split at h
 ·rename_i x
  cases e:zu S x with
  |none=>rw[e] at h;cases h
  |some l=>
   rw[e] at h
   cases e2:XB l with
   |none=>simp[e2] at h
   |some ns=>
    simp[e2] at h
    obtain⟨rfl,rfl⟩:=h
    obtain⟨w,rfl,hx⟩:=hv.d1
    obtain⟨p,ws,rfl,h1,h2⟩:=E1.lstAt hx e
    refine⟨p,ns,rfl,?_,k _ _ _ Ext.refl E1 (.int _)⟩
    rw[<-zad e2 h2]
    exact h1.sql
 ·cases h
noncomputable def xW (f:Xv->Option D):List Xv->Option (List D)
 |[]=>some []
 |x::r=>(f x).bind λd=>(xW f r).map (d:: ·)
noncomputable def yU (S:Sto):Nat->Xv->Option D
 |0,x=>match x with
  | .non=>some .non
  | .bl b=>some (.bl b)
  | .int i=>some (.int i)
  | .str s=>some (.str s)
  |_=>none
 |n+1,x=>match x with
  | .non=>some .non
  | .bl b=>some (.bl b)
  | .int i=>some (.int i)
  | .str s=>some (.str s)
  | .tup l=>(xW (yU S n) l).map .tup
  | .ct l=>(xW (yU S n) l).map .tup
  | .ref m=>(zu S (.ref m)).bind λl=>(xW (yU S n) l).map .lst
theorem YN {f:Xv->Option D} {n:Nat} (hf:∀x v d,Xis K j H x v->f x=some d->Is K H v d/\D.depth d<=n):∀{xs:List Xv} {vs:List V} {ds:List D},zO K j H xs vs->xW f xs=some ds->IsL K H vs ds/\D.depths ds<=n
 |_,_,_,.nil,e=>by cases e;exact⟨.nil,by simp[D.depths]⟩
 |x::r,_,ds,.cons h l,e=>by
  unfold xW at e
  cases e1:f x with
  |none=>rw[e1] at e;cases e
  |some d=>
   rw[e1] at e
   cases e2:xW f r with
   |none=>simp[e2] at e
   |some es=>
    simp[e2] at e
    subst e
    obtain⟨a1,a2⟩:=hf _ _ _ h e1
    obtain⟨b1,b2⟩:=YN hf l e2
    exact⟨.cons a1 b1,by unfold D.depths;omega⟩
theorem Xg (E1:En K F j H σ ρ S):∀(n:Nat) (x:Xv) (v:V) (d:D),Xis K j H x v->yU S n x=some d->Is K H v d/\D.depth d<=n
 |0,x,v,d,h,e=>by
  cases h<;>simp only[yU,Fg,reduceCtorEq] at e<;>subst e<;>refine⟨by constructor,by simp[D.depth]⟩
 |n+1,x,v,d,h,e=>by
  have ih:=Xg E1 n
  cases h with
  |non=>simp only[yU,Fg] at e;subst e;exact⟨.non,by simp[D.depth]⟩
  |bl b=>simp only[yU,Fg] at e;subst e;exact⟨.bl b,by simp[D.depth]⟩
  |int b=>simp only[yU,Fg] at e;subst e;exact⟨.int b,by simp[D.depth]⟩
  |str b=>simp only[yU,Fg] at e;subst e;exact⟨.str b,by simp[D.depth]⟩
  | @tup a vs l h1 h2=>
   simp only[yU] at e
   cases e2:xW (yU S n) l with
   |none=>rw[e2] at e;cases e
   |some ds=>
    rw[e2] at e
    cases e
    obtain⟨a1,a2⟩:=YN ih h2 e2
    exact⟨.tup (SqT.of h1) a1,by unfold D.depth;omega⟩
  | @ct a vs l h1 h2=>
   simp only[yU] at e
   cases e2:xW (yU S n) l with
   |none=>rw[e2] at e;cases e
   |some ds=>
    rw[e2] at e
    cases e
    obtain⟨a1,a2⟩:=YN ih h2 e2
    exact⟨.tup (h1 H) a1,by unfold D.depth;omega⟩
  | @ref m a h1=>
   simp only[yU] at e
   cases e1:zu S (.ref m) with
   |none=>rw[e1] at e;cases e
   |some l=>
    rw[e1] at e
    cases e2:xW (yU S n) l with
    |none=>simp[e2] at e
    |some ds=>
     simp[e2] at e
     subst e
     obtain⟨a',vs,ea,g1,g2⟩:=E1.lstAt (.ref h1) e1
     cases ea
     obtain⟨a1,a2⟩:=YN ih g2 e2
     exact⟨.lst g1.sql a1,by unfold D.depth;omega⟩
noncomputable def D.many:D->Bool
 | .tup _=>true
 | .lst _=>true
 |_=>false
noncomputable def zew (c:String) (S:Sto):Xv->Option Bool
 | .non=>some false
 | .int _=>some (c=="int")
 | .bl _=>some (c=="bool"||c=="int")
 | .str _=>some (c=="str")
 | .tup _=>some (c=="tuple")
 | .ct _=>some (c=="tuple")
 | .ref n=>(zu S (.ref n)).map λ_=>c=="list"
structure zdx (c:String):Prop where
 non:∀K,Ff K (.type "NoneType") (.type c)=some false
 bl:∀K,Ff K (.type "bool") (.type c)=some (c=="bool"||c=="int")
 int:∀K,Ff K (.type "int") (.type c)=some (c=="int")
 str:∀K,Ff K (.type "str") (.type c)=some (c=="str")
 tup:∀K,Ff K (.type "tuple") (.type c)=some (c=="tuple")
 lst:∀K,Ff K (.type "list") (.type c)=some (c=="list")
theorem VX (a b:String) (K:E9) (h1:(Value.type a==Value.type b)=false) (h:(fastBuiltinMro a).map (·.contains (.type b))=some false) (hm:Gk b=true):Ff K (.type a) (.type b)=some false:=zkM h1 h hm rfl
theorem zi6:zdx "int":=⟨λK=>VX _ _ K ∅ (by decide+kernel) (by decide+kernel),λK=>zcf,λK=>TR,λK=>VX _ _ K ∅ (by decide+kernel) (by decide+kernel),λK=>VX _ _ K ∅ (by decide+kernel) (by decide+kernel),λK=>VX _ _ K ∅ (by decide+kernel) (by decide+kernel)⟩
theorem zhd:zdx "bool":=⟨λK=>VX _ _ K ∅ (by decide+kernel) (by decide+kernel),λK=>TR,λK=>zcg,λK=>VX _ _ K ∅ (by decide+kernel) (by decide+kernel),λK=>VX _ _ K ∅ (by decide+kernel) (by decide+kernel),λK=>VX _ _ K ∅ (by decide+kernel) (by decide+kernel)⟩
theorem zdy:zdx "list":=⟨λK=>VX _ _ K ∅ (by decide+kernel) (by decide+kernel),λK=>VX _ _ K ∅ (by decide+kernel) (by decide+kernel),λK=>VX _ _ K ∅ (by decide+kernel) (by decide+kernel),λK=>VX _ _ K ∅ (by decide+kernel) (by decide+kernel),λK=>VX _ _ K ∅ (by decide+kernel) (by decide+kernel),λK=>TR⟩
noncomputable def zdz (c:String):Xv->Sto->Option (Xv×Sto):=λx S=>(zew c S x).map λb=>(.bl b,S)
theorem zi7 {c:String} (ok:zdx c) (E1:En K F j H σ ρ S) {b:Bool} {Q:VK} (h:Xis K j H x v) (e:zew c S x=some b) (k:Q (.bl b) H):zi0 K [v,.ty c] H Q:=by
 cases h with
 |non=>cases e;exact⟨_,_,_,_,_,rfl,rfl,.of .non,ok.non K,k⟩
 |bl b=>cases e;exact⟨_,_,_,_,_,rfl,rfl,.of (.bl b),ok.bl K,k⟩
 |int i=>cases e;exact⟨_,_,_,_,_,rfl,rfl,.of (.int i),ok.int K,k⟩
 |str z=>cases e;exact⟨_,_,_,_,_,rfl,rfl,.of (.str z),ok.str K,k⟩
 |tup h l=>cases e;exact⟨_,_,_,_,_,rfl,rfl,.sqt (SqT.of h),ok.tup K,k⟩
 |ct h l=>cases e;exact⟨_,_,_,_,_,rfl,rfl,.sqt (h H),ok.tup K,k⟩
 | @ref n a h=>
  simp only[zew] at e
  cases e1:zu S (.ref n) with
  |none=>rw[e1] at e;cases e
  |some l=>
   rw[e1] at e
   cases e
   obtain⟨a',vs,ea,g1,g2⟩:=E1.lstAt (.ref h) e1
   cases ea
   exact⟨_,_,_,_,_,rfl,rfl,.sql g1.sql,ok.lst K,k⟩
theorem zcp {c:String} {t:TE} {m:TwE} (ok:zdx c) (h:RE K E t m):RE K E (tCB (zi0 K) (Wz t (Wz (tC (.ty c)) zc9))) (eUn (zdz c) m):=by
 intro F j σ H ρ S r Q En0 e k
 rcases zA e with⟨x,S1,e1,e⟩|⟨c,S1,e1,rfl⟩
 ·obtain⟨z,S3,e3,rfl⟩:=wA e
  unfold zdz at e3
  cases e4:zew c S1 x with
  |none=>rw[e4] at e3;cases e3
  |some b=>
   rw[e4] at e3
   cases e3
   exact h En0 e1 λj1 H1 X1 E1 u hu=>zi7 ok E1 hu e4 (k _ _ X1 E1 _ (.bl _))
 ·exact h En0 e1 k
noncomputable def YO:Xv->Sto->Option (Xv×Sto):=λx S=>(zu S x).map λl=>(.ref S.length,S++[.lst l.reverse])
theorem zex {t:TE} {m:TwE} (h:RE K E t m):RE K E (zds K t) (eUn YO m):=by
 intro F j σ H ρ S r Q En0 e k
 rcases zA e with⟨x,S1,e1,e⟩|⟨c,S1,e1,rfl⟩
 ·obtain⟨z,S3,e3,rfl⟩:=wA e
  unfold YO at e3
  cases e4:zu S1 x with
  |none=>rw[e4] at e3;cases e3
  |some l=>
   rw[e4] at e3
   cases e3
   refine h En0 e1 λj1 H1 X1 E1 u hu=> ?_
   obtain⟨p,ys,rfl,h1,h2⟩:=E1.lstAt hu e4
   refine⟨p,ys,rfl,h1,λl hl=> ?_⟩
   obtain⟨E2,X2,h3⟩:=E1.lst h2.reverse hl
   exact k _ _ (X1.trans X2) E2 _ h3
 ·exact h En0 e1 k
noncomputable def vF (xs:List Xv):List Xv:=xs.zipIdx.map λp=> .tup [.int (p.2:Int),p.1]
theorem XL {xs:List Xv} {i:Nat} {y:Xv} (h:(vF xs)[i]? =some y):∃x,xs[i]? =some x/\y= .tup [.int (i:Int),x]:=by
 unfold vF at h
 rw[Ef,List.getElem?_zipIdx] at h
 cases e:xs[i]? with
 |none=>rw[e] at h;cases h
 |some x=>
  rw[e] at h
  simp at h
  exact⟨x,rfl,h.symm⟩
theorem Wn (xs:List Xv):(vF xs).length=xs.length:=by simp[vF]
noncomputable def iEn (m:TwE):TwI:=λρ S=>rb (m ρ S) λx S1=>(zu S1 x).map λ_=> .ok (λS=>(zu S x).map vF) S1
theorem zmz {p:Addr} {H':Hp} {i:Int} {y:Xv} {w:V} (Sm:WL H H') (hp:H' p=some (.tup [.int i,w])) (h:Xis K j H y w):Xis K j H' (.tup [.int i,y]) (.ref p):=
 .tup hp (.cons (.int i) (.one (h.mono (Ext.same Sm))))
theorem Ta {t:TE} {m:TwE} (h:RE K E t m):RI K E (zkb K (Wz t zc9)) (iEn m):=by
 intro F j σ H ρ S r R En0 e k
 rcases zA e with⟨x,S1,e1,e⟩|⟨c,S1,e1,rfl⟩
 ·cases el:zu S1 x with
  |none=>rw[el] at e;cases e
  |some l=>
   rw[el] at e
   cases e
   refine h En0 e1 λj1 H1 X1 E1 u hu=> ?_
   obtain⟨a,vs,rfl,h1,_⟩:=E1.lstAt hu el
   refine⟨a,rfl,⟨vs,h1.sql⟩,k _ _ X1 E1 _ ?_⟩
   intro F2 j2 H2 σ2 ρ2 S2 xs i X2 E2 e2
   dsimp only at e2
   cases qV:zu S2 x with
   |none=>rw[qV] at e2;cases e2
   |some l2=>
    rw[qV] at e2
    cases e2
    obtain⟨a',ws,ea,g1,g2⟩:=E2.lstAt (hu.mono X2) qV
    cases ea
    refine⟨λy ey=> ?_,λhle=>⟨ws,g1.sql,by rw[g2.len];rw[Wn] at hle;omega⟩⟩
    obtain⟨y',ey',rfl⟩:=XL ey
    obtain⟨w,f1,f2⟩:=g2.get ey'
    refine⟨⟨ws,w,g1.sql,f1⟩,?_⟩
    rintro v' H' ⟨p,w',rfl,hp,rfl,hx⟩
    have:=hx ws g1.sql
    rw[f1] at this
    cases this
    exact⟨vA hp,zmz (vA hp) yj f2⟩
 ·exact h En0 e1 k
end
end L2
namespace L2
open PySem PySem.Spec PyProof.Rows
noncomputable def XM:Xv->Option Key
 | .int i=>some (.inl i)
 | .str z=>some (.inr z)
 |_=>none
noncomputable def Zv (S:Sto):Xv->Option (Nat×List (Key×Xv))
 | .ref n=>match S[n]? with
  |some (.dk kvs)=>some (n,kvs)
  |_=>none
 |_=>none
noncomputable def xP (S:Sto):Xv->Option (Nat×List (Key×Xv))
 | .ref n=>match S[n]? with
  |some (.dk kvs)=>some (n,kvs)
  |some (.fdk kvs)=>some (n,kvs)
  |_=>none
 |_=>none
noncomputable def yV {κ:Type} [DecidableEq κ] (kvs:List (κ×Xv)) (k:κ):Option Xv:=(kvs.find? λkv=>decide (kv.1=k)).map (·.2)
noncomputable def XC {κ:Type} [DecidableEq κ] (kvs:List (κ×Xv)) (k:κ) (x:Xv):List (κ×Xv):=
 if (kvs.any λkv=>decide (kv.1=k))=true then kvs.map (λkv=>if kv.1=k then (kv.1,x) else kv) else kvs++[(k,x)]
section
variable {K:E9} {E:XK} {F:Fm} {j:List Addr} {H:Hp} {σ:St} {ρ:Rho} {S:Sto} {x:Xv} {v:V} {κ:Type}
theorem Wo {k:Key} (h:Xis K j H x v) (e:XM x=some k):v=kV k:=by
 cases h<;>simp only[XM,Fg,reduceCtorEq] at e<;>subst e<;>rfl
theorem VY {n:Nat} {kvs:List (Key×Xv)} (h:Zv S x=some (n,kvs)):x= .ref n/\S[n]? =some (.dk kvs):=by
 cases x<;>simp only[Zv,reduceCtorEq] at h
 split at h
 ·cases h;exact⟨rfl,by assumption⟩
 ·cases h
theorem En.dk {n:Nat} {kvs:List (Key×Xv)} (E1:En K F j H σ ρ S) (hx:Xis K j H x v) (h:Zv S x=some (n,kvs)):∃a ks,v= .ref a/\j[n]? =some a/\H a=some (.dK ks)/\KX K j H kvs ks:=by
 obtain⟨rfl,hs⟩:=VY h
 obtain⟨a,rfl,hj⟩:=hx.ref_inv
 obtain⟨ks,e1,e2⟩:=E1.cel _ _ _ hs hj
 exact⟨a,ks,rfl,hj,e1,e2⟩
theorem zcq {p:Nat×List (Key×Xv)} (h:Zv S x=some p):xP S x=some p:=by
 obtain⟨n,kvs⟩:=p
 obtain⟨rfl,e⟩:=VY h
 unfold xP
 dsimp only
 rw[e]
theorem zi8 {n:Nat} {kvs:List (Key×Xv)} (h:S[n]? =some (.fdk kvs)):xP S (.ref n)=some (n,kvs):=by
 unfold xP
 dsimp only
 rw[h]
theorem En.dr {n:Nat} {kvs:List (Key×Xv)} (E1:En K F j H σ ρ S) (hx:Xis K j H x v) (h:xP S x=some (n,kvs)):∃a ks,v= .ref a/\j[n]? =some a/\Rd H a (.dK ks)/\KX K j H kvs ks:=by
 cases x<;>simp only[xP,reduceCtorEq] at h
 obtain⟨a,rfl,hj⟩:=hx.ref_inv
 split at h
 ·rename_i hs
  cases h
  obtain⟨ks,e1,e2⟩:=E1.cel _ _ _ hs hj
  exact⟨a,ks,rfl,hj,.inl e1,e2⟩
 ·rename_i hs
  cases h
  obtain⟨o,ks,e1,e2⟩:=E1.cel _ _ _ hs hj
  exact⟨a,ks,rfl,hj,.inr ⟨o,e1⟩,e2⟩
 ·cases h
theorem Rd.new {a p:Addr} {u o:HO} (h:Rd H a u) (hp:H p=none):Rd (upd H p o) a u:=by
 rcases h with h|⟨q,h⟩
 ·exact .inl (by rw[yb (xK h hp)];exact h)
 ·exact .inr ⟨q,by rw[yb (xK h hp)];exact h⟩
theorem WK.r {a:Addr} {kvs:List (Key×V)} {k:Key} (e:Rd H a (.dK kvs)):WK H a (kV k) (Zq kvs k):= .inl ⟨kvs,k,e,rfl,rfl⟩
theorem KX.len:∀{kvs:List (κ×Xv)} {ks:List (κ×V)},KX K j H kvs ks->ks.length=kvs.length
 |_,_,.nil=>rfl
 |_,_,.cons _ l=>by rw[EB,EB,l.len]
theorem KX.keys:∀{kvs:List (κ×Xv)} {ks:List (κ×V)},KX K j H kvs ks->ks.map (·.1)=kvs.map (·.1)
 |_,_,.nil=>rfl
 |_,_,.cons _ l=>by rw[Eg,Eg,l.keys]
theorem KX.vals:∀{kvs:List (κ×Xv)} {ks:List (κ×V)},KX K j H kvs ks->zO K j H (kvs.map (·.2)) (ks.map (·.2))
 |_,_,.nil=> .nil
 |_,_,.cons h l=> .cons h l.vals
theorem KX.val [DecidableEq κ] {k:κ}:∀{kvs:List (κ×Xv)} {ks:List (κ×V)},KX K j H kvs ks->(∀y,yV kvs k=some y->∃w,Zq ks k=some w/\Xis K j H y w)/\(yV kvs k=none->Zq ks k=none)
 |_,_,.nil=>⟨λ_ e=>by simp[yV] at e,λ_=>rfl⟩
 |(k1,y1)::r,(_,w1)::rs,.cons h l=>by
  obtain⟨i1,i2⟩:=KX.val (k:=k) l
  by_cases e:k1=k
  ·subst e
   refine⟨λy ey=> ?_,λey=> ?_⟩
   ·simp[yV] at ey
    subst ey
    exact⟨w1,by simp[Zq],h⟩
   ·simp[yV] at ey
  ·have e1:yV ((k1,y1)::r) k=yV r k:=by simp[yV,F1,e]
   have e2:Zq ((k1,w1)::rs) k=Zq rs k:=by simp[Zq,F1,e]
   rw[e1,e2]
   exact⟨i1,i2⟩
theorem KX.append:∀{kvs r:List (κ×Xv)} {ks rs:List (κ×V)},KX K j H kvs ks->KX K j H r rs->KX K j H (kvs++r) (ks++rs)
 |_,_,_,_,.nil,h=>h
 |_,_,_,_,.cons h l,g=> .cons h (l.append g)
theorem KX.any {f:κ->Bool}:∀{kvs:List (κ×Xv)} {ks:List (κ×V)},KX K j H kvs ks->(ks.any λp=>f p.1)=kvs.any λp=>f p.1
 |_,_,.nil=>rfl
 |_,_,.cons _ l=>by rw[GJ,GJ,l.any]
theorem KX.put [DecidableEq κ] {k:κ} (hx:Xis K j H x v) {kvs:List (κ×Xv)} {ks:List (κ×V)} (h:KX K j H kvs ks):KX K j H (XC kvs k x) (VQ ks k v):=by
 unfold XC VQ
 rw[h.any (f:=λa=>decide (a=k))]
 split
 ·rename_i hc
  clear hc
  induction h with
  |nil=>exact .nil
  | @cons k1 y w r rs h l ih=>
   rw[Eg,Eg]
   by_cases e:k1=k
   ·rw[if_pos e,if_pos e];exact .cons hx ih
   ·rw[if_neg e,if_neg e];exact .cons h ih
 ·exact h.append (.cons hx .nil)
theorem En.wdk {n:Nat} {kvs kvs':List (Key×Xv)} {ws:List (Key×V)} {a:Addr} (E1:En K F j H σ ρ S) (h:Zv S x=some (n,kvs)) (hj:j[n]? =some a) (hw:KX K j H kvs' ws):En K F j (upd H a (.dK ws)) σ ρ (S.set n (.dk kvs'))/\Ext j H j (upd H a (.dK ws)):=
 E1.write (VY h).2 rfl hj rfl λX=>⟨ws,yj,hw.mono X⟩
noncomputable def WV:TwE:=λ_ S=>some (.ok (.ref S.length) (S++[.dk []]))
theorem Vq:RE K E zgS WV:=by
 intro F j σ H ρ S r Q En0 e k p hp
 cases e
 have X:Ext j H (j++[p]) (upd H p (.dK [])):=⟨λn a e=>by rw[Ed (E8.1 e).1];exact e,ZE.same (vA hp)⟩
 obtain⟨E1,_⟩:=En0.cell (o:= .dK []) (c:= .dk []) hp ⟨[],yj,.nil⟩
 exact k _ _ X E1 _ (.ref (by rw[<-En0.jl];simp))
noncomputable def Vr (d k:TwE):TwE:=λρ S=>rb (d ρ S) λx S1=>rb (k ρ S1) λy S2=>match xP S2 x,XM y with
 |some (_,kvs),some key=>(yV kvs key).map λz=> .ok z S2
 |_,_=>none
theorem Vs {td ty:TE} {d k:TwE} (hd:RE K E td d) (hk:RE K E ty k):RE K E (zj6 td ty) (Vr d k):=by
 intro F j σ H ρ S r Q En0 e kk
 rcases zA e with⟨x,S1,e1,e⟩|⟨c,S1,e1,rfl⟩
 ·refine hd En0 e1 λj1 H1 X1 E1 u hu=> ?_
  rcases zA e with⟨y,S2,e2,e⟩|⟨c,S2,e2,rfl⟩
  ·refine hk E1 e2 λj2 H2 X2 E2 w hw=> ?_
   split at e
   ·rename_i n kvs key ed ek
    cases ev:yV kvs key with
    |none=>rw[ev] at e;cases e
    |some z=>
     rw[ev] at e
     cases e
     obtain⟨a,ks,rfl,hj,f1,f2⟩:=E2.dr (hu.mono X2) ed
     obtain⟨z',g1,g2⟩:=f2.val.1 _ ev
     refine⟨a,z',rfl,?_,kk _ _ (X1.trans X2) E2 _ g2⟩
     rw[Wo hw ek,<-g1]
     exact WK.r f1
   ·cases e
  ·exact hk E1 e2 (PX.mono kk X1)
 ·exact hd En0 e1 kk
noncomputable def zkS (neg:Bool) (k d:TwE):TwE:=λρ S=>rb (k ρ S) λy S1=>rb (d ρ S1) λx S2=>match Zv S2 x,XM y with
 |some (_,kvs),some key=>some (.ok (.bl (neg !=(yV kvs key).isSome)) S2)
 |_,_=>none
theorem zcr {a:Addr} {ks:List (Key×V)} {kvs:List (Key×Xv)} {key:Key} (f1:H a=some (.dK ks)) (f2:KX K j H kvs ks):∃o,WK H a (kV key) o/\o.isSome=(yV kvs key).isSome/\∀z zd,Xis K j H z zd->Xis K j H ((yV kvs key).getD z) (o.getD zd):=by
 refine⟨_,WK.k f1,?_,λz zd hz=> ?_⟩
 ·cases ev:yV kvs key with
  |none=>rw[f2.val.2 ev];rfl
  |some y=>obtain⟨w,g1,_⟩:=f2.val.1 _ ev;rw[g1];rfl
 ·cases ev:yV kvs key with
  |none=>rw[f2.val.2 ev];exact hz
  |some y=>obtain⟨w,g1,g2⟩:=f2.val.1 _ ev;rw[g1];exact g2
theorem zgc {td ty:TE} {d k:TwE} (hk:RE K E ty k) (hd:RE K E td d):RE K E (ze9 ty td) (zkS true k d):=by
 intro F j σ H ρ S r Q En0 e kk
 rcases zA e with⟨y,S1,e1,e⟩|⟨c,S1,e1,rfl⟩
 ·refine hk En0 e1 λj1 H1 X1 E1 u hu=> ?_
  rcases zA e with⟨x,S2,e2,e⟩|⟨c,S2,e2,rfl⟩
  ·refine hd E1 e2 λj2 H2 X2 E2 w hw=> ?_
   split at e
   ·rename_i n kvs key ed ek
    cases e
    obtain⟨a,ks,rfl,hj,f1,f2⟩:=E2.dk hw ed
    obtain⟨o,g1,g2,_⟩:=zcr (key:=key) f1 f2
    refine⟨a,o,rfl,by rw[Wo (hu.mono X2) ek];exact g1,kk _ _ (X1.trans X2) E2 _ ?_⟩
    rw[g2,JD]
    exact .bl _
   ·cases e
  ·exact hd E1 e2 (PX.mono kk X1)
 ·exact hk En0 e1 kk
noncomputable def zag (d k z:TwE):TwE:=λρ S=>rb (d ρ S) λx S1=>(Zv S1 x).bind λ_=>rb (k ρ S1) λy S2=>rb (z ρ S2) λw S3=>match Zv S3 x,XM y with
 |some (_,kvs),some key=>some (.ok ((yV kvs key).getD w) S3)
 |_,_=>none
theorem zah {td ty tx:TE} {d k z:TwE} (hd:RE K E td d) (hk:RE K E ty k) (hz:RE K E tx z):RE K E (zgT td ty tx) (zag d k z):=by
 intro F j σ H ρ S r Q En0 e kk
 rcases zA e with⟨x,S1,e1,e⟩|⟨c,S1,e1,rfl⟩
 ·refine hd En0 e1 λj1 H1 X1 E1 u hu=> ?_
  cases qZ:Zv S1 x with
  |none=>rw[qZ] at e;cases e
  |some p0=>
   rw[qZ] at e
   obtain⟨n0,Ar⟩:=p0
   obtain⟨a,As,rfl,uh,f0,_⟩:=E1.dk hu qZ
   refine⟨a,rfl,.inl ⟨As,.inl f0⟩,?_⟩
   rcases zA e with⟨y,S2,e2,e⟩|⟨c,S2,e2,rfl⟩
   ·refine hk E1 e2 λj2 H2 X2 E2 w hw=> ?_
    rcases zA e with⟨q,S3,e3,e⟩|⟨c,S3,e3,rfl⟩
    ·refine hz E2 e3 λj3 H3 X3 E3 wq hq=> ?_
     split at e
     ·rename_i n kvs key ed ek
      cases e
      obtain⟨a',ks,ea,hj,f1,f2⟩:=E3.dk (hu.mono (X2.trans X3)) ed
      cases ea
      obtain⟨o,g1,_,g3⟩:=zcr (key:=key) f1 f2
      exact⟨o,by rw[Wo hw ek];exact g1,kk _ _ (X1.trans (X2.trans X3)) E3 _ (g3 _ _ hq)⟩
     ·cases e
    ·exact hz E2 e3 (PX.mono kk (X1.trans X2))
   ·exact hk E1 e2 (PX.mono kk X1)
 ·exact hd En0 e1 kk
noncomputable def VZ (d k v:TwE):TwS:=λρ S=>sb (v ρ S) λz S1=>sb (d ρ S1) λx S2=>sb (k ρ S2) λy S3=>match Zv S3 x,XM y with
 |some (n,kvs),some key=>if kvs.length<sizeLine then some (.nx ρ (S3.set n (.dk (XC kvs key z)))) else none
 |_,_=>none
theorem Tc {td ty tv:TE} {d k v:TwE} (hd:RE K E td d) (hk:RE K E ty k) (hv:RE K E tv v):RS K E (zj7 td ty tv) (VZ d k v):=by
 intro F j D' σ H ρ S fl E0 e kk
 rcases xt e with⟨z,S1,e1,e⟩|⟨c,S1,e1,rfl⟩
 ·refine hv E0 e1 λj1 H1 X1 E1 wz pE=> ?_
  rcases xt e with⟨x,S2,e2,e⟩|⟨c,S2,e2,rfl⟩
  ·refine hd E1 e2 λj2 H2 X2 E2 u hu=> ?_
   rcases xt e with⟨y,S3,e3,e⟩|⟨c,S3,e3,rfl⟩
   ·refine hk E2 e3 λj3 H3 X3 E3 w hw=> ?_
    split at e
    ·rename_i n kvs key ed ek
     split at e
     ·rename_i hl
      cases e
      obtain⟨a,ks,rfl,hj,f1,f2⟩:=E3.dk (hu.mono X3) ed
      obtain⟨E4,X4⟩:=E3.wdk ed hj (f2.put (k:=key) (pE.mono (X2.trans X3)))
      refine⟨a,_,rfl,?_,kk _ _ _ (X1.trans (X2.trans (X3.trans X4))) E4⟩
      rw[Wo hw ek]
      exact zei.k f1 (by rw[f2.len];exact hl)
     ·cases e
    ·cases e
   ·exact hk E2 e3 (PX.mono kk (X1.trans X2))
  ·exact hd E1 e2 (PX.mono kk X1)
 ·exact hv E0 e1 kk
noncomputable def vG {β:Type}:List (Key×β)->Option (List Int)
 |[]=>some []
 |(.inl i,_)::r=>(vG r).map (i:: ·)
 |_=>none
theorem YQ {β:Type}:∀{kvs:List (Key×β)} {ns:List Int},vG kvs=some ns->kvs.map (·.1)=ns.map F6
 |[],ns,e=>by cases e;rfl
 |(.inl i,b)::r,ns,e=>by
  unfold vG at e
  cases e1:vG r with
  |none=>rw[e1] at e;cases e
  |some ms=>rw[e1] at e;cases e;rw[Eg,Eg,YQ e1]
 |(.inr i,b)::r,ns,e=>by cases e
noncomputable def zai:Opn:=λxs S=>match xs with
 |[x]=>((Zv S x).bind λp=>vG p.2).bind λns=>if ns.length<64 then some (.ref S.length,S++[.lst ((yQ ns).map Xv.int)]) else none
 |_=>none
theorem zhe:TW K zg4 zai:=by
 intro F j σ H ρ S S' xs z vs Q E1 hv h k
 unfold zai at h
 split at h
 ·rename_i x
  cases e:Zv S x with
  |none=>rw[e] at h;cases h
  |some p=>
   obtain⟨n,kvs⟩:=p
   rw[e] at h
   cases e2:vG kvs with
   |none=>simp[e2] at h
   |some ns=>
    simp only[Ee,e2] at h
    split at h
    ·rename_i cJ
     cases h
     obtain⟨w,rfl,hx⟩:=hv.d1
     obtain⟨a,ks,rfl,hj,h1,h2⟩:=E1.dk hx e
     refine⟨a,ks,ns,rfl,h1,h2.keys.trans (YQ e2),cJ,λq hq=> ?_⟩
     obtain⟨E2,X2,h3⟩:=E1.lst (zO.ints (yQ ns)) hq
     exact k _ _ _ X2 E2 h3
    ·cases h
 ·cases h
theorem zi9 {a:Addr} {ks:List (Key×V)} (h:Rd H a (.dK ks)):tyV K "dict" (.ref a) H:= .inr (.inr (.inl ⟨rfl,.inl ⟨ks,h⟩⟩))
theorem tyD {a:Addr} {ks:List (Key×V)} (h:H a=some (.dK ks)):tyV K "dict" (.ref a) H:=zi9 (.inl h)
noncomputable def zdA:Xv->Sto->Option (Xv×Sto):=λx S=>((xP S x).bind λp=>XB (p.2.map (·.2))).map λns=>(.int ns.sum,S)
theorem zja {to:TE} {o:TwE} (h:RE K E to o):RE K E (tCB zkd (Wz (zde K "dict" zkc to) zc9)) (eUn zdA o):=by
 intro F j σ H ρ S r Q En0 e k
 rcases zA e with⟨x,S1,e1,e⟩|⟨c,S1,e1,rfl⟩
 ·obtain⟨z,S3,e3,rfl⟩:=wA e
  refine h En0 e1 λj1 H1 X1 E1 u hu=> ?_
  unfold zdA at e3
  cases e4:xP S1 x with
  |none=>rw[e4] at e3;cases e3
  |some p=>
   obtain⟨n,kvs⟩:=p
   rw[e4] at e3
   cases e2:XB (kvs.map (·.2)) with
   |none=>simp[e2] at e3
   |some ns=>
    simp only[Ee,e2,FI,Fg,Prod.mk.injEq] at e3
    obtain⟨rfl,rfl⟩:=e3
    obtain⟨a,ks,rfl,hj,h1,h2⟩:=E1.dr hu e4
    refine⟨zi9 h1,a,ks,rfl,rfl,h1,λp hp=> ?_⟩
    obtain⟨E2,X2⟩:=E1.new (o:=zdu p a) hp
    exact⟨p,a,ks,ns,rfl,yj,h1.new hp,zad e2 h2.vals,k _ _ (X1.trans X2) E2 _ (.int _)⟩
 ·exact h En0 e1 k
noncomputable def WW (neg:Bool):Op2:=λx y S=>match zu S x,zu S y with
 |some xs,some []=>some (.bl (neg !=xs.isEmpty),S)
 |_,_=>none
theorem zaj {neg:Bool}:WP K (zeo K neg) (WW neg):=by
 intro F j σ H ρ S S' x y z u v Q E1 hx hy h k
 unfold WW at h
 split at h
 ·rename_i xs e1 e2
  cases h
  obtain⟨a,vs,rfl,h1,h2⟩:=E1.lstAt hx e1
  obtain⟨b,ws,rfl,g1,g2⟩:=E1.lstAt hy e2
  cases g2
  refine⟨a,b,vs,rfl,rfl,h1.sql,g1.sql,k _ _ _ Ext.refl E1 ?_⟩
  have:vs.isEmpty=xs.isEmpty:=by cases h2<;>rfl
  rw[this]
  exact .bl _
 ·cases h
end
open PySem.Builtin.Int (intBits)
def W {α:Type} (r:Option (Rs α)) (P:α->Sto->Prop):Prop:=∃a S,r=some (.ok a S)/\P a S
def WO (r:Option (Xv×Sto)) (P:Xv->Sto->Prop):Prop:=∃a S,r=some (a,S)/\P a S
def WS (r:Option Fl) (N:Rho->Sto->Prop) (R:Xv->Sto->Prop):Prop:=(∃ρ S,r=some (.nx ρ S)/\N ρ S)\/∃x S,r=some (.rt x S)/\R x S
section
variable {ρ:Rho} {S S':Sto} {d x y:Xv} {a b m o:TwE} {c:TwT} {s t:TwS} {i k:Nat} {P:Xv->Sto->Prop} {PB:Bool->Sto->Prop} {PL:List Xv->Sto->Prop} {PO:Option Int->Sto->Prop} {N:Rho->Sto->Prop} {R:Xv->Sto->Prop}
theorem W.of {α:Type} {r:Option (Rs α)} {a:α} {P:α->Sto->Prop} (e:r=some (.ok a S)) (h:P a S):W r P:=⟨a,S,e,h⟩
theorem WO.of {r:Option (Xv×Sto)} (e:r=some (x,S)) (h:P x S):WO r P:=⟨x,S,e,h⟩
theorem W.imp {α:Type} {r:Option (Rs α)} {P Q:α->Sto->Prop} (h:W r P) (k:∀a S,P a S->Q a S):W r Q:=by
 obtain⟨a,S,e,h⟩:=h
 exact⟨a,S,e,k _ _ h⟩
theorem WS.nx {r:Option Fl} (e:r=some (.nx ρ S)) (h:N ρ S):WS r N R:= .inl ⟨ρ,S,e,h⟩
theorem WS.rt {r:Option Fl} (e:r=some (.rt x S)) (h:R x S):WS r N R:= .inr ⟨x,S,e,h⟩
theorem W.bind {α β:Type} {r:Option (Rs α)} {f:α->Sto->Option (Rs β)} {P:β->Sto->Prop} (h:W r λa S=>W (f a S) P):W (rb r f) P:=by
 obtain⟨a,S,rfl,h⟩:=h
 exact h
theorem WS.bind {α:Type} {r:Option (Rs α)} {f:α->Sto->Option Fl} (h:W r λa S=>WS (f a S) N R):WS (sb r f) N R:=by
 obtain⟨a,S,rfl,h⟩:=h
 exact h
theorem W.okP {r:Option (Xv×Sto)} (h:WO r P):W (okP r) P:=by
 obtain⟨a,S,rfl,h⟩:=h
 exact⟨a,S,rfl,h⟩
theorem Zw (h:ρ[i]? =some (some d)) (k:P d S):W (ze i ρ S) P:= .of (by unfold ze;rw[h]) k
theorem zkT (k:P d S):W (eC d ρ S) P:= .of rfl k
theorem UB {f:Op2} (h:W (a ρ S) λx S1=>W (b ρ S1) λy S2=>WO (f x y S2) P):W (eOp f a b ρ S) P:=W.bind (h.imp λ_ _ h=>W.bind (h.imp λ_ _ h=>W.okP h))
theorem zmd {f:Xv->Sto->Option (Xv×Sto)} (h:W (a ρ S) λx S1=>WO (f x S1) P):W (eUn f a ρ S) P:=W.bind (h.imp λ_ _ h=>W.okP h)
theorem zdB (h:W (a ρ S) λx S1=>∃v,x= .bl v/\PB v S1):W (bE a ρ S) PB:=W.bind (h.imp λx S1 h=>by obtain⟨v,rfl,k⟩:=h;exact .of rfl k)
theorem zak (h:W (c ρ S) λv S1=>PB (!v) S1):W (zf7 c ρ S) PB:=W.bind (h.imp λ_ _ k=> .of rfl k)
theorem zkU {c2:TwT} (h:W (c ρ S) λv S1=>(v=true->W (c2 ρ S1) PB)/\(v=false->PB false S1)):W (zkN c c2 ρ S) PB:=W.bind (h.imp λv S1 k=>by
 cases v with
 |true=>rw[if_pos rfl];exact k.1 rfl
 |false=>exact .of rfl (k.2 rfl))
theorem zbK {c2:TwT} (h:W (c ρ S) λv S1=>(v=true->PB true S1)/\(v=false->W (c2 ρ S1) PB)):W (bOr c c2 ρ S) PB:=W.bind (h.imp λv S1 k=>by
 cases v with
 |true=>exact .of rfl (k.1 rfl)
 |false=>rw[if_neg (by simp)];exact k.2 rfl)
theorem WX (k:PL [] S):W (evL [] ρ S) PL:= .of rfl k
theorem vh {ms:List TwE} (h:W (m ρ S) λd S1=>W (evL ms ρ S1) λds S2=>PL (d::ds) S2):W (evL (m::ms) ρ S) PL:=W.bind (h.imp λ_ _ h=>W.bind (h.imp λ_ _ k=> .of rfl k))
theorem zey {ms:List TwE} (h:W (evL ms ρ S) λds S1=>P (.tup ds) S1):W (vD ms ρ S) P:=W.bind (h.imp λ_ _ k=> .of rfl k)
theorem zkV {ms:List TwE} (h:W (evL ms ρ S) λds S1=>P (.ref S1.length) (S1++[.lst ds])):W (Zr ms ρ S) P:=W.bind (h.imp λ_ _ k=> .of rfl k)
theorem zhf {f:Opn} {ms:List TwE} (h:W (evL ms ρ S) λds S1=>WO (f ds S1) P):W (eFn f ms ρ S) P:=W.bind (h.imp λ_ _ h=>W.okP h)
theorem Vt {tw:TwF} {ms:List TwE} (h:W (evL ms ρ S) λds S1=>W (tw ds S1) P):W (zC tw ms ρ S) P:=W.bind h
theorem zhg (h:W (m ρ S) λx S1=>∃k,x= .int k/\PO (some k) S1):W (zfd m ρ S) PO:=W.bind (h.imp λx S1 h=>by obtain⟨v,rfl,k⟩:=h;exact .of rfl k)
theorem zme {f:Xv->Option Int->Option Int->Sto->Option (Xv×Sto)} {lo hi:TwO} (h:W (m ρ S) λx S1=>W (lo ρ S1) λu S2=>W (hi ρ S2) λv S3=>WO (f x u v S3) P):W (eSl f m lo hi ρ S) P:=
 W.bind (h.imp λ_ _ h=>W.bind (h.imp λ_ _ h=>W.bind (h.imp λ_ _ h=>W.okP h)))
theorem ZH {f:OpM} {ms:List TwE} (h:W (o ρ S) λx S1=>(∃l,zu S1 x=some l)/\W (evL ms ρ S1) λys S2=>WO (f x ys S2) P):W (eMt f o ms ρ S) P:=W.bind (h.imp λx S1 h=>by
 obtain⟨⟨l,e⟩,h⟩:=h
 rw[e,Ee]
 exact W.bind (h.imp λ_ _ h=>W.okP h))
theorem zhh (k:P (.ref S.length) (S++[.dk []])):W (WV ρ S) P:= .of rfl k
theorem zal (h:W (a ρ S) λx S1=>W (b ρ S1) λy S2=>∃n kvs k z,xP S2 x=some (n,kvs)/\XM y=some k/\yV kvs k=some z/\P z S2):W (Vr a b ρ S) P:=
 W.bind (h.imp λ_ _ h=>W.bind (h.imp λ_ _ h=>by obtain⟨n,kvs,k,z,e1,e2,e3,q⟩:=h;rw[e1,e2];dsimp only;rw[e3];exact .of rfl q))
theorem zcs (h:W (a ρ S) λx S1=>W (b ρ S1) λy S2=>∃n kvs k z,Zv S2 x=some (n,kvs)/\XM y=some k/\yV kvs k=some z/\P z S2):W (Vr a b ρ S) P:=zal (h.imp λ_ _ h=>h.imp λ_ _ ⟨n,kvs,k,z,e,r⟩=>⟨n,kvs,k,z,zcq e,r⟩)
theorem zkW {neg:Bool} (h:W (a ρ S) λy S1=>W (b ρ S1) λx S2=>∃n kvs k,Zv S2 x=some (n,kvs)/\XM y=some k/\P (.bl (neg !=(yV kvs k).isSome)) S2):W (zkS neg a b ρ S) P:=
 W.bind (h.imp λ_ _ h=>W.bind (h.imp λ_ _ h=>by obtain⟨n,kvs,k,e1,e2,q⟩:=h;rw[e1,e2];exact .of rfl q))
theorem zam {z:TwE} (h:W (a ρ S) λx S1=>(∃p,Zv S1 x=some p)/\W (b ρ S1) λy S2=>W (z ρ S2) λw S3=>∃n kvs k,Zv S3 x=some (n,kvs)/\XM y=some k/\P ((yV kvs k).getD w) S3):W (zag a b z ρ S) P:=
 W.bind (h.imp λx S1 h=>by
  obtain⟨⟨p,e0⟩,h⟩:=h
  rw[e0,Ee]
  exact W.bind (h.imp λ_ _ h=>W.bind (h.imp λ_ _ h=>by obtain⟨n,kvs,k,e1,e2,q⟩:=h;rw[e1,e2];exact .of rfl q)))
theorem Td (h:W (m ρ S) λz S1=>W (a ρ S1) λx S2=>W (b ρ S2) λy S3=>∃n kvs k,Zv S3 x=some (n,kvs)/\XM y=some k/\kvs.length<sizeLine/\N ρ (S3.set n (.dk (XC kvs k z)))):WS (VZ a b m ρ S) N R:=
 WS.bind (h.imp λ_ _ h=>WS.bind (h.imp λ_ _ h=>WS.bind (h.imp λ_ _ h=>by obtain⟨n,kvs,k,e1,e2,e3,q⟩:=h;rw[e1,e2];dsimp only;rw[if_pos e3];exact .nx rfl q)))
theorem yW (h:WS (s ρ S) (λρ1 S1=>WS (t ρ1 S1) N R) R):WS (zF s t ρ S) N R:=by
 unfold zF
 rcases h with⟨ρ1,S1,e,h⟩|⟨x,S1,e,h⟩
 ·rw[e];exact h
 ·rw[e];exact .rt rfl h
theorem Te (h:N ρ S):WS (xG ρ S) N R:= .nx rfl h
theorem zct {g:TwG} (h:W (m ρ S) λd S1=>W (g d ρ S1) N):WS (yc m g ρ S) N R:=WS.bind (h.imp λ_ _ h=>WS.bind (h.imp λ_ _ k=> .nx rfl k))
theorem XN (h:W (m ρ S) λd S1=>N (ρ.set i (some d)) S1):WS (yc m (gN i) ρ S) N R:=WS.bind (h.imp λ_ _ k=> .nx rfl k)
theorem zan (h:W (m ρ S) λd S1=>W (a ρ S1) λx S2=>W (b ρ S2) λy S3=>∃n l q j,UR S3 x=some (n,l)/\y= .int q/\ixN l.length q=some j/\N ρ (S3.set n (.lst (l.set j d)))):WS (yc m (WQ a b) ρ S) N R:=
 WS.bind (h.imp λd S1 h=>WS.bind (W.bind (h.imp λx S2 h=>W.bind (h.imp λy S3 h=>by
  obtain⟨n,l,q,j,e1,rfl,e2,k⟩:=h
  rw[e1]
  dsimp only
  rw[e2]
  exact .of rfl (.nx rfl k)))))
theorem vi (h:W (m ρ S) λ_ S1=>N ρ S1):WS (vt m ρ S) N R:=WS.bind (h.imp λ_ _ k=> .nx rfl k)
theorem XO (h:W (m ρ S) λd S1=>R d S1):WS (wg m ρ S) N R:=WS.bind (h.imp λ_ _ k=> .rt rfl k)
theorem wC (h:W (c ρ S) λv S1=>(v=true->WS (s ρ S1) N R)/\(v=false->WS (t ρ S1) N R)):WS (sIf c s t ρ S) N R:=WS.bind (h.imp λv S1 k=>by
 cases v with
 |true=>rw[if_pos rfl];exact k.1 rfl
 |false=>rw[if_neg (by simp)];exact k.2 rfl)
theorem zhi {ms:List TwE} (h:W (evL ms ρ S) λl S1=>∃x y,l=[x,y]/\N ((ρ.set i (some x)).set k (some y)) S1):WS (zg6 i k ms ρ S) N R:=WS.bind (h.imp λl S1 h=>by
 obtain⟨x,y,rfl,q⟩:=h
 exact .nx rfl q)
theorem zez {r:Option Fl} (I:Rho->Sto->Prop) (h:WS r I R) (k:∀ρ S,I ρ S->N ρ S):WS r N R:=by
 rcases h with⟨ρ,S,e,h⟩|h
 ·exact .inl ⟨ρ,S,e,k ρ S h⟩
 ·exact .inr h
theorem zhj {n:Nat} (h:WS (US c s n ρ S) N R):WS (sWh n c s ρ S) N R:=h
theorem zcu {n:Nat} (h:W (c ρ S) λv S1=>(v=true->WS (s ρ S1) (λρ2 S2=>WS (US c s n ρ2 S2) N R) R)/\(v=false->N ρ S1)):WS (US c s (n+1) ρ S) N R:=by
 unfold US
 refine WS.bind (h.imp λv S1 k=> ?_)
 cases v with
 |true=>
  rw[if_pos rfl]
  rcases k.1 rfl with⟨ρ2,S2,e2,h⟩|⟨x,S2,e2,h⟩
  ·rw[e2];exact h
  ·rw[e2];exact .rt rfl h
 |false=>exact .nx rfl (k.2 rfl)
theorem wk {n:TwI} {g:TwG} (h:W (n ρ S) λget S1=>∃xs,get S1=some xs/\WS (WC get g s (xs.length+1) 0 ρ S1) N R):WS (Yr n g s ρ S) N R:=WS.bind (h.imp λget S1 h=>by
 obtain⟨xs,e,h⟩:=h
 rw[e,Ee]
 exact h)
theorem yY {get:Sto->Option (List Xv)} {g:TwG} {xs:List Xv} (J:Nat->Rho->Sto->Prop) (hg:∀i ρ S,i<=xs.length->J i ρ S->get S=some xs)
  (h:∀(i:Nat) (x:Xv) ρ S,xs[i]? =some x->J i ρ S->W (g x ρ S) λρ1 S1=>WS (s ρ1 S1) (λρ2 S2=>J (i+1) ρ2 S2) R) (h0:J 0 ρ S) (k:∀ρ S,J xs.length ρ S->N ρ S):WS (WC get g s (xs.length+1) 0 ρ S) N R:=by
 have aux:∀(n i:Nat) (ρ:Rho) (S:Sto),i+n=xs.length->J i ρ S->WS (WC get g s (n+1) i ρ S) N R:=by
  intro n
  induction n with
  |zero=>
   intro i ρ S e hj
   unfold WC
   rw[hg i ρ S ⋯ hj,Ee,EY ⋯]
   dsimp only
   rw[if_pos ⋯]
   exact .nx rfl (k ρ S (by rw[show xs.length=i by omega];exact hj))
  |succ n ih=>
   intro i ρ S e hj
   unfold WC
   have hi:i<xs.length:=by omega
   rw[hg i ρ S ⋯ hj,Ee,DZ hi]
   refine WS.bind ((h i _ ρ S (DZ hi) hj).imp λρ1 S1 h1=> ?_)
   rcases h1 with⟨ρ2,S2,e2,h2⟩|⟨x,S2,e2,h2⟩
   ·rw[e2];exact ih (i+1) ρ2 S2 ⋯ h2
   ·rw[e2];exact .rt rfl h2
 exact aux xs.length 0 ρ S ⋯ h0
theorem vH (h:W (m ρ S) λx S1=>∃l,zu S1 x=some l/\Q' (λS=>zu S x) S1):W (iL m ρ S) Q':=W.bind (h.imp λx S1 h=>by
 obtain⟨l,e,k⟩:=h
 rw[e]
 exact .of rfl k)
theorem zcv {Q':(Sto->Option (List Xv))->Sto->Prop} (h:W (m ρ S) λx S1=>∃l,zu S1 x=some l/\Q' (λS=>(zu S x).map vF) S1):W (iEn m ρ S) Q':=W.bind (h.imp λx S1 h=>by
 obtain⟨l,e,k⟩:=h
 rw[e]
 exact .of rfl k)
theorem XQ {Q':(Sto->Option (List Xv))->Sto->Prop} (h:W (m ρ S) λx S1=>∃k:Int,x= .int k/\(-(2^62)<=k/\k<2^62)/\Q' (λ_=>some (Zt 0 k.toNat)) S1):W (iR1 m ρ S) Q':=W.bind (h.imp λx S1 h=>by
 obtain⟨k,rfl,hk,q⟩:=h
 dsimp only
 rw[if_pos hk]
 exact .of rfl q)
theorem ZO {lo:Int} {n i:Nat} {x:Xv} (h:(Zt lo n)[i]? =some x):i<n/\x= .int (lo+i):=by
 unfold Zt at h
 rw[Ef] at h
 have hi:i<n:=by
  apply FA
  intro hn
  rw[EY (by simp;omega)] at h
  cases h
 rw[Hu hi] at h
 cases h
 exact⟨hi,rfl⟩
theorem yu {lo:Int} {n:Nat}:(Zt lo n).length=n:=by simp[Zt]
theorem xQ {cap:List (Option Nat)} {n:TwI} {g:TwG} (h:W (n ρ S) λget S1=>∃xs,get S1=some xs/\W (vE get g c m (Ys cap ρ) (xs.length+1) 0 [] S1) P):W (wu cap n g c m ρ S) P:=W.bind (h.imp λget S1 h=>by
 obtain⟨xs,e,h⟩:=h
 rw[e,Ee]
 exact h)
theorem xc {get:Sto->Option (List Xv)} {g:TwG} {ρc:Rho} {xs:List Xv} (hl:xs.length<=sizeLine) (J:Nat->List Xv->Sto->Prop) (hg:∀i es S,i<=xs.length->J i es S->get S=some xs)
  (h:∀(i:Nat) (x:Xv) es S,xs[i]? =some x->es.length=i->J i es S->W (g x ρc S) λρ1 S1=>W (c ρ1 S1) λb S2=>b=true/\W (m ρ1 S2) λy S3=>J (i+1) (es++[y]) S3) (h0:J 0 [] S)
  (k:∀es S,es.length=xs.length->J xs.length es S->P (.ref S.length) (S++[.lst es])):W (vE get g c m ρc (xs.length+1) 0 [] S) P:=by
 have aux:∀(n i:Nat) (es:List Xv) (S:Sto),i+n=xs.length->es.length=i->J i es S->W (vE get g c m ρc (n+1) i es S) P:=by
  intro n
  induction n with
  |zero=>
   intro i es S e el hj
   unfold vE
   rw[hg i es S ⋯ hj,Ee,EY ⋯]
   dsimp only
   rw[if_pos ⋯]
   exact .of rfl (k es S ⋯ (by rw[show xs.length=i by omega];exact hj))
  |succ n ih=>
   intro i es S e el hj
   unfold vE
   have hi:i<xs.length:=by omega
   rw[hg i es S ⋯ hj,Ee,DZ hi]
   obtain⟨ρ1,S1,e1,b,S2,e2,rfl,y,S3,e3,q⟩:=h i _ es S (DZ hi) el hj
   dsimp only[rn]
   rw[e1]
   dsimp only[rn]
   rw[e2]
   dsimp only[rn]
   rw[if_pos rfl,e3]
   dsimp only[rn]
   rw[if_pos ⋯]
   exact ih (i+1) (es++[y]) S3 ⋯ (by simp[el]) q
 exact aux xs.length 0 [] S ⋯ rfl h0
theorem zjb (k:PB true S):W (wR ρ S) PB:= .of rfl k
theorem zkX {n k:Nat} {xs:List Xv} {ρ0:Rho} (hn:xs.length=n) (h0:xs.map some++F4 k none=ρ0) (h:WS (s ρ0 S) (λ_ S1=>P .non S1) P):W (yZ n k s xs S) P:=by
 unfold yZ
 rw[if_pos hn,h0]
 rcases h with⟨ρ,S1,e,h⟩|⟨x,S1,e,h⟩
 ·rw[e];exact .of rfl h
 ·rw[e];exact .of rfl h
variable {p q:Int}
theorem zkY (k:P (.int (p+q)) S):WO (vx (.int p) (.int q) S) P:= .of rfl k
theorem zeA (k:P (.int (p-q)) S):WO (zer (.int p) (.int q) S) P:= .of rfl k
theorem zkZ (k:P (.int (-p)) S):WO (Vo (.int p) S) P:= .of rfl k
theorem zmf (k:P (.bl (decide (p<q))) S):WO (dLt (.int p) (.int q) S) P:= .of rfl k
theorem zmg (k:P (.bl (decide (q<p))) S):WO (dGt (.int p) (.int q) S) P:= .of rfl k
theorem zk0 (k:P (.bl (decide (p=q))) S):WO (zbe (.int p) (.int q) S) P:= .of rfl k
theorem zk1 (k:P (.bl (!decide (p=q))) S):WO (zet (.int p) (.int q) S) P:= .of rfl k
theorem Xh (h:0<q) (k:P (.int (p % q)) S):WO (Xe (.int p) (.int q) S) P:= .of (by unfold Xe xIC;exact if_pos (by simpa using h)) k
theorem vj (h:intBits p+intBits q<=134217728) (k:P (.int (p*q)) S):WO (ZG (.int p) (.int q) S) P:= .of (by unfold ZG xIC;exact if_pos (by simpa using h)) k
theorem zk2 (h:(-(2^64)<p/\p<2^64)\/(-(2^64)<q/\q<2^64)) (k:P (.int (p*q)) S):WO (zgb (.int p) (.int q) S) P:= .of (by unfold zgb xIC;exact if_pos (decide_eq_true h)) k
theorem zk3 (h:0<=q/\q<=1000000/\p.natAbs<2^64) (k:P (.int (p^q.toNat)) S):WO (zes (.int p) (.int q) S) P:= .of (by unfold zes xIC;exact if_pos (decide_eq_true h)) k
theorem Vu (h:q≠0/\intBits q<=9000) (k:P (.int (p.fdiv q)) S):WO (WR (.int p) (.int q) S) P:= .of (by unfold WR xIC;exact if_pos (decide_eq_true h)) k
theorem Xi {l:List Xv} (h:zu S x=some l) (k:P (.int l.length) S):WO (WU [x] S) P:= .of (by
 unfold WU Vn
 dsimp only
 have:x.tupOf=none:=by cases x<;>first|rfl|cases h
 rw[this]
 dsimp only
 rw[h]
 rfl) k
theorem yv {l:List Xv} {z:Xv} (h:zu S x=some l) (e:atI l p=some z) (k:P z S):WO (xm x (.int p) S) P:= .of (by unfold xm;rw[h];dsimp only;rw[e];rfl) k
theorem ZW {l:List Xv} {z:Xv} (h:x.tupOf=some l) (e:atI l p=some z) (k:P z S):WO (XI x (.int p) S) P:= .of (by unfold XI;rw[h];dsimp only;rw[e];rfl) k
theorem zbL {β:Type} {x:β} {l:List β}:atI (x::l) 0=some x:=by
 unfold atI ixN
 rw[if_pos (show (0:Int)<=0 by decide),if_pos (by simp only[EB];omega)]
 rfl
theorem UC {β:Type} {x y:β} {l:List β}:atI (x::y::l) 1=some y:=by
 unfold atI ixN
 rw[if_pos (show (0:Int)<=1 by decide),if_pos (by simp only[EB];omega)]
 rfl
theorem zk4 {l:List Xv} (k:P x S):WO (XI (.tup (x::l)) (.int 0) S) P:=ZW rfl zbL k
theorem zk5 {l:List Xv} (k:P y S):WO (XI (.tup (x::y::l)) (.int 1) S) P:=ZW rfl UC k
theorem wm {β:Type} {l:List β} {k:Int} {z:β} (h0:0<=k) (h:l[k.toNat]? =some z):atI l k=some z:=by
 have hk:=(E8.1 h).1
 unfold atI ixN
 rw[if_pos h0,if_pos ⋯]
 exact h
theorem yS {n:Nat} {l:List Xv} (h:UR S x=some (n,l)) (hz:l.length<sizeLine) (k:P .non (S.set n (.lst (l++[y])))):WO (yo x [y] S) P:= .of (by unfold yo;rw[h];dsimp only;rw[if_pos hz]) k
theorem zk6 {l:List Xv} {lo hi:Option Int} (h:zu S x=some l) (k:P (.ref S.length) (S++[.lst (zck l lo hi)])):WO (zep x lo hi S) P:= .of (by unfold zep;rw[h];rfl) k
theorem zcw {l:List Xv} (h:zu S x=some l) (k:P (.ref S.length) (S++[.lst l])):WO (UA [x] S) P:= .of (by
 unfold UA Vn
 dsimp only
 have:x.tupOf=none:=by cases x<;>first|rfl|cases h
 rw[this]
 dsimp only
 rw[h]
 rfl) k
theorem zhk {n:Nat} {kvs:List (Key×Xv)} {ns:List Int} (h:Zv S x=some (n,kvs)) (e:vG kvs=some ns) (cJ:ns.length<64) (k:P (.ref S.length) (S++[.lst ((yQ ns).map Xv.int)])):WO (zai [x] S) P:= .of (by unfold zai;dsimp only;rw[h,Ee,e,Ee,if_pos cJ]) k
theorem zhl {n:Nat} {kvs:List (Key×Xv)} {ns:List Int} (h:xP S x=some (n,kvs)) (e:XB (kvs.map (·.2))=some ns) (k:P (.int ns.sum) S):WO (zdA x S) P:= .of (by unfold zdA;rw[h,Ee,e];rfl) k
theorem zao {neg:Bool} {l:List Xv} (h:zu S x=some l) (h2:zu S y=some []) (k:P (.bl (neg !=l.isEmpty)) S):WO (WW neg x y S) P:= .of (by unfold WW;rw[h,h2]) k
theorem zcx {c:String} {v:Bool} (h:zew c S x=some v) (k:P (.bl v) S):WO (zdz c x S) P:= .of (by unfold zdz;rw[h];rfl) k
end
theorem yk {S:Sto} {l:List Xv}:zu (S++[.lst l]) (.ref S.length)=some l:=by simp[zu]
theorem xf {S:Sto} {n:Nat} {l:List Xv} (h:S[n]? =some (.lst l)):UR S (.ref n)=some (n,l):=by simp[UR,h]
theorem zh {S:Sto} {n:Nat} {l:List Xv} (h:S[n]? =some (.lst l)):zu S (.ref n)=some l:=by simp[zu,h]
theorem yF {S:Sto} {n:Nat} {l:List (Key×Xv)} (h:S[n]? =some (.dk l)):Zv S (.ref n)=some (n,l):=by simp[Zv,h]
end L2
namespace L2
open PySem PySem.Spec PyProof.Rows PySem.Calls
section
variable {X:Cx}
theorem zdC {k:Nat} {K:E9} (hr:vk k X.A) (hK:X.K=K:=by rfl):OpR X (compareOp .NotEq) (zeo K true):=by
 subst hK
 intro pins s σ H x y v u Q I rx ry h
 obtain⟨a,b,xs,rfl,rfl,h1,h2,q⟩:=h
 cases rx;cases ry
 have hu:X.A.units+41<cLine:=F8 ⋯ hr.units
 obtain⟨ae,r1,p1,_⟩:=I.list h1
 obtain⟨bF,r2,p2,_⟩:=I.list h2
 cases r2
 cases r1 with
 |nil=>
  refine SeqAt.RcNeAt.lists (e:=λ_=>true) p1.isList p2.isList rfl ⋯ (λi y1 _=>absurd y1 (Ju i)) _ _ _ _ ?_
  exact⟨.bl false,H,I,rfl,q⟩
 |cons c t=>
  refine SeqAt.RcNeAt.lists_lengths p1.isList p2.isList (by simp) ⋯ _ _ _ _ ?_
  exact⟨.bl true,H,I,rfl,q⟩
end
section
variable {K:E9} {E:XK}
end
section
variable {K:E9} {E:XK}
end
noncomputable def vM (f:D->D->Option Bool):List D->List D->Option Bool
 |a::l,b::m=>(f a b).bind λx=>(vM f l m).map (x&& ·)
 |_,_=>some true
theorem Yj {f:D->D->Option Bool}:∀{l m:List D} {b:Bool},vM f l m=some b->∃e:Nat->Bool,(∀(j:Nat) a c,l[j]? =some a->m[j]? =some c->f a c=some (e j))/\b=(F7 (min l.length m.length)).all e
 |[],m,b,h=>by
  unfold vM at h
  cases h
  exact⟨λ_=>true,λj a c ha=>by simp at ha,by simp⟩
 |a::l,[],b,h=>by
  unfold vM at h
  cases h
  exact⟨λ_=>true,λj a c ha hc=>by simp at hc,by simp⟩
 |a::l,c::m,b,h=>by
  unfold vM at h
  cases e1:f a c with
  |none=>rw[e1] at h;cases h
  |some x=>
   rw[e1,Ee] at h
   cases e2:vM f l m with
   |none=>rw[e2] at h;cases h
   |some y=>
    rw[e2] at h
    cases h
    obtain⟨e,k,rfl⟩:=Yj e2
    refine⟨λj=>match j with
     |0=>x
     |j+1=>e j,λj p q hp hq=> ?_,?_⟩
    ·cases j with
     |zero=>simp at hp hq;subst hp hq;exact e1
     |succ j=>exact k j p q (by simpa using hp) (by simpa using hq)
    ·rw[EB,EB,Nat.succ_min_succ,List.range_succ_eq_map,List.all_cons,List.all_map]
     rfl
noncomputable def eqG:Nat->D->D->Option Bool
 |0,d,e=>match d,e with
  | .non,.non=>some true
  | .bl a,.bl b=>some (a==b)
  | .int a,.int b=>some (a==b)
  | .str a,.str b=>some (a==b)
  |_,_=>none
 |n+1,d,e=>match d,e with
  | .non,.non=>some true
  | .bl a,.bl b=>some (a==b)
  | .int a,.int b=>some (a==b)
  | .str a,.str b=>some (a==b)
  | .tup l,.tup m=>(vM (eqG n) l m).map (· &&(l.length==m.length))
  | .lst l,.lst m=>if l.length=m.length then vM (eqG n) l m else some false
  |_,_=>none
section
variable {X:Cx} {pins:List (Addr×Obj)} {σ:St} {H:Hp} {s:Shared}
theorem zgd {n:Nat} {e:Nat->Bool} (h:∀j,j<n->e j=true):(F7 n).all e=true:=Fx.2 λj hj=>h j (Fb.1 hj)
theorem zhm (I:Inv X pins σ H s):∀(n:Nat) {d e:D} {x:V} {b:Bool},eqG n d e=some b->Is X.K H x d->Is X.K H x e->b=true:=by
 intro n
 induction n with
 |zero=>
  intro d e x b h hx hy
  unfold eqG at h
  split at h
  ·cases h;rfl
  ·rw[hx.bl_inv] at hy;cases hy;cases h;simp
  ·rw[hx.int_inv] at hy;cases hy;cases h;simp
  ·rw[hx.str_inv] at hy;cases hy;cases h;simp
  ·cases h
 |succ n ih=>
  intro d e x b h hx hy
  unfold eqG at h
  have items:∀{xs:List V} {l m:List D} {b:Bool},vM (eqG n) l m=some b->IsL X.K H xs l->IsL X.K H xs m->b=true:=λ{xs l m b} ha hl hm=>by
   obtain⟨e,k,rfl⟩:=Yj ha
   refine zgd λj hj=> ?_
   have h1:j<l.length:=by omega
   have h2:j<m.length:=by omega
   obtain⟨x,pD,pC⟩:=hl.get (DZ h1)
   obtain⟨y,lY,pA⟩:=hm.get (DZ h2)
   rw[pD] at lY
   cases lY
   exact ih (k j _ _ (DZ h1) (DZ h2)) pC pA
  split at h
  ·cases h;rfl
  ·rw[hx.bl_inv] at hy;cases hy;cases h;simp
  ·rw[hx.int_inv] at hy;cases hy;cases h;simp
  ·rw[hx.str_inv] at hy;cases hy;cases h;simp
  ·rename_i l m
   cases ha:vM (eqG n) l m with
   |none=>rw[ha] at h;cases h
   |some b'=>
    rw[ha] at h
    cases h
    obtain⟨a,xs,rfl,h1,h2⟩:=hx.tup_inv
    obtain⟨a',ys,e,g1,g2⟩:=hy.tup_inv
    cases e
    obtain rfl:=I.tuple_inj h1 g1
    rw[items ha h2 g2]
    have e3:=h2.len;have e4:=g2.len
    simp;omega
  ·rename_i l m
   obtain⟨a,xs,rfl,h1,h2⟩:=hx.lst_inv
   obtain⟨a',ys,e,g1,g2⟩:=hy.lst_inv
   cases e
   obtain rfl:=I.list_inj h1 g1
   have e3:=h2.len;have e4:=g2.len
   rw[if_pos ⋯] at h
   exact items h h2 g2
  ·cases h
theorem ZP {A:Around} {xs ys:List V} {ae bF:List Value} {l m:List D} {e:Nat->Bool} (rx:zT xs ae) (ry:zT ys bF) (hx:IsL X.K H xs l) (hy:IsL X.K H ys m)
  (k:∀{x y:V} {u v:Value} {d d':D} {j:Nat},l[j]? =some d->m[j]? =some d'->Is X.K H x d->Is X.K H y d'->zK x u->zK y v->SeqAt.EqAt A.in1 s u v (e j)):
  ∀j (h1:j<ae.toArray.size) (h2:j<bF.toArray.size),SeqAt.EqAt A.in1 s ae.toArray[j] bF.toArray[j] (e j):=by
 intro j h1 h2
 have e1:j<xs.length:=by rw[rx.length];simpa using h1
 have e2:j<ys.length:=by rw[ry.length];simpa using h2
 have el:j<l.length:=by rw[<-hx.len];exact e1
 have em:j<m.length:=by rw[<-hy.len];exact e2
 obtain⟨x,pD,pC⟩:=hx.get (i:=j) (d:=l[j]) (DZ el)
 obtain⟨y,lY,pA⟩:=hy.get (i:=j) (d:=m[j]) (DZ em)
 obtain⟨u,hu,ru⟩:=rx.get pD
 obtain⟨v,hv,rv⟩:=ry.get lY
 have g1:ae.toArray[j]=u:=by
  have:ae[j]? =some ae[j]:=DZ (by simpa using h1)
  rw[hu] at this
  simpa using (EE this).symm
 have g2:bF.toArray[j]=v:=by
  have:bF[j]? =some bF[j]:=DZ (by simpa using h2)
  rw[hv] at this
  simpa using (EE this).symm
 rw[g1,g2]
 exact k (DZ el) (DZ em) pC pA ru rv
theorem YR (I:Inv X pins σ H s):∀(n:Nat) {A:Around} {d d':D} {x y:V} {u v:Value} {b:Bool},eqG n d d'=some b->A.units+n<cLine->Is X.K H x d->Is X.K H y d'->zK x u->zK y v->SeqAt.EqAt A s u v b:=by
 intro n
 induction n with
 |zero=>
  intro A d d' x y u v b h hu hx hy ru rv
  unfold eqG at h
  split at h
  ·cases h;rw[hx.non_inv] at ru;rw[hy.non_inv] at rv;cases ru;cases rv;exact SeqAt.EqAt.same _
  ·cases h;rw[hx.bl_inv] at ru;rw[hy.bl_inv] at rv;cases ru;cases rv;exact SeqAt.EqAt.bool_bool _ _
  ·cases h;rw[hx.int_inv] at ru;rw[hy.int_inv] at rv;obtain⟨t,rfl⟩:=ru;obtain⟨t',rfl⟩:=rv;exact SeqAt.EqAt.int_int _ _ _ _
  ·cases h;rw[hx.str_inv] at ru;rw[hy.str_inv] at rv;obtain⟨t,rfl⟩:=ru;obtain⟨t',rfl⟩:=rv;exact SeqAt.EqAt.str_str _ _ _ _
  ·cases h
 |succ n ih=>
  intro A d d' x y u v b h hu hx hy ru rv
  have il:=λ(e:x=y)=>zhm I (n+1) h hx (e ▸ hy)
  unfold eqG at h
  split at h
  ·cases h;rw[hx.non_inv] at ru;rw[hy.non_inv] at rv;cases ru;cases rv;exact SeqAt.EqAt.same _
  ·cases h;rw[hx.bl_inv] at ru;rw[hy.bl_inv] at rv;cases ru;cases rv;exact SeqAt.EqAt.bool_bool _ _
  ·cases h;rw[hx.int_inv] at ru;rw[hy.int_inv] at rv;obtain⟨t,rfl⟩:=ru;obtain⟨t',rfl⟩:=rv;exact SeqAt.EqAt.int_int _ _ _ _
  ·cases h;rw[hx.str_inv] at ru;rw[hy.str_inv] at rv;obtain⟨t,rfl⟩:=ru;obtain⟨t',rfl⟩:=rv;exact SeqAt.EqAt.str_str _ _ _ _
  ·rename_i l m
   cases ha:vM (eqG n) l m with
   |none=>rw[ha] at h;cases h
   |some b'=>
    rw[ha] at h
    cases h
    obtain⟨e,k,rfl⟩:=Yj ha
    obtain⟨a,xs,rfl,h1,h2⟩:=hx.tup_inv
    obtain⟨a',ys,rfl,g1,g2⟩:=hy.tup_inv
    cases ru;cases rv
    by_cases aG:a=a'
    ·subst aG;rw[il rfl];exact SeqAt.EqAt.same _
    ·obtain⟨ae,r1,p1,_⟩:=I.tuple h1
     obtain⟨bF,r2,p2,_⟩:=I.tuple g1
     refine SeqAt.EqAt.of_refs aG ?_
     have:=SeqAt.RcAt.tuples (A:=A) (e:=e) p1 p2 ⋯ (ZP r1 r2 h2 g2 λhi hj hx hy ru rv=>ih (A:=A.in1) (k _ _ _ hi hj) (by show A.units+1+n<cLine;omega) hx hy ru rv)
     have s1:ae.toArray.size=l.length:=by have e1:=r1.length;have e3:=h2.len;simp;omega
     have s2:bF.toArray.size=m.length:=by have e1:=r2.length;have e3:=g2.len;simp;omega
     rwa [s1,s2] at this
  ·rename_i l m
   obtain⟨a,xs,rfl,h1,h2⟩:=hx.lst_inv
   obtain⟨a',ys,rfl,g1,g2⟩:=hy.lst_inv
   cases ru;cases rv
   by_cases aG:a=a'
   ·subst aG;rw[il rfl];exact SeqAt.EqAt.same _
   ·obtain⟨ae,r1,p1,_⟩:=I.list h1
    obtain⟨bF,r2,p2,_⟩:=I.list g1
    have s1:ae.toArray.size=l.length:=by have e1:=r1.length;have e3:=h2.len;simp;omega
    have s2:bF.toArray.size=m.length:=by have e1:=r2.length;have e3:=g2.len;simp;omega
    refine SeqAt.EqAt.of_refs aG ?_
    split at h
    ·rename_i iu
     obtain⟨e,k,rfl⟩:=Yj h
     have:=SeqAt.RcAt.lists (A:=A) (e:=e) p1.isList p2.isList ⋯ ⋯ (ZP r1 r2 h2 g2 λhi hj hx hy ru rv=>ih (A:=A.in1) (k _ _ _ hi hj) (by show A.units+1+n<cLine;omega) hx hy ru rv)
     rw[s1] at this
     rwa [show min l.length m.length=l.length by omega]
    ·rename_i iu
     cases h
     exact SeqAt.RcAt.lists_lengths p1.isList p2.isList (by rw[s1,s2];simpa using iu) ⋯
  ·cases h
def zk7 (K:E9) (neg:Bool):R2:=λx y H Q=>∃(d e:D) (b:Bool),(∃l m,(d= .tup l/\e= .tup m)\/(d= .lst l/\e= .lst m))/\Is K H x d/\Is K H y e/\eqG 40 d e=some b/\Q (.bl (neg !=b)) H
theorem zhn {k:Nat} {K:E9} (hr:vk k X.A) (hK:X.K=K:=by rfl):OpR X (compareOp .Eq) (zk7 K false):=by
 subst hK
 intro pins s σ H x y v u Q I rx ry h
 obtain⟨d,e,b,⟨l,m,hd⟩,hx,hy,hb,q⟩:=h
 have hu:X.A.units+41<cLine:=F8 ⋯ hr.units
 rw[show (false !=b)=b by cases b<;>rfl] at q
 unfold eqG at hb
 rcases hd with⟨rfl,rfl⟩|⟨rfl,rfl⟩
 ·dsimp only at hb
  cases ha:vM (eqG 39) l m with
  |none=>rw[ha] at hb;cases hb
  |some b'=>
   rw[ha] at hb
   cases hb
   obtain⟨e,k,rfl⟩:=Yj ha
   obtain⟨a,xs,rfl,h1,h2⟩:=hx.tup_inv
   obtain⟨a',ys,rfl,g1,g2⟩:=hy.tup_inv
   cases rx;cases ry
   obtain⟨ae,r1,p1,_⟩:=I.tuple h1
   obtain⟨bF,r2,p2,_⟩:=I.tuple g1
   have s1:ae.toArray.size=l.length:=by have e1:=r1.length;have e3:=h2.len;simp;omega
   have s2:bF.toArray.size=m.length:=by have e1:=r2.length;have e3:=g2.len;simp;omega
   refine SeqAt.eq_tupleAt (e:=e) p1 p2 ⋯ (ZP r1 r2 h2 g2 λhi hj hx hy ru rv=>YR I 39 (A:=X.A.in1) (k _ _ _ hi hj) (by show X.A.units+1+39<cLine;omega) hx hy ru rv) ?_
   rw[s1,s2]
   exact⟨.bl _,H,I,rfl,q⟩
 ·dsimp only at hb
  obtain⟨a,xs,rfl,h1,h2⟩:=hx.lst_inv
  obtain⟨a',ys,rfl,g1,g2⟩:=hy.lst_inv
  cases rx;cases ry
  obtain⟨ae,r1,p1,_⟩:=I.list h1
  obtain⟨bF,r2,p2,_⟩:=I.list g1
  have s1:ae.toArray.size=l.length:=by have e1:=r1.length;have e3:=h2.len;simp;omega
  have s2:bF.toArray.size=m.length:=by have e1:=r2.length;have e3:=g2.len;simp;omega
  split at hb
  ·rename_i iu
   obtain⟨e,k,rfl⟩:=Yj hb
   refine SeqAt.eq_listAt (e:=e) p1.isList p2.isList ⋯ ⋯ (ZP r1 r2 h2 g2 λhi hj hx hy ru rv=>YR I 39 (A:=X.A.in1) (k _ _ _ hi hj) (by show X.A.units+1+39<cLine;omega) hx hy ru rv) ?_
   rw[show min l.length m.length=l.length by omega] at q
   rw[s1]
   exact⟨.bl _,H,I,rfl,q⟩
  ·rename_i iu
   cases hb
   refine SeqAt.eq_list_lengthsAt p1.isList p2.isList (by rw[s1,s2];simpa using iu) ⋯ ?_
   exact⟨.bl false,H,I,rfl,q⟩
theorem Ua {k:Nat} {K:E9} (hr:vk k X.A) (hK:X.K=K:=by rfl):OpR X (compareOp .NotEq) (zk7 K true):=by
 subst hK
 intro pins s σ H x y v u Q I rx ry h
 obtain⟨d,e,b,⟨l,m,hd⟩,hx,hy,hb,q⟩:=h
 have hu:X.A.units+41<cLine:=F8 ⋯ hr.units
 rw[show (true !=b)= !b by cases b<;>rfl] at q
 unfold eqG at hb
 rcases hd with⟨rfl,rfl⟩|⟨rfl,rfl⟩
 ·dsimp only at hb
  cases ha:vM (eqG 39) l m with
  |none=>rw[ha] at hb;cases hb
  |some b'=>
   rw[ha] at hb
   cases hb
   obtain⟨e,k,rfl⟩:=Yj ha
   obtain⟨a,xs,rfl,h1,h2⟩:=hx.tup_inv
   obtain⟨a',ys,rfl,g1,g2⟩:=hy.tup_inv
   cases rx;cases ry
   obtain⟨ae,r1,p1,_⟩:=I.tuple h1
   obtain⟨bF,r2,p2,_⟩:=I.tuple g1
   have s1:ae.toArray.size=l.length:=by have e1:=r1.length;have e3:=h2.len;simp;omega
   have s2:bF.toArray.size=m.length:=by have e1:=r2.length;have e3:=g2.len;simp;omega
   refine SeqAt.RcNeAt.tuples (e:=e) p1 p2 ⋯ (ZP r1 r2 h2 g2 λhi hj hx hy ru rv=>YR I 39 (A:=X.A.in1) (k _ _ _ hi hj) (by show X.A.units+1+39<cLine;omega) hx hy ru rv) _ _ _ _ ?_
   rw[s1,s2]
   exact⟨.bl _,H,I,rfl,q⟩
 ·dsimp only at hb
  obtain⟨a,xs,rfl,h1,h2⟩:=hx.lst_inv
  obtain⟨a',ys,rfl,g1,g2⟩:=hy.lst_inv
  cases rx;cases ry
  obtain⟨ae,r1,p1,_⟩:=I.list h1
  obtain⟨bF,r2,p2,_⟩:=I.list g1
  have s1:ae.toArray.size=l.length:=by have e1:=r1.length;have e3:=h2.len;simp;omega
  have s2:bF.toArray.size=m.length:=by have e1:=r2.length;have e3:=g2.len;simp;omega
  split at hb
  ·rename_i iu
   obtain⟨e,k,rfl⟩:=Yj hb
   refine SeqAt.RcNeAt.lists (e:=e) p1.isList p2.isList ⋯ ⋯ (ZP r1 r2 h2 g2 λhi hj hx hy ru rv=>YR I 39 (A:=X.A.in1) (k _ _ _ hi hj) (by show X.A.units+1+39<cLine;omega) hx hy ru rv) _ _ _ _ ?_
   rw[show min l.length m.length=l.length by omega] at q
   rw[s1]
   exact⟨.bl _,H,I,rfl,q⟩
  ·rename_i iu
   cases hb
   refine SeqAt.RcNeAt.lists_lengths p1.isList p2.isList (by rw[s1,s2];simpa using iu) ⋯ _ _ _ _ ?_
   exact⟨.bl true,H,I,rfl,q⟩
end
end L2
namespace L2
open PySem PySem.Spec PyProof.Rows PySem.Calls PySem.W
section
variable {cmp:Nat->Nat->(Bool->Shared->Prop)->Shared->Prop} {r:Nat->Int} {n:Nat} {s:Shared}
noncomputable def Kr (r:Nat->Int) (p:Array Nat) (i:Nat):Int:=r (p.getD i 0)
theorem XR {p q:Array Nat} {i j:Nat} (h:p[i]? =q[j]?):Kr r p i=Kr r q j:=by
 unfold Kr
 rw[HC,HC,h]
def PmN (n:Nat) (p:Array Nat):Prop:=p.Perm (FC (F7 n))
theorem PmN.size {p:Array Nat} (h:PmN n p):p.size=n:=by
 have:=Array.Perm.size_eq h
 simpa using this
theorem PmN.lt {p:Array Nat} (h:PmN n p) {i:Nat} (hi:i<n):p.getD i 0<n:=by
 have hs:=h.size
 have cm:i<p.size:=by omega
 have e:p.getD i 0=p[i]:=by simp[GY,cm]
 rw[e]
 have:=(Array.Perm.mem_iff h).1 (Array.getElem_mem cm)
 simpa using this
theorem PmN.ne {p:Array Nat} (h:PmN n p) {i j:Nat} (hi:i<n) (hj:j<n) (dC:i≠j):p.getD i 0≠p.getD j 0:=by
 have hs:=h.size
 have cm:i<p.size:=by omega
 have dj:j<p.size:=by omega
 have nd:p.toList.Nodup:=by
  have:=HL h
  exact (this.nodup_iff).2 (by simpa using Hg)
 rw[show p.getD i 0=p.toList[i]'(by simpa using cm) by simp[GY,cm],show p.getD j 0=p.toList[j]'(by simpa using dj) by simp[GY,dj]]
 intro z
 have nd:=G6.1 nd
 rcases Nat.lt_or_gt_of_ne dC with h1|h1
 ·exact nd i j (by simpa using cm) (by simpa using dj) h1 z
 ·exact nd j i (by simpa using dj) (by simpa using cm) h1 z.symm
theorem PmN.rev {p:Array Nat} (h:PmN n p) (i j:Nat):PmN n (kas_rev p i j):=(mirror_perm _ _ _ _).trans h
theorem PmN.bub {p:Array Nat} (h:PmN n p) (k d:Nat):PmN n (bubble p k d):=(bubble_perm _ _ _).trans h
theorem zeB {p:Array Nat} {i j:Nat} (hj:j<=p.size) (k:Nat):Kr r (kas_rev p i j) k=if i<=k/\k<j then Kr r p (i+j-1-k) else Kr r p k:=by
 have e:=getElem?_mirror_all (xs:=p) (i:=i) hj k
 unfold kas_rev
 by_cases h1:i<=k/\k<j
 ·rw[if_pos h1] at e ⊢;exact XR e
 ·rw[if_neg h1] at e ⊢;exact XR e
theorem zk8 {p:Array Nat} {src d:Nat} (hs:src<p.size) (hd:d<=src) (k:Nat):Kr r (bubble p src d) k=if k=src-d then Kr r p src else if src-d<k/\k<=src then Kr r p (k-1) else Kr r p k:=by
 have e:=getElem?_bubble hs d hd k
 by_cases h1:k=src-d
 ·rw[if_pos h1] at e ⊢;exact XR e
 ·rw[if_neg h1] at e ⊢
  by_cases h2:src-d<k/\k<=src
  ·rw[if_pos h2] at e ⊢;exact XR e
  ·rw[if_neg h2] at e ⊢;exact XR e
theorem Ub {p:Array Nat} {i j:Nat} (hj:j<=p.size) (he:∀k,i<=k->k<j->Kr r p k=Kr r p (j-1)) (k:Nat):Kr r (kas_rev p i j) k=Kr r p k:=by
 rw[zeB hj]
 split
 ·rename_i h
  rw[he _ ⋯ ⋯,he k h.1 h.2]
 ·rfl
theorem zeC (hc:∀i j C,i<n->j<n->i≠j->C (decide (r i<r j)) s->cmp i j C s) {p:Array Nat} (hp:PmN n p) {Q:Nat->Shared->Prop}:∀(f k:Nat),1<=k->k+f=n->
  (∀m,k<=m->m<=n->(∀i,k<=i->i<m->Kr r p (i-1)<=Kr r p i)->(m<n->Kr r p m<Kr r p (m-1))->Q m s)->(kas_asc p f k).kasWp cmp Q s
 |0,k,h1,hk,q=>q k (Ek _) ⋯ (λi a b=>by omega) (λz=>by omega)
 |f+1,k,h1,hk,q=>by
  unfold kas_asc
  refine hc _ _ _ (hp.lt ⋯) (hp.lt ⋯) (hp.ne ⋯ ⋯ ⋯) ?_
  by_cases h:Kr r p k<Kr r p (k-1)
  ·rw[show decide (r (p.getD k 0)<r (p.getD (k-1) 0))=true from decide_eq_true h];dsimp only;rw[if_pos rfl]
   exact q k (Ek _) ⋯ (λi a b=>by omega) (λ_=>h)
  ·rw[show decide (r (p.getD k 0)<r (p.getD (k-1) 0))=false from decide_eq_false h];dsimp only;rw[if_neg (by simp)]
   refine zeC hc hp f (k+1) ⋯ ⋯ λm a b c d=>q m ⋯ b (λi e g=> ?_) d
   by_cases hi:i=k
   ·subst hi;omega
   ·exact c i ⋯ g
theorem Tf (hc:∀i j C,i<n->j<n->i≠j->C (decide (r i<r j)) s->cmp i j C s) {Q:Array Nat×Nat×Nat->Shared->Prop}:∀(f:Nat) (p:Array Nat) (k q:Nat),PmN n p->1<=k->k+f=n->(∀i,1<=i->i<k->Kr r p i<=Kr r p (i-1))->(∀i,k-(q+1)<=i->i<k->Kr r p i=Kr r p (k-1))->q+1<=k->
  (∀p' k' q',PmN n p'->1<=k'->k'<=n->(∀i,1<=i->i<k'->Kr r p' i<=Kr r p' (i-1))->(∀i,k'-(q'+1)<=i->i<k'->Kr r p' i=Kr r p' (k'-1))->q'+1<=k'->Q (p',k',q') s)->(kas_desc f p k q).kasWp cmp Q s
 |0,p,k,q,hp,h1,hk,hd,he,hq,h=>h p k q hp h1 ⋯ hd he hq
 |f+1,p,k,q,hp,h1,hk,hd,he,hq,h=>by
  unfold kas_desc
  refine hc _ _ _ (hp.lt ⋯) (hp.lt ⋯) (hp.ne ⋯ ⋯ ⋯) ?_
  by_cases h2:Kr r p k<Kr r p (k-1)
  ·rw[show decide (r (p.getD k 0)<r (p.getD (k-1) 0))=true from decide_eq_true h2];dsimp only;rw[if_pos rfl]
   split
   ·have hs:=hp.size
    have ek:=Ub (r:=r) (p:=p) (i:=k-(q+1)) (j:=k) ⋯ he
    refine Tf hc f _ (k+1) 0 (hp.rev _ _) ⋯ ⋯ (λi a b=> ?_) (λi a b=> ?_) ⋯ h
    ·rw[ek,ek]
     by_cases hi:i=k
     ·subst hi;omega
     ·exact hd i a ⋯
    ·have:i=k:=by omega
     subst this
     simp
   ·refine Tf hc f _ (k+1) 0 hp ⋯ ⋯ (λi a b=> ?_) (λi a b=> ?_) ⋯ h
    ·by_cases hi:i=k
     ·subst hi;omega
     ·exact hd i a ⋯
    ·have:i=k:=by omega
     subst this
     simp
  ·rw[show decide (r (p.getD k 0)<r (p.getD (k-1) 0))=false from decide_eq_false h2];dsimp only;rw[if_neg (by simp)]
   refine hc _ _ _ (hp.lt ⋯) (hp.lt ⋯) (hp.ne ⋯ ⋯ ⋯) ?_
   by_cases h3:Kr r p (k-1)<Kr r p k
   ·rw[show decide (r (p.getD (k-1) 0)<r (p.getD k 0))=true from decide_eq_true h3];dsimp only;rw[if_pos rfl]
    exact h p k q hp h1 ⋯ hd he hq
   ·rw[show decide (r (p.getD (k-1) 0)<r (p.getD k 0))=false from decide_eq_false h3];dsimp only;rw[if_neg (by simp)]
    refine Tf hc f _ (k+1) (q+1) hp ⋯ ⋯ (λi a b=> ?_) (λi a b=> ?_) ⋯ h
    ·by_cases hi:i=k
     ·subst hi;omega
     ·exact hd i a ⋯
    ·rw[show k+1-1=k by omega]
     by_cases hi:i=k
     ·rw[hi]
     ·have:=he i ⋯ ⋯
      omega
def ZI (r:Nat->Int) (p:Array Nat) (m:Nat):Prop:=∀i,1<=i->i<m->Kr r p (i-1)<=Kr r p i
theorem zdD (hc:∀i j C,i<n->j<n->i≠j->C (decide (r i<r j)) s->cmp i j C s) {Q:Nat×Array Nat->Shared->Prop} {p:Array Nat} {k:Nat} (hp:PmN n p) (h1:1<=k) (hk:k<=n) (hd:∀i,1<=i->i<k->Kr r p i<=Kr r p (i-1))
  (h:∀m p',PmN n p'->1<=m->m<=n->ZI r p' m->Q (m,p') s):(kas_tail3 k n p).kasWp cmp Q s:=by
 unfold kas_tail3
 rw[KasT.kasWp_bind]
 have hs:=hp.size
 refine zeC hc (hp.rev 0 k) _ k h1 ⋯ λm a b c _=> ?_
 refine h m _ (hp.rev 0 k) ⋯ b λi e g=> ?_
 by_cases hi:i<k
 ·rw[zeB ⋯,zeB ⋯,if_pos ⋯,if_pos ⋯]
  have:=hd (0+k-1-(i-1)) ⋯ ⋯
  rw[show 0+k-1-(i-1)-1=0+k-1-i by omega] at this
  exact this
 ·exact c i ⋯ g
theorem UD (hc:∀i j C,i<n->j<n->i≠j->C (decide (r i<r j)) s->cmp i j C s) {Q:Nat×Array Nat->Shared->Prop} {p:Array Nat} {k:Nat} (hp:PmN n p) (h1:1<=k) (hk:k<n) (hd:∀i,1<=i->i<k+1->Kr r p i<=Kr r p (i-1))
  (h:∀m p',PmN n p'->1<=m->m<=n->ZI r p' m->Q (m,p') s):(kas_descPart k n p).kasWp cmp Q s:=by
 unfold kas_descPart
 rw[KasT.kasWp_bind]
 have h0:∀i,k+1-(0+1)<=i->i<k+1->Kr r p i=Kr r p (k+1-1):=λi a b=>by
  have:i=k:=by omega
  subst this
  simp
 refine Tf hc (n-(k+1)) p (k+1) 0 hp ⋯ ⋯ hd h0 ⋯ λp' k' q' a b c d e g=> ?_
 dsimp only
 have hs:=a.size
 split
 ·have ek:=Ub (r:=r) (p:=p') (i:=k'-(q'+1)) (j:=k') ⋯ e
  exact zdD hc (a.rev _ _) b c (λi x y=>by rw[ek,ek];exact d i x y) h
 ·exact zdD hc a b c d h
theorem zfg {p:Array Nat} {m:Nat} (h:ZI r p m):∀(d i:Nat),i+d<m->Kr r p i<=Kr r p (i+d)
 |0,i,_=>Jd _
 |d+1,i,hd=>by
  have h1:=zfg h d i ⋯
  have h2:=h (i+d+1) ⋯ ⋯
  rw[show i+d+1-1=i+d by omega] at h2
  exact HX h1 h2
theorem Uc {p:Array Nat} {m i j:Nat} (h:ZI r p m) (dC:i<=j) (hj:j<m):Kr r p i<=Kr r p j:=by
 have:=zfg h (j-i) i ⋯
 rwa [show i+(j-i)=j by omega] at this
theorem zho (hc:∀i j C,i<n->j<n->i≠j->C (decide (r i<r j)) s->cmp i j C s) {Q:Nat×Array Nat->Shared->Prop} {p:Array Nat} (hp:PmN n p) (h1:1<=n)
  (h:∀m p',PmN n p'->1<=m->m<=n->ZI r p' m->Q (m,p') s):(kas_count n p).kasWp cmp Q s:=by
 unfold kas_count
 rw[KasT.kasWp_bind]
 refine zeC hc hp _ 1 ⋯ ⋯ λm a b c d=> ?_
 have hs:=hp.size
 by_cases hm:m=n
 ·subst hm
  rw[if_pos (by simp)]
  exact h m p hp a b c
 ·rw[if_neg (by simpa using hm)]
  have hd:=d ⋯
  by_cases h2:m>1
  ·rw[if_pos h2]
   refine hc _ _ _ (hp.lt ⋯) (hp.lt ⋯) (hp.ne ⋯ ⋯ ⋯) ?_
   by_cases h3:Kr r p 0<Kr r p (m-1)
   ·rw[show decide (r (p.getD 0 0)<r (p.getD (m-1) 0))=true from decide_eq_true h3];dsimp only;rw[if_pos rfl]
    exact h m p hp a b c
   ·rw[show decide (r (p.getD 0 0)<r (p.getD (m-1) 0))=false from decide_eq_false h3];dsimp only;rw[if_neg (by simp)]
    have he:∀i,0<=i->i<m->Kr r p i=Kr r p (m-1):=λi _ hi=>by
     have e1:=Uc (r:=r) c (show 0<=i by omega) hi
     have e2:=Uc (r:=r) c (show i<=m-1 by omega) ⋯
     omega
    have ek:=Ub (r:=r) (p:=p) (i:=0) (j:=m) ⋯ he
    refine UD hc (hp.rev _ _) ⋯ ⋯ (λi x y=> ?_) h
    rw[ek,ek]
    by_cases hi:i=m
    ·subst hi;omega
    ·rw[he i ⋯ ⋯,he (i-1) ⋯ ⋯]
     exact Jd _
  ·rw[if_neg h2]
   refine UD hc hp ⋯ ⋯ (λi x y=> ?_) h
   have:i=m:=by omega
   subst this
   omega
theorem zap (hc:∀i j C,i<n->j<n->i≠j->C (decide (r i<r j)) s->cmp i j C s) {Q:Nat->Shared->Prop} {p:Array Nat} {k:Nat} (hp:PmN n p) (hk:k<n) (ha:ZI r p k):∀(f lo hi:Nat),lo<=hi->hi<=k->hi-lo<=f->(∀i,i<lo->Kr r p i<=Kr r p k)->(∀i,hi<=i->i<k->Kr r p k<Kr r p i)->
  (∀l,l<=k->(∀i,i<l->Kr r p i<=Kr r p k)->(∀i,l<=i->i<k->Kr r p k<Kr r p i)->Q l s)->(kas_place p k f lo hi).kasWp cmp Q s
 |0,lo,hi,h1,h2,h3,hl,hh,q=>by
  have:lo=hi:=by omega
  subst this
  exact q lo h2 hl hh
 |f+1,lo,hi,h1,h2,h3,hl,hh,q=>by
  unfold kas_place
  split
  ·have:lo=hi:=by omega
   subst this
   exact q lo h2 hl hh
  ·rename_i bS
   have m1:lo<=(lo+hi) / 2:=by omega
   have m2:(lo+hi) / 2<hi:=by omega
   refine hc _ _ _ (hp.lt ⋯) (hp.lt ⋯) (hp.ne ⋯ ⋯ ⋯) ?_
   by_cases h4:Kr r p k<Kr r p ((lo+hi) / 2)
   ·rw[show decide (r (p.getD k 0)<r (p.getD ((lo+hi) / 2) 0))=true from decide_eq_true h4];dsimp only;rw[if_pos rfl]
    refine zap hc hp hk ha f lo _ m1 ⋯ ⋯ hl (λi a b=> ?_) q
    have:=Uc ha a b
    omega
   ·rw[show decide (r (p.getD k 0)<r (p.getD ((lo+hi) / 2) 0))=false from decide_eq_false h4];dsimp only;rw[if_neg (by simp)]
    refine zap hc hp hk ha f _ hi ⋯ h2 ⋯ (λi a=> ?_) hh q
    have:=Uc ha (show i<=(lo+hi) / 2 by omega) ⋯
    omega
theorem zhp (hc:∀i j C,i<n->j<n->i≠j->C (decide (r i<r j)) s->cmp i j C s) {Q:Array Nat->Shared->Prop}:∀(f:Nat) (p:Array Nat) (k:Nat),PmN n p->k+f=n->ZI r p k->(∀p',PmN n p'->ZI r p' n->Q p' s)->(kas_bin f p k).kasWp cmp Q s
 |0,p,k,hp,hk,ha,h=>by
  have:k=n:=by omega
  subst this
  exact h p hp ha
 |f+1,p,k,hp,hk,ha,h=>by
  unfold kas_bin
  rw[KasT.kasWp_bind]
  have hs:=hp.size
  refine zap hc hp ⋯ ha k 0 k ⋯ (Ek _) ⋯ (λi a=>by omega) (λi a b=>by omega) λl a b c=> ?_
  refine zhp hc f _ (k+1) (hp.bub _ _) ⋯ (λi x y=> ?_) h
  have e:=λj=>zk8 (r:=r) (p:=p) (src:=k) (d:=k-l) ⋯ ⋯ j
  rw[e,e,show k-(k-l)=l by omega]
  by_cases h1:i-1=l
  ·rw[if_pos h1,if_neg ⋯,if_pos ⋯]
   have:=c (i-1) ⋯ ⋯
   omega
  ·rw[if_neg h1]
   by_cases h2:i=l
   ·rw[if_neg ⋯,if_pos h2]
    exact b (i-1) ⋯
   ·rw[if_neg h2]
    by_cases h3:l<i
    ·rw[if_pos (show l<i-1/\i-1<=k by omega),if_pos (show l<i/\i<=k by omega)]
     exact ha (i-1) ⋯ ⋯
    ·rw[if_neg ⋯,if_neg ⋯]
     exact ha i x ⋯
theorem zjc (hc:∀i j C,i<n->j<n->i≠j->C (decide (r i<r j)) s->cmp i j C s) {Q:Array Nat->Shared->Prop} (h1:1<=n) (h:∀p,PmN n p->ZI r p n->Q p s):(kas_sort n).kasWp cmp Q s:=by
 unfold kas_sort
 rw[KasT.kasWp_bind]
 refine zho hc (Jv _) h1 λm p a b c d=> ?_
 dsimp only
 split
 ·rw[show max m 1=m by omega]
  exact zhp hc _ p m a ⋯ d h
 ·have:m=n:=by omega
  subst this
  exact h p a d
end
section
variable {prog:Program} {w:World} {A:Around} {E:Value->Shared->Prop} {s:Shared}
def zdE (prog:Program) (w:World) (A:Around) (r:Nat->Int) (vs:List Value) (s:Shared):Prop:=
 ∃κ,(∀Q:SortKind->Shared->Prop,Q κ s->wpAny (model prog w) A (keyKind' vs.toArray) Q (λ_ _=>False) s)/\∀i j C,i<vs.length->j<vs.length->i≠j->C (decide (r i<r j)) s->kas_ask prog w A κ vs i j C s
theorem zge:∀(vs:List Value),vs.length<2->FC ((FC (F7 vs.length)).toList.map λi=>vs.getD i Value.none)=(vs.toArray.zip vs.toArray).map (·.2)
 |[],_=>by simp
 |[v],_=>by
  apply Array.toList_inj.1
  simp[Ip]
 |_::_::_,h=>by simp at h;omega
theorem Ud {a:Addr} {vs:List Value} {n:Nat} {P:PySem.Fin->Shared->Prop} (r:Nat->Int) (dZ:s.heap.get? a=some (seqObj "list" vs.toArray n)) (few:vs.length<64)
  (hk:2<=vs.length->∀g:Heap,(∀b o,b≠a->s.heap.get? b=some o->g.get? b=some o)->zdE prog w A r vs {s with heap:=g})
  (fin:∀p,PmN vs.length p->ZI r p vs.length->P (.done (.ret .none)) {s with heap:=sortedHeap s.heap a vs (FC (p.toList.map λi=>vs.getD i Value.none))}):
  wpAny (model prog w) A (Builtin.«list.sort» ⟨[.ref a],[]⟩) P E s:=by
 have lt:=Heap.lt_size dZ
 have hz:vs.toArray.size=vs.length:=by simp
 obtain⟨e1,uT⟩:∃c,(s.heap.update a (Obj.mapSeq λ_=>(#[]:Array Value))).get? a=some (seqObj "list" #[] c):=⟨_,get?_update_seq dZ λ_=> #[]⟩
 have old:∀b o,b≠a->s.heap.get? b=some o->(((s.heap.update a (Obj.mapSeq λ_=>(#[]:Array Value))).push (seqObj "tuple" vs.toArray 0)).push (seqObj "list" #[] 0)).get? b=some o:=λb o hb e=>
  Heap.get?_push_of_some _ (Heap.get?_push_of_some _ (by rw[Heap.get?_update_ne _ _ _ _ hb];exact e))
 have mL:(((s.heap.update a (Obj.mapSeq λ_=>(#[]:Array Value))).push (seqObj "tuple" vs.toArray 0)).push (seqObj "list" #[] 0)).get? a=some (seqObj "list" #[] e1):=Heap.get?_push_of_some _ (Heap.get?_push_of_some _ uT)
 rw[list_sort_plain]
 refine wpAny_bind (listItems_at dZ rfl (wpAny_bind (listUpdate_at dZ rfl (wpAny_bind (seqEpoch_at uT rfl (wpAny_bind (wpAny_newTuple (wpAny_bind (wpAny_newList (wpAny_holding ?_) (FR _))) (by show vs.length<=_;rw[sizeLine_eq];omega))))) (by rw[hz,sizeLine_eq];omega) (FR _))))
 show wpAny (model prog w) A _ P E {s with heap:=(((s.heap.update a (Obj.mapSeq λ_=>(#[]:Array Value))).push (seqObj "tuple" vs.toArray 0)).push (seqObj "list" #[] 0))}
 dsimp only
 by_cases two:vs.toArray.size<2
 ·rw[if_pos two,if_pos two]
  refine wpAny_bind (wpAny_pure ?_)
  rw[StateT.run_pure]
  refine wpAny_bind (wpAny_pure ?_)
  dsimp only
  refine wpAny_bind (seqEpoch_at mL rfl (wpAny_bind (listUpdate_at mL rfl ?_ (hsz2:=by rw[FV];show (pairsOf vs).size<=_;rw[pairsOf_size,sizeLine_eq];omega))))
  simp only[bne_self_eq_false,FQ,if_false]
  have:=fin (FC (F7 vs.length)) (Jv _) (λi x y=>by omega)
  have eo:=zge vs ⋯
  rw[eo] at this
  exact wpAny_pure this
 ·rw[if_neg two,if_neg two]
  have h2:2<=vs.length:=by omega
  obtain⟨κ,kd,ask⟩:=hk h2 _ old
  refine wpAny_bind (wpAny_mono (kd (λk s'=>k=κ/\s'={s with heap:=(((s.heap.update a (Obj.mapSeq λ_=>(#[]:Array Value))).push (seqObj "tuple" vs.toArray 0)).push (seqObj "list" #[] 0))}) ⟨rfl,rfl⟩) ?_ λ_ _ z=>z.elim)
  rintro _ _ ⟨rfl,rfl⟩
  have tree:=zjc (cmp:=kas_ask prog w A _ vs) (r:=r) (n:=vs.length) (s:={s with heap:=(((s.heap.update a (Obj.mapSeq λ_=>(#[]:Array Value))).push (seqObj "tuple" vs.toArray 0)).push (seqObj "list" #[] 0))})
   (Q:=λp s'=>(PmN vs.length p/\ZI r p vs.length)/\s'={s with heap:=(((s.heap.update a (Obj.mapSeq λ_=>(#[]:Array Value))).push (seqObj "tuple" vs.toArray 0)).push (seqObj "list" #[] 0))}) ask ⋯ λp x y=>⟨⟨x,y⟩,rfl⟩
  refine wpAny_bind (wpAny_mono (kat_run (Q:=λst' s'=>∃p:Array Nat,arrOf st'=p.map (kas_item (vs.toArray.zip vs.toArray))/\failedOf st'=none/\(PmN vs.length p/\ZI r p vs.length)/\s'={s with heap:=(((s.heap.update a (Obj.mapSeq λ_=>(#[]:Array Value))).push (seqObj "tuple" vs.toArray 0)).push (seqObj "list" #[] 0))})
   rfl h2 few (λp' st' s' _ x y z=>⟨p',x,y,z⟩) tree) ?_ λ_ _ z=>z)
  rintro⟨⟨⟩,st'⟩ _ ⟨p,Cp,hf,⟨pm,fN⟩,rfl⟩
  dsimp only
  have out:=kat_snds (ks:=vs) (vs:=vs) rfl Cp
  have y6:(FC (p.toList.map λi=>vs.getD i Value.none)).size=vs.length:=by rw[EC,Eb,Fe,pm.size]
  rw[out]
  refine wpAny_bind (seqEpoch_at mL rfl (wpAny_bind (listUpdate_at mL rfl ?_ (FR _) (by rw[y6,sizeLine_eq];omega))))
  rw[hf]
  simp only[bne_self_eq_false,FQ,if_false]
  exact wpAny_pure (fin p pm fN)
theorem zeD {l:Addr} {vs:List Value} {Q:Value->Shared->Prop} (r:Nat->Int) (hl:s.heap.IsList l vs.toArray) (few:vs.length<64)
  (hk:2<=vs.length->∀g:Heap,(∀b o,s.heap.get? b=some o->g.get? b=some o)->zdE prog w A.in1.in1 r vs {s with heap:=g})
  (fin:∀p,PmN vs.length p->ZI r p vs.length->Q (.ref (s.heap.objs.size+1)) {s with heap:=sortedAll s.heap vs (FC (p.toList.map λi=>vs.getD i Value.none))}):
  wpAny (model prog w) A (call (.builtin "sorted") [.ref l]) Q E s:=by
 refine call_function_entry kind_sorted plain_sorted entry_sorted (args_sorted1 _) ?_
 unfold Builtin.«sorted»
 refine wpAny_bind (m:=checkCount "sorted" 1 1 _) (wpAny_pure (wpAny_bind (collect_list hl (wpAny_bind (wpAny_newList ?_ (by rw[sizeLine_eq];omega))) (by rw[sizeLine_eq];omega))))
 have z1:((s.heap.push (seqObj "list" #[] 0)).update s.heap.objs.size (Obj.mapSeq (· ++vs.toArray))).objs.size=s.heap.objs.size+1:=by rw[Heap.size_update,size_push']
 have dZ:(((s.heap.push (seqObj "list" #[] 0)).update s.heap.objs.size (Obj.mapSeq (· ++vs.toArray))).push (seqObj "list" vs.toArray 0)).get? (s.heap.objs.size+1)=some (seqObj "list" vs.toArray 0):=by rw[<-z1];exact Heap.get?_push_size _ rfl
 have old:∀b o,s.heap.get? b=some o->(((s.heap.push (seqObj "list" #[] 0)).update s.heap.objs.size (Obj.mapSeq (· ++vs.toArray))).push (seqObj "list" vs.toArray 0)).get? b=some o:=λb o e=>by
  have lt:=Heap.lt_size e
  refine Heap.get?_push_of_some _ ?_
  rw[Heap.get?_update_ne _ _ _ _ (Ep lt)]
  exact Heap.get?_push_of_some _ e
 show wpAny _ _ _ _ _ {s with heap:=(((s.heap.push (seqObj "list" #[] 0)).update s.heap.objs.size (Obj.mapSeq (· ++vs.toArray))).push (seqObj "list" vs.toArray 0))}
 rw[z1]
 refine wpAny_bind (wpAny_holding (wpAny_call_entry slot_list_sort ⟨_,dZ,rfl⟩ entry_list_sort (Ud r dZ few (λh2 g hg=>hk h2 g λb o e=>hg b o (Ep (Fu (Heap.lt_size e))) (old b o e)) λp x y=>⟨_,rfl,?_⟩) (args_list_sort _)))
 exact wpAny_pure ⟨_,rfl,fin p x y⟩
end
open PySem.AutoSeq1 (wpAny_loadPart')
open PySem.MeetsSeq PySem.MeetsSeq2 PySem.MeetsSeq3
section
variable {prog:Program} {w:World} {A:Around} {E:Value->Shared->Prop} {s:Shared}
end
section
variable {X:Cx}
end
end L2
namespace L2
open PySem PySem.Spec PyProof.Rows PySem.Calls PySem.W
section
variable {X:Cx} {pins:List (Addr×Obj)} {σ:St} {H:Hp} {s:Shared} {a:Addr} {d:V} {u r:Value} {A:Around} {E:Value->Shared->Prop} {kvs:List (Key×V)} {k:Key}
end
section
variable {X:Cx} {o e f:Expr} {apos bo:Pos} {td ty tx:TE}
end
open PySem.AutoSeq1 (wpAny_loadPart')
section
variable {prog:Program} {w:World} {A:Around} {E:Value->Shared->Prop} {s:Shared}
end
section
variable {X:Cx}
end
end L2
namespace L2
open PySem PySem.Spec PyProof.Rows PySem.Calls PySem.W
section
variable {prog:Program} {w:World} {A:Around} {E:Value->Shared->Prop} {s:Shared}
end
theorem zeE:∀{kvs:List (Key×V)} {vs:List (Key×Value)} {i:Nat} {k:Key} {v:V},KV kvs vs->kvs[i]? =some (k,v)->∃u,vs[i]? =some (k,u)/\zK v u
 |_,_,i,k,v,.nil,h=>by simp at h
 |_,_,0,k,v,.cons h _,e=>by
  simp at e
  subst e
  obtain⟨e1,e2⟩:=h
  exact⟨_,by simp;exact JK e1.symm rfl,e2⟩
 |_,_,i+1,k,v,.cons _ l,e=>by
  obtain⟨u,e1,e2⟩:=zeE (i:=i) l (by simpa using e)
  exact⟨u,by simpa using e1,e2⟩
theorem zkg {P:Program} {w:World} {k:Key} {u:Value} (h:(zN P w).is k u=true):zK (kV k) u:=by
 have h:Wy k u=true:=h
 rcases yx h with⟨i,t,rfl,rfl⟩|⟨x,t,rfl,rfl⟩
 ·exact⟨t,rfl⟩
 ·exact⟨t,rfl⟩
theorem zfh {X:Cx} {pins:List (Addr×Obj)} {σ:St} {H:Hp} {s:Shared} {a:Addr} {o:Obj} {kvs:List (Key×V)} {es:Array DictEntry} {ep:Nat} (I:Inv X pins σ H s) (h:H a=some (.frz o (.dK kvs))) (hd:o.data= .dict es ep):∃vs,KV kvs vs/\s.heap.DictAt (zN X.prog X.w) a vs ep:=by
 obtain⟨hg,_,_,vs,rel,o',es',ep',e1,e2,e3,e4⟩:=(show ym X.prog X.w H s.heap a (.frz o (.dK kvs)) from I.hok a _ h)
 rw[hg] at e1
 cases e1
 rw[hd] at e3
 cases e3
 exact⟨vs,rel,o,es,hg,e2,hd,e4⟩
noncomputable def zbM (p a:Addr):HO:= .ext λh=>h.IsItemsView p a
section
variable {X:Cx}
def zhq:V->List V->Hp->VK->Prop:=λx vs H Q=>∃(a:Addr) (kvs:List (Key×V)),x= .ref a/\vs=[]/\H a=some (.dK kvs)/\∀p,H p=none->Q (.ref p) (upd H p (zbM p a))
theorem zhr:MtR X "dict.items" zhq:=by
 intro pins s σ H x xs v us Q I rx r h
 obtain⟨a,kvs,rfl,rfl,ha,q⟩:=h
 cases rx
 cases r
 obtain⟨hz,lo,vs,rel,dd⟩:=zdh I.hok ha
 have hn:(s.heap.push {cls:= .type "dict_items",data:= .fields #[.ref a]}).get? s.heap.objs.size=some {cls:= .type "dict_items",data:= .fields #[.ref a]}:=Heap.get?_push_size _ rfl
 refine call_meetsIn Ii dd.typeIs PySem.F.entry_dict_items (PySem.F.args_dict_items_1 _) (meets_dict_items (zN X.prog X.w) a lo) ⟨⟨vs,dd⟩,?_⟩
 refine⟨.ref s.heap.objs.size,_,I.laid (t':=s.toks) (o:=zbM s.heap.objs.size a) (λ_ _ e=>Heap.get?_push_of_some _ e) (Ek _) ⟨⟨_,hn,rfl,rfl⟩,⟨_,hn⟩,λh1 h2 ⟨o,e1,e2⟩ e3=>⟨o,e3 _ e1,e2⟩⟩,rfl,q _ I.fresh⟩
end
open PySem.AutoSeq1 (wpAny_loadPart')
section
variable {prog:Program} {w:World} {A:Around} {E:Value->Shared->Prop} {s:Shared}
end
section
variable {X:Cx}
end
end L2
namespace L2
open PySem PySem.Spec PyProof.Rows PySem.Calls
mutual
inductive yI (h:Heap):NK->Value->Prop where
 |int (i:Int) (t:Tok):yI h (.int i) (.int i t)
 |str (x:Str) (t:Tok):yI h (.str x) (.str x t)
 |tup {a:Addr} {o:Obj} {items:Array Value} {n:Nat} {l:List NK}:h.get? a=some o->o.cls= .type "tuple"->o.data= .seq items n->yg h l items.toList->yI h (.tup l) (.ref a)
inductive yg (h:Heap):List NK->List Value->Prop where
 |nil:yg h [] []
 |cons {k:NK} {v:Value} {ks:List NK} {vs:List Value}:yI h k v->yg h ks vs->yg h (k::ks) (v::vs)
end
mutual
noncomputable def XS:NK->Nat
 | .int _=>1
 | .str _=>1
 | .tup l=>vI l+1
noncomputable def vI:List NK->Nat
 |[]=>0
 |k::r=>XS k+vI r
end
section
variable {h h':Heap}
mutual
theorem yI.inj:∀{x y:NK} {v:Value},yI h x v->yI h y v->x=y
 |_,_,_,.int i t,hy=>by cases hy;rfl
 |_,_,_,.str x t,hy=>by cases hy;rfl
 |_,_,_,.tup e1 e2 e3 l1,hy=>by
  cases hy with
  |tup f1 f2 f3 l2=>
   rw[e1] at f1
   cases f1
   rw[e3] at f3
   injection f3 with g1 g2
   subst g1
   rw[yg.inj l1 l2]
theorem yg.inj:∀{x y:List NK} {v:List Value},yg h x v->yg h y v->x=y
 |_,_,_,.nil,hy=>by cases hy;rfl
 |_,_,_,.cons a l,hy=>by
  cases hy with
  |cons b m=>rw[yI.inj a b,yg.inj l m]
end
mutual
theorem yI.keeps {d:Addr} {o:Obj} {es:Array DictEntry} {ep:Nat} (ho:h.get? d=some o) (hd:o.data= .dict es ep) (hs:Heap.SameBut d h h'):∀{x:NK} {v:Value},yI h x v->yI h' x v
 |_,_,.int i t=> .int i t
 |_,_,.str x t=> .str x t
 |_,_,.tup (a:=a) e1 e2 e3 l=>by
  have cq:a≠d:=by
   rintro rfl
   rw[ho] at e1
   cases e1
   rw[hd] at e3
   exact nomatch e3
  exact .tup ((hs.2 a cq).trans e1) e2 e3 (yg.keeps ho hd hs l)
theorem yg.keeps {d:Addr} {o:Obj} {es:Array DictEntry} {ep:Nat} (ho:h.get? d=some o) (hd:o.data= .dict es ep) (hs:Heap.SameBut d h h'):∀{x:List NK} {v:List Value},yg h x v->yg h' x v
 |_,_,.nil=> .nil
 |_,_,.cons a l=> .cons (yI.keeps ho hd hs a) (yg.keeps ho hd hs l)
end
theorem yg.len:∀{x:List NK} {v:List Value},yg h x v->x.length=v.length
 |_,_,.nil=>rfl
 |_,_,.cons a l=>by simp[l.len]
theorem yg.get:∀{x:List NK} {v:List Value} {i:Nat} {k:NK},yg h x v->x[i]? =some k->∃u,v[i]? =some u/\yI h k u
 |_,_,_,_,.nil,e=>by simp at e
 |_,_,0,_,.cons a l,e=>by simp at e;subst e;exact⟨_,rfl,a⟩
 |_,_,i+1,k,.cons a l,e=>by
  obtain⟨u,e1,e2⟩:=l.get (i:=i) (k:=k) (by simpa using e)
  exact⟨u,by simpa using e1,e2⟩
end
theorem wc:∀{l:List NK} {k:NK},k∈l->yi k<=xU l
 |[],_,h=>by cases h
 |a::r,k,h=>by
  unfold xU
  rcases Er.1 h with rfl|h
  ·exact Nat.le_max_left _ _
  ·exact Ey (wc h) (Nat.le_max_right _ _)
section
variable {prog:Program} {w:World} {E:Value->Shared->Prop}
theorem zfi:∀(n:Nat) {A:Around} {s:Shared} {k:NK} {v:Value} {Q:Int->Shared->Prop},yi k<=n->A.units+n<cLine->yI s.heap k v->Q (zX w k) {s with toks:=s.toks+XS k}->wpAny (model prog w) A (pyHash v) Q E s:=by
 intro n
 induction n with
 |zero=>
  intro A s k v Q hn hu hk h
  cases hk with
  |int i t=>exact wpAny_pyHash_int (by simpa [zX,XS,zec] using h)
  |str x t=>exact wpAny_pyHash_str (by simpa [zX,XS,zec] using h)
  |tup _ _ _ _=>unfold yi at hn;omega
 |succ n ih=>
  intro A s k v Q hn hu hk h
  cases hk with
  |int i t=>exact wpAny_pyHash_int (by simpa [zX,XS,zec] using h)
  |str x t=>exact wpAny_pyHash_str (by simpa [zX,XS,zec] using h)
  | @tup a o items m ks ho hc hd hi=>
   have ty:s.TypeIs (.ref a) "tuple":=⟨o,ho,hc⟩
   have eZ:xU ks<=n:=by unfold yi at hn;omega
   have sl:=F.slot_tuple_hash
   unfold pyHash
   (try unfold pyHashByItsType)
   have main:∀{R:Value->Shared->Prop},R (.int (Builtin.Tuple.tupleHashOf (Yp w ks)) (s.toks+vI ks)) {s with toks:=s.toks+vI ks+1}->wpAny (model prog w) A.in1 (Builtin.«tuple.__hash__» ⟨[.ref a],[]⟩) (λfin s'=>∃v,fin=PySem.Fin.done (.ret v)/\R v s') E s:=λ{R} hR=>by
    refine wpAny_bind (m:=Builtin.Tuple.tupleItemsOf (.ref a)) (wpAny_tupleItemsOf ho hd (wpAny_bind ?_))
    rw[<-GV]
    refine wpAny_forIn_list _ (λrest (acc:Array Int) s'=>∃pre post,ks=pre++post/\yg s.heap post rest/\acc.toList=Yp w pre/\s'={s with toks:=s.toks+vI pre}) _ ?_ ?_ _ _ ⟨[],ks,rfl,hi,by simp[Yp],by simp[vI]⟩
    ·rintro v1 more acc _ ⟨pre,post,rfl,hl,hb,rfl⟩
     cases hl with
     | @cons k _ post' _ h1 gf=>
      have app:∀(l:List NK) (k:NK),Yp w (l++[k])=Yp w l++[zX w k]/\vI (l++[k])=vI l+XS k:=λl k=>by
       induction l with
       |nil=>simp[Yp,vI]
       |cons a r ih=>refine⟨by simp[Yp,ih.1],by simp[vI,ih.2];omega⟩
      refine wpAny_bind (ih (Ey (wc (by simp)) eZ) (show A.units+1+n<cLine by omega) (show yI s.heap k v1 from h1) ?_)
      have goal:∃iN i6,pre++k::post'=iN++i6/\yg s.heap i6 more/\(acc.push (zX w k)).toList=Yp w iN/\({s with toks:=s.toks+vI pre+XS k}:Shared)={s with toks:=s.toks+vI iN}:=⟨pre++[k],post',by simp,gf,by rw[(app pre k).1];simp[hb],by rw[(app pre k).2,JE]⟩
      first|exact wpAny_pure goal|exact wpAny_bind (wpAny_pure (wpAny_pure goal))
    ·rintro acc _ ⟨pre,post,rfl,hl,hb,rfl⟩
     cases hl
     rw[Gi] at hR
     show wpAny _ _ (retInt (Builtin.Tuple.tupleHashOf acc.toList)) _ _ _
     rw[hb]
     refine wpAny_ret_mkInt ?_
     exact hR
   refine wpAny_bind (wpAny_cRoomFor_or (.inr (show A.units<cLine by omega)) (wpAny_bind (wpAny_specialOf ty sl.lookup ?_)))
   refine wpAny_ite_split (λz=>absurd z (by rw[beq_builtin_none];decide)) λ_=>wpAny_bind (wpAny_specialOf ty sl.lookup ?_)
   refine wpAny_bind (m:=callSpecialIfBoundUnlessNone? (.ref a) "__hash__" _) (wpAny_callSpecialIfBoundUnlessNone?_slot ty sl (wpAny_call_entry sl ty F.entry_tuple_hash (main ?_) (F.args_tuple_hash_1 _)))
   unfold zX XS reduceHash at h
   have en:({s with toks:=s.toks+vI ks+1}:Shared)={s with toks:=s.toks+(vI ks+1)}:=by rw[JE]
   rw[en]
   refine wpAny_ite_split (λz=> ?_) λz=>wpAny_bind (wpAny_rule ?_)
   ·rw[if_pos z] at h;exact wpAny_pure h
   ·rw[if_neg z] at h;exact wpAny_pure h
theorem Vv {A:Around} {s:Shared} {k j:NK} {v u:Value} (hu:A.units<cLine) (hk:yI s.heap k v) (hj:yI s.heap j u) (hd:(∀l,k≠ .tup l)\/∀l,j≠ .tup l):SeqAt.EqAt A s v u (decide (k=j)):=by
 have tp:∀{a:Addr} {o:Obj} {items:Array Value} {n:Nat},s.heap.get? a=some o->o.cls= .type "tuple"->o.data= .seq items n->s.heap.IsTuple a items:=λa b c=>⟨_,a,b,_,c⟩
 cases hk with
 |int i t=>
  cases hj with
  |int j t'=>
   rw[show decide (NK.int i=NK.int j)=(i==j) by rw[GO,decide_eq_true_iff,beq_iff_eq];exact⟨λe=>by cases e;rfl,λe=>by rw[e]⟩]
   exact SeqAt.EqAt.int_int _ _ _ _
  |str y t'=>rw[decide_eq_false (by intro e;cases e)];exact SeqAt.EqAt.int_str _ _ _ _
  |tup a b c _=>rw[decide_eq_false (by intro e;cases e)];exact SeqAt.EqAt.int_tuple _ _ (tp a b c) hu
 |str x t=>
  cases hj with
  |int j t'=>rw[decide_eq_false (by intro e;cases e)];exact SeqAt.EqAt.str_int _ _ _ _
  |str y t'=>
   rw[show decide (NK.str x=NK.str y)=(x==y) by rw[GO,decide_eq_true_iff,beq_iff_eq];exact⟨λe=>by cases e;rfl,λe=>by rw[e]⟩]
   exact SeqAt.EqAt.str_str _ _ _ _
  |tup a b c _=>rw[decide_eq_false (by intro e;cases e)];exact SeqAt.EqAt.str_tuple _ _ (tp a b c) hu
 |tup a b c _=>
  cases hj with
  |int j t'=>rw[decide_eq_false (by intro e;cases e)];exact SeqAt.EqAt.tuple_int _ _ (tp a b c) hu
  |str y t'=>rw[decide_eq_false (by intro e;cases e)];exact SeqAt.EqAt.tuple_str _ _ (tp a b c) hu
  |tup _ _ _ _=>
   rcases hd with h|h
   ·exact (h _ rfl).elim
   ·exact (h _ rfl).elim
theorem UE {α:Type} (l m:List α) (e:Nat->Bool) (he:∀(j:Nat) a b,l[j]? =some a->m[j]? =some b->(e j=true↔a=b)):((F7 (min l.length m.length)).all e&&(l.length==m.length))=true↔l=m:=by
 rw[FG,Fx,beq_iff_eq]
 constructor
 ·rintro⟨h1,h2⟩
  refine FY λj=> ?_
  by_cases hj:j<l.length
  ·have dR:j<m.length:=by omega
   rw[DZ hj,DZ dR]
   exact congrArg some ((he j _ _ (DZ hj) (DZ dR)).1 (h1 j (Fb.2 ⋯)))
  ·rw[EY ⋯,EY ⋯]
 ·rintro rfl
  refine⟨λj hj=> ?_,rfl⟩
  have hj:=Fb.1 hj
  have hj:j<l.length:=by omega
  exact (he j _ _ (DZ hj) (DZ hj)).2 rfl
theorem zaq:∀(n:Nat) {A:Around} {s:Shared} {k j:NK} {v u:Value},yi k<=n->A.units+n<cLine->yI s.heap k v->yI s.heap j u->SeqAt.EqAt A s v u (decide (k=j)):=by
 intro n
 induction n with
 |zero=>
  intro A s k j v u hn hu hk hj
  refine Vv ⋯ hk hj (.inl λl e=> ?_)
  subst e
  unfold yi at hn
  omega
 |succ n ih=>
  intro A s k j v u hn hu hk hj
  cases hk with
  |int i t=>exact Vv ⋯ (.int i t) hj (.inl λl e=>by cases e)
  |str i t=>exact Vv ⋯ (.str i t) hj (.inl λl e=>by cases e)
  | @tup a o items m l ho hc hd hi=>
   cases hj with
   |int i t=>exact Vv ⋯ (.tup ho hc hd hi) (.int i t) (.inr λl e=>by cases e)
   |str i t=>exact Vv ⋯ (.tup ho hc hd hi) (.str i t) (.inr λl e=>by cases e)
   | @tup a' o' items' m' l' cF cZ fM cm=>
    have eZ:xU l<=n:=by unfold yi at hn;omega
    by_cases aG:a=a'
    ·subst aG
     have e:=(yI.tup ho hc hd hi).inj (yI.tup cF cZ fM cm)
     rw[decide_eq_true e]
     exact SeqAt.EqAt.same _
    ·refine SeqAt.EqAt.of_refs aG ?_
     have s1:items.size=l.length:=by have:=hi.len;simpa using this.symm
     have s2:items'.size=l'.length:=by have:=cm.len;simpa using this.symm
     have:=SeqAt.RcAt.tuples (A:=A) (s:=s) (e:=λq=>decide (l[q]? =l'[q]?)) ⟨o,ho,hc,m,hd⟩ ⟨o',cF,cZ,m',fM⟩ ⋯ (λq h1 h2=>by
      have q1:l[q]? =some l[q]:=DZ ⋯
      have q2:l'[q]? =some l'[q]:=DZ ⋯
      obtain⟨u1,f1,g1⟩:=hi.get q1
      obtain⟨u2,f2,g2⟩:=cm.get q2
      have e1:items[q]=u1:=by rw[Fo] at f1;rw[FJ h1] at f1;exact EE f1
      have e2:items'[q]=u2:=by rw[Fo] at f2;rw[FJ h2] at f2;exact EE f2
      rw[e1,e2]
      have:=ih (A:=A.in1) (Ey (wc (Eo ⋯)) eZ) (by show A.units+1+n<cLine;omega) g1 g2
      rwa [show decide (l[q]? =l'[q]?)=decide (l[q]=l'[q]) by rw[q1,q2,decide_eq_decide,Fg]])
     rw[s1,s2] at this
     have jg:((F7 (min l.length l'.length)).all (λq=>decide (l[q]? =l'[q]?))&&(l.length==l'.length))=decide (NK.tup l=NK.tup l'):=by
      rw[GO,decide_eq_true_iff,UE l l' _ λj a b ha hb=>by rw[decide_eq_true_iff,ha,hb,Fg]]
      exact⟨λe=>by rw[e],λe=>by cases e;rfl⟩
     rwa [jg] at this
theorem zar:∀(n:Nat) {A:Around} {s:Shared} {k:NK} {v:Value} {Q:Bool->Shared->Prop},yi k<=n->yI s.heap k v->Q true s->wpAny (model prog w) A (eqIsQuiet n v) Q E s:=by
 intro n
 induction n with
 |zero=>
  intro A s k v Q hn hk h
  cases hk with
  |int i t=>rw[eqIsQuiet_byValue _ rfl];exact wpAny_pure h
  |str x t=>rw[eqIsQuiet_byValue _ rfl];exact wpAny_pure h
  |tup _ _ _ _=>unfold yi at hn;omega
 |succ n ih=>
  intro A s k v Q hn hk h
  cases hk with
  |int i t=>rw[eqIsQuiet_byValue _ rfl];exact wpAny_pure h
  |str x t=>rw[eqIsQuiet_byValue _ rfl];exact wpAny_pure h
  | @tup a o items m ks ho hc hd hi=>
   have ty:s.TypeIs (.ref a) "tuple":=⟨o,ho,hc⟩
   have eZ:xU ks<=n:=by unfold yi at hn;omega
   unfold eqIsQuiet
   refine wpAny_bind (wpAny_specialOf ty F.slot_tuple_eq.lookup (wpAny_bind (m:=isInstance (.ref a) (.type "tuple")) (wpAny_isInstance ty isSubtype_tuple_tuple ?_)))
   refine wpAny_ite_split nofun λ_=>wpAny_bind (wpAny_seqItems ho hd (wpAny_bind (m:=forIn items _ _) ?_))
   rw[<-GV]
   refine wpAny_forIn_list _ (λrest acc s'=>acc.1=none/\s'=s/\∃post,(∀k∈post,yi k<=n)/\yg s.heap post rest) _ ?_ ?_ _ _ ⟨rfl,rfl,ks,λk hk=>Ey (wc hk) eZ,hi⟩
   ·rintro v1 rest acc _ ⟨ha,rfl,post,bO,hl⟩
    cases hl with
    | @cons k _ post' _ h1 gf=>exact wpAny_bind (ih (bO k (by simp)) h1 (wpAny_ite_split nofun λ_=>wpAny_pure ⟨rfl,rfl,post',λu hu=>bO u (Ej _ hu),gf⟩))
   ·rintro⟨a1,a2⟩ _ ⟨ha,rfl,_⟩
    cases ha
    exact wpAny_pure h
end
noncomputable def UF (prog:Program) (w:World):HeapKind prog w NK where
 is:=λh k a=>yI h k (.ref a)/\yi k<=8
 hash:=zX w
 draws:=XS
 room:=λA=>A.units+8<cLine
 inj:=λhx hy=>hx.1.inj hy.1
 keeps:=λx ho hd hs=>⟨x.1.keeps ho hd hs,x.2⟩
 pyHash:=λhu hk h=>zfi 8 hk.2 hu hk.1 h
 eqBool:=λhu hx hy h=>zaq 8 hx.2 hu hx.1 hy.1 _ _ _ _ h
 quiet:=λhk h=>zar 8 hk.2 hk.1 h
mutual
inductive NIs (K:E9) (H:Hp):V->NK->Prop where
 |int (i:Int):NIs K H (.int i) (.int i)
 |str (x:Str):NIs K H (.str x) (.str x)
 |tup {a:Addr} {vs:List V} {l:List NK}:SqT K H a vs->XT K H vs l->NIs K H (.ref a) (.tup l)
inductive XT (K:E9) (H:Hp):List V->List NK->Prop where
 |nil:XT K H [] []
 |cons {v:V} {k:NK} {vs:List V} {ks:List NK}:NIs K H v k->XT K H vs ks->XT K H (v::vs) (k::ks)
end
section
variable {X:Cx} {pins:List (Addr×Obj)} {σ:St} {H:Hp} {s:Shared}
mutual
theorem NIs.isNK (I:Inv X pins σ H s):∀{v:V} {k:NK} {u:Value},NIs X.K H v k->zK v u->yI s.heap k u
 |_,_,_,.int i,r=>by obtain⟨t,rfl⟩:=(show ∃t,_=Value.int i t from r);exact .int i t
 |_,_,_,.str x,r=>by obtain⟨t,rfl⟩:=(show ∃t,_=Value.str x t from r);exact .str x t
 |_,_,_,.tup (a:=a) h l,r=>by
  cases (show _=Value.ref a from r)
  obtain⟨ae,r1,⟨o,p1,p2,n,p3⟩,_⟩:=I.tuple h
  exact .tup p1 p2 p3 (XT.isNK I l (by simpa using r1))
theorem XT.isNK (I:Inv X pins σ H s):∀{v:List V} {k:List NK} {u:List Value},XT X.K H v k->zT v u->yg s.heap k u
 |_,_,_,.nil,r=>by cases r;exact .nil
 |_,_,_,.cons h l,r=>by
  cases r with
  |cons a b=>exact .cons (NIs.isNK I h a) (XT.isNK I l b)
end
end
def zhs (K:E9) (H:Hp) (ks:List (NK×Addr×V)):Prop:=∀p∈ks,NIs K H (.ref p.2.1) p.1/\yi p.1<=8
noncomputable def XD (ks:List (NK×Addr×V)) (k:NK):Option V:=(ks.find? λp=>decide (p.1=k)).map (·.2.2)
noncomputable def zas (ks:List (NK×Addr×V)) (k:NK) (b:Addr) (v:V):List (NK×Addr×V):=if (XD ks k).isSome=true then ks.map (λp=>if p.1=k then (p.1,p.2.1,v) else p) else ks++[(k,b,v)]
theorem zdF (ks:List (NK×Addr×V)) (k:NK) (b:Addr) (v:V):(zas ks k b v).length<=ks.length+1:=by
 unfold zas
 split
 ·rw[Eb];omega
 ·simp
noncomputable abbrev PN:List (NK×Addr×V)->List (NK×Addr×Value)->Prop:=Paired λ(p:NK×Addr×V) (q:NK×Addr×Value)=>p.1=q.1/\p.2.1=q.2.1/\zK p.2.2 q.2.2
theorem PN.val {ks:List (NK×Addr×V)} {xs:List (NK×Addr×Value)} (r:PN ks xs) (k:NK):Ww (XD ks k) ((atKey xs k).map (·.2)):=by
 induction r with
 |nil=>exact FU
 | @cons p q ps qs h t ih=>
  obtain⟨h1,_,h2⟩:=h
  by_cases e:p.1=k
  ·have e':q.1=k:=h1.symm.trans e
   have b:atKey (q::qs) k=some q.2:=by simp[atKey,F1,e']
   have a:XD (p::ps) k=some p.2.2:=by simp[XD,F1,e]
   rw[a,b];exact h2
  ·have e':¬q.1=k:=λz=>e (h1.trans z)
   have b:atKey (q::qs) k=atKey qs k:=by simp[atKey,F1,e']
   have a:XD (p::ps) k=XD ps k:=by simp[XD,F1,e]
   rw[a,b];exact ih
theorem PN.put {ks:List (NK×Addr×V)} {xs:List (NK×Addr×Value)} (r:PN ks xs) (k:NK) {b:Addr} {y:V} {u:Value} (ry:zK y u):PN (zas ks k b y) (storedH xs k b u):=by
 have e:(XD ks k).isSome=(atKey xs k).isSome:=by rw[(r.val k).isSome_eq,Gm]
 unfold zas storedH
 rw[e]
 by_cases q:(atKey xs k).isSome=true
 ·rw[if_pos q,if_pos q]
  clear q e
  induction r with
  |nil=>exact .nil
  | @cons p q ps qs h t ih=>
   rw[Eg,Eg]
   refine .cons ?_ ih
   obtain⟨h1,h2,h3⟩:=h
   unfold putAt
   by_cases e:p.1=k
   ·rw[if_pos e,if_pos (h1.symm.trans e)];exact⟨h1,h2,ry⟩
   ·rw[if_neg e,if_neg (λz=>e (h1.trans z))];exact⟨h1,h2,h3⟩
 ·rw[if_neg q,if_neg q];exact Paired.snoc r ⟨rfl,rfl,ry⟩
theorem PN.all {P:NK->Addr->Prop} {ks:List (NK×Addr×V)} {xs:List (NK×Addr×Value)} (r:PN ks xs) (h:∀p∈ks,P p.1 p.2.1):∀x∈xs,P x.1 x.2.1:=by
 induction r with
 |nil=>intro x hx;cases hx
 | @cons p q ps qs h' t ih=>
  intro x hx
  rcases Er.1 hx with rfl|hx
  ·obtain⟨e1,e2,_⟩:=h'
   rw[<-e1,<-e2]
   exact h p (by simp)
  ·exact ih (λp hp=>h p (by simp[hp])) x hx
section
variable {X:Cx} {pins:List (Addr×Obj)} {σ:St} {H:Hp} {s:Shared} {a:Addr}
theorem zkh {ks:List (NK×Addr×V)} (I:Inv X pins σ H s) (e:H a=some (.dN ks)) (hk:zhs X.K H ks):ks.length<=sizeLine/\(a==sysModules)=false/\∃xs,PN ks xs/\s.heap.DictOfH (UF X.prog X.w) a xs:=by
 obtain⟨z,y,xs,r,o,es,ep,h1,h2,h3,h4,h5⟩:=(show ym X.prog X.w H s.heap a (.dN ks) from I.hok a _ e)
 refine⟨z,y,xs,r,o,es,ep,h1,h2,h3,h4,?_,h5⟩
 exact PN.all r (P:=λk b=>(UF X.prog X.w).is s.heap k b) λp hp=>⟨(hk p hp).1.isNK I rfl,(hk p hp).2⟩
theorem zht (I:Inv X pins σ H s) (e:H a=some (.dK [])):(a==sysModules)=false/\s.heap.DictOfH (UF X.prog X.w) a []:=by
 obtain⟨z,y,vs,r,o,es,ep,h1,h2,h3,h4,h5,_⟩:=zdh I.hok e
 cases r
 refine⟨y,o,es,ep,h1,h2,h3,?_,by simp,by simp⟩
 have:es.toList=[]:=by
  have:=h5.length
  simpa using this
 rw[this]
 rfl
end
def zbN (K:E9) (H:Hp) (a:Addr) (y:V) (r:Option V):Prop:=
 WK H a y r\/∃k b,y= .ref b/\NIs K H y k/\yi k<=8/\((∃ks,H a=some (.dN ks)/\zhs K H ks/\r=XD ks k)\/(H a=some (.dK [])/\r=none))
def zhu (K:E9) (H:Hp) (a:Addr) (y v:V) (H':Hp):Prop:=
 zei H a y v H'\/∃k b,y= .ref b/\NIs K H y k/\yi k<=8/\((∃ks,H a=some (.dN ks)/\zhs K H ks/\ks.length<sizeLine/\H'=upd H a (.dN (zas ks k b v)))\/(H a=some (.dK [])/\H'=upd H a (.dN [(k,b,v)])))
section
variable {X:Cx} {pins:List (Addr×Obj)} {σ:St} {H:Hp} {s:Shared} {a:Addr} {y v d:V} {u r:Value} {o:Option V} {A:Around} {E:Value->Shared->Prop}
theorem dgN {k:NK} (I:Inv X pins σ H s) (h:(∃ks,H a=some (.dN ks)/\zhs X.K H ks/\o=XD ks k)\/(H a=some (.dK [])/\o=none)):(a==sysModules)=false/\∃xs,s.heap.DictOfH (UF X.prog X.w) a xs/\Ww o ((atKey xs k).map (·.2)):=by
 rcases h with⟨ks,e,hk,rfl⟩|⟨e,rfl⟩
 ·obtain⟨_,hd,xs,rel,dd⟩:=zkh I e hk
  exact⟨hd,xs,dd,rel.val k⟩
 ·obtain⟨hd,dd⟩:=zht I e
  exact⟨hd,[],dd,FU⟩
theorem zeF {Q:Value->Shared->Prop} (hu:A.units+9<cLine) (I:Inv X pins σ H s) (g:zbN X.K H a y (some v)) (ry:zK y u) (h:∀w' s',Inv X pins σ H s'->zK v w'->Q w' s'):wpAny (model X.prog X.w) A (getItem (.ref a) u) Q E s:=by
 rcases g with g|⟨k,b,rfl,hk,hd,g⟩
 ·exact zbA ⋯ I g ry h
 ·cases (show u=Value.ref b from ry)
  obtain⟨_,xs,dd,rel⟩:=dgN I g
  obtain⟨w',hw,rw'⟩:=Ww.some_of rel
  obtain⟨p,hp,jD⟩:=Ez.mp hw
  refine wpAny_getItem_heap (knd:=UF X.prog X.w) (by show A.units+1+8<cLine;omega) ⟨hk.isNK I rfl,hd⟩ dd hp ?_
  rw[jD]
  exact h w' _ (I.tok _) rw'
theorem zhv {Q:Value->Shared->Prop} (hu:A.units+9<cLine) (I:Inv X pins σ H s) (g:zbN X.K H a y o) (ry:zK y u) (h:∀s',Inv X pins σ H s'->Q (.bool (!o.isSome)) s'):wpAny (model X.prog X.w) A (compareOp .NotIn u (.ref a)) Q E s:=by
 rcases g with g|⟨k,b,rfl,hk,hd,g⟩
 ·exact ze7 ⋯ I g ry h
 ·cases (show u=Value.ref b from ry)
  obtain⟨hs,xs,dd,rel⟩:=dgN I g
  refine wpAny_notIn_heap (knd:=UF X.prog X.w) (by show A.units+1+8<cLine;omega) ⟨hk.isNK I rfl,hd⟩ hs dd ?_
  have q:=rel.isSome_eq
  rw[Gm] at q
  rw[<-q]
  exact h _ (I.tok _)
theorem zeG {H':Hp} {Q:Unit->Shared->Prop} (hu:A.units+9<cLine) (I:Inv X pins σ H s) (g:zhu X.K H a y v H') (ry:zK y u) (rv:zK v r) (h:∀s',Inv X pins σ H' s'->Q () s'):
  wpAny (model X.prog X.w) A (setItem (.ref a) u r) Q E s:=by
 rcases g with g|⟨k,b,rfl,hk,hd,⟨ks,e,md,hl,rfl⟩|⟨e,rfl⟩⟩
 ·exact zbB ⋯ I g ry rv h
 ·cases (show u=Value.ref b from ry)
  obtain⟨z,hs,xs,rel,dd⟩:=zkh I e md
  have hz:xs.length<=sizeLine:=by rw[<-Paired.length rel];exact z
  have ef:(zas ks k b v).length<=sizeLine:=by have:=zdF ks k b v;omega
  refine wpAny_setItem_heap (knd:=UF X.prog X.w) (hsz:=hz) (by show A.units+1+8<cLine;omega) ⟨hk.isNK I rfl,hd⟩ dd λh' dd' dw=>h _ ?_
  obtain⟨q,es,ep,hq,h2,h3,h4,_,h5⟩:=dd'
  exact Vj I (by rw[e];exact FU) dw ⟨q,hq⟩ ⟨ef,hs,_,rel.put k rv,q,es,ep,hq,h2,h3,h4,h5⟩
 ·cases (show u=Value.ref b from ry)
  obtain⟨hs,dd⟩:=zht I e
  refine wpAny_setItem_heap (knd:=UF X.prog X.w) (hsz:=FR _) (by show A.units+1+8<cLine;omega) ⟨hk.isNK I rfl,hd⟩ dd λh' dd' dw=>h _ ?_
  obtain⟨q,es,ep,hq,h2,h3,h4,_,h5⟩:=dd'
  refine Vj I (by rw[e];exact FU) dw ⟨q,hq⟩ ⟨by simp;decide,hs,_,?_,q,es,ep,hq,h2,h3,h4,h5⟩
  exact .cons ⟨rfl,rfl,rv⟩ .nil
theorem zcy (I:Inv X pins σ H s) (g:zbN X.K H a y o):s.TypeIs (.ref a) "dict":=by
 rcases g with g|⟨k,b,rfl,hk,hd,g⟩
 ·exact Uy I g
 ·obtain⟨_,xs,dd,_⟩:=dgN I g
  exact dd.typeIs
end
def zhw (K:E9) (td ty:TE):TE:=λσ H Q=>td σ H λx H1=>ty σ H1 λy H2=>∃a v,x= .ref a/\zbN K H2 a y (some v)/\Q v H2
def zki (K:E9) (neg:Bool) (ty td:TE):TE:=λσ H Q=>ty σ H λy H1=>td σ H1 λx H2=>∃a o,x= .ref a/\zbN K H2 a y o/\Q (.bl (neg !=o.isSome)) H2
def zhx (K:E9) (td ty tv:TE):TS:=λD σ H=>tv σ H λv H1=>td σ H1 λx H2=>ty σ H2 λy H3=>∃a H4,x= .ref a/\zhu K H3 a y v H4/\D.nx σ H4
section
variable {X:Cx} {o i e f value:Expr} {pos pos' jL apos bo:Pos} {td ty tv tx:TE} {K:E9} {r:Nat}
theorem zhy (hr:vk r X.A):X.A.units+9<cLine:=by have:=hr.un;omega
theorem zhz (hr:vk r X.A) (ho:PE X o td) (hi:PE X i ty) (hs:zkI i) (hK:X.K=K:=by rfl):PE X (.Subscript o i pos) (zhw K td ty):=by
 subst hK
 intro pins s σ H Q I h
 refine ze8 HN.lookup hs (thn (ho pins s σ H _ I h) ?_)
 rintro u s1 ⟨x,H1,I1,rx,q1⟩
 refine thn (hi pins s1 σ H1 _ I1 q1) ?_
 rintro iv s2 ⟨y,H2,I2,ry,a,v,ex,g,q2⟩
 subst ex
 obtain rfl:u=Value.ref a:=rx
 exact⟨zcy I2 g,zeF (zhy hr) I2 g ry λw' s3 I3 rw'=>⟨v,H2,I3,rw',q2⟩⟩
theorem zeH (hr:vk r X.A) (hi:PE X i ty) (ho:PE X o td) (hK:X.K=K:=by rfl):PC X .NotIn i o (zki K true ty td):=by
 subst hK
 intro pins s σ H Q I h
 refine thn (hi pins s σ H _ I h) ?_
 rintro iv s1 ⟨y,H1,I1,ry,q1⟩
 refine thn (ho pins s1 σ H1 _ I1 q1) ?_
 rintro u s2 ⟨x,H2,I2,rx,a,ov,ex,g,q2⟩
 subst ex
 obtain rfl:u=Value.ref a:=rx
 exact zhv (zhy hr) I2 g ry λs3 I3=>⟨.bl (true !=ov.isSome),H2,I3,by cases ov.isSome<;>rfl,q2⟩
theorem zhA (hr:vk r X.A) (ho:PE X o td) (hi:PE X i ty) (hv:PE X value tv) (hs:swapsWith value (some (.Subscript o i pos')) pos.line X.env=pure false) (hK:X.K=K:=by rfl):
  PS X (.Assign [.Subscript o i pos'] value pos) (zhx K td ty tv):=by
 subst hK
 intro pins s σ H D I h
 refine wpAny_Assign_Subscript (thn (hv pins s σ H _ I h) ?_) hs
 rintro r s1 ⟨v,H1,I1,rv,q1⟩
 refine thn (ho pins s1 σ H1 _ I1 q1) ?_
 rintro u s2 ⟨x,H2,I2,rx,q2⟩
 refine thn (hi pins s2 σ H2 _ I2 q2) ?_
 rintro iv s3 ⟨y,H3,I3,ry,a,H4,ex,g,q3⟩
 subst ex
 obtain rfl:u=Value.ref a:=rx
 exact zeG (zhy hr) I3 g ry rv λs4 I4=>⟨σ,H4,I4,q3⟩
end
end L2
namespace L2
open PySem PySem.Spec PyProof.Rows PySem.Calls PySem.W
def zk9 (h:Heap) (a:Addr) (es:Array DictEntry) (ep:Nat):Prop:=∃o,h.get? a=some o/\o.ExactDict/\o.data= .dict es ep
section
variable {prog:Program} {w:World} {A:Around} {E:Value->Shared->Prop} {s:Shared} {d it:Addr} {es:Array DictEntry} {ep i:Nat}
theorem zk9.type (x:zk9 s.heap d es ep):s.TypeIs (.ref d) "dict":=by
 obtain⟨o,h1,h2,_⟩:=x
 exact⟨o,h1,h2.1⟩
end
noncomputable def ltL:List Int->List Int->Bool
 |[],[]=>false
 |[],_::_=>true
 |_::_,[]=>false
 |a::x,b::y=>if a=b then ltL x y else decide (a<b)
theorem Zg:∀x,ltL x x=false
 |[]=>rfl
 |a::x=>by unfold ltL;rw[if_pos rfl];exact Zg x
theorem Tg:∀x y,x≠y->ltL x y= !ltL y x
 |[],[],h=>(h rfl).elim
 |[],_::_,_=>rfl
 |_::_,[],_=>rfl
 |a::x,b::y,h=>by
  unfold ltL
  by_cases e:a=b
  ·subst e
   rw[if_pos rfl,if_pos rfl]
   exact Tg x y λz=>h (by rw[z])
  ·rw[if_neg e,if_neg (λz=>e z.symm)]
   by_cases l:a<b
   ·rw[decide_eq_true l,decide_eq_false ⋯];rfl
   ·rw[decide_eq_false l,decide_eq_true ⋯];rfl
theorem zeI:∀x y z,ltL x y=true->ltL y z=true->ltL x z=true
 |[],[],z,h,_=>by cases h
 |[],_::_,[],_,h=>by cases h
 |[],_::_,_::_,_,_=>rfl
 |_::_,[],z,h,_=>by cases h
 |_::_,_::_,[],_,h=>by cases h
 |a::x,b::y,c::z,h,g=>by
  unfold ltL at h g ⊢
  by_cases e:a=b
  ·subst e
   rw[if_pos rfl] at h
   by_cases e2:a=c
   ·subst e2
    rw[if_pos rfl] at g ⊢
    exact zeI x y z h g
   ·rw[if_neg e2] at g ⊢;exact g
  ·rw[if_neg e] at h
   have h:=of_decide_eq_true h
   by_cases e2:b=c
   ·subst e2;rw[if_neg e];exact decide_eq_true h
   ·rw[if_neg e2] at g
    have g:=of_decide_eq_true g
    rw[if_neg ⋯];exact decide_eq_true ⋯
theorem UG {α:Type} {P Q:α->Bool}:∀(l:List α),(∀a∈l,P a=true->Q a=true)->(∃a∈l,Q a=true/\P a=false)->l.countP P<l.countP Q
 |[],_,⟨_,h,_⟩=>by cases h
 |b::l,h,⟨a,ha,q,p⟩=>by
  have le:l.countP P<=l.countP Q:=List.countP_mono_left λx hx hp=>h x (by simp[hx]) hp
  rw[Jj,Jj]
  rcases Er.1 ha with rfl|ha
  ·rw[p,q];simp;omega
  ·have:=UG l (λx hx=>h x (by simp[hx])) ⟨a,ha,q,p⟩
   by_cases hb:P b=true
   ·rw[hb,h b (by simp) hb];simp;omega
   ·rw[show P b=false by simpa using hb];simp;omega
noncomputable def xX (is:List (List Int)) (i:Nat):Int:=(is.countP λl=>ltL l (is.getD i []):Nat)
theorem Xj {is:List (List Int)} (nd:is.Nodup) {i j:Nat} (hi:i<is.length) (hj:j<is.length) (dC:i≠j):ltL (is.getD i []) (is.getD j [])=decide (xX is i<xX is j):=by
 have ei:is.getD i []=is[i]:=by simp[Ec,hi]
 have ej:is.getD j []=is[j]:=by simp[Ec,hj]
 have ne:is[i]≠is[j]:=λz=>dC ((FE nd).1 z)
 have key:∀{x y:List Int},x∈is->ltL x y=true->is.countP (λl=>ltL l x)<is.countP λl=>ltL l y:=λ{x y} hx h=>UG is (λa _ ha=>zeI a x y ha h) ⟨x,hx,h,Zg x⟩
 unfold xX
 rw[ei,ej]
 cases h:ltL is[i] is[j] with
 |true=>
  have:=key (Eo hi) h
  exact (decide_eq_true ⋯).symm
 |false=>
  have h2:ltL is[j] is[i]=true:=by have:=Tg is[i] is[j] ne;rw[h] at this;simpa using this
  have:=key (Eo hj) h2
  exact (decide_eq_false ⋯).symm
noncomputable def ZX (is:List (List Int)):List Nat:=(F7 is.length).mergeSort λi j=>decide (xX is i<=xX is j)
theorem vw (is:List (List Int)):(ZX is).Perm (F7 is.length):=IT _ _
theorem zdG (is:List (List Int)):((ZX is).map (xX is)).Pairwise (· <= ·):=by
 rw[EZ]
 have h:=Ig (le:=λi j=>decide (xX is i<=xX is j)) (by intro a b c h1 h2;simp at*;omega) (by intro a b;simp;omega) (F7 is.length)
 exact h.imp λh=>by simpa using h
theorem zfj {is:List (List Int)} (nd:is.Nodup) {p:Array Nat} (hp:PmN is.length p) (ha:ZI (xX is) p is.length):p.toList=ZX is:=by
 have hs:=hp.size
 have aI:p.toList.Perm (F7 is.length):=by
  have:=HL hp
  simpa using this
 have e:p.toList.map (xX is)=(ZX is).map (xX is):=by
  refine Ji ((aI.trans (vw is).symm).map _) ?_ (zdG is)
  rw[G6]
  intro i j hi hj dC
  have cm:i<p.size:=by simpa using hi
  have dj:j<p.size:=by simpa using hj
  have:=Uc ha (EL dC) ⋯
  unfold Kr at this
  simp only[Jk,IK]
  rw[show p.getD i 0=p[i] by simp[GY,cm],show p.getD j 0=p[j] by simp[GY,dj]] at this
  exact this
 have inj:∀i j,i<is.length->j<is.length->xX is i=xX is j->i=j:=λi j hi hj h=>by
  by_cases q:i=j
  ·exact q
  ·have a:=Xj nd hi hj q
   have b:=Xj nd hj hi (λz=>q z.symm)
   rw[h,decide_eq_false ⋯] at a
   rw[<-h,decide_eq_false ⋯] at b
   have ne:is.getD i []≠is.getD j []:=λz=>q ((FE nd (h₀:=hi) (h₁:=hj)).1 (by simpa [Ec,hi,hj] using z))
   have:=Tg _ _ ne
   rw[a,b] at this
   cases this
 have len:p.toList.length=(ZX is).length:=by rw[aI.length_eq,(vw is).length_eq]
 refine Jl len λi hi cA=> ?_
 have e1:xX is p.toList[i]=xX is (ZX is)[i]:=by
  have:=congrArg (λl=>l[i]?) e
  simp only[Ef,DZ hi,DZ cA,FI] at this
  exact EE this
 exact inj _ _ (by have:=aI.mem_iff.1 (Eo hi);simpa using this) (by have:=(vw is).mem_iff.1 (Eo cA);simpa using this) e1
section
variable {prog:Program} {w:World} {A:Around} {E:Value->Shared->Prop} {s:Shared}
end
section
variable {prog:Program} {w:World} {A:Around} {E:Value->Shared->Prop} {s:Shared} {T:String} {r d:Addr} {n:Nat} {P:Nat->Value->Prop} {OK:Heap->Prop} {Q:Value->Shared->Prop}
theorem zdH (K:GX prog w T r d n P OK) (hh:A.handled=none) (hok:OK s.heap) (cJ:n<64) (rk:Nat->Int)
  (hk:∀vs:List Value,vs.length=n->(∀(j:Nat) (v:Value),vs[j]? =some v->P j v)->2<=n->∀(g:Heap) (tk:Nat),(∀b o,s.heap.get? b=some o->g.get? b=some o)->zdE prog w A.in1.in1 rk vs {s with heap:=g,toks:=tk})
  (h:∀(D:Addr) (h':Heap) (tk e:Nat) (vs:List Value) (p:Array Nat),vs.length=n->(∀(j:Nat) (v:Value),vs[j]? =some v->P j v)->PmN n p->ZI rk p n->(∀b o,s.heap.get? b=some o->h'.get? b=some o)->s.heap.objs.size<=D->h'.get? D=some (seqObj "list" (FC (p.toList.map λi=>vs.getD i Value.none)) e)->Q (.ref D) {s with heap:=h',toks:=tk}):
  wpAny (model prog w) A (call (.builtin "sorted") [.ref r]) Q E s:=by
 have hn:n<=sizeLine:=WN cJ
 refine call_function_entry kind_sorted plain_sorted entry_sorted (args_sorted1 _) ?_
 unfold Builtin.«sorted»
 refine wpAny_bind (m:=checkCount "sorted" 1 1 _) (wpAny_pure (wpAny_bind (XH (A:=A.in1) K hh hok hn λg tk acc kp lt bb=> ?_)))
 have hl:acc.toList.length=n:=by rw[Fe];exact bb.1
 have hP:∀(j:Nat) (v:Value),acc.toList[j]? =some v->P j v:=λj v e=>bb.2 j v (by rw[<-Fo];exact e)
 refine wpAny_bind (wpAny_newList ?_ (by rw[hl];exact hn))
 have dZ:(g.push {cls:= .type "list",data:= .seq acc.toList.toArray}).get? g.objs.size=some (seqObj "list" acc.toList.toArray 0):=Heap.get?_push_size _ rfl
 have old:∀b o,s.heap.get? b=some o->b≠g.objs.size/\(g.push {cls:= .type "list",data:= .seq acc.toList.toArray}).get? b=some o:=λb o eb=>by
  have hb:=kp b o eb
  exact⟨Ep (Heap.lt_size hb),Heap.get?_push_of_some _ hb⟩
 refine wpAny_bind (wpAny_holding (wpAny_call_entry slot_list_sort ⟨_,dZ,rfl⟩ entry_list_sort (Ud rk dZ ⋯ (λh2 g2 jf=>hk _ hl hP ⋯ g2 tk λb o eb=>jf b o (old b o eb).1 (old b o eb).2) λp pm fN=>⟨_,rfl,?_⟩) (args_list_sort _)))
 rw[hl] at pm fN
 obtain⟨e,he⟩:=sortedHeap_at (out:=FC (p.toList.map λi=>acc.toList.getD i Value.none)) dZ
 refine wpAny_pure ⟨_,rfl,h _ _ tk e acc.toList p hl hP pm fN (λb o eb=> ?_) (EL lt) he⟩
 have ic:=Heap.lt_size (kp b o eb)
 rw[sortedHeap_old (Ep ic) (by rw[Heap.size_push];exact Fu ic)]
 exact (old b o eb).2
end
section
variable {X:Cx}
end
end L2
namespace L2
open PySem PySem.Spec PyProof.Rows PySem.Calls
open AutoSeq1 (wpAny_loadPart')
section
variable {prog:Program} {w:World} {A:Around} {E:Value->Shared->Prop} {s:Shared} {it t:Addr} {ae:Array Value}
end
section
variable {X:Cx}
end
end L2
namespace L2
open PySem PySem.Spec PyProof.Rows
section
variable {X:Cx}
end
end L2
namespace L2
open PySem PySem.Spec PyProof.Rows PySem.Calls PySem.W
section
variable {cmp:Nat->Nat->(Bool->Shared->Prop)->Shared->Prop} {r:Nat->Int} {n:Nat} {s:Shared}
end
section
variable {prog:Program} {w:World} {A:Around} {E:Value->Shared->Prop} {κ:SortKind} {it:Array Keyed} {s:Shared}
end
section
variable {X:Cx} {pins:List (Addr×Obj)} {σ:St} {H:Hp} {s:Shared} {h':Heap}
end
def zmh (is:List (List Int)):Prop:=(2<=is.length->∀l∈is,l≠[])/\∀i j,i<j->j<is.length->ltL (is.getD j []) (is.getD i [])=true
section
variable {X:Cx} {k:Nat} {f:Addr} {fd:FuncData} {ps:List Str} {sp:Sp} {pins:List (Addr×Obj)} {σ:St} {H:Hp} {s:Shared}
end
section
variable {X:Cx}
end
section
variable {X:Cx}
end
end L2
namespace L2
open PySem PySem.Spec PyProof.Rows
namespace Sm
noncomputable def inB (b j:Nat):Bool:=b.testBit j
noncomputable def plL (b:Nat):List Nat:=(F7 8).filter (inB b)
noncomputable def pl (b:Nat):Array Nat:=(plL b).toArray
noncomputable def st (h:Int):Nat->Nat×Nat
 |0=>(SetTable.bits h % 8,SetTable.bits h)
 |n+1=>SetTable.leap 7 (st h n).1 (st h n).2
noncomputable def pos (h:Int) (n:Nat):Nat:=(st h n).1
theorem Zx (h:Int) (n:Nat):pos h n<8:=by
 cases n with
 |zero=>exact HP _ ∅
 |succ n=>exact HP _ ∅
noncomputable def mkP (s:Nat×Nat):SetTable.Probe:={j:=s.1,more:=0,i:=s.1,perturb:=s.2,dummy:=none}
structure Tb (t:SetTable) (b:Nat):Prop where
 mask:t.mask=7
 place:t.place=pl b
 dum:t.dummies= #[]
theorem zfk {i:Nat}:SetTable.runEnd 7 i=i:=by unfold SetTable.runEnd;rw[if_neg ⋯]
theorem zhB {t:SetTable} {b:Nat} (h:Tb t b) (x:Int):t.probeStart x=mkP (st x 0):=by
 unfold SetTable.probeStart
 rw[h.mask]
 dsimp only
 rw[zfk,HY]
 rfl
theorem zla {t:SetTable} {b:Nat} (h:Tb t b) (x:Int) (n:Nat):t.advance (mkP (st x n))=mkP (st x (n+1)):=by
 unfold SetTable.advance mkP
 rw[if_neg (Fv 0),h.mask]
 show (let (i,perturb):=SetTable.leap 7 (st x n).1 (st x n).2;({j:=i,more:=SetTable.runEnd 7 i-i,i:=i,perturb:=perturb,dummy:=none}:SetTable.Probe))=_
 rw[show SetTable.leap 7 (st x n).1 (st x n).2=st x (n+1) from rfl]
 show ({j:=(st x (n+1)).1,more:=SetTable.runEnd 7 (st x (n+1)).1-(st x (n+1)).1,i:=(st x (n+1)).1,perturb:=(st x (n+1)).2,dummy:=none}:SetTable.Probe)=_
 rw[zfk,HY]
noncomputable def ix (b j:Nat):Nat:=((F7 j).filter (inB b)).length
theorem Wp:∀b<256,∀j<8,SetTable.below (pl b) j=ix b j/\(inB b j=true->(pl b)[ix b j]? =some j)/\(inB b j=false->((pl b)[ix b j]? ==some j)=false)/\(inB b j=false->SetTable.insertAt (pl b) (ix b j) j=pl (b+2^j)/\b+2^j<256):=by decide+kernel
theorem zfl {t:SetTable} {b:Nat} (h:Tb t b) (hb:b<256) {j:Nat} (hj:j<8):t.slot j=if inB b j then .live (ix b j) else .empty:=by
 obtain⟨h1,h2,h3,_⟩:=Wp b hb j hj
 unfold SetTable.slot
 rw[h.place,h.dum,h1]
 dsimp only
 cases hi:inB b j with
 |true=>rw[h2 hi,if_pos (by simp),if_pos rfl]
 |false=>
  rw[h3 hi]
  rfl
theorem zmi (h:Int):∀n,(st h n).2=SetTable.bits h / 32^n
 |0=>by rw[Nat.pow_zero,Nat.div_one];rfl
 |n+1=>by
  show (st h n).2 / 32=_
  rw[zmi h n,Nat.div_div_eq_div_mul,Nat.pow_succ]
theorem zjd (h:Int):SetTable.bits h<2^64:=by
 unfold SetTable.bits
 have h0:=G9 h (show (2^64:Int)≠0 by decide)
 have h1:=Gg h (show (0:Int)<2^64 by decide)
 omega
theorem zmj (h:Int) {n:Nat} (hn:13<=n):(st h n).2=0:=by
 rw[zmi]
 refine Nat.div_eq_of_lt (EK (zjd h) (Ey (show 2^64<=32^13 by decide) (Gp ∅ hn)))
noncomputable def lcg:Nat->Nat->Nat
 |0,i=>i
 |n+1,i=>(lcg n i*5+1) % 8
theorem zfm (h:Int):∀n,pos h (13+n)=lcg n (pos h 13)
 |0=>rfl
 |n+1=>by
  show ((st h (13+n)).1*5+1+(st h (13+n)).2 / 32) % (7+1)=(lcg n (pos h 13)*5+1) % 8
  rw[zmj h (GC 13 n),<-zfm h n]
  rfl
theorem zje:∀i<8,∀b<256,b≠255->∃n,n<8/\inB b (lcg n i)=false:=by decide+kernel
theorem met (h:Int) {b:Nat} (hb:b<256) (hn:b≠255):∃n,n<=20/\inB b (pos h n)=false:=by
 obtain⟨n,h1,h2⟩:=zje (pos h 13) (Zx h 13) b hb hn
 exact⟨13+n,⋯,by rw[zfm];exact h2⟩
inductive zhC (f:Nat->Int) (b:Nat) (x:Int) (n:Nat):SetTable.Met->Prop
 |empty (m:Nat):n<=m->inB b (pos x m)=false->(∀k,n<=k->k<m->inB b (pos x k)=true/\f (pos x k)≠x)->zhC f b x n (.empty (pos x m) none)
 |cand (m:Nat):n<=m->inB b (pos x m)=true->f (pos x m)=x->(∀k,n<=k->k<m->inB b (pos x k)=true/\f (pos x k)≠x)->zhC f b x n (.candidate (pos x m) (ix b (pos x m)) (mkP (st x (m+1))))
theorem zhD {t:SetTable} {b:Nat} (h:Tb t b) (hb:b<256) (f:Nat->Int) (ha:Nat->Int) (BP:∀j<8,inB b j=true->ha (ix b j)=f j) (x:Int) (e:Nat) (he:inB b (pos x e)=false):∀(fuel n:Nat),n<=e->e-n<fuel->∃m,SetTable.probe.go t ha x fuel (mkP (st x n))=some m/\zhC f b x n m:=by
 intro fuel
 induction fuel with
 |zero=>intro n _ h;omega
 |succ fuel ih=>
  intro n hn hf
  unfold SetTable.probe.go
  rw[show (mkP (st x n)).j=pos x n from rfl,zfl h hb (Zx x n)]
  cases hi:inB b (pos x n) with
  |false=>exact⟨_,rfl,.empty n (Ek _) hi (λk h1 h2=>by omega)⟩
  |true=>
   rw[if_pos rfl]
   dsimp only
   rw[BP _ (Zx x n) hi,zla h]
   by_cases hx:f (pos x n)=x
   ·rw[if_pos (by simpa using hx)]
    exact⟨_,rfl,.cand n (Ek _) hi hx (λk h1 h2=>by omega)⟩
   ·rw[if_neg (by simpa using hx)]
    have cq:n≠e:=λz=>by rw[z,he] at hi;cases hi
    obtain⟨m,e1,hm⟩:=ih (n+1) ⋯ ⋯
    refine⟨m,e1,?_⟩
    have ext:∀{m:Nat},(∀k,n+1<=k->k<m->inB b (pos x k)=true/\f (pos x k)≠x)->∀k,n<=k->k<m->inB b (pos x k)=true/\f (pos x k)≠x:=λhk k h1 h2=>by
     by_cases uc:k=n
     ·rw[uc];exact⟨hi,hx⟩
     ·exact hk k ⋯ h2
    cases hm with
    |empty m h1 h2 h3=>exact .empty m ⋯ h2 (ext h3)
    |cand m h1 h2 h3 h4=>exact .cand m ⋯ h2 h3 (ext h4)
def zfn (b:Nat) (f:Nat->Int):Prop:=∀j<8,inB b j=true->∃n,pos (f j) n=j/\∀m,m<n->inB b (pos (f j) m)=true
theorem zcz:∀b<256,∀j<8,inB b j=false->∀i<8,inB (b+2^j) i=(inB b i||decide (i=j)):=by decide+kernel
theorem zfn.put {b:Nat} {f:Nat->Int} (c:zfn b f) (hb:b<256) {x:Int} {n:Nat} (h0:inB b (pos x n)=false) (h1:∀m,m<n->inB b (pos x m)=true):zfn (b+2^pos x n) (λj=>if j=pos x n then x else f j):=by
 have kP:=zcz b hb _ (Zx x n) h0
 have up:∀{k:Nat} {y:Int},inB b (pos y k)=true->inB (b+2^pos x n) (pos y k)=true:=λ{k y} h=>by rw[kP _ (Zx y k),h];rfl
 intro j hj hi
 by_cases kx:j=pos x n
 ·subst kx
  dsimp only
  rw[if_pos rfl]
  exact⟨n,rfl,λm hm=>up (h1 m hm)⟩
 ·dsimp only
  rw[if_neg kx]
  rw[kP j hj,decide_eq_false kx,GK] at hi
  obtain⟨k,e,hk⟩:=c j hj hi
  exact⟨k,e,λm hm=>up (hk m hm)⟩
end Sm
end L2
namespace L2
open PySem PySem.Spec PyProof.Rows PySem.Calls PySem.W
mutual
noncomputable def ZJ:NK->Bool
 | .int _=>true
 | .str _=>false
 | .tup l=>Xk l
noncomputable def Xk:List NK->Bool
 |[]=>true
 |k::r=>ZJ k&&Xk r
end
theorem zau:∀{l:List NK} {k:NK},Xk l=true->k∈l->ZJ k=true
 |x::r,k,h,hk=>by
  unfold Xk at h
  rw[FG] at h
  rcases Er.1 hk with rfl|hk
  ·exact h.1
  ·exact zau h.2 hk
section
variable {prog:Program} {w:World} {E:Value->Shared->Prop}
theorem zdI:∀(n:Nat) {A:Around} {s:Shared} {k:NK} {v:Value} {Q:Bool->Shared->Prop},yi k<=n->yI s.heap k v->Q false s->wpAny (model prog w) A (ofAClassStatement n v) Q E s:=by
 intro n
 induction n with
 |zero=>
  intro A s k v Q hn hk h
  cases hk with
  |int i t=>exact wpAny_pure h
  |str x t=>exact wpAny_pure h
  |tup _ _ _ _=>unfold yi at hn;omega
 |succ n ih=>
  intro A s k v Q hn hk h
  cases hk with
  |int i t=>exact wpAny_pure h
  |str x t=>exact wpAny_pure h
  | @tup a o items m ks ho hc hd hi=>
   have ty:s.TypeIs (.ref a) "tuple":=⟨o,ho,hc⟩
   have eZ:xU ks<=n:=by unfold yi at hn;omega
   unfold ofAClassStatement
   refine wpAny_bind (wpAny_typeOf ty ?_)
   dsimp only
   refine wpAny_bind (wpAny_pure ?_)
   refine wpAny_ite_split nofun λ_=>wpAny_bind (wpAny_seqItems ho hd ?_)
   dsimp only
   refine wpAny_bind (m:=forIn items _ _) ?_
   rw[<-GV]
   refine wpAny_forIn_list _ (λrest acc s'=>acc.1=none/\s'=s/\∃post,(∀k∈post,yi k<=n)/\yg s.heap post rest) _ ?_ ?_ _ _ ⟨rfl,rfl,ks,λk hk=>Ey (wc hk) eZ,hi⟩
   ·rintro v1 rest acc _ ⟨ha,rfl,post,bO,hl⟩
    cases hl with
    | @cons k _ post' _ h1 gf=>exact wpAny_bind (ih (bO k (by simp)) h1 (wpAny_ite_split nofun λ_=>wpAny_pure ⟨rfl,rfl,post',λu hu=>bO u (Ej _ hu),gf⟩))
   ·rintro⟨a1,a2⟩ _ ⟨ha,rfl,_⟩
    cases ha
    exact wpAny_pure h
theorem zhE:∀(n:Nat) {A:Around} {s:Shared} {k:NK} {v:Value} {Q:Bool->Shared->Prop},yi k<=n->ZJ k=true->yI s.heap k v->Q true s->wpAny (model prog w) A (hashByValue n v) Q E s:=by
 intro n
 induction n with
 |zero=>
  intro A s k v Q hn hi hk h
  cases hk with
  |int i t=>exact wpAny_pure h
  |str x t=>cases hi
  |tup _ _ _ _=>unfold yi at hn;omega
 |succ n ih=>
  intro A s k v Q hn gF hk h
  cases hk with
  |int i t=>exact wpAny_pure h
  |str x t=>cases gF
  | @tup a o items m ks ho hc hd hi=>
   have ty:s.TypeIs (.ref a) "tuple":=⟨o,ho,hc⟩
   have eZ:xU ks<=n:=by unfold yi at hn;omega
   unfold hashByValue
   refine wpAny_bind (wpAny_specialOf ty F.slot_tuple_hash.lookup ?_)
   dsimp only
   refine wpAny_bind (wpAny_seqItems ho hd ?_)
   refine wpAny_bind (m:=forIn _ _ _) ?_
   show wpAny _ _ (forIn items _ _) _ _ _
   rw[<-GV]
   refine wpAny_forIn_list _ (λrest acc s'=>acc.1=none/\s'=s/\∃post,(∀k∈post,yi k<=n/\ZJ k=true)/\yg s.heap post rest) _ ?_ ?_ _ _ ⟨rfl,rfl,ks,λk hk=>⟨Ey (wc hk) eZ,zau gF hk⟩,hi⟩
   ·rintro v1 rest acc _ ⟨ha,rfl,post,bO,hl⟩
    cases hl with
    | @cons k _ post' _ h1 gf=>exact wpAny_bind (ih (bO k (by simp)).1 (bO k (by simp)).2 h1 (wpAny_ite_split nofun λ_=>wpAny_pure ⟨rfl,rfl,post',λu hu=>bO u (Ej _ hu),gf⟩))
   ·rintro⟨a1,a2⟩ _ ⟨ha,rfl,_⟩
    cases ha
    exact wpAny_pure h
theorem zgf {A:Around} {s:Shared} {k:NK} {c:Addr} (hk:yI s.heap k (.ref c)) (hd:yi k<=8) (ys:List Value) (hy:∀y∈ys,∃k' c',y= .ref c'/\yI s.heap k' (.ref c')/\yi k'<=8) {Q:Bool->Shared->Prop} (h:Q false s):wpAny (model prog w) A (searchCouldBeSeen (.ref c) ys) Q E s:=by
 unfold searchCouldBeSeen
 refine wpAny_bind (m:=forIn ys _ _) ?_
 refine wpAny_forIn_list _ (λrest acc s'=>acc.1=none/\s'=s/\∀y∈rest,∃k' c',y= .ref c'/\yI s.heap k' (.ref c')/\yi k'<=8) _ ?_ ?_ _ _ ⟨rfl,rfl,hy⟩
 ·rintro y rest acc _ ⟨ha,rfl,bO⟩
  obtain⟨k',c',rfl,h1,h2⟩:=bO y (by simp)
  have hr:=λy (hy:y∈rest)=>bO y (Ej _ hy)
  dsimp only
  refine wpAny_ite_split (λ_=>wpAny_pure ⟨rfl,rfl,hr⟩) λ_=> ?_
  refine wpAny_bind (zar 8 hd hk (wpAny_ite_split nofun λ_=> ?_))
  refine wpAny_bind (zar 8 h2 h1 (wpAny_ite_split nofun λ_=> ?_))
  refine wpAny_bind (zdI 8 hd hk (wpAny_ite_split nofun λ_=> ?_))
  exact wpAny_bind (zdI 8 h2 h1 (wpAny_ite_split nofun λ_=>wpAny_pure ⟨rfl,rfl,hr⟩))
 ·rintro⟨a1,a2⟩ _ ⟨ha,rfl,_⟩
  cases ha
  exact wpAny_pure h
structure YS (w:World) (h:Heap) (a:Addr) (b:Nat) (f:Nat->Int×Value) (kf:Nat->NK) (o:Obj) (ep:Nat) (t:SetTable):Prop where
 get:h.get? a=some o
 ex:o.ExactSet
 data:o.data= .set ((Sm.pl b).map f) ep t
 tb:Sm.Tb t b
 plain:t.plain=true
 lt:b<256
 few:(Sm.plL b).length<=4
 chain:Sm.zfn b λj=>(f j).1
 keys:∀j<8,Sm.inB b j=true->(f j).1=zX w (kf j)/\(∃c,(f j).2= .ref c/\yI h (kf j) (.ref c))/\yi (kf j)<=8
 inj:∀i<8,∀j<8,Sm.inB b i=true->Sm.inB b j=true->kf i=kf j->i=j
variable {a:Addr} {b:Nat} {f:Nat->Int×Value} {kf:Nat->NK} {o:Obj} {ep:Nat} {t:SetTable} {A:Around} {s:Shared}
theorem Sm.pl_size:(Sm.pl b).size=(Sm.plL b).length:=by unfold Sm.pl;simp
theorem YS.fits {h:Heap} (S:YS w h a b f kf o ep t):t.fits ((Sm.pl b).map f).size=true:=by
 have h1:=S.few
 unfold SetTable.fits SetTable.fill
 rw[S.tb.mask,S.tb.place,S.tb.dum,FV,Sm.pl_size]
 simp
 omega
theorem Sm.not255:∀b<256,(Sm.plL b).length<=4->b≠255:=by decide+kernel
theorem Sm.map_at {b j:Nat} {α:Type} {f:Nat->α} (hb:b<256) (hj:j<8) (hi:Sm.inB b j=true):((Sm.pl b).map f)[Sm.ix b j]? =some (f j):=by
 obtain⟨_,h2,_⟩:=Sm.Wp b hb j hj
 rw[IX,h2 hi]
 rfl
theorem YS.absent {h:Heap} (S:YS w h a b f kf o ep t) {k:NK} {m:Nat} (he:Sm.inB b (Sm.pos (zX w k) m)=false) (hb:∀i<m,Sm.inB b (Sm.pos (zX w k) i)=true/\kf (Sm.pos (zX w k) i)≠k):∀j<8,Sm.inB b j=true->kf j≠k:=by
 rintro j hj hi rfl
 obtain⟨n,e,hn⟩:=S.chain j hj hi
 dsimp only at e hn
 rw[(S.keys j hj hi).1] at e hn
 rcases HM n m with h1|h1|h1
 ·exact (hb n h1).2 (by rw[e])
 ·subst h1
  rw[e,hi] at he
  cases he
 ·rw[hn m h1] at he
  cases he
theorem zgg (S:YS w s.heap a b f kf o ep t) {k:NK} {c:Addr} (hk:yI s.heap k (.ref c)) (hd:yi k<=8) (hu:A.units+8<cLine) {Q:SetFound->Shared->Prop}
  (h1:∀j<8,Sm.inB b j=true->kf j=k->Q (.there none) s)
  (h2:∀m,Sm.inB b (Sm.pos (zX w k) m)=false->(∀i<m,Sm.inB b (Sm.pos (zX w k) i)=true)->(∀j<8,Sm.inB b j=true->kf j≠k)->Q (.free (Sm.pos (zX w k) m) false) s):
  wpAny (model prog w) A (setSearch a (.ref c) (zX w k) true) Q E s:=by
 obtain⟨e,BZ,he⟩:=Sm.met (zX w k) S.lt (Sm.not255 b S.lt S.few)
 have main:∀(fuel n:Nat) (fC:Option SetTable.Probe),fC.getD (t.probeStart (zX w k))=Sm.mkP (Sm.st (zX w k) n)->n<=e->e-n<fuel->(∀i<n,Sm.inB b (Sm.pos (zX w k) i)=true/\kf (Sm.pos (zX w k) i)≠k)->wpAny (model prog w) A (setSearchFrom a (.ref c) (zX w k) true fuel fC) Q E s:=by
  intro fuel
  induction fuel with
  |zero=>intro n _ _ _ h;omega
  |succ fuel ih=>
   intro n fC eX hn hf kN
   unfold setSearchFrom
   refine wpAny_bind (wpAny_setState_of S.get S.data S.fits ?_)
   dsimp only
   refine wpAny_ite_split (λz=>by
    unfold SetTable.gaveWay at z
    rw[S.tb.mask] at z
    cases z) λ_=> ?_
   rw[eX]
   obtain⟨m,e1,hm⟩:=Sm.zhD S.tb S.lt (λj=>(f j).1) (λi=>((((Sm.pl b).map f)[i]?).map (·.1)).getD 0) (λj hj hi=>by rw[Sm.map_at S.lt hj hi];rfl) (zX w k) e he (10*SetTable.turns t.mask) n hn (by rw[S.tb.mask];show e-n<220;omega)
   split
   rotate_left
   ·rename_i hq
    cases (hq _ e1)
   rename_i met heq
   obtain rfl:met=m:=EE (heq.symm.trans e1)
   have i9:∀i,Sm.inB b (Sm.pos (zX w k) i)=true->(f (Sm.pos (zX w k) i)).1≠zX w k->kf (Sm.pos (zX w k) i)≠k:=λi hi cq eT=>cq (by rw[(S.keys _ (Sm.Zx _ i) hi).1,eT])
   cases hm with
   |empty m pW um bO=>
    have hb:∀i<m,Sm.inB b (Sm.pos (zX w k) i)=true/\kf (Sm.pos (zX w k) i)≠k:=λi hi=>by
     by_cases fc:i<n
     ·exact kN i fc
     ·have:=bO i ⋯ hi
      exact⟨this.1,i9 i this.1 this.2⟩
    exact wpAny_pure (h2 m um (λi hi=>(hb i hi).1) (S.absent um hb))
   |cand m pW jd DP bO=>
    have Bv:m<e:=by
     rcases HM m e with h|h|h
     ·exact h
     ·rw[<-h,jd] at he;cases he
     ·rw[(bO e hn h).1] at he;cases he
    have hb:∀i<m,Sm.inB b (Sm.pos (zX w k) i)=true/\kf (Sm.pos (zX w k) i)≠k:=λi hi=>by
     by_cases fc:i<n
     ·exact kN i fc
     ·have:=bO i ⋯ hi
      exact⟨this.1,i9 i this.1 this.2⟩
    obtain⟨hh,⟨c',cZ,qi⟩,fM⟩:=S.keys _ (Sm.Zx _ m) jd
    have B2:∀y∈Ga (λx=>x.2) (Array.filter (λx=>x.1==zX w k) (Array.map f (Sm.pl b))).toList,∃k' c',y=Value.ref c'/\yI s.heap k' (.ref c')/\yi k'<=8:=by
     intro y hy
     obtain⟨p,hp,rfl⟩:=Eh.1 hy
     rw[Array.toList_filter,GD] at hp
     obtain⟨j,hj,rfl⟩:=Eh.1 (G8.1 hp).1
     have dj:=G8.1 hj
     obtain⟨_,⟨cc,h3,h4⟩,h5⟩:=S.keys j (Fb.1 dj.1) dj.2
     exact⟨kf j,cc,h3,h4,h5⟩
    have uj:f (Sm.pos (zX w k) m)=((f (Sm.pos (zX w k) m)).1,Value.ref c'):=by rw[<-cZ]
    refine wpAny_ite_split (λhl=>wpAny_bind (zgf hk hd _ B2 (wpAny_ite_split nofun λ_=> ?_))) λhl=> ?_
    all_goals
     rw[Sm.map_at S.lt (Sm.Zx _ m) jd,uj]
     dsimp only
     refine wpAny_bind (wpAny_holding (zaq 8 fM hu qi hk _ _ _ _ ?_))
     refine wpAny_bind (wpAny_setState_of S.get S.data S.fits ?_)
     by_cases eT:kf (Sm.pos (zX w k) m)=k
     ·rw[decide_eq_true eT]
      exact wpAny_pure (h1 _ (Sm.Zx _ m) jd eT)
     ·rw[decide_eq_false eT]
      refine wpAny_ite_split nofun λ_=> ?_
      dsimp only
      rw[show t.sameMemory t.moves t.mask=some true by unfold SetTable.sameMemory;rw[if_pos (beq_self_eq_true _)]]
      dsimp only
      rw[if_pos rfl,Sm.zfl S.tb S.lt (Sm.Zx _ m),if_pos jd]
      dsimp only
      rw[Sm.map_at S.lt (Sm.Zx _ m) jd,uj]
      dsimp only
      refine wpAny_bind (wpAny_isSame_ref_self ?_)
      refine wpAny_bind (wpAny_pure ?_)
      rw[if_pos rfl]
      dsimp only
      refine wpAny_ite_split nofun λ_=> ?_
      exact ih (m+1) (some (Sm.mkP (Sm.st (zX w k) (m+1)))) rfl Bv ⋯ (λi hi=>by
       by_cases qm:i=m
       ·rw[qm];exact⟨jd,eT⟩
       ·exact hb i ⋯)
 exact main 100000 0 none (Sm.zhB S.tb _) (FR _) ⋯ (λi hi=>by omega)
end
section
variable {h h':Heap}
mutual
theorem yI.keepsS {d:Addr} {o:Obj} {es:Array (Int×Value)} {ep:Nat} {t:SetTable} (ho:h.get? d=some o) (hd:o.data= .set es ep t) (hs:Heap.SameBut d h h'):∀{x:NK} {v:Value},yI h x v->yI h' x v
 |_,_,.int i t=> .int i t
 |_,_,.str x t=> .str x t
 |_,_,.tup (a:=a) e1 e2 e3 l=>by
  have cq:a≠d:=by
   rintro rfl
   rw[ho] at e1
   cases e1
   rw[hd] at e3
   exact nomatch e3
  exact .tup ((hs.2 a cq).trans e1) e2 e3 (yg.keepsS ho hd hs l)
theorem yg.keepsS {d:Addr} {o:Obj} {es:Array (Int×Value)} {ep:Nat} {t:SetTable} (ho:h.get? d=some o) (hd:o.data= .set es ep t) (hs:Heap.SameBut d h h'):∀{x:List NK} {v:List Value},yg h x v->yg h' x v
 |_,_,.nil=> .nil
 |_,_,.cons a l=> .cons (yI.keepsS ho hd hs a) (yg.keepsS ho hd hs l)
end
end
theorem Sm.ins_map {α:Type} {f:Nat->α} {xs:Array Nat} {p j:Nat}:SetTable.insertAt (xs.map f) p (f j)=(SetTable.insertAt xs p j).map f:=by
 unfold SetTable.insertAt
 rw[Array.map_append,Array.map_push,J5,J5,FV]
theorem Sm.len_add:∀b<256,∀j<8,Sm.inB b j=false->(Sm.plL (b+2^j)).length=(Sm.plL b).length+1:=by decide+kernel
section
variable {prog:Program} {w:World} {E:Value->Shared->Prop}
variable {a:Addr} {b:Nat} {f:Nat->Int×Value} {kf:Nat->NK} {o:Obj} {ep:Nat} {t:SetTable} {A:Around} {s:Shared}
noncomputable def XU {α:Type} (f:Nat->α) (j:Nat) (x:α) (i:Nat):α:=if i=j then x else f i
theorem zhF {α:Type} {f:Nat->α} {j:Nat} {x:α} (hb:b<256) (hj:j<8) (hi:Sm.inB b j=false):SetTable.insertAt ((Sm.pl b).map f) (Sm.ix b j) x=(Sm.pl (b+2^j)).map (XU f j x):=by
 obtain⟨_,_,_,h4⟩:=Sm.Wp b hb j hj
 rw[<-(h4 hi).1,<-Sm.ins_map]
 have e1:XU f j x j=x:=by unfold XU;exact if_pos rfl
 rw[e1]
 congr 1
 apply Array.ext'
 unfold Sm.pl
 rw[GD,GD]
 refine Fp λi cm=> ?_
 have cm:=(G8.1 cm).2
 unfold XU
 rw[if_neg λz=>by rw[z,hi] at cm;cases cm]
theorem zcA (S:YS w s.heap a b f kf o ep t) {k:NK} {c:Addr} (hk:yI s.heap k (.ref c)) (hd:yi k<=8) (gF:ZJ k=true) (hu:A.units+8<cLine) (tS:(Sm.plL b).length<4) {Q:Bool->Shared->Prop}
  (h1:∀j<8,Sm.inB b j=true->kf j=k->Q false s)
  (h2:∀j h' o' t',j<8->Sm.inB b j=false->(∀i<8,Sm.inB b i=true->kf i≠k)->Heap.SameBut a s.heap h'->t'.led=t.led->YS w h' a (b+2^j) (XU f j (zX w k,.ref c)) (XU kf j k) o' (ep+1) t'->Q true {s with heap:=h'}):
  wpAny (model prog w) A (setAddHashed a (.ref c) (zX w k)) Q E s:=by
 unfold setAddHashed setAddHashedIn
 refine wpAny_holding (wpAny_bind (wpAny_setState_of S.get S.data S.fits ?_))
 dsimp only
 refine wpAny_ite_split nofun λ_=> ?_
 refine wpAny_bind (zgg S hk hd hu (λj hj hi eT=> ?_) (λm he hb aG=> ?_))
 ·exact wpAny_pure (h1 j hj hi eT)
 ·dsimp only
  refine wpAny_bind (wpAny_setState_of S.get S.data S.fits ?_)
  dsimp only
  have hj:=Sm.Zx (zX w k) m
  generalize mh:Sm.pos (zX w k) m=j at he hj ⊢
  obtain⟨g1,_,_,g4⟩:=Sm.Wp b S.lt j hj
  obtain⟨g5,g6⟩:=g4 he
  have hlen:=Sm.len_add b S.lt j hj he
  have p2:(t.put j).2=Sm.ix b j:=by
   show SetTable.below t.place j=_
   rw[S.tb.place]
   exact g1
  have p1:(t.put j).1.plain=true:=S.plain
  have p3:Sm.Tb (t.put j).1 (b+2^j):=⟨S.tb.mask,by
   show SetTable.insertAt t.place (SetTable.below t.place j) j=_
   rw[S.tb.place,g1]
   exact g5,by
   show (if SetTable.has t.dummies j then SetTable.eraseAt t.dummies (SetTable.below t.dummies j) else t.dummies)= #[]
   rw[S.tb.dum]
   rfl⟩
  have p4:(t.put j).1.led=t.led:=rfl
  generalize t.put j=P at p1 p2 p3 p4 ⊢
  obtain⟨t',p⟩:=P
  dsimp only at p1 p2 p3 p4 ⊢
  subst p2
  have kD:t'.tooFull=false:=by
   unfold SetTable.tooFull SetTable.fill
   rw[p3.mask,p3.place,p3.dum,Sm.pl_size,hlen]
   simp
   omega
  rw[if_pos p1]
  refine wpAny_bind (zhE 8 hd gF hk ?_)
  rw[if_pos rfl,zhF S.lt hj he,kD]
  refine wpAny_bind (wpAny_storeSet_of S.get S.data ?_ (by rw[FV,Sm.pl_size,hlen];exact Ey (show _<=100 by omega) ∅))
  refine wpAny_ite_split nofun λ_=>wpAny_pure ?_
  have eJ:=Heap.SameBut.update s.heap a (Obj.putSet ((Sm.pl (b+2^j)).map (XU f j (zX w k,.ref c))) t')
  have hg:(s.heap.update a (Obj.putSet ((Sm.pl (b+2^j)).map (XU f j (zX w k,.ref c))) t')).get? a=some {o with data:= .set ((Sm.pl (b+2^j)).map (XU f j (zX w k,.ref c))) (ep+1) t'}:=by
   have:=Heap.get?_update_self (Obj.putSet ((Sm.pl (b+2^j)).map (XU f j (zX w k,.ref c))) t') S.get (by rw[putSet_of _ t' S.data];rfl)
   rw[putSet_of _ t' S.data] at this
   exact this
  have bits:=Sm.zcz b S.lt j hj he
  refine h2 j _ _ t' hj he aG eJ p4 ⟨hg,S.ex,rfl,p3,p1,g6,⋯,?_,?_,?_⟩
  ·have:=S.chain.put S.lt (x:=zX w k) (n:=m) (by rw[mh];exact he) hb
   rw[mh] at this
   have e:(λi=>(XU f j (zX w k,Value.ref c) i).1)=λi=>if i=j then zX w k else (f i).1:=by
    funext i
    unfold XU
    split<;>rfl
   rw[e]
   exact this
  ·intro i hi fc
   unfold XU
   by_cases dC:i=j
   ·rw[if_pos dC,if_pos dC]
    exact⟨rfl,⟨c,rfl,hk.keepsS S.get S.data eJ⟩,hd⟩
   ·rw[if_neg dC,if_neg dC]
    rw[bits i hi,decide_eq_false dC,GK] at fc
    obtain⟨q1,⟨cc,q2,q3⟩,q4⟩:=S.keys i hi fc
    exact⟨q1,⟨cc,q2,q3.keepsS S.get S.data eJ⟩,q4⟩
  ·intro i1 fE i2 cA n1 n2
   unfold XU
   rw[bits i1 fE] at n1
   rw[bits i2 cA] at n2
   by_cases q1:i1=j
   ·by_cases q2:i2=j
    ·intro _;omega
    ·rw[if_pos q1,if_neg q2]
     rw[decide_eq_false q2,GK] at n2
     exact λz=>absurd z.symm (aG i2 cA n2)
   ·rw[decide_eq_false q1,GK] at n1
    by_cases q2:i2=j
    ·rw[if_neg q1,if_pos q2]
     exact λz=>absurd z (aG i1 fE n1)
    ·rw[decide_eq_false q2,GK] at n2
     rw[if_neg q1,if_neg q2]
     exact S.inj i1 fE i2 cA n1 n2
end
section
variable {h h':Heap}
mutual
theorem yI.grow (hs:∀b o,h.get? b=some o->h'.get? b=some o):∀{x:NK} {v:Value},yI h x v->yI h' x v
 |_,_,.int i t=> .int i t
 |_,_,.str x t=> .str x t
 |_,_,.tup e1 e2 e3 l=> .tup (hs _ _ e1) e2 e3 (yg.grow hs l)
theorem yg.grow (hs:∀b o,h.get? b=some o->h'.get? b=some o):∀{x:List NK} {v:List Value},yg h x v->yg h' x v
 |_,_,.nil=> .nil
 |_,_,.cons a l=> .cons (yI.grow hs a) (yg.grow hs l)
end
end
section
variable {prog:Program} {w:World}
def zdJ (w:World) (P:Nat->Value->Prop) (ks:List NK) (h:Heap) (S:Addr) (led:Bool) (i:Nat):Prop:=∃b f kf o ep t,YS w h S b f kf o ep t/\t.led=led/\(Sm.plL b).length<=i/\(∀p<i,∀k,ks[p]? =some k->∃j<8,Sm.inB b j=true/\kf j=k)/\∀j<8,Sm.inB b j=true->∃p<i,ks[p]? =some (kf j)/\P p (f j).2
theorem YS.move {h h':Heap} {a:Addr} {b:Nat} {f:Nat->Int×Value} {kf:Nat->NK} {o:Obj} {ep:Nat} {t:SetTable} (S:YS w h a b f kf o ep t) (h1:h'.get? a=some o) (h2:∀j<8,Sm.inB b j=true->∀c,(f j).2= .ref c->yI h' (kf j) (.ref c)):YS w h' a b f kf o ep t:=⟨h1,S.ex,S.data,S.tb,S.plain,S.lt,S.few,S.chain,λj hj hi=>by
 obtain⟨q1,⟨c,q2,q3⟩,q4⟩:=S.keys j hj hi
 exact⟨q1,⟨c,q2,h2 j hj hi c q2⟩,q4⟩,S.inj⟩
variable {A:Around} {R:Result->Shared->Prop} {I:Addr} {fp wr:List Addr} {G:Array GenState->Array GenState->Prop} {n:Nat} {P:Nat->Value->Prop} {St:Nat->Shared->Prop}
theorem zjf (W:WalksS prog w A.in1 I fp wr G n P St) (S:Addr) (mx:S∉fp) (h0:Heap) (hold:∀b o,h0.get? b=some o->b∉S::wr) (led:Bool) (ks:List NK) (md:ks.length=n) (gR:n<=4) (hu:A.units+9<cLine)
  (fL:∀i v,P i v->∃k c,ks[i]? =some k/\v= .ref c/\yI h0 k (.ref c)/\yi k<=8/\ZJ k=true):
  ∀(q i:Nat) (s:Shared),n-i=q->i<=n->St i s->(∀b o,h0.get? b=some o->s.heap.get? b=some o)->zdJ w P ks s.heap S led i->
   (∀s',Moved (S::wr) G s s'->zdJ w P ks s'.heap S led n->R (.ok (.ret .none)) s')->
   codeAny (model prog w) A (.builtin "set.update.loop" ⟨[.ref S,.ref I],[]⟩) R s:=by
 have Cu:S∉wr:=λh=>mx (W.sub _ h)
 have fi:∀b∈wr,b∈S::wr:=λb hb=>Ej _ hb
 have mv:∀{s s':Shared} {i:Nat},(∀b o,h0.get? b=some o->s'.heap.get? b=some o)->Moved wr G s s'->zdJ w P ks s.heap S led i->zdJ w P ks s'.heap S led i:=by
  rintro s s' i cF hm ⟨b,f,kf,o,ep,t,hS,h1,h2,h3,h4⟩
  refine⟨b,f,kf,o,ep,t,hS.move (hm.heap S _ Cu hS.get) (λj hj hi c hc=> ?_),h1,h2,h3,h4⟩
  obtain⟨p,_,e,hp⟩:=h4 j hj hi
  obtain⟨k,c',e',ev,hk,_⟩:=fL p _ hp
  rw[hc] at ev
  cases ev
  rw[e] at e'
  cases e'
  exact hk.grow cF
 intro q
 induction q with
 |zero=>
  intro i s hq hi eX ho hS hR
  obtain rfl:i=n:=by omega
  refine codeAny_builtin F.entry_set_update_loop ?_
  rw[Around.under_plainId F.plain_set_update_loop _]
  show wpAny _ A.in1 (pyNext (.ref I)>>=_) _ _ s
  refine wpAny_bind (W.done s _ _ eX λs' hm=> ?_)
  exact wpAny_pure (hR s' (hm.mono fi) (mv (λb o e=>hm.heap b o (λz=>hold b o e (fi b z)) (ho b o e)) hm hS))
 |succ q ih=>
  intro i s hq hi eX ho hS hR
  have bS:i<n:=by omega
  refine codeAny_builtin F.entry_set_update_loop ?_
  rw[Around.under_plainId F.plain_set_update_loop _]
  show wpAny _ A.in1 (pyNext (.ref I)>>=_) _ _ s
  refine wpAny_bind (W.item i s _ _ bS eX λv s' hP gP hm=> ?_)
  obtain⟨k,c,ek,rfl,uf,hd,gF⟩:=fL i v hP
  have cF:∀b o,h0.get? b=some o->s'.heap.get? b=some o:=λb o e=>hm.heap b o (λz=>hold b o e (fi b z)) (ho b o e)
  obtain⟨b,f,kf,o,ep,t,mw,g1,g2,g3,g4⟩:=mv cF hm hS
  show wpAny _ A.in1 (holding [Value.ref c] (setAdd S (.ref c))>>=_) _ _ s'
  refine wpAny_bind (wpAny_holding ?_)
  unfold setAdd
  refine wpAny_holding (wpAny_bind (zfi 8 hd (by show A.units+1+8<cLine;omega) (uf.grow cF) ?_))
  refine zcA (s:={s' with toks:=s'.toks+XS k}) mw (uf.grow cF) hd gF (by show A.units+1+8<cLine;omega) ⋯ (λj hj fc eT=> ?_) (λj h' o' t' hj he aG eJ g9 qC=> ?_)
  ·refine wpAny_pure ⟨plainId_quiet F.plain_set_update_loop _,ih (i+1) _ ⋯ bS (W.frame _ s' s'.heap _ gP (GC _ _) λb _ o e=>e) cF ⟨b,f,kf,o,ep,t,mw,g1,⋯,λp hp k' e=> ?_,λj hj fc=> ?_⟩ λs'' iZ jo=> ?_⟩
   ·by_cases pR:p=i
    ·subst pR
     rw[ek] at e
     cases e
     exact⟨j,hj,fc,eT⟩
    ·exact g3 p ⋯ k' e
   ·obtain⟨p,hp,e,qE⟩:=g4 j hj fc
    exact⟨p,⋯,e,qE⟩
   ·exact hR s'' (Moved.trans W.gtrans ((hm.mono fi).then_heap (GC _ _) λb o hb e=>e) iZ) jo
  ·have bits:=Sm.zcz b mw.lt j hj he
   have hlen:=Sm.len_add b mw.lt j hj he
   refine wpAny_pure ⟨plainId_quiet F.plain_set_update_loop _,ih (i+1) _ ⋯ bS (W.frame _ s' h' _ gP (GC _ _) λb hb o e=> ?_) (λb o e=> ?_) ⟨_,_,_,o',_,t',qC,by rw[g9];exact g1,⋯,λp hp k' e=> ?_,λj' dj fc=> ?_⟩ λs'' iZ jo=> ?_⟩
   ·rw[eJ.2 b (λh:b=S=>mx (by rw[<-h];exact hb))];exact e
   ·rw[eJ.2 b (λh:b=S=>hold b o e (by rw[h];exact Em))];exact cF b o e
   ·by_cases pR:p=i
    ·subst pR
     rw[ek] at e
     cases e
     exact⟨j,hj,by rw[bits j hj,decide_eq_true rfl,Bool.or_true],by unfold XU;exact if_pos rfl⟩
    ·obtain⟨j',dj,jc,eT⟩:=g3 p ⋯ k' e
     have cq:j'≠j:=λz=>by rw[z,he] at jc;cases jc
     exact⟨j',dj,by rw[bits j' dj,jc];rfl,by unfold XU;rw[if_neg cq];exact eT⟩
   ·unfold XU
    by_cases ky:j'=j
    ·rw[if_pos ky,if_pos ky]
     exact⟨i,G3 i,ek,hP⟩
    ·rw[bits j' dj,decide_eq_false ky,GK] at fc
     rw[if_neg ky,if_neg ky]
     obtain⟨p,hp,e,qE⟩:=g4 j' dj fc
     exact⟨p,⋯,e,qE⟩
   ·refine hR s'' (Moved.trans W.gtrans ((hm.mono fi).then_heap (GC _ _) λb o hb e=> ?_) iZ) jo
    rw[eJ.2 b (λh:b=S=>hb (by rw[h];exact Em))];exact e
end
section
variable {prog:Program} {w:World} {A:Around} {E:Value->Shared->Prop} {s:Shared}
noncomputable def Yh (w:World):Bool:= !w.params.followText "set-order"
noncomputable def zav (led:Bool):Obj:={cls:= .type "set",dict:=none,data:= .set #[] 0 (.fresh 0 0 led)}
theorem zlb (x:Value) {Q₁:Value->Shared->Prop} (h:Q₁ (.ref s.heap.objs.size) {s with heap:=s.heap.push (zav (Yh w))}):
  codeAny (model prog w) A (.call (.builtin "set.__new__") ⟨[.type "set",x],[]⟩) (wants Q₁ E) s:=by
 refine codeAny_of_tree ?_
 show wpAny _ A.in1 (do checkBuiltinCall "set.__new__" ⟨[.type "set",x],[]⟩;again (.builtin "set.__new__" ⟨[.type "set",x],[]⟩)) _ _ s
 refine wpAny_bind (wpAny_of_eq (F.newCall_set_1 x) (wpAny_pure ⟨plainId_quiet F.plain_set_new _,codeAny_builtin F.entry_set_new ?_⟩))
 rw[Around.under_plainId F.plain_set_new _]
 unfold Builtin.«set.__new__» Builtin.Frozenset.newClass
 have fi:=sub_set_self
 obtain⟨hp,g,d,tk,os⟩:=s
 dsimp only
 wp_walk
 refine wpAny_askSetting (wpAny_pure ?_)
 dsimp only
 simp only[newObj]
 exact wpAny_bind (wpAny_alloc (wpAny_pure (wpAny_pure h)))
theorem zhG {h:Heap} {a:Addr} (e:h.get? a=some (zav (Yh w))) (P:Nat->Value->Prop) (ks:List NK):zdJ w P ks h a (Yh w) 0:=by
 have iq:∀j<8,Sm.inB 0 j=false:=by decide
 have tV:Sm.pl 0= #[]:=by decide+kernel
 refine⟨0,λ_=>(0,.none),λ_=> .int 0,_,0,.fresh 0 0 (Yh w),⟨e,⟨rfl,rfl,rfl⟩,by show Data.set #[] 0 _=Data.set ((Sm.pl 0).map _) 0 _;rw[tV,Array.map_empty],⟨rfl,tV.symm,rfl⟩,rfl,∅,∅,λj hj hi=> ?_,λj hj hi=> ?_,λi hi j hj h1=> ?_⟩,rfl,∅,λp hp=>by omega,λj hj hi=> ?_⟩
 ·rw[iq j hj] at hi;cases hi
 ·rw[iq j hj] at hi;cases hi
 ·rw[iq i hi] at h1;cases h1
 ·rw[iq j hj] at hi;cases hi
end
end L2
set_option maxHeartbeats 3200000
namespace L2
open PySem PySem.Spec PyProof.Rows PySem.Calls PySem.W
section
variable {prog:Program} {w:World} {A:Around} {E:Value->Shared->Prop} {s:Shared}
theorem zjg {l:Addr} {items:Array Value} {ks:List NK} {Q:Value->Shared->Prop} (hh:A.handled=none) (hu:A.units+13<cLine) (hl:s.heap.IsList l items) (md:ks.length=items.size) (gR:items.size<=4)
  (fL:∀(i:Nat) v,items[i]? =some v->∃k c,ks[i]? =some k/\v= .ref c/\yI s.heap k (.ref c)/\yi k<=8/\ZJ k=true)
  (h:∀(h':Heap) (tk:Nat),zdJ w (λi v=>items[i]? =some v) ks h' s.heap.objs.size (Yh w) items.size->(∀b o,s.heap.get? b=some o->h'.get? b=some o)->s.toks<=tk->Q (.ref s.heap.objs.size) {s with heap:=h',toks:=tk}):
  wpAny (model prog w) A (call (.type "set") [.ref l]) Q E s:=by
 obtain⟨c,tl,Bt⟩:=F.called_set.mro
 have u6:=F.called_set.made
 have fi:=F.called_set.sub
 refine wpAny_call (codeAny_of_tree ?_)
 show wpAny _ _ (callAny (.type "set") _) _ _ _
 refine wpAny_pure ⟨Code.quiet_builtin _ (by decide+kernel),codeAny_builtin F.entry_type_call ?_⟩
 rw[Around.under_plain (weight_type_call_type "set" [.ref l] []) rfl]
 have h1:=F.called_set.notType
 have h2:=F.called_set.canCreate
 have DR:=F.typeCall_set_1 (.ref l)
 repeat (any_goals (first|assumption|wp_step))
 refine codeAny_mono (zlb (.ref l) (E:=E) (Q₁:=λobj s₁=>obj= .ref s.heap.objs.size/\s₁={s with heap:=s.heap.push (zav (Yh w))}) ⟨rfl,rfl⟩) λr s₁ hr=> ?_
 cases r with
 |error e=>exact hr
 |ok fl=>
  cases fl with
  |ret obj=>
   obtain⟨rfl,rfl⟩:=hr
   have hS:(s.heap.push (zav (Yh w))).get? s.heap.objs.size=some (zav (Yh w)):=Heap.get?_push_size _ rfl
   have hT:Shared.TypeIs {s with heap:=s.heap.push (zav (Yh w))} (.ref s.heap.objs.size) "set":=⟨_,hS,rfl⟩
   have qf:=F.called_set.init.lookup
   have DT:=F.called_set.init.bind (.ref s.heap.objs.size)
   repeat (any_goals (first|assumption|wp_step))
   refine codeAny_mono (codeAny_call_builtin (R:=wants (λr s₂=>r= .none/\∃h' tk,s₂={s with heap:=h',toks:=tk}/\zdJ w (λi v=>items[i]? =some v) ks h' s.heap.objs.size (Yh w) items.size/\(∀b o,s.heap.get? b=some o->h'.get? b=some o)/\s.toks<=tk) E) F.called_set.init.plain F.entry_set_init (check_set_init_1 hT ?_)) λr₂ s₂ hr₂=> ?_
   ·obtain⟨ol,eY,eO,nl,mq⟩:=hl
    obtain⟨z9,jS,sP,oslots⟩:=ol
    simp only at eO mq
    subst eO
    subst mq
    have pT:(s.heap.push (zav (Yh w))).get? l=some {cls:= .type "list",dict:=jS,data:= .seq items nl,slots:=oslots}:=Heap.get?_push_of_some _ eY
    have Bh:=F.sub_list_set
    have Bi:=F.sub_list_frozenset
    have cq:(Value.type "list"==Value.type "dict")=false:=by decide
    have ub:(s.heap.push (zav (Yh w))).IsList l items:=⟨_,pT,rfl,nl,rfl⟩
    unfold Builtin.«set.__init__» noKeywords Builtin.Frozenset.updateFrom
    generalize Cy:pyIter=PI
    wp_walk
    subst Cy
    refine wpAny_pyIter_list ub ?_
    refine wpAny_bind (wpAny_runValue ?_)
    have u9:l<s.heap.objs.size:=Heap.lt_size eY
    have mo:A.in1.in1.in1.handled=none:=by simp[hh]
    have hsz:(s.heap.push (zav (Yh w))).objs.size=s.heap.objs.size+1:=Heap.size_push ..
    have pY:l≠(s.heap.push (zav (Yh w))).objs.size:=by rw[hsz];exact Ep (Fu u9)
    have old:∀b o,s.heap.get? b=some o->((s.heap.push (zav (Yh w))).push {cls:= .type "list_iterator",data:= .fields #[.ref l,.int 0 0]}).get? b=some o:=λb o e=>Heap.get?_push_of_some _ (Heap.get?_push_of_some _ e)
    refine zjf ((Walks.list mo _ l pY items).toS) s.heap.objs.size (by rw[hsz];simp only[Er,EG,Hi,or_false,not_or];exact⟨Ep (G3 _),GR u9⟩) s.heap (λb o e=>by
     have:=Heap.lt_size e
     rw[hsz]
     simp only[Er,EG,Hi,or_false,not_or]
     exact⟨Ep this,Ep (Fu this)⟩) (Yh w) ks md gR (by show A.units+1+1+9<cLine;omega) fL (items.size-0) 0 _ ⋯ (FR _) ⟨⟨_,Heap.get?_push_size _ rfl,rfl,rfl⟩,(ub.push _)⟩ old (zhG (Heap.get?_push_of_some _ hS) _ _) ?_
    intro s' hm hV
    obtain⟨h',g',d',tk',os'⟩:=s'
    have eg:g'=s.gens:=hm.gens
    have ed:d'=s.drawn:=hm.drawn
    have eo:os'=s.os:=hm.os
    have et:s.toks<=tk':=hm.toks
    subst eg
    subst ed
    subst eo
    show wpAny _ _ _ _ _ _
    refine wpAny_pure ?_
    show wpAny _ _ (ret Value.none) _ _ _
    refine wpAny_pure ⟨rfl,h',tk',rfl,hV,λb o e=> ?_,et⟩
    have hb:=Heap.lt_size e
    exact hm.heap b o (by rw[hsz];simp only[Er,EG,Hi,or_false,not_or];exact⟨Ep hb,Ep (Fu hb)⟩) (old b o e)
   ·cases r₂ with
    |error e=>exact hr₂
    |ok fl₂=>
     cases fl₂ with
     |ret r=>
      obtain⟨rfl,h',tk,rfl,hV,qi,Bd⟩:=hr₂
      repeat (any_goals (first|assumption|wp_step))
      exact h _ _ hV qi Bd
     |_=>exact hr₂.elim
  |_=>exact hr.elim
end
structure YT (h:Heap) (a:Addr) (b:Nat) (f:Nat->Int×Value) (o:Obj) (ep:Nat) (t:SetTable):Prop where
 get:h.get? a=some o
 ex:o.ExactSet
 data:o.data= .set ((Sm.pl b).map f) ep t
 tb:Sm.Tb t b
 plain:t.plain=true
 lt:b<256
 few:(Sm.plL b).length<=4
theorem YS.raw {w:World} {h:Heap} {a:Addr} {b:Nat} {f:Nat->Int×Value} {kf:Nat->NK} {o:Obj} {ep:Nat} {t:SetTable} (S:YS w h a b f kf o ep t):YT h a b f o ep t:=⟨S.get,S.ex,S.data,S.tb,S.plain,S.lt,S.few⟩
theorem YT.fits {h:Heap} {a:Addr} {b:Nat} {f:Nat->Int×Value} {o:Obj} {ep:Nat} {t:SetTable} (S:YT h a b f o ep t):t.fits ((Sm.pl b).map f).size=true:=by
 have h1:=S.few
 unfold SetTable.fits SetTable.fill
 rw[S.tb.mask,S.tb.place,S.tb.dum,FV,Sm.pl_size]
 simp
 omega
theorem zdK:Manifest.owners.lookup (String.ofList "rotareti_tes".toList.reverse)=some Manifest.sig_set_iterator:=by kernel_rfl
theorem wM:Slot "set_iterator" "__next__" "set_iterator.__next__":=
 .of (owner:="set_iterator") (n:="__next__") (by rw[typeLookup_type,builtinLookup_eq_fast];kernel_rfl) (by decide+kernel) (by decide+kernel) (by decide+kernel) (by first|exact .inl (by decide+kernel)|exact .inr (by decide+kernel)) (by rw[isSubtype_type];kernel_rfl)
theorem WD:entryFor table "set_iterator.__next__"=some Builtin.«set_iterator.__next__» :=entryFor_of_tree (by kernel_rfl)
theorem Vw (a:Value):argsOk "set_iterator.__next__" ⟨[a],[]⟩:=by
 unfold argsOk
 rw[signature?_of (id:="set_iterator.__next__") (n:="__txen__".toList) (o:="rotareti_tes".toList) (by kernel_rfl) zdK]
 kernel_rfl
theorem zaw:entryFor table "set.__iter__"=some Builtin.«frozenset.__iter__» :=entryFor_alias (id':="frozenset.__iter__") (by kernel_rfl) rfl (by decide+kernel) (by kernel_rfl)
theorem zax {α:Type}:∀(l:List α) (i:Nat) (h:i<l.length),([l[i]]++l.eraseIdx i).Perm l
 |x::r,0,_=> .refl _
 |x::r,i+1,h=>by
  have:=zax r i (by simpa using h)
  rw[List.getElem_cons_succ,List.eraseIdx_cons_succ]
  exact (Jz x _ _).trans (this.cons x)
theorem zfo {α:Type} (nx:Nat->Nat):∀(fuel k:Nat) (left:List α) (out:Array α),left.length<=fuel->(pickOrder.go nx fuel k left out).toList.Perm (out.toList++left)
 |0,k,left,out,h=>by
  have:left=[]:=List.eq_nil_of_length_eq_zero ⋯
  subst this
  unfold pickOrder.go
  rw[Gi]
 |fuel+1,k,[],out,h=>by
  unfold pickOrder.go
  rw[List.getElem?_nil,Gi]
 |fuel+1,k,x::r,out,h=>by
  unfold pickOrder.go
  have bS:nx k % (x::r).length<(x::r).length:=HP _ (by simp)
  rw[DZ bS]
  dsimp only
  have hl:((x::r).eraseIdx (nx k % (x::r).length)).length<=fuel:=by rw[List.length_eraseIdx_of_lt bS];simp only[EB] at h ⊢;omega
  refine (zfo nx fuel (k+1) _ _ hl).trans ?_
  rw[Array.toList_push,Gn]
  refine List.Perm.append_left _ ?_
  exact zax _ _ bS
theorem Ue {α:Type} (nx:Nat->Nat) (xs:Array α):(pickOrder nx xs).toList.Perm xs.toList:=by
 unfold pickOrder
 refine (zfo nx xs.size 0 xs.toList #[] (by simp)).trans ?_
 simp
theorem Sm.below_walk:∀b<256,∀i<9,i<=(Sm.plL b).length->SetTable.below (Sm.pl b) (if i=0 then 0 else (Sm.plL b).getD (i-1) 0+1)=i:=by decide+kernel
section
variable {prog:Program} {w:World} {A:Around} {E:Value->Shared->Prop} {s:Shared} {d it:Addr}
variable {b:Nat} {f:Nat->Int×Value} {o:Obj} {ep:Nat} {t:SetTable}
noncomputable def zay (d:Addr) (slot i n ep:Nat):Obj:={cls:= .type "set_iterator",data:= .fields #[.int slot 0,.int i 0,.ref d,.int n 0,.int ep 0]}
theorem zjh {Q:Value->Shared->Prop} (S:YT s.heap d b f o ep t) (q:Q (.ref s.heap.objs.size) {s with heap:=s.heap.push (zay d 0 0 (Sm.plL b).length ep)}):wpAny (model prog w) A (pyIter (.ref d)) Q E s:=by
 have ty:s.TypeIs (.ref d) "set":=⟨o,S.get,S.ex.1⟩
 refine wpAny_pyIter_slot ty F.slot_set_iter (wpAny_call_entry F.slot_set_iter ty zaw ?_ (F.args_set_iter_1 _))
 unfold Builtin.«frozenset.__iter__»
 unfold Builtin.Frozenset.slot0 Builtin.Frozenset.sizeOf setDrawn setsByText
 have hsz:((Sm.pl b).map f).size=(Sm.plL b).length:=by rw[FV,Sm.pl_size]
 refine wpAny_bind (wpAny_bind (m:=slotArgs "__iter__" 0 ⟨[.ref d],[]⟩) ?_)
 refine wpAny_of_eq (a:=(Value.ref d,[])) rfl (wpAny_pure ?_)
 refine wpAny_bind (wpAny_bind (wpAny_setEntries_of S.get S.data S.fits (wpAny_pure ?_)))
 refine wpAny_bind (wpAny_bind (wpAny_setState_of S.get S.data S.fits (wpAny_bind (wpAny_bind (wpAny_askSetting (wpAny_pure (wpAny_pure ?_)))))))
 refine wpAny_ite_split (λz=> ?_) λ_=> ?_
 ·exfalso
  revert z
  show ((!_&&(!t.plain&&decide (_>1)))=true)->False
  rw[S.plain]
  simp
 ·refine wpAny_bind (wpAny_pure (wpAny_bind (wpAny_setEpoch_of S.get S.data S.fits ?_)))
  unfold newFields
  refine wpAny_bind (wpAny_newObj_type (wpAny_pure ⟨_,rfl,"set_iterator",_,⟨_,Heap.get?_push_size _ rfl,rfl⟩,wM.lookup,?_⟩))
  rw[hsz]
  exact q
noncomputable def Yk (w:World) (d:Addr) (ep:Nat) (es:Array (Int×Value)):Array (Int×Value):=if w.params.followText "set-order" then pickOrder (w.params.setOrder d ep) es else es
noncomputable def vo (w:World) (b i:Nat):Nat:=if w.params.followText "set-order" then 0 else if i=0 then 0 else (Sm.plL b).getD (i-1) 0+1
end
theorem Vx:Slot "set_iterator" "__iter__" "set_iterator.__iter__":=
 .of (owner:="set_iterator") (n:="__iter__") (by rw[typeLookup_type,builtinLookup_eq_fast];kernel_rfl) (by decide+kernel) (by decide+kernel) (by decide+kernel) (by first|exact .inl (by decide+kernel)|exact .inr (by decide+kernel)) (by rw[isSubtype_type];kernel_rfl)
theorem zbf:entryFor table "set_iterator.__iter__"=some Builtin.«dict_keyiterator.__iter__» :=entryFor_alias (id':="dict_keyiterator.__iter__") (by kernel_rfl) rfl (by decide+kernel) (by kernel_rfl)
theorem zcB (a:Value):argsOk "set_iterator.__iter__" ⟨[a],[]⟩:=by
 unfold argsOk
 rw[signature?_of (id:="set_iterator.__iter__") (n:="__reti__".toList) (o:="rotareti_tes".toList) (by kernel_rfl) zdK]
 kernel_rfl
section
variable {prog:Program} {w:World} {A:Around} {E:Value->Shared->Prop} {s:Shared} {d it:Addr}
variable {b:Nat} {f:Nat->Int×Value} {o:Obj} {ep:Nat} {t:SetTable} {i:Nat}
theorem zaz (S:YT s.heap d b f o ep t) (hl:t.led=Yh w) (hi:i<=(Sm.plL b).length) {Q:Option (Value×Nat)->Shared->Prop}
  (q:Q (((Yk w d ep ((Sm.pl b).map f))[i]?).map λe=>(e.2,vo w b (i+1))) s):wpAny (model prog w) A (setNext d (vo w b i) i ep) Q E s:=by
 have h4:=S.few
 unfold setNext setsByText
 refine wpAny_bind (wpAny_setState_of S.get S.data S.fits ?_)
 refine wpAny_bind (wpAny_bind (wpAny_askSetting (wpAny_pure ?_)))
 dsimp only
 have hsz:((Sm.pl b).map f).size=(Sm.plL b).length:=by rw[FV,Sm.pl_size]
 cases hT:w.params.followText "set-order" with
 |true=>
  have mr:(model prog w).w.params.followText "set-order"=true:=hT
  rw[mr]
  refine wpAny_ite_split (λ_=> ?_) λz=>absurd rfl z
  refine wpAny_ite_split (λz=>by simp at z) λ_=> ?_
  unfold setWalk setsByText
  refine wpAny_bind (wpAny_bind (wpAny_setState_of S.get S.data S.fits (wpAny_bind (wpAny_bind (wpAny_askSetting (wpAny_pure ?_))))))
  rw[mr]
  refine wpAny_ite_split (λ_=> ?_) λz=>absurd rfl z
  refine wpAny_bind (wpAny_askSetting (wpAny_pure ?_))
  refine wpAny_pure ?_
  unfold Yk vo at q
  unfold vo
  rw[hT] at q ⊢
  exact q
 |false=>
  have mr:(model prog w).w.params.followText "set-order"=false:=hT
  rw[mr]
  refine wpAny_ite_split nofun λ_=> ?_
  refine wpAny_ite_split (λz=>by
   exfalso
   revert z
   show ((!t.plain&&decide (_>1))=true)->False
   rw[S.plain]
   simp) λ_=> ?_
  have g9:t.led=true:=by rw[hl];unfold Yh;rw[hT];rfl
  refine wpAny_bind ?_
  show wpAny _ _ (if (!t.led&&_)=true then unsupported _ else pure ()) _ _ _
  rw[g9]
  refine wpAny_ite_split nofun λ_=>wpAny_pure (wpAny_pure ?_)
  unfold Yk vo at q
  unfold vo
  rw[hT] at q ⊢
  simp only[FQ,if_false] at q ⊢
  rw[S.tb.place,Sm.below_walk b S.lt i ⋯ hi]
  rw[if_neg ⋯,IY] at q
  have e1:(Sm.pl b)[i]? =(Sm.plL b)[i]? :=by unfold Sm.pl;rw[List.getElem?_toArray]
  rw[IX,e1] at q ⊢
  cases cm:(Sm.plL b)[i]? with
  |none=>rw[cm] at q;exact q
  |some j=>
   rw[cm] at q
   rw[show (Sm.plL b).getD i 0=j by rw[Ec,cm];rfl] at q
   exact q
theorem zji (S:YT s.heap d b f o ep t) (hl:t.led=Yh w) (hit:s.heap.get? it=some (zay d (vo w b i) i (Sm.plL b).length ep)) {e:Int×Value} (he:(Yk w d ep ((Sm.pl b).map f))[i]? =some e) (hi:i<(Sm.plL b).length) {Q:Option Value->Shared->Prop}
  (q:∀h',h'.get? it=some (zay d (vo w b (i+1)) (i+1) (Sm.plL b).length ep)->Heap.SameBut it s.heap h'->Q (some e.2) {s with heap:=h'}):wpAny (model prog w) A (pyNext (.ref it)) Q E s:=by
 have ty:s.TypeIs (.ref it) "set_iterator":=⟨_,hit,rfl⟩
 have hsz:((Sm.pl b).map f).size=(Sm.plL b).length:=by rw[FV,Sm.pl_size]
 unfold pyNext
 refine wpAny_bind (wpAny_attempt (wpAny_callSpecial?_slot (name:=Str.ofString "__next__") ty wM (wpAny_call_entry wM ty WD ?_ (Vw _))))
 unfold Builtin.«set_iterator.__next__»
 refine wpAny_bind (wpAny_of_eq (a:=(Value.ref it,[])) rfl ?_)
 dsimp only
 refine wpAny_bind (wpAny_fieldsOf hit rfl ?_)
 dsimp only
 refine wpAny_bind (wpAny_setEntries_of S.get S.data S.fits ?_)
 refine wpAny_ite_split (λz=>by rw[hsz] at z;simp at z) λ_=> ?_
 rw[Fh,Fh,Fh]
 refine wpAny_bind (zaz S hl (EL hi) ?_)
 rw[he]
 dsimp only[JN]
 have gY:(s.heap.update it (Obj.mapFields (·.setIfInBounds 0 (rawInt ((vo w b (i+1):Nat):Int))))).get? it=some (zay d (vo w b (i+1)) i (Sm.plL b).length ep):=Heap.get?_update_self _ hit rfl
 refine wpAny_bind (wpAny_setField hit rfl (by simp) ?_)
 refine wpAny_bind (wpAny_setField (s:={s with heap:=s.heap.update it (Obj.mapFields (·.setIfInBounds 0 (rawInt ((vo w b (i+1):Nat):Int))))}) gY rfl (by simp) ?_)
 exact wpAny_pure ⟨_,rfl,wpAny_pure (q _ (Heap.get?_update_self _ gY rfl) ((Heap.SameBut.update ..).trans (Heap.SameBut.update ..)))⟩
theorem zlc (S:YT s.heap d b f o ep t) (hl:t.led=Yh w) (hh:A.handled=none) (hit:s.heap.get? it=some (zay d (vo w b i) i (Sm.plL b).length ep)) (hi:i=(Sm.plL b).length) {Q:Option Value->Shared->Prop} (q:∀h',Heap.ExtBut it s.heap h'->Q none {s with heap:=h'}):wpAny (model prog w) A (pyNext (.ref it)) Q E s:=by
 have ty:s.TypeIs (.ref it) "set_iterator":=⟨_,hit,rfl⟩
 have hsz:((Sm.pl b).map f).size=(Sm.plL b).length:=by rw[FV,Sm.pl_size]
 have he:(Yk w d ep ((Sm.pl b).map f))[i]? =none:=by
  rw[Array.getElem?_eq_none_iff]
  unfold Yk
  split
  ·have:=(Ue (w.params.setOrder d ep) ((Sm.pl b).map f)).length_eq
   rw[Fe,Fe] at this
   rw[this,hsz,hi]
   exact Ek _
  ·rw[hsz,hi]
   exact Ek _
 unfold pyNext
 refine wpAny_bind (wpAny_attempt (wpAny_callSpecial?_slot (name:=Str.ofString "__next__") ty wM (wpAny_call_entry wM ty WD ?_ (Vw _))))
 unfold Builtin.«set_iterator.__next__»
 refine wpAny_bind (wpAny_of_eq (a:=(Value.ref it,[])) rfl ?_)
 dsimp only
 refine wpAny_bind (wpAny_fieldsOf hit rfl ?_)
 dsimp only
 refine wpAny_bind (wpAny_setEntries_of S.get S.data S.fits ?_)
 refine wpAny_ite_split (λz=>by rw[hsz] at z;simp at z) λ_=> ?_
 rw[Fh,Fh,Fh]
 refine wpAny_bind (zaz S hl (Gs hi) ?_)
 rw[he]
 dsimp only[JN]
 refine wpAny_bind (wpAny_setField hit rfl (by simp) ?_)
 refine wpAny_bind (m:=newExc (.type "StopIteration") []) ?_
 simp only[newExc,newTuple]
 refine wpAny_bind (wpAny_newObj_type (wpAny_bind (m:=firstArgMember _ _) (wpAny_of_eq (a:=Value.none) (by first|rfl|(simp only[firstArgMember];rfl)) (wpAny_newObj_type ?_ (by size_fits)))) (by size_fits))
 simp only[raiseNew]
 refine wpAny_bind (wpAny_handled ?_)
 rw[show A.in1.handled=none from hh]
 refine wpAny_bind (wpAny_pure (wpAny_throw ?_))
 refine wpAny_bind (wpAny_isInstance (b:=true) (T:="StopIteration") ⟨_,Heap.get?_push_size _ rfl,rfl⟩ isSubtype_stop ?_)
 exact wpAny_pure (q _ (((Heap.SameBut.update ..).extBut.push _).push _))
theorem YT.at_ {h h':Heap} (S:YT h d b f o ep t) (e:∀o,h.get? d=some o->h'.get? d=some o):YT h' d b f o ep t:=⟨e _ S.get,S.ex,S.data,S.tb,S.plain,S.lt,S.few⟩
theorem YT.ord_size {h:Heap} (S:YT h d b f o ep t):(Yk w d ep ((Sm.pl b).map f)).size=(Sm.plL b).length:=by
 have hsz:((Sm.pl b).map f).size=(Sm.plL b).length:=by rw[FV,Sm.pl_size]
 unfold Yk
 split
 ·have:=(Ue (w.params.setOrder d ep) ((Sm.pl b).map f)).length_eq
  rw[Fe,Fe] at this
  rw[this,hsz]
 ·exact hsz
def zmk (w:World) (d:Addr) (b:Nat) (f:Nat->Int×Value) (o:Obj) (ep:Nat) (t:SetTable) (h:Heap):Prop:=YT h d b f o ep t/\t.led=Yh w
theorem zdL (hit:s.heap.get? it=some (zay d (vo w b i) i (Sm.plL b).length ep)) {Q:Value->Shared->Prop} (q:Q (.ref it) s):wpAny (model prog w) A (pyIter (.ref it)) Q E s:=by
 have ty:s.TypeIs (.ref it) "set_iterator":=⟨_,hit,rfl⟩
 refine wpAny_pyIter_slot ty Vx (wpAny_call_entry Vx ty zbf ?_ (zcB _))
 show wpAny _ _ (ret (.ref it)) _ _ s
 exact wpAny_pure ⟨_,rfl,"set_iterator",_,ty,wM.lookup,q⟩
theorem zhH (hh:A.handled=none) (I:Addr) (cq:d≠I):Walks prog w A I [I,d] [I] (Sm.plL b).length (λi v=>∃e,(Yk w d ep ((Sm.pl b).map f))[i]? =some e/\v=e.2) (λi h=>h.get? I=some (zay d (vo w b i) i (Sm.plL b).length ep)/\zmk w d b f o ep t h) where
 sub:=λb hb=>by simp at hb;simp[hb]
 frame:=λ_ _ _ st hk=>⟨hk I (by simp) _ st.1,st.2.1.at_ λo e=>hk d (by simp) o e,st.2.2⟩
 item:=λi s Q E hi st hQ=>by
  have bS:i<(Yk w d ep ((Sm.pl b).map f)).size:=by rw[st.2.1.ord_size];exact hi
  exact zji st.2.1 st.2.2 st.1 (FJ bS) hi λh' gZ dw=>hQ _ h' s.toks ⟨_,FJ bS,rfl⟩ ⟨gZ,st.2.1.at_ λo e=>dw.extBut d o cq e,st.2.2⟩ λb o hb e=>dw.extBut b o (λh=>hb (by simp[h])) e
 done:=λs Q E st hQ=>zlc st.2.1 st.2.2 hh st.1 rfl λh' Cb=>hQ h' s.toks λb o hb e=>Cb b o (λh=>hb (by simp[h])) e
 self:=λ_ _ _ _ st hQ=>zdL st.1 hQ
theorem zjj {Q:Bool->Shared->Prop} (ty:s.TypeIs (.ref d) "set") (q:Q false s):wpAny (model prog w) A (Builtin.List.listLengthHint (.ref d)) Q E s:=by
 unfold Builtin.List.listLengthHint
 refine wpAny_bind (wpAny_specialOf ty F.slot_set_len.lookup ?_)
 generalize hid:("set.__len__":String)=lV
 wp_delta
 rw[show splitId lV=some ("set","__len__") from by subst hid;decide+kernel]
 subst hid
 refine wpAny_bind (wpAny_isInstance (T:="set") (b:=true) ty (by rw[isSubtype_type];kernel_rfl) ?_)
 refine wpAny_ite_split (λaG=>absurd aG ∅) (λ_=> ?_)
 refine wpAny_ite_split (λ_=> ?_) (λaG=>absurd (by decide+kernel) aG)
 refine wpAny_bind (wpAny_typeOf ty ?_)
 exact wpAny_pure q
theorem zld:KdlSrc prog w "set" d d (Sm.plL b).length (λi v=>∃e,(Yk w d ep ((Sm.pl b).map f))[i]? =some e/\v=e.2) (zmk w d b f o ep t) where
 type:=λ_ x=>⟨o,x.1.get,x.1.ex.1⟩
 there:=λ_ x=>⟨Heap.lt_size x.1.get,Heap.lt_size x.1.get⟩
 keep:=λ_ _ x hk=>⟨x.1.at_ λo e=>hk d (.inl rfl) o e,x.2⟩
 notList:=by decide
 notTuple:=by decide
 hint:=λ_ _ _ _ x q=>zjj ⟨o,x.1.get,x.1.ex.1⟩ q
 iter:=λ_ s hh x=>⟨_,_,(λ_ _ hq=>zjh x.1 hq),zhH hh _ (Ep (Heap.lt_size x.1.get)),by
  refine⟨?_,x.1.at_ λo e=>Heap.get?_push_of_some _ e,x.2⟩
  rw[Heap.get?_push_size _ rfl]
  unfold vo
  split<;>rfl⟩
end
mutual
noncomputable def enc:NK->List Int
 | .int a=>[1,a]
 | .str _=>[2]
 | .tup l=>3::yq l
noncomputable def yq:List NK->List Int
 |[]=>[0]
 |k::r=>enc k++yq r
end
mutual
noncomputable def cp:NK->NK->Bool
 | .int _,.int _=>true
 | .tup x,.tup y=>cpL x y
 |_,_=>false
noncomputable def cpL:List NK->List NK->Bool
 |a::x,b::y=>cp a b&&cpL x y
 |_,_=>true
end
theorem xy {a:Int} {x y:List Int}:ltL (a::x) (a::y)=ltL x y:=by rw[ltL,if_pos rfl]
theorem vT {a b:Int} {x y:List Int} (h:a≠b):ltL (a::x) (b::y)=decide (a<b):=by rw[ltL,if_neg h]
theorem Zj (k:NK):∃t r,enc k=t::r/\0<t:=by
 cases k with
 |int a=>exact⟨1,[a],by rw[enc],∅⟩
 |str x=>exact⟨2,[],by rw[enc],∅⟩
 |tup l=>exact⟨3,yq l,by rw[enc],∅⟩
mutual
theorem zaA:∀(a b:NK),cp a b=true->∀r s,ltL (enc a++r) (enc b++s)=if a=b then ltL r s else ltL (enc a) (enc b)
 | .int a,.int b,_,r,s=>by
  rw[enc,enc]
  show ltL (1::a::r) (1::b::s)=if NK.int a=NK.int b then _ else ltL [1,a] [1,b]
  rw[xy,xy]
  by_cases h:a=b
  ·rw[h,if_pos rfl,xy]
  ·rw[if_neg (λz=>h (by injection z)),vT h,vT h]
 | .tup x,.tup y,h,r,s=>by
  unfold cp at h
  rw[enc,enc]
  show ltL (3::(yq x++r)) (3::(yq y++s))=if NK.tup x=NK.tup y then _ else ltL (3::yq x) (3::yq y)
  rw[xy,xy,zfp x y h r s]
  by_cases hx:x=y
  ·rw[if_pos hx,if_pos (by rw[hx])]
  ·rw[if_neg hx,if_neg (λz=>hx (by injection z))]
 | .int _,.str _,h,_,_=>by simp[cp] at h
 | .int _,.tup _,h,_,_=>by simp[cp] at h
 | .str _,.int _,h,_,_=>by simp[cp] at h
 | .str _,.str _,h,_,_=>by simp[cp] at h
 | .str _,.tup _,h,_,_=>by simp[cp] at h
 | .tup _,.int _,h,_,_=>by simp[cp] at h
 | .tup _,.str _,h,_,_=>by simp[cp] at h
theorem zfp:∀(x y:List NK),cpL x y=true->∀r s,ltL (yq x++r) (yq y++s)=if x=y then ltL r s else ltL (yq x) (yq y)
 |[],[],_,r,s=>by
  rw[yq,if_pos rfl]
  show ltL (0::r) (0::s)=_
  rw[xy]
 |[],b::y,_,r,s=>by
  rw[if_neg (by simp),yq,yq]
  obtain⟨t,q,e,ht⟩:=Zj b
  rw[e]
  show ltL (0::r) (t::(q++yq y++s))=ltL [0] (t::(q++yq y))
  rw[vT ⋯,vT ⋯]
 |a::x,[],_,r,s=>by
  rw[if_neg (by simp),yq,yq]
  obtain⟨t,q,e,ht⟩:=Zj a
  rw[e]
  show ltL (t::(q++yq x++r)) (0::s)=ltL (t::(q++yq x)) [0]
  rw[vT ⋯,vT ⋯]
 |a::x,b::y,h,r,s=>by
  unfold cpL at h
  rw[FG] at h
  rw[yq,yq,Gn,Gn,zaA a b h.1,zaA a b h.1,zfp x y h.2 r s]
  by_cases aG:a=b
  ·rw[if_pos aG,if_pos aG]
   by_cases lZ:x=y
   ·rw[if_pos lZ,if_pos (by rw[aG,lZ])]
   ·rw[if_neg lZ,if_neg (λz=>lZ (by injection z))]
  ·rw[if_neg aG,if_neg aG,if_neg (λz=>aG (by injection z))]
end
theorem Wq {a b:NK} {x y:List NK} (h:cp a b=true):ltL (yq (a::x)) (yq (b::y))=if a=b then ltL (yq x) (yq y) else ltL (enc a) (enc b):=by
 rw[yq,yq,zaA a b h]
theorem Vy {a b:NK} (h:cp a b=true) (e:enc a=enc b):a=b:=by
 have h1:=zaA a b h [0] [1]
 have h2:=zaA a b h [1] [0]
 rw[e] at h1 h2
 by_cases aG:a=b
 ·exact aG
 ·rw[if_neg aG] at h1 h2
  have k:∀l r s:List Int,ltL (l++r) (l++s)=ltL r s:=λl r s=>by
   induction l with
   |nil=>rfl
   |cons q l ih=>rw[Fy,Fy,xy,ih]
  rw[k] at h1
  rw[k] at h2
  rw[<-h1] at h2
  exact absurd h2 ∅
section
open PySem.SeqAt
open PySem.AutoSeq1 (wpAny_loadPart')
open PySem.MeetsSeq PySem.MeetsSeq2 PySem.MeetsSeq3
variable {prog:Program} {w:World} {E:Value->Shared->Prop}
theorem zaB {a c:Int}:ltL (enc (.int a)) (enc (.int c))=decide (a<c):=by
 rw[enc,enc,xy]
 by_cases h:a=c
 ·rw[h,xy]
  exact (decide_eq_false ⋯).symm
 ·exact vT h
theorem zhI:∀(n:Nat) {A:Around} {s:Shared} {k j:NK} {v u:Value} {Q:Value->Shared->Prop},yi k<=n->A.units+n<cLine->cp k j=true->yI s.heap k v->yI s.heap j u->Q (.bool (ltL (enc k) (enc j))) s->wpAny (model prog w) A (richCompare .Lt v u) Q E s:=by
 intro n
 induction n with
 |zero=>
  intro A s k j v u Q hn hu hc hk hj h
  cases hk with
  |int a t=>
   cases hj with
   |int c t'=>rw[zaB] at h;exact HT.zdc A s a t c t' prog w E Q h
   |str _ _=>simp[cp] at hc
   |tup _ _ _ _=>simp[cp] at hc
  |str _ _=>cases hj<;>simp[cp] at hc
  |tup _ _ _ _=>unfold yi at hn;omega
 |succ n ih=>
  intro A s k j v u Q hn hu hc hk hj h
  cases hk with
  |int a t=>
   cases hj with
   |int c t'=>rw[zaB] at h;exact HT.zdc A s a t c t' prog w E Q h
   |str _ _=>simp[cp] at hc
   |tup _ _ _ _=>simp[cp] at hc
  |str _ _=>cases hj<;>simp[cp] at hc
  | @tup l o items m ks ho eO hd hi=>
   cases hj with
   |int _ _=>simp[cp] at hc
   |str _ _=>simp[cp] at hc
   | @tup b o' items' m' js cF hJ fM cm=>
    have qA:cpL ks js=true:=by unfold cp at hc;exact hc
    have eZ:xU ks<=n:=by unfold yi at hn;omega
    have z1:items.size=ks.length:=by have:=hi.len;simpa using this.symm
    have z2:items'.size=js.length:=by have:=cm.len;simpa using this.symm
    have h':Q (.bool (ltL (yq ks) (yq js))) s:=by rw[enc,enc,xy] at h;exact h
    obtain⟨cls,dd,data,sl⟩:=o
    obtain⟨sd,jy,data2,fV⟩:=o'
    simp only at eO hd hJ fM
    subst eO hd hJ fM
    refine wpAny_richCompare_same_room (T:="tuple") ⟨_,ho,rfl⟩ ⟨_,cF,rfl⟩ F.slot_tuple_lt (wpAny_call_entry F.slot_tuple_lt ⟨_,ho,rfl⟩ F.entry_tuple_lt ?_ (F.args_tuple_lt_2 _ _)) ⋯
    obtain⟨hp,g,d,tk,os⟩:=s
    have f2:=AutoSeq1.sub_tuple_tuple
    dsimp only at ho cF hi cm h'
    wp_walk using wpAny_loadPart' ho,wpAny_loadPart' cF,wpAny_forIn_list _ (λrest b s'=>b.1=none/\s'=⟨hp,g,d,tk,os⟩/\∃(vs ws:List Value) (xs ys:List NK),rest=vs.zip ws/\yg hp xs vs/\yg hp ys ws/\cpL xs ys=true/\(∀k∈xs,yi k<=n)/\xs.length+items'.size=ys.length+items.size/\Q (.bool (ltL (yq xs) (yq ys))) ⟨hp,g,d,tk,os⟩) _
    case turn=>
     rintro⟨y,x⟩ rest b s' ⟨jm,rfl,vs,ws,xs,ys,hz,pK,m6,gj,gI,hlen,hR⟩
     cases pK with
     |nil=>rw[J6] at hz;cases hz
     | @cons ka va xs' vs' k4 pJ=>
      cases m6 with
      |nil=>rw[IZ] at hz;cases hz
      | @cons kb vb ys' ws' jZ pF=>
       rw[G4] at hz
       injection hz with B1 kc
       injection B1 with hy hx
       subst hy hx
       unfold cpL at gj
       rw[FG] at gj
       rw[Wq gj.1] at hR
       simp only[EB] at hlen
       have kH:=gI ka (by simp)
       refine wpAny_bind (zaq n kH (by show A.units+1+n<cLine;omega) k4 jZ prog w _ _ ?_)
       by_cases aG:ka=kb
       ·rw[decide_eq_true aG]
        rw[if_pos aG] at hR
        wp_walk
        exact⟨rfl,rfl,_,_,_,_,kc,pJ,pF,gj.2,λk hk=>gI k (Ej _ hk),⋯,hR⟩
       ·rw[decide_eq_false aG]
        rw[if_neg aG] at hR
        refine wpAny_ite_split (λ_=> ?_) λz=>absurd rfl z
        dsimp only
        refine wpAny_bind (wpAny_rule (wpAny_bind (ih (s:=⟨hp,g,d,tk,os⟩) kH (by show A.units+1+n<cLine;omega) gj.1 k4 jZ ?_)))
        refine wpAny_bind (wpAny_pure (wpAny_pure ?_))
        exact wpAny_pure ⟨_,rfl,nofun,hR⟩
    case fin=>
     rintro⟨b1,b2⟩ s' ⟨jm,rfl,vs,ws,xs,ys,hz,pK,m6,gj,gI,hlen,hR⟩
     simp only at jm
     subst jm
     have hv:ltL (yq xs) (yq ys)=decide (items.size<items'.size):=by
      cases pK with
      |nil=>
       cases m6 with
       |nil=>
        simp only[Ho] at hlen
        rw[Zg]
        exact (decide_eq_false ⋯).symm
       | @cons kb _ _ _ _ _=>
        simp only[Ho,EB] at hlen
        obtain⟨t,q,e,ht⟩:=Zj kb
        rw[yq,yq,e]
        show ltL [0] (t::_)=_
        rw[vT ⋯,decide_eq_true ht]
        exact (decide_eq_true ⋯).symm
      | @cons ka _ _ _ _ _=>
       cases m6 with
       |nil=>
        simp only[Ho,EB] at hlen
        obtain⟨t,q,e,ht⟩:=Zj ka
        rw[yq,yq,e]
        show ltL (t::_) [0]=_
        rw[vT ⋯,decide_eq_false ⋯]
        exact (decide_eq_false ⋯).symm
       |cons _ _=>
        rw[G4] at hz
        cases hz
     rw[hv] at hR
     wp_walk
     exact⟨_,rfl,nofun,by simpa [Builtin.Tuple.tupleCompareSizes] using hR⟩
    case h=>exact⟨rfl,rfl,items.toList,items'.toList,ks,js,rfl,hi,cm,qA,λk hk=>Ey (wc hk) eZ,⋯,h'⟩
end
section
variable {prog:Program} {w:World} {A:Around} {E:Value->Shared->Prop} {s:Shared}
theorem zcC {C:Bool->Shared->Prop} {n:Nat} {fl:Bool} (hu:A.units+n<cLine):∀(x y:List NK) (xs ys:List Value) (i:Nat) (fin:Bool),(fl&&i==0)=false->yg s.heap x xs->yg s.heap y ys->cpL x y=true->(∀k∈x,yi k<=n)->fin=decide (x.length<y.length)->C (ltL (yq x) (yq y)) s->KatLex prog w A fl fin C (xs.zip ys) i s
 |[],y,_,ys,i,fin,_,.nil,hy,hc,hd,hf,h=>by
  rw[J6]
  refine kat_nil ?_
  cases y with
  |nil=>rw[hf];rw[Zg] at h;exact h
  |cons b y=>
   obtain⟨t,q,e,ht⟩:=Zj b
   rw[yq,yq,e] at h
   have h:C (ltL [0] (t::(q++yq y))) s:=h
   rw[vT ⋯,decide_eq_true ht] at h
   rw[hf]
   simpa using h
 |a::x,[],_,_,i,fin,_,hx,.nil,hc,hd,hf,h=>by
  rw[IZ]
  refine kat_nil ?_
  obtain⟨t,q,e,ht⟩:=Zj a
  rw[yq,yq,e] at h
  have h:C (ltL (t::(q++yq x)) [0]) s:=h
  rw[vT ⋯,decide_eq_false ⋯] at h
  rw[hf]
  simpa using h
 |a::x,b::y,_,_,i,fin,fq,.cons ha hx,.cons hb hy,hc,hd,hf,h=>by
  rw[G4]
  unfold cpL at hc
  rw[FG] at hc
  rw[Wq hc.1] at h
  have kH:=hd a (by simp)
  refine kat_cons (zaq n kH hu ha hb _ _ _ _ ?_)
  refine kat_go (λe=> ?_) λe=> ?_
  ·have e:a=b:=of_decide_eq_true e
   rw[if_pos e] at h
   exact kat_yes (zcC hu x y _ _ (i+1) fin (by simp) hx hy hc.2 (λk hk=>hd k (Ej _ hk)) (by rw[hf];simp) h)
  ·have e:¬a=b:=of_decide_eq_false e
   rw[if_neg e] at h
   refine kat_no ?_
   rw[fq]
   exact kat_one _ _ (zhI n kH hu hc.1 ha hb (by exact h))
def Xl (b:Bool):NK->Prop
 | .tup (.tup _::_)=>b=false
 | .tup (.int _::_)=>b=true
 |_=>False
def zdM (k:NK):Prop:=Xl false k
noncomputable def tyB (b:Bool):Value:=if b then .type "int" else .type "tuple"
theorem zbO {b:Bool} {vs:List Value} {ks:List NK} (hl:ks.length=vs.length) (nd:ks.Nodup) (gJ:∀a∈ks,∀b∈ks,cp a b=true) (kE:∀k∈ks,yi k<=8) (gC:∀k∈ks,Xl b k) (hu:A.units+8<cLine)
  (h:∀(i:Nat) k,ks[i]? =some k->∃a,vs[i]? =some (.ref a)/\yI s.heap k (.ref a)) (h2:2<=vs.length):zdE prog w A (xX (ks.map enc)) vs s:=by
 have nd':(ks.map enc).Nodup:=by
  rw[FW,EZ]
  exact Fs (λha hb aG e=>aG (Vy (gJ _ ha _ hb) e)) nd
 have firsts:∃fs:List Value,KatTups s.heap vs fs/\fs.length=vs.length/\∀v∈fs,(b=true/\∃i t,v=Value.int i t)\/(b=false/\∃a o,v=Value.ref a/\s.heap.get? a=some o/\o.cls= .type "tuple"):=by
  have key:∀(vs:List Value) (ks:List NK),ks.length=vs.length->(∀k∈ks,Xl b k)->(∀(i:Nat) k,ks[i]? =some k->∃a,vs[i]? =some (.ref a)/\yI s.heap k (.ref a))->∃fs:List Value,KatTups s.heap vs fs/\fs.length=vs.length/\∀v∈fs,(b=true/\∃i t,v=Value.int i t)\/(b=false/\∃a o,v=Value.ref a/\s.heap.get? a=some o/\o.cls= .type "tuple"):=by
   intro vs
   induction vs with
   |nil=>intro ks _ _ _;exact⟨[],KatTups.nil,rfl,by simp⟩
   |cons v vs ih=>
    intro ks hl gC h
    cases ks with
    |nil=>simp at hl
    |cons k ks=>
     obtain⟨fs,k1,k2,k3⟩:=ih ks (by simpa using hl) (λk hk=>gC k (by simp[hk])) λi k' e=>by
      have:=h (i+1) k' (by simpa using e)
      simpa using this
     obtain⟨a,e1,e2⟩:=h 0 k rfl
     have e1:v= .ref a:=by simpa using e1
     subst e1
     have hk:=gC k (by simp)
     cases e2 with
     | @tup _ o items m l ho hc hd hi=>
      cases l with
      |nil=>exact hk.elim
      |cons k0 l=>
       generalize hL:items.toList=L at hi
       cases hi with
       | @cons _ f _ _ hf _=>
        have qt:items[0]? =some f:=by rw[<-Fo,hL];rfl
        refine⟨f::fs,KatTups.cons ho hc hd (f:=f) qt k1,by simp[k2],λv hv=> ?_⟩
        rcases Er.1 hv with rfl|hv
        ·cases hf with
         |int i t=>exact .inl ⟨hk,i,t,rfl⟩
         |str x t=>exact hk.elim
         | @tup b' o' _ _ _ cF cZ _ _=>exact .inr ⟨hk,b',o',rfl,cF,cZ⟩
        ·exact k3 v hv
  exact key vs ks hl gC h
 obtain⟨fs,k1,k2,k3⟩:=firsts
 refine⟨tuples' (tyB b !=Value.type "tuple"),λQ q=>kat_kind k1 ⋯ (T:=tyB b) (λv hv=> ?_) (by cases b<;>decide) q,λi j C fE kz dC hc=> ?_⟩
 ·rcases k3 v hv with⟨rfl,i,t,rfl⟩|⟨rfl,a,o,rfl,ho,eO⟩
  ·exact .now
  ·rw[show tyB false=o.cls from eO.symm]
   exact (Looks.ld ho).andThen .now
 ·have cA:i<ks.length:=by omega
  have dR:j<ks.length:=by omega
  obtain⟨a,e1,e2⟩:=h i ks[i] (DZ cA)
  obtain⟨a',g1,g2⟩:=h j ks[j] (DZ dR)
  have r:=Xj nd' (by rw[Eb];exact cA) (by rw[Eb];exact dR) dC
  have ei:(ks.map enc).getD i []=enc ks[i]:=by rw[Ec,Ef,DZ cA];rfl
  have ej:(ks.map enc).getD j []=enc ks[j]:=by rw[Ec,Ef,DZ dR];rfl
  rw[ei,ej] at r
  have eK:=gJ _ (Eo cA) _ (Eo dR)
  have gi:=kE _ (Eo cA)
  have gD:=gC _ (Eo cA)
  have iT:=gC _ (Eo dR)
  generalize ks[i]=k at e2 r eK gi gD
  generalize ks[j]=k' at g2 r eK iT
  unfold kas_ask
  rw[show vs.getD i Value.none= .ref a by rw[Ec,e1];rfl,show vs.getD j Value.none= .ref a' by rw[Ec,g1];rfl]
  rw[show (tyB b !=Value.type "tuple")=b by cases b<;>decide]
  cases e2 with
  | @tup _ o items m l ho eO hd hi=>
   cases g2 with
   | @tup _ o' items' m' l' cF hJ fM cm=>
    have z1:items.size=l.length:=by have:=hi.len;simpa using this.symm
    have z2:items'.size=l'.length:=by have:=cm.len;simpa using this.symm
    have eZ:xU l<=7:=by unfold yi at gi;omega
    rw[enc,enc,xy] at r
    rw[<-r] at hc
    unfold cp at eK
    refine kat_lt ho hd cF fM ?_
    rw[z1,z2]
    cases b with
    |false=>exact zcC (n:=7) ⋯ _ _ _ _ 0 _ rfl hi cm eK (λk hk=>Ey (wc hk) eZ) rfl hc
    |true=>
     generalize items.toList=AI at hi ⊢
     generalize items'.toList=bF at cm ⊢
     cases hi with
     |nil=>exact gD.elim
     | @cons k0 f l0 _ hf hi=>
      cases cm with
      |nil=>exact iT.elim
      | @cons DA f' Dy _ jH cm=>
       cases hf with
       |str _ _=>exact gD.elim
       |tup _ _ _ _=>exact absurd gD (by simp[Xl])
       |int x t=>
        cases jH with
        |str _ _=>exact iT.elim
        |tup _ _ _ _=>exact absurd iT (by simp[Xl])
        |int y t'=>
         rw[G4]
         unfold cpL at eK
         rw[FG] at eK
         rw[Wq eK.1] at hc
         refine kat_cons (wpAny_eqBool_int ?_)
         refine kat_go (λe=> ?_) λe=> ?_
         ·have e:x=y:=by simpa using e
          rw[if_pos (by rw[e])] at hc
          exact kat_yes (zcC (n:=7) ⋯ _ _ _ _ 1 _ rfl hi cm eK.2 (λk hk=>Ey (wc (Ej _ hk)) eZ) (by simp) hc)
         ·have e:¬x=y:=by simpa using e
          rw[if_neg (λz=>e (by injection z)),zaB] at hc
          exact kat_no (kat_lt_int hc)
theorem zhJ {vs:List Value} {ks:List NK} (hl:ks.length=vs.length) (nd:ks.Nodup) (gJ:∀a∈ks,∀b∈ks,cp a b=true) (kE:∀k∈ks,yi k<=8) (gC:∀k∈ks,zdM k) (hu:A.units+8<cLine)
  (h:∀(i:Nat) k,ks[i]? =some k->∃a,vs[i]? =some (.ref a)/\yI s.heap k (.ref a)) (h2:2<=vs.length):zdE prog w A (xX (ks.map enc)) vs s:=zbO hl nd gJ kE gC hu h h2
end
theorem zaC {α β:Type} {f:α->β} {l':List β} {l:List α} (h:l'.Perm (l.map f)):∃m:List α,m.Perm l/\l'=m.map f:=by
 generalize e:l.map f=q at h
 induction h generalizing l with
 |nil=>exact⟨[],by rw[List.map_eq_nil_iff.1 e],rfl⟩
 | @cons x l1 l2 _ ih=>
  obtain⟨a,r,rfl,rfl,e2⟩:=Hq.1 e
  obtain⟨m,h1,h2⟩:=ih e2
  exact⟨a::m,h1.cons a,by rw[Eg,h2]⟩
 | @swap x y l1=>
  obtain⟨a,r,rfl,rfl,e2⟩:=Hq.1 e
  obtain⟨c,r2,rfl,rfl,e3⟩:=Hq.1 e2
  exact⟨c::a::r2,Jz ..,by rw[Eg,Eg,e3]⟩
 |trans _ _ AK p9=>
  obtain⟨m,h1,h2⟩:=p9 e
  obtain⟨m2,h3,h4⟩:=AK h2.symm
  exact⟨m2,h3.trans h1,h4⟩
theorem Uf {is:List (List Int)} (nd:is.Nodup):((ZX is).map λi=>is.getD i []).Pairwise λa b=>ltL a b=true:=by
 have h1:=zdG is
 have hp:=vw is
 have hn:(ZX is).Nodup:=hp.nodup_iff.2 Hg
 rw[EZ] at h1 ⊢
 have h3:=JQ h1 hn
 refine Fs (λ{a b} ha hb aG=> ?_) h3
 have hi:a<is.length:=by have:=hp.mem_iff.1 ha;simpa using this
 have hj:b<is.length:=by have:=hp.mem_iff.1 hb;simpa using this
 rw[Xj nd hi hj aG.2]
 have h4:=Xj nd hj hi (Gw aG.2)
 refine decide_eq_true ?_
 have hle:=aG.1
 by_cases h:xX is a<xX is b
 ·exact h
 ·exfalso
  have he:xX is a=xX is b:=by omega
  have r1:=Xj nd hi hj aG.2
  rw[he,decide_eq_false ⋯] at r1
  rw[he,decide_eq_false ⋯] at h4
  have cq:is.getD a []≠is.getD b []:=λz=>aG.2 ((FE nd (h₀:=hi) (h₁:=hj)).1 (by simpa [Ec,hi,hj] using z))
  have:=Tg _ _ cq
  rw[r1,h4] at this
  cases this
section
variable {prog:Program} {w:World} {A:Around} {E:Value->Shared->Prop} {s:Shared}
theorem zgh {S:Addr} {P:Nat->Value->Prop} {ks:List NK} {Q:Value->Shared->Prop} (hh:A.handled=none) (hu:A.units+12<cLine) (hA:zdJ w P ks s.heap S (Yh w) ks.length) (gJ:∀a∈ks,∀b∈ks,cp a b=true) (gC:∀k∈ks,zdM k)
  (h:∀(D:Addr) (h':Heap) (tk e:Nat) (outs:List (NK×Value)),(∀b o,s.heap.get? b=some o->h'.get? b=some o)->s.heap.objs.size<=D->h'.get? D=some (seqObj "list" (FC (outs.map (·.2))) e)->(outs.map λx=>enc x.1).Pairwise (λa b=>ltL a b=true)->(∀k,(∃x∈outs,x.1=k)↔k∈ks)->(∀x∈outs,∃p,ks[p]? =some x.1/\P p x.2)->Q (.ref D) {s with heap:=h',toks:=tk}):
  wpAny (model prog w) A (call (.builtin "sorted") [.ref S]) Q E s:=by
 obtain⟨b,f,kf,o,ep,t,hS,g9,hlen,fc,fF⟩:=hA
 have h4:=hS.few
 obtain⟨ord,aI,pS⟩:∃ord:List Nat,ord.Perm (Sm.plL b)/\(Yk w S ep ((Sm.pl b).map f)).toList=ord.map f:=by
  unfold Yk
  split
  ·have:=Ue (w.params.setOrder S ep) ((Sm.pl b).map f)
   rw[GD] at this
   exact zaC this
  ·exact⟨Sm.plL b,List.Perm.refl _,by rw[GD];rfl⟩
 have aw:∀j∈ord,j<8/\Sm.inB b j=true:=λj hj=>by
  have:=G8.1 (aI.mem_iff.1 hj)
  exact⟨Fb.1 this.1,this.2⟩
 have fR:ord.Nodup:=aI.nodup_iff.2 (JO _ Hg)
 have eY:ord.length=(Sm.plL b).length:=aI.length_eq
 have gW:∀j∈ord,kf j∈ks:=λj hj=>by
  obtain⟨p,_,e,_⟩:=fF j (aw j hj).1 (aw j hj).2
  exact Ei e
 have jA:(ord.map kf).Nodup:=by
  rw[FW,EZ]
  exact Fs (λha hb aG e=>aG (hS.inj _ (aw _ ha).1 _ (aw _ hb).1 (aw _ ha).2 (aw _ hb).2 e)) fR
 have kK:∀a∈ord.map kf,∀c∈ord.map kf,cp a c=true:=λa ha c hc=>by
  obtain⟨j,hj,rfl⟩:=Eh.1 ha
  obtain⟨j',dj,rfl⟩:=Eh.1 hc
  exact gJ _ (gW j hj) _ (gW j' dj)
 have sU:((ord.map kf).map enc).Nodup:=by
  rw[FW,EZ]
  exact Fs (λha hb aG e=>aG (Vy (kK _ ha _ hb) e)) jA
 have valAt:∀(i:Nat) v,(∃e,(Yk w S ep ((Sm.pl b).map f))[i]? =some e/\v=e.2)->∃j,ord[i]? =some j/\v=(f j).2:=by
  rintro i v ⟨e,he,rfl⟩
  rw[<-Fo,pS,Ef] at he
  cases hj:ord[i]? with
  |none=>rw[hj] at he;cases he
  |some j=>rw[hj] at he;cases he;exact⟨j,rfl,rfl⟩
 refine zdH (zld (b:=b) (f:=f) (o:=o) (ep:=ep) (t:=t)) hh ⟨hS.raw,g9⟩ ⋯ (xX ((ord.map kf).map enc)) (λvs hv hp h2 g tk hg=> ?_) λD h' tk e vs p hv hp pm fN kp hD dB=> ?_
 ·refine zhJ (by rw[Eb,eY,hv]) jA kK (λk hk=> ?_) (λk hk=> ?_) (by show A.units+1+1+8<cLine;omega) (λi k e=> ?_) ⋯
  ·obtain⟨j,hj,rfl⟩:=Eh.1 hk
   exact (hS.keys j (aw j hj).1 (aw j hj).2).2.2
  ·obtain⟨j,hj,rfl⟩:=Eh.1 hk
   exact gC _ (gW j hj)
  ·rw[Ef] at e
   cases hj:ord[i]? with
   |none=>rw[hj] at e;cases e
   |some j=>
    rw[hj] at e
    cases e
    have hi:i<vs.length:=by rw[hv,<-eY];exact (E8.1 hj).1
    obtain⟨j',dj,pI⟩:=valAt i _ (hp i _ (DZ hi))
    rw[hj] at dj
    cases dj
    have ug:=aw j (Ei hj)
    obtain⟨_,⟨c,hc,hk⟩,_⟩:=hS.keys j ug.1 ug.2
    exact⟨c,by rw[DZ hi,pI,hc],hk.grow hg⟩
 ·have jb:((ord.map kf).map enc).length=(Sm.plL b).length:=by rw[Eb,Eb,eY]
  rw[<-jb] at pm fN
  have qR:=zfj sU pm fN
  have fW:∀i∈ZX ((ord.map kf).map enc),i<ord.length:=λi hi=>by
   have:=(vw ((ord.map kf).map enc)).mem_iff.1 hi
   rw[Fb,jb,<-eY] at this
   exact this
  have at_:∀i (hi:i<ord.length),(ord.map kf).getD i (.int 0)=kf ord[i]/\vs.getD i Value.none=(f ord[i]).2/\((ord.map kf).map enc).getD i []=enc (kf ord[i]):=λi hi=>by
   have hj:=DZ hi
   refine⟨by rw[Ec,Ef,hj];rfl,?_,by rw[Ec,Ef,Ef,hj];rfl⟩
   have cA:i<vs.length:=by rw[hv,<-eY];exact hi
   obtain⟨j',dj,pI⟩:=valAt i _ (hp i _ (DZ cA))
   rw[hj] at dj
   cases dj
   rw[Ec,DZ cA]
   exact pI
  refine h D h' tk e ((ZX ((ord.map kf).map enc)).map λi=>((ord.map kf).getD i (.int 0),vs.getD i Value.none)) kp hD ?_ ?_ (λk=>⟨?_,λhk=> ?_⟩) (λx hx=> ?_)
  ·have e0:∀l:List Nat,(l.map λi=>vs.getD i Value.none)=(l.map λi=>((ord.map kf).getD i (.int 0),vs.getD i Value.none)).map (·.2):=λl=>by
    induction l with
    |nil=>rfl
    |cons q l ih=>rw[Eg,Eg,Eg,ih]
   rw[dB,qR,e0]
  ·have e0:∀l:List Nat,(∀i∈l,i<ord.length)->(l.map λi=>((ord.map kf).getD i (.int 0),vs.getD i Value.none)).map (λx=>enc x.1)=l.map λi=>((ord.map kf).map enc).getD i []:=λl=>by
    induction l with
    |nil=>intro _;rfl
    |cons q l ih=>
     intro hl
     rw[Eg,Eg,Eg,ih λi hi=>hl i (Ej _ hi)]
     have:=at_ q (hl q (Em ..))
     show enc ((ord.map kf).getD q (.int 0))::_=_
     rw[this.1,this.2.2]
   rw[e0 _ fW]
   exact Uf sU
  ·rintro⟨x,hx,rfl⟩
   obtain⟨i,hi,rfl⟩:=Eh.1 hx
   show (ord.map kf).getD i (.int 0)∈ks
   rw[(at_ i (fW i hi)).1]
   exact gW _ (Eo _)
  ·obtain⟨p',jE,e'⟩:=Ge hk
   obtain⟨j,hj,ql,eT⟩:=fc p' jE k (by rw[DZ jE,e'])
   have BJ:j∈ord:=aI.mem_iff.2 (G8.2 ⟨Fb.2 hj,ql⟩)
   obtain⟨i,hi,e2⟩:=Ge BJ
   refine⟨_,Eh.2 ⟨i,(vw _).mem_iff.2 (Fb.2 (by rw[jb,<-eY];exact hi)),rfl⟩,?_⟩
   show (ord.map kf).getD i (.int 0)=k
   rw[(at_ i hi).1,e2,eT]
  ·obtain⟨i,hi,rfl⟩:=Eh.1 hx
   have mj:=fW i hi
   obtain⟨p',_,e1,e2⟩:=fF ord[i] (aw _ (Eo mj)).1 (aw _ (Eo mj)).2
   refine⟨p',?_,?_⟩
   ·show ks[p']? =some ((ord.map kf).getD i (.int 0))
    rw[(at_ i mj).1];exact e1
   ·show P p' (vs.getD i Value.none)
    rw[(at_ i mj).2.1];exact e2
end
def vO (l:List NK):Prop:=(l.map enc).Pairwise λa b=>ltL a b=true
theorem zaD:∀{l m:List NK},vO l->vO m->(∀k,k∈l↔k∈m)->l=m
 |[],[],_,_,_=>rfl
 |[],b::m,_,_,h=>absurd ((h b).2 (Em ..)) (by simp)
 |a::l,[],_,_,h=>absurd ((h a).1 (Em ..)) (by simp)
 |a::l,b::m,h1,h2,h=>by
  unfold vO at h1 h2
  rw[Eg,List.pairwise_cons] at h1 h2
  obtain⟨a1,a2⟩:=h1
  obtain⟨b1,b2⟩:=h2
  have la:∀k∈l,ltL (enc a) (enc k)=true:=λk hk=>a1 _ (Eh.2 ⟨k,hk,rfl⟩)
  have lb:∀k∈m,ltL (enc b) (enc k)=true:=λk hk=>b1 _ (Eh.2 ⟨k,hk,rfl⟩)
  have e:a=b:=by
   apply FA
   intro ne
   have ha:a∈m:=by
    rcases Er.1 ((h a).1 (Em ..)) with z|z
    ·exact absurd z ne
    ·exact z
   have hb:b∈l:=by
    rcases Er.1 ((h b).2 (Em ..)) with z|z
    ·exact absurd z.symm ne
    ·exact z
   have:=zeI _ _ _ (la b hb) (lb a ha)
   rw[Zg] at this
   cases this
  subst e
  have na:∀{q:List NK},(∀k∈q,ltL (enc a) (enc k)=true)->a∉q:=λhq z=>by
   have:=hq a z
   rw[Zg] at this
   cases this
  rw[zaD (l:=l) (m:=m) a2 b2 λk=>⟨λhk=> ?_,λhk=> ?_⟩]
  ·rcases Er.1 ((h k).1 (Ej _ hk)) with rfl|z
   ·exact absurd hk (na la)
   ·exact z
  ·rcases Er.1 ((h k).2 (Ej _ hk)) with rfl|z
   ·exact absurd hk (na lb)
   ·exact z
open Classical in
noncomputable def xY (ks:List NK):List NK:=if h:∃l,vO l/\∀k,k∈l↔k∈ks then Classical.choose h else []
theorem Vz {ks l:List NK} (h:vO l) (e:∀k,k∈l↔k∈ks):xY ks=l:=by
 have hx:∃l,vO l/\∀k,k∈l↔k∈ks:=⟨l,h,e⟩
 unfold xY
 rw[dif_pos hx]
 exact zaD (G5 hx).1 h λk=>((G5 hx).2 k).trans (e k).symm
theorem zeJ {ks ms:List NK} (e:∀k,k∈ks↔k∈ms):xY ks=xY ms:=by
 unfold xY
 have:(∃l,vO l/\∀k,k∈l↔k∈ks)↔∃l,vO l/\∀k,k∈l↔k∈ms:=⟨λ⟨l,a,b⟩=>⟨l,a,λk=>(b k).trans (e k)⟩,λ⟨l,a,b⟩=>⟨l,a,λk=>(b k).trans (e k).symm⟩⟩
 by_cases hx:∃l,vO l/\∀k,k∈l↔k∈ks
 ·have hy:=this.1 hx
  rw[dif_pos hx,dif_pos hy]
  exact zaD (G5 hx).1 (G5 hy).1 λk=>((G5 hx).2 k).trans ((e k).trans ((G5 hy).2 k).symm)
 ·rw[dif_neg hx,dif_neg λz=>hx (this.2 z)]
structure KOk (b:Bool) (ks:List NK):Prop where
 cmp:∀x∈ks,∀y∈ks,cp x y=true
 dep:∀k∈ks,yi k<=8
 fst:∀k∈ks,Xl b k
section
variable {X:Cx}
def Zk (K:E9) (H:Hp) (ys:List V) (ks:List NK) (outs:List (NK×V)):Prop:=vO (outs.map (·.1))/\(∀k,k∈outs.map (·.1)↔k∈ks)/\∀x∈outs,∃p:Nat,ks[p]? =some x.1/\ys[p]? =some x.2
def zdN (K:E9) (te:TE):TE:=λσ H Q=>te σ H λx H1=>∃p ys ks,x= .ref p/\SqX K H1 p ys/\XT K H1 ys ks/\ks.length<=4/\KOk false ks/\(∀k∈ks,ZJ k=true)/\∀l outs,Zk K H1 ys ks outs->H1 l=none->Q (.ref l) (upd H1 l (.lst (outs.map (·.2))))
theorem XT.at_ {K:E9} {H:Hp}:∀{vs:List V} {ks:List NK},XT K H vs ks->ks.length=vs.length/\∀(i:Nat) k,ks[i]? =some k->∃v,vs[i]? =some v/\NIs K H v k
 |_,_,.nil=>⟨rfl,λi k e=>by simp at e⟩
 |_,_,.cons h l=>by
  obtain⟨e,f⟩:=l.at_
  refine⟨by simp[e],λi k hk=> ?_⟩
  cases i with
  |zero=>simp at hk;subst hk;exact⟨_,rfl,h⟩
  |succ i=>exact f i k (by simpa using hk)
theorem NIs.isRef {K:E9} {H:Hp} {b:Bool} {v:V} {k:NK} (h:NIs K H v k) (f:Xl b k):∃a,v= .ref a:=by
 cases h with
 |int _=>exact f.elim
 |str _=>exact f.elim
 |tup _ _=>exact⟨_,rfl⟩
theorem Wr:∀{ys:List V} {ae:List Value},zT ys ae->∀{i:Nat} {v:V},ys[i]? =some v->∃u,ae[i]? =some u/\zK v u
 |_,_,.nil,_,_,e=>by simp at e
 |_,_,.cons h _,0,_,e=>by simp at e;subst e;exact⟨_,rfl,h⟩
 |_,_,.cons _ l,i+1,_,e=>by
  obtain⟨u,e1,e2⟩:=Wr l (i:=i) (by simpa using e)
  exact⟨u,by simpa using e1,e2⟩
theorem zeK {m:Nat} {K:E9} {e:Expr} {te:TE} {p p2 pos dF:Pos} (hr:vk m X.A) (hc:X.calm=true) (hg:Gl X "sorted") (hm:X.mg "sorted"=none) (jf:Gl X "set") (q9:X.mg "set"=none) (ha:PE X e te) (hK:X.K=K:=by rfl)
  (ji:starEach [e] X.env=[(false,eval e X.env)]:=by rfl) (he:starEach [.Call (.Name "set" p2) [e] [] dF] X.env=[(false,eval (.Call (.Name "set" p2) [e] [] dF) X.env)]:=by rfl):
  PE X (.Call (.Name "sorted" p) [.Call (.Name "set" p2) [e] [] dF] [] pos) (zdN K te):=by
 subst hK
 intro pins s σ H Q I h
 have hu:X.A.units+41<cLine:=F8 ⋯ hr.units
 refine wpAny_Call_Name_kw (ZT I hg hm Boot.«sorted» ?_ ∅ ∅)
 refine Hn ?_ he rfl
 rw[he]
 show wpAny _ _ (spliced ((false,eval (.Call (.Name "set" p2) [e] [] dF) X.env)::backTo pos [])) _ _ s
 refine Calls.spliced_cons ?_
 refine wpAny_Call_Name_kw (ZT I jf q9 Boot.«set» ?_ ∅ ∅)
 refine Ft ?_ ji rfl
 refine thn (za ha zf ji dF pins s σ H (λvs H1=>∃p ys ks,vs=[.ref p]/\SqX X.K H1 p ys/\XT X.K H1 ys ks/\ks.length<=4/\KOk false ks/\(∀k∈ks,ZJ k=true)/\∀l outs,Zk X.K H1 ys ks outs->H1 l=none->Q (.ref l) (upd H1 l (.lst (outs.map (·.2))))) I ?_) λus s1 ⟨vs,H1,I1,r1,q1⟩=> ?_
 ·have h:te σ H λx H1=>∃p ys ks,x= .ref p/\SqX X.K H1 p ys/\XT X.K H1 ys ks/\ks.length<=4/\KOk false ks/\(∀k∈ks,ZJ k=true)/\∀l outs,Zk X.K H1 ys ks outs->H1 l=none->Q (.ref l) (upd H1 l (.lst (outs.map (·.2)))):=h
  show te σ H λx H1=>∃p ys ks,[x]=[V.ref p]/\SqX X.K H1 p ys/\XT X.K H1 ys ks/\ks.length<=4/\KOk false ks/\(∀k∈ks,ZJ k=true)/\∀l outs,Zk X.K H1 ys ks outs->H1 l=none->Q (.ref l) (upd H1 l (.lst (outs.map (·.2))))
  simpa only[Io,and_true] using h
 obtain⟨p,ys,ks,rfl,hq,hn,h4,ok,gF,q⟩:=q1
 obtain⟨u,rfl,ru⟩:=ZU r1
 cases ru
 obtain⟨z,ae,n,r,hl,e1⟩:=I1.lstR hq
 have hL:s1.heap.IsList p ae.toArray:=⟨_,e1,rfl,n,rfl⟩
 obtain⟨gU,dB⟩:=hn.at_
 have B3:ae.length=ys.length:=r.length.symm
 have fS:ae.toArray.size=ks.length:=by rw[EC];omega
 refine zjg (ks:=ks) (I1.ok.hd hc) ⋯ hL fS.symm ⋯ (λi v hv=> ?_) λh' tk hS hk ht=> ?_
 ·have hi:i<ks.length:=by
   rw[<-fS]
   exact (HE.1 hv).1
  obtain⟨v',e2,e3⟩:=dB i _ (DZ hi)
  obtain⟨u,e4,e5⟩:=Wr r e2
  have B8:ae[i]? =some v:=by simpa using hv
  rw[B8] at e4
  cases e4
  obtain⟨a,rfl⟩:=e3.isRef (ok.fst _ (Eo hi))
  have e6:v=Value.ref a:=e5
  exact⟨_,a,DZ hi,e6,by rw[<-e6];exact e3.isNK I1 e5,ok.dep _ (Eo hi),gF _ (Eo hi)⟩
 refine Calls.spliced_nil ?_
 rw[show ae.toArray.size=ks.length from fS] at hS
 refine zgh (s:={s1 with heap:=h',toks:=tk}) (I1.ok.hd hc) ⋯ hS ok.cmp ok.fst λD h2 uW e outs kp hD jn g8 aw fF=> ?_
 have kept:∀b o,s1.heap.get? b=some o->h2.get? b=some o:=λb o e=>kp b o (hk b o e)
 have hsz:s1.heap.objs.size<=D:=by
  refine Ey ?_ hD
  obtain⟨_,_,_,_,_,_,Cw,_⟩:=hS
  exact EL (Heap.lt_size Cw.get)
 have hex:∀outs:List (NK×Value),(∀x∈outs,∃p:Nat,ks[p]? =some x.1/\ae.toArray[p]? =some x.2)->∃os:List (NK×V),os.map (·.1)=outs.map (·.1)/\zT (os.map (·.2)) (outs.map (·.2))/\∀x∈os,∃p:Nat,ks[p]? =some x.1/\ys[p]? =some x.2:=by
  intro outs
  induction outs with
  |nil=>intro _;exact⟨[],rfl,.nil,by simp⟩
  |cons o outs ih=>
   intro ho
   obtain⟨os,f1,f2,f3⟩:=ih λx hx=>ho x (Ej _ hx)
   obtain⟨p,g1,g2⟩:=ho o (Em ..)
   obtain⟨v,e2,e3⟩:=dB p _ g1
   obtain⟨u,e4,e5⟩:=Wr r e2
   have g2:ae[p]? =some o.2:=by simpa using g2
   rw[g2] at e4
   cases e4
   refine⟨(o.1,v)::os,by simp[f1],.cons e5 f2,λx hx=> ?_⟩
   rcases Er.1 hx with rfl|hx
   ·exact⟨p,g1,e2⟩
   ·exact f3 x hx
 obtain⟨os,f1,f2,f3⟩:=hex outs fF
 have kS:Zk X.K H1 ys ks os:=by
  refine⟨?_,λk=> ?_,f3⟩
  ·unfold vO
   rw[f1,F3]
   exact g8
  ·rw[f1,Eh]
   exact aw k
 refine⟨.ref D,_,I1.laid (o:= .lst (os.map (·.2))) (t':=uW) kept hsz ⟨?_,outs.map (·.2),e,f2,?_⟩,rfl,q _ os kS (I1.hok.fresh hsz)⟩
 ·have fR:(os.map (·.1)).Nodup:=by
   have:=kS.1
   unfold vO at this
   rw[EZ] at this
   exact this.imp λ{a b} h e=>by subst e;rw[Zg] at h;cases h
  have:=fR.length_le_of_subset (l₂:=ks) λk hk=>(kS.2.1 k).1 hk
  rw[Eb] at this ⊢
  exact Ey (Ey this h4) ∅
 ·rw[jn]
def zhK (K:E9) (b:Bool):List V->Hp->VK->Prop:=λxs H Q=>∃(p:Addr) (ys:List V) (ks:List NK),xs=[.ref p]/\SqL K H p ys/\XT K H ys ks/\ks.length<64/\KOk b ks/\ks.Nodup/\∀l outs,Zk K H ys ks outs->outs.length=ks.length->H l=none->Q (.ref l) (upd H l (.lst (outs.map (·.2))))
def zhL (K:E9) (b:Bool) (R:Hp->V->NK->Prop):List V->Hp->VK->Prop:=λxs H Q=>∃(p:Addr) (ys:List V) (ks:List NK),xs=[.ref p]/\SqL K H p ys/\ks.length=ys.length/\(∀(i:Nat) k,ks[i]? =some k->∃v,ys[i]? =some v/\R H v k)/\ks.length<64/\KOk b ks/\ks.Nodup/\∀l outs,Zk K H ys ks outs->outs.length=ks.length->H l=none->Q (.ref l) (upd H l (.lst (outs.map (·.2))))
theorem zaE {b:Bool} {K:E9} {R:Hp->V->NK->Prop} (hK:X.K=K)
  (hA:∀{pins:List (Addr×Obj)} {s:Shared} {σ:St} {H:Hp} {ys:List V} {ks:List NK} {ae:List Value},Inv X pins σ H s->zT ys ae->(∀(i:Nat) k,ks[i]? =some k->∃v,ys[i]? =some v/\R H v k)->ae.length=ks.length->KOk b ks->ks.Nodup->2<=ae.length->∀g,(∀c o,s.heap.get? c=some o->g.get? c=some o)->zdE X.prog X.w X.A.in1.in1 (xX (ks.map enc)) ae {s with heap:=g}):vy X (.builtin "sorted") (zhL K b R):=by
 subst hK
 intro pins s σ H xs us Q I r h
 obtain⟨p,ys,ks,rfl,hq,gU,dB,cJ,ok,nd,q⟩:=h
 obtain⟨u,rfl,ru⟩:=ZU r
 cases ru
 obtain⟨ae,rv,pl,hz⟩:=I.list hq
 have B3:ae.length=ys.length:=rv.length.symm
 have hlen:ae.length=ks.length:=by omega
 have nd':(ks.map enc).Nodup:=by
  rw[FW,EZ]
  exact Fs (λha hb aG e=>aG (Vy (ok.cmp _ ha _ hb) e)) nd
 refine zeD (xX (ks.map enc)) pl.isList (by rw[hlen];exact cJ) (λh2 g hg=>hA I rv dB hlen ok nd h2 g hg) λp pm fN=> ?_
 have ml:(ks.map enc).length=ae.length:=by rw[Eb];omega
 rw[<-ml] at pm fN
 have ep:=zfj nd' pm fN
 rw[ep]
 have aI:=vw (ks.map enc)
 have iO:∀i∈ZX (ks.map enc),i<ks.length:=λi hi=>by
  have:=aI.mem_iff.1 hi
  rw[Fb,Eb] at this
  exact this
 obtain⟨qR,he⟩:=sortedAll_at s.heap ae (FC ((ZX (ks.map enc)).map λi=>ae.getD i Value.none))
 have eY:(ZX (ks.map enc)).length=ks.length:=by rw[aI.length_eq,Hc,Eb]
 have kS:Zk X.K H ys ks ((ZX (ks.map enc)).map λi=>(ks.getD i (.int 0),ys.getD i .non)):=by
  have e0:((ZX (ks.map enc)).map λi=>(ks.getD i (.int 0),ys.getD i V.non)).map (·.1)=(ZX (ks.map enc)).map λi=>ks.getD i (.int 0):=by rw[F3];rfl
  refine⟨?_,λk=> ?_,λx hx=> ?_⟩
  ·unfold vO
   rw[e0,F3]
   have:=Uf nd'
   have e1:∀l:List Nat,(∀i∈l,i<ks.length)->l.map (enc ∘ λi=>ks.getD i (.int 0))=l.map λi=>(ks.map enc).getD i []:=λl hl=>Fp λi hi=>by
    have:=hl i hi
    simp[Ec,this]
   rw[e1 _ iO]
   exact this
  ·rw[e0,Eh]
   constructor
   ·rintro⟨i,hi,rfl⟩
    have:=iO i hi
    rw[Ec,DZ this]
    exact Eo this
   ·intro hk
    obtain⟨i,hi,rfl⟩:=Ge hk
    exact⟨i,aI.mem_iff.2 (Fb.2 (by rw[Eb];exact hi)),by rw[Ec,DZ hi];rfl⟩
  ·obtain⟨i,hi,rfl⟩:=Eh.1 hx
   have h1:=iO i hi
   have h2:i<ys.length:=by omega
   exact⟨i,by simp[Ec,h1],by simp[Ec,h2]⟩
 have hv:∀l:List Nat,(∀i∈l,i<ks.length)->zT (l.map λi=>ys.getD i V.non) (l.map λi=>ae.getD i Value.none):=by
  intro l
  induction l with
  |nil=>intro _;exact .nil
  |cons i l ih=>
   intro hl
   refine .cons ?_ (ih λj hj=>hl j (Ej _ hj))
   have h1:i<ys.length:=by have:=hl i (Em ..);omega
   obtain⟨u,e4,e5⟩:=Wr rv (DZ h1)
   dsimp only
   rw[Ec,Ec,DZ h1,e4]
   exact e5
 have hs:ks.length<=sizeLine:=by have:=hz;omega
 refine⟨.ref (s.heap.objs.size+1),_,I.laid (t':=s.toks) (λ_ _=>sortedAll_old) (Gr _) (show ym X.prog X.w _ _ _ (.lst (((ZX (ks.map enc)).map λi=>(ks.getD i (.int 0),ys.getD i V.non)).map (·.2))) from ⟨by rw[Eb,Eb,eY];exact hs,(ZX (ks.map enc)).map λi=>ae.getD i Value.none,qR,by rw[F3];exact hv _ iO,by rw[he]⟩),rfl,q _ _ kS (by rw[Eb,eY]) (I.hok.fresh (Gr _))⟩
theorem zeL {m:Nat} {b:Bool} {K:E9} (hr:vk m X.A) (hK:X.K=K:=by rfl):vy X (.builtin "sorted") (zhK K b):=by
 subst hK
 have hu:X.A.units+41<cLine:=F8 ⋯ hr.units
 intro pins s σ H xs us Q I r h
 obtain⟨p,ys,ks,e,hq,hn,cJ,ok,nd,q⟩:=h
 refine zaE (b:=b) (R:=λH v k=>NIs X.K H v k) rfl (λ{pins s σ H ys ks ae} I rv dB hlen ok nd h2 g hg=>zbO hlen.symm nd ok.cmp ok.dep ok.fst (by show X.A.units+1+1+8<cLine;omega) (λi k hk=> ?_) h2) pins s σ H xs us Q I r ⟨p,ys,ks,e,hq,hn.at_.1,hn.at_.2,cJ,ok,nd,q⟩
 obtain⟨v,e2,e3⟩:=dB i k hk
 obtain⟨u,e4,e5⟩:=Wr rv e2
 obtain⟨a,rfl⟩:=e3.isRef (ok.fst _ (Ei hk))
 have e6:u=Value.ref a:=e5
 exact⟨a,by rw[e4,e6],(by rw[<-e6];exact (e3.isNK I e5).grow hg)⟩
end
noncomputable def Kym (a:Addr) (o:Obj) (kvs:List (Key×V)):It:=
 ⟨λi H=>H a=some (.frz o (.dK kvs))/\∃k v,kvs[i]? =some (k,v),λi H x H'=>H'=H/\∃k v,x=kV k/\kvs[i]? =some (k,v),λi H=>H a=some (.frz o (.dK kvs))/\kvs.length<=i⟩
theorem zgi {P:Program} {w:World} {K:E9} {tg:Expr} (a it:Addr) (o:Obj) (kvs:List (Key×V)) {es:Array DictEntry} {ep:Nat} (hd:o.data= .dict es ep):
  zgL P w K tg (Kym a o kvs) [it] it (λi h=>h.IsKeyIter it a i kvs.length ep) where
 mem:=by simp
 obj:=λi h st b hb=>by
  obtain⟨ob,e1,_,e2⟩:=st
  have:b=it:=by simpa using hb
  subst this
  exact⟨_,e1,λv z=>by rw[e2] at z;cases z⟩
 keep:=λi h h' st k=>st.at λo e=>k it (by simp) o e
 item:=by
  intro X hP hw hK hc i pins s σ H E I hf st hg
  subst hP hw hK
  obtain⟨ha,ke,v,hx⟩:=hg
  obtain⟨vs,rel,hm⟩:=zfh I ha hd
  obtain⟨u,hu,ru⟩:=zeE rel hx
  have hl:=rel.length
  rw[hl] at st
  refine wpAny_pyNext_dict_item st hm hu λkey h1 hk hit hs=>⟨_,rfl,?_⟩
  refine letGo_keyiter (s':={s with heap:=h1}) hit ?_
  refine⟨kV ke,H,Inv.turnedL (t':=s.toks) (fp:=[it]) I (λb o hb eo=>(hs.2 b (by simpa using hb)).trans eo) hf,zkg hk,⟨rfl,ke,v,rfl,hx⟩,by rw[hl];exact hit,λb hb=>(hf b hb).1⟩
 done:=by
  intro X hP hw hK hc i pins s σ H E I hf st hg
  subst hP hw hK
  obtain⟨ha,hx⟩:=hg
  obtain⟨vs,rel,hm⟩:=zfh I ha hd
  have hl:=rel.length
  rw[hl] at st
  refine wpAny_pyNext_dict_end (I.ok.hd hc) st hm (EY ⋯) λh' eb=>⟨rfl,Inv.turnedL (t':=s.toks) (fp:=[it]) I (λb o hb eo=> ?_) hf⟩
  exact eb b o (λz=>hb (by simp[z])) eo
 self:=λ_ _ _ _ _ st h=>wpAny_pyIter_keyiter st h
section
variable {X:Cx}
def zhM (t:TE):TI:=λσ H R=>t σ H λx H1=>∃(p a:Addr) (kvs:List (Key×V)),x= .ref p/\H1 p=some (WB p a)/\Rd H1 a (.dK kvs)/\(H1 a=some (.dK kvs)->∀o,R (Kym a o kvs) (upd H1 a (.frz o (.dK kvs))))/\∀o,H1 a=some (.frz o (.dK kvs))->R (Kym a o kvs) H1
theorem zjk {tg e:Expr} {t:TE} (he:PE X e t):PI X tg e (zhM t):=by
 intro pins s σ H R I h
 refine thn (he pins s σ H _ I h) ?_
 rintro u s1 ⟨x,H1,I1,rx,p,a,kvs,ex,hp,ha,q1,q2⟩
 subst ex
 cases rx
 have hv:Ht s1.heap p a:=(show ym X.prog X.w H1 s1.heap p (WB p a) from I1.hok p _ hp).1
 obtain⟨hz,lo,vs,rel,ob,es,ep,e1,e2,e3,e4⟩:=XA I1.hok ha
 have hl:=rel.length
 refine kdl_pyIter_keys (knd:=zN X.prog X.w) hv ⟨ob,es,e1,e2,e3,e4⟩ ?_
 have hi:(s1.heap.push {cls:= .type "dict_keyiterator",data:= .fields #[.ref a,.int 0 0,.int vs.length 0,.int ep 0]}).get? s1.heap.objs.size=some {cls:= .type "dict_keyiterator",data:= .fields #[.ref a,.int 0 0,.int vs.length 0,.int ep 0]}:=Heap.get?_push_size _ rfl
 have fin:∀H2,Inv X pins σ H2 s1->R (Kym a ob kvs) H2->PIE X pins σ tg R (.ref s1.heap.objs.size) {s1 with heap:=s1.heap.push {cls:= .type "dict_keyiterator",data:= .fields #[.ref a,.int 0 0,.int vs.length 0,.int ep 0]}}:=λH2 I2 q=>by
  have I3:=I2.kept (t':=s1.toks) (h':=s1.heap.push {cls:= .type "dict_keyiterator",data:= .fields #[.ref a,.int 0 0,.int vs.length 0,.int ep 0]}) (λb o e=>Heap.get?_push_of_some _ e)
  refine⟨s1.heap.objs.size,[s1.heap.objs.size],_,_,_,rfl,I3,zgi a s1.heap.objs.size ob kvs e3,⟨_,hi,rfl,by rw[hl];rfl⟩,λb hb=> ?_,q⟩
  have hb:s1.heap.objs.size<=b:=by
   have:b=s1.heap.objs.size:=by simpa using hb
   exact Gs this.symm
  exact Inv.fpOk I2 hb (I2.hok.fresh hb)
 rcases ha with ha|⟨o,ha⟩
 ·exact fin (upd H1 a (.frz ob (.dK kvs))) (Vj (ob:= .frz ob (.dK kvs)) (h':=s1.heap) (t':=s1.toks) I1 (by rw[ha];exact FU) ⟨rfl,λ_ _=>rfl⟩ ⟨ob,e1⟩ ⟨e1,hz,lo,vs,rel,ob,es,ep,e1,e2,e3,e4⟩) (q1 ha ob)
 ·have:o=ob:=by
   obtain⟨hg,_⟩:=(show ym X.prog X.w H1 s1.heap a (.frz o (.dK kvs)) from I1.hok a _ ha)
   rw[hg] at e1
   exact EE e1
  subst this
  exact fin _ I1 (q2 o ha)
end
section
variable {prog:Program} {w:World} {A:Around} {E:Value->Shared->Prop} {s:Shared}
theorem zbP {it t:Addr} {items:Array Value} (cq:t≠it):∀(n i:Nat) (s:Shared) (Q:List Value->Shared->Prop),s.heap.IsListIter it t i->s.heap.IsList t items->i+n<=items.size->
  (∀h',h'.IsListIter it t (i+n)->Heap.SameBut it s.heap h'->Q ((items.toList.drop i).take n) {s with heap:=h'})->wpAny (model prog w) A (draw (.ref it) n) Q E s
 |0,i,s,Q,hit,_,_,hQ=>by
  show wpAny _ _ (pure []) Q E s
  exact wpAny_pure (by simpa using hQ s.heap hit (Heap.SameBut.refl ..))
 |n+1,i,s,Q,hit,ht,hle,hQ=>by
  have bS:i<items.size:=by omega
  show wpAny _ _ (pyNext (.ref it)>>=_) Q E s
  refine wpAny_bind (wpAny_pyNext_list_item hit ht (x:=items[i]) (by simp[bS]) λh₁ hit₁ hs₁=> ?_)
  refine wpAny_bind (wpAny_holding (zbP cq n (i+1) _ _ hit₁ (ht.at λo e=>(hs₁.2 t cq).trans e) ⋯ λh₂ hit₂ hs₂=>wpAny_pure ?_))
  have hd:items.toList.drop i=items[i]::items.toList.drop (i+1):=by simp[G7,bS]
  have:=hQ h₂ (by rw[show i+(n+1)=i+1+n by omega];exact hit₂) (hs₁.trans hs₂)
  rw[hd,List.take_succ_cons] at this
  exact this
theorem zdO {t:Addr} {items:Array Value} {targets:List (Bool×(Value->Sem Unit))} {Q:Unit->Shared->Prop} (hh:A.handled=none) (ht:s.heap.IsList t items)
  (hn:targets.length=items.size) (k8:targets.findIdx? (·.1)=none)
  (h:∀h',Heap.ExtBut s.heap.objs.size s.heap h'->wpAny (model prog w) A (assignInOrder (targets.map (·.2)) items.toList) Q E {s with heap:=h'}):
  wpAny (model prog w) A (unpack (.ref t) targets) Q E s:=by
 unfold unpack
 rw[hn,k8]
 refine wpAny_bind (wpAny_holding ?_)
 have bS:t≠s.heap.objs.size:=by obtain⟨o,ho,_⟩:=ht;exact Ep (Heap.lt_size ho)
 unfold unpackItems
 refine wpAny_bind ?_
 unfold notIterableAtAll
 refine wpAny_bind (wpAny_specialOf ht.typeIs F.slot_list_iter.lookup ?_)
 refine wpAny_pure ?_
 simp only[FQ,if_false]
 refine wpAny_bind (wpAny_holding (wpAny_pyIter_list ht ?_))
 refine wpAny_bind (wpAny_holding (zbP bS items.size 0 _ _ ⟨_,Heap.get?_push_size _ rfl,rfl,rfl⟩ (ht.push _) ⋯ λh₁ hit₁ hs₁=> ?_))
 have bO:List.take items.size (List.drop 0 items.toList)=items.toList:=by
  rw[List.drop_zero];exact G2 (by simp)
 rw[bO]
 rw[if_neg (by simp)]
 have ht₁:h₁.IsList t items:=(ht.push _).at λo e=>(hs₁.2 t bS).trans e
 refine wpAny_bind (wpAny_holding (wpAny_pyNext_list_end hh hit₁ ht₁ (by simp) λh₂ he₂=> ?_))
 simp only[Option.isSome_none,FQ,if_false]
 refine wpAny_pure (h h₂ λb o hb e=>he₂ b o hb (hs₁.extBut b o hb (Heap.get?_push_of_some _ e)))
theorem zjl {d:Addr} {es:Array DictEntry} {ep:Nat} {Q:Value->Shared->Prop} (hd:(d==sysModules)=false) (x:zk9 s.heap d es ep) (BW:(es.size:Int)<2^63)
  (h:∀t,Q (.int es.size t) {s with toks:=s.toks+1+1}):wpAny (model prog w) A (call (.builtin "len") [.ref d]) Q E s:=by
 have ty:=x.type
 obtain⟨o,h1,h2,h3⟩:=id x
 refine Calls.call_function_entry kind_len plain_len entry_len (args_len1 _) ?_
 unfold Builtin.«len»
 refine wpAny_bind (m:=oneArg "len" _) (wpAny_pure ?_)
 refine wpAny_bind (m:=callSpecial? (.ref d) (Str.ofString "__len__")) (wpAny_callSpecial?_slot (name:=Str.ofString "__len__") ty F.slot_dict_len
  (wpAny_call_entry F.slot_dict_len ty F.entry_dict_len ?_ (F.args_dict_len_1 _)))
 show wpAny _ _ (dictSize d>>=_) _ _ s
 unfold dictSize
 refine wpAny_bind (wpAny_bind (wpAny_dictEntries h1 h3 (wpAny_pure ?_)))
 show wpAny _ _ (Builtin.Dict.pendingCount d>>=_) _ _ s
 refine wpAny_bind (wpAny_pendingCount_other hd ?_)
 refine wpAny_ret_mkInt ?_
 rw[Nat.add_zero]
 show wpAny _ _ _ _ _ {s with toks:=s.toks+1}
 refine wpAny_bind (wpAny_holding (wpAny_pure ?_))
 refine wpAny_bind (wpAny_letGo ?_)
 show wpAny _ _ (if ((es.size:Nat):Int)<0 then _ else _) _ _ _
 rw[if_neg ⋯]
 show wpAny _ _ (if ((es.size:Nat):Int)≥2^63 then _ else _) _ _ _
 rw[if_neg ⋯]
 exact wpAny_bind (wpAny_mkInt (wpAny_pure ⟨_,rfl,h _⟩))
end
section
variable {X:Cx}
def zkj (K:E9) (n:Nat) (t:TGs):TG:=λv σ H Q=>∃a xs,v= .ref a/\SqL K H a xs/\xs.length=n/\t xs σ H Q
theorem zjm {K:E9} {es:List Expr} {k:Nat} {t:TGs} {n:Nat} {pos:Pos} (hc:X.calm=true) (h:PGs X es t) (hK:X.K=K:=by rfl)
  (hn:(assignEach es X.env).length=n:=by rfl) (eX:(assignEach es X.env).findIdx? (·.1)=none:=by rfl):PG X (.Tuple es k pos) (zkj K n t):=by
 subst hK
 intro pins s σ H v u Q I r hw
 obtain⟨a,xs,e1,hq,hl,hw⟩:=hw
 subst e1
 cases r
 obtain⟨ae,rv,pl,hz⟩:=I.list hq
 rw[assign_Tuple]
 refine wpAny_bind (wpAny_standAt (zdO (I.ok.hd hc) pl.isList (by simp[hn,<-hl,rv.length]) eX λh' hx=> ?_))
 have I1:Inv X pins σ H {s with heap:=h'}:=I.kept (t':=s.toks) λb o e=>hx b o (Ep (Heap.lt_size e)) e
 exact h pins _ σ H xs _ Q I1 (by simpa using rv) hw
def zkk:List V->Hp->VK->Prop:=λxs H Q=>∃a,xs=[V.ref a]/\((∃kvs,Rd H a (.dK kvs)/\Q (.int kvs.length) H)\/∃ks,H a=some (.dN ks)/\Q (.int ks.length) H)
theorem zgj:vy X (.builtin "len") zkk:=by
 intro pins s σ H xs us Q I r h
 obtain⟨a,rfl,h⟩:=h
 obtain⟨u,rfl,ru⟩:=ZU r
 cases ru
 rcases h with⟨kvs,ha,q⟩|⟨ks,ha,q⟩
 ·exact zl4 I ha λt s' I'=>⟨.int kvs.length,H,I',⟨t,rfl⟩,q⟩
 ·obtain⟨hz,lo,xs,rel,o,es,ep,h1,h2,h3,h4,h5⟩:=(show ym X.prog X.w H s.heap a (.dN ks) from I.hok a _ ha)
  have hl:es.size=ks.length:=by
   have e1:es.size=xs.length:=by rw[<-Fe,h4,Eb]
   have e2:ks.length=xs.length:=by
    clear h4 h5 ha hz q e1
    induction rel with
    |nil=>rfl
    |cons _ _ ih=>simp[ih]
   omega
  refine zjl lo ⟨o,h1,h2,h3⟩ (by rw[hl];rw[sizeLine_eq] at hz;omega) λt=> ?_
  rw[hl]
  exact⟨.int ks.length,H,I.tok _,⟨t,rfl⟩,q⟩
end
theorem zfq:∀{v v':V} {u:Value},zK v u->zK v' u->v=v':=by
 intro v v' u h h'
 cases v<;>cases v'<;>simp only[zK] at h h'<;>first
  |rfl
  |(subst h;cases h';rfl)
  |(obtain⟨t,rfl⟩:=h;obtain⟨t',e⟩:=h';cases e;rfl)
  |(subst h;obtain⟨t',e⟩:=h';cases e;done)
  |(obtain⟨t,rfl⟩:=h;obtain⟨t',e⟩:=h';cases e;done)
  |(obtain⟨t,rfl⟩:=h;cases h';done)
  |(subst h;cases h';done)
theorem zcD:∀{vs vs':List V} {us:List Value},zT vs us->zT vs' us->vs=vs'
 |_,_,_,.nil,.nil=>rfl
 |_,_,_,.cons a r,.cons b s=>by rw[zfq a b,zcD r s]
section
variable {X:Cx} {pins:List (Addr×Obj)} {σ:St} {H:Hp} {s:Shared}
theorem zle (I:Inv X pins σ H s) {a:Addr} {xs ys:List V} (h:SqT X.K H a xs) (g:SqT X.K H a ys):xs=ys:=by
 obtain⟨ae,r1,⟨o,p1,p2,n,p3⟩,_⟩:=I.tuple h
 obtain⟨its',r2,⟨o',q1,q2,n',q3⟩,_⟩:=I.tuple g
 rw[p1] at q1
 cases q1
 rw[p3] at q3
 injection q3 with q3 _
 have:ae=its':=by simpa using congrArg HS q3
 subst this
 exact zcD r1 r2
theorem zlf (I:Inv X pins σ H s) {a:Addr} {xs ys:List V} (h:SqL X.K H a xs) (g:SqL X.K H a ys):xs=ys:=by
 obtain⟨ae,r1,⟨o,n,p1,_,_,p3⟩,_⟩:=I.list h
 obtain⟨its',r2,⟨o',n',q1,_,_,q3⟩,_⟩:=I.list g
 rw[p1] at q1
 cases q1
 rw[p3] at q3
 injection q3 with q3 _
 have:ae=its':=by simpa using congrArg HS q3
 subst this
 exact zcD r1 r2
theorem zfr {f:D->D->Option Bool} {K:E9} (hf:∀{v:V} {d d' e:D} {b b':Bool},f d e=some b->f d' e=some b'->Is K H v d->Is K H v d'->b=b'):∀{xs:List V} {l l' m:List D} {b b':Bool},vM f l m=some b->vM f l' m=some b'->IsL K H xs l->IsL K H xs l'->b=b':=by
 intro xs
 induction xs with
 |nil=>
  intro l l' m b b' h h' i i'
  cases i
  cases i'
  rw[h] at h'
  exact EE h'
 |cons v xs ih=>
  intro l l' m b b' h h' i i'
  cases i with
  | @cons _ d _ l a i=>
   cases i' with
   | @cons _ d' _ l' a' i'=>
    cases m with
    |nil=>unfold vM at h h';cases h;cases h';rfl
    |cons e m=>
     unfold vM at h h'
     obtain⟨x,h1,h2⟩:=Et.1 h
     obtain⟨x',qJ,qH⟩:=Et.1 h'
     obtain⟨y,h3,rfl⟩:=Ez.1 h2
     obtain⟨y',qG,rfl⟩:=Ez.1 qH
     rw[hf h1 qJ a a',ih h3 qG i i']
theorem zlg (I:Inv X pins σ H s):∀(n:Nat) {v:V} {d d' e:D} {b b':Bool},eqG n d e=some b->eqG n d' e=some b'->Is X.K H v d->Is X.K H v d'->b=b':=by
 intro n
 have flat:∀{n:Nat} {v:V} {d d' e:D} {b b':Bool},d=d'->eqG n d e=some b->eqG n d' e=some b'->b=b':=λ{n v d d' e b b'} q h h'=>by
  subst q
  rw[h] at h'
  exact EE h'
 induction n with
 |zero=>
  intro v d d' e b b' h h' i i'
  cases i<;>cases i'<;>first
   |exact flat (v:= .non) rfl h h'
   |(cases e<;>simp[eqG] at h)
   |(cases e<;>simp[eqG] at h')
 |succ n ih=>
  intro v d d' e b b' h h' i i'
  cases i<;>cases i'<;>first
   |exact flat (v:= .non) rfl h h'
   |(cases e<;>simp[eqG] at h h';done)
   |skip
  ·rename_i a xs l hs hl ys l' gl gs
   have:=zle I hs gs
   subst this
   cases e<;>simp only[eqG,reduceCtorEq] at h h'
   obtain⟨x,h1,rfl⟩:=Ez.1 h
   obtain⟨x',qJ,rfl⟩:=Ez.1 h'
   rw[zfr (f:=eqG n) (λa b c d=>ih a b c d) h1 qJ hl gl,show l.length=l'.length by have:=hl.len;have:=gl.len;omega]
  ·rename_i a xs l hs hl ys l' gl gs
   have:=zlf I hs gs
   subst this
   have m7:l.length=l'.length:=by have:=hl.len;have:=gl.len;omega
   cases e<;>simp only[eqG,reduceCtorEq] at h h'
   rw[m7] at h
   split at h
   ·rename_i hq
    rw[if_pos hq] at h'
    exact zfr (f:=eqG n) (λa b c d=>ih a b c d) h h' hl gl
   ·rename_i hq
    rw[if_neg hq] at h'
    cases h
    cases h'
    rfl
end
section
variable {X:Cx}
def zml (K:E9) (neg:Bool):R2:=λx y H Q=>∃(p:Addr) (xs:List V) (ds:List D) (d:D) (bs:List Bool),y= .ref p/\SqL K H p xs/\IsL K H xs ds/\Is K H x d/\bs.length=ds.length/\(∀(i:Nat) e b,ds[i]? =some e->bs[i]? =some b->eqG 39 e d=some b)/\Q (.bl (neg !=bs.any id)) H
theorem zhN {K:E9} {H:Hp}:∀{xs:List V} {ds:List D},IsL K H xs ds->∀{i:Nat} {v:V},xs[i]? =some v->∃d,ds[i]? =some d/\Is K H v d
 |_,_,.nil,_,_,e=>by simp at e
 |_,_,.cons h _,0,_,e=>by simp at e;subst e;exact⟨_,rfl,h⟩
 |_,_,.cons _ l,i+1,_,e=>by
  obtain⟨d,e1,e2⟩:=zhN l (i:=i) (by simpa using e)
  exact⟨d,by simpa using e1,e2⟩
def zfs (X:Cx) (H:Hp) (d:D) (u:Value) (b:Bool):Prop:=∃v e,zK v u/\Is X.K H v e/\eqG 39 e d=some b
open Classical in
noncomputable def Xm (X:Cx) (H:Hp) (d:D) (u:Value):Bool:=decide (zfs X H d u true)
open Classical in
theorem zbQ {pins:List (Addr×Obj)} {σ:St} {H:Hp} {s:Shared} {d:D} {u:Value} {b:Bool} (I:Inv X pins σ H s) (h:zfs X H d u b):Xm X H d u=b:=by
 unfold Xm
 obtain⟨v,e,h1,h2,h3⟩:=id h
 cases b with
 |true=>exact decide_eq_true h
 |false=>
  refine decide_eq_false ?_
  rintro⟨v',e',g1,g2,g3⟩
  rw[zfq h1 g1] at h2
  exact absurd (zlg I 39 h3 g3 h2 g2) ∅
theorem UH {pins:List (Addr×Obj)} {σ:St} {H:Hp} {s:Shared} {xs:List V} {ds:List D} {bs:List Bool} {d:D} {ae:List Value} (I:Inv X pins σ H s) (r:zT xs ae) (hi:IsL X.K H xs ds) (hl:bs.length=ds.length) (he:∀(i:Nat) e b,ds[i]? =some e->bs[i]? =some b->eqG 39 e d=some b):
  ae.map (Xm X H d)=bs/\∀u∈ae,zfs X H d u (Xm X H d u):=by
 have tJ:=hi.len
 have kA:=r.length
 have key:∀(i:Nat) u,ae[i]? =some u->∃b,bs[i]? =some b/\zfs X H d u b:=λi u e=>by
  have bS:i<xs.length:=by rw[kA];exact (E8.1 e).1
  obtain⟨u',e1,e2⟩:=r.get (DZ bS)
  rw[e] at e1
  cases e1
  obtain⟨dd,e3,e4⟩:=zhN hi (DZ bS)
  have hb:i<bs.length:=by omega
  exact⟨bs[i],DZ hb,_,dd,e2,e4,he i dd _ e3 (DZ hb)⟩
 refine⟨FY λi=> ?_,λu hu=> ?_⟩
 ·rw[Ef]
  cases e:ae[i]? with
  |none=>rw[EY (by have:=FK.1 e;omega)];rfl
  |some u=>
   obtain⟨b,h1,h2⟩:=key i u e
   rw[h1]
   show some (Xm X H d u)=_
   rw[zbQ I h2]
 ·obtain⟨i,e⟩:=Fj hu
  obtain⟨b,h1,h2⟩:=key i u e
  rw[zbQ I h2]
  exact h2
theorem zbR {m:Nat} {K:E9} (hr:vk m X.A) (hK:X.K=K:=by rfl):OpR X (compareOp .NotIn) (zml K true):=by
 subst hK
 intro pins s σ H x y v u Q I rx ry h
 obtain⟨p,xs,ds,d,bs,rfl,hq,hi,hx,hl,he,q⟩:=h
 have hu:X.A.units+41<cLine:=F8 ⋯ hr.units
 cases ry
 obtain⟨ae,r,pl,hz⟩:=I.list hq
 obtain⟨e1,e2⟩:=UH I r hi hl he
 refine SeqAt.notIn_listAt (Xm X H d) pl.isList (λw hw=> ?_) ⟨.bl _,H,I,rfl,?_⟩
 ·obtain⟨v',e',g1,g2,g3⟩:=e2 w (by simpa using hw)
  exact YR I 39 (A:=X.A.in1) g3 (by show X.A.units+1+39<cLine;omega) g2 hx g1 rx
 ·rw[show ae.toArray.any (Xm X H d)=bs.any id by rw[<-e1,JL];simp[Function.comp_def]]
  rw[JD] at q
  exact q
end
section
variable {prog:Program} {w:World} {A:Around} {E:Value->Shared->Prop} {s:Shared}
theorem zbg {r d:Addr} {kvs:List (Key×Value)} {ep:Nat} {R:List Value->Shared->Prop} (hh:A.handled=none) (hv:s.heap.IsItemsView r d) (hm:s.heap.DictAt (zN prog w) d kvs ep) (hn:kvs.length<=sizeLine)
  (fin:∀(g:Heap) (k:Nat) (as:List Addr),(∀b o,s.heap.get? b=some o->g.get? b=some o)->s.heap.objs.size<g.objs.size->as.length=kvs.length->KdxG (zN prog w) kvs s.heap.objs.size g as->R (as.map Value.ref) {s with heap:=g,toks:=k}):
  wpAny (model prog w) A (collect (.ref r)) R E s:=by
 have lr:r<s.heap.objs.size:=let ⟨_,ho,_⟩:=hv;Heap.lt_size ho
 have ld:d<s.heap.objs.size:=hm.lt_size
 unfold collect
 refine wpAny_bind (wpAny_runValue (codeAny_builtin entry_proto_collect' ?_))
 rw[Around.under_plainId HB _]
 refine wpAny_bind (m:=newList []) (wpAny_newObj_type (wpAny_pure ⟨plainId_quiet Gu _,codeAny_builtin entry_list_iadd' ?_⟩))
 rw[Around.under_plainId Gu _]
 have dZ:(s.heap.push {cls:= .type "list",data:= .seq ([]:List Value).toArray}).get? s.heap.objs.size=some {cls:= .type "list",data:= .seq #[]}:=Heap.get?_push_size _ rfl
 have uX:s.heap.objs.size<=(s.heap.push {cls:= .type "list",data:= .seq ([]:List Value).toArray}).objs.size:=by rw[Heap.size_push];exact Gr _
 have step:=kdx_extend (A:=A) (s:={s with heap:=s.heap.push {cls:= .type "list",data:= .seq ([]:List Value).toArray}}) (knd:=zN prog w) (kvs:=kvs) (ep:=ep)
  (R:=λ(q:Result) (s':Shared)=>∃(g:Heap) (k:Nat) (as:List Addr) (xs:Array Value) (c:Nat),q= .ok (.ret (.ref s.heap.objs.size))/\s'={s with heap:=g,toks:=k}/\(∀b o,s.heap.get? b=some o->g.get? b=some o)/\g.get? s.heap.objs.size=some {cls:= .type "list",dict:=none,data:= .seq xs c,slots:= #[]}/\as.length=kvs.length/\KdxG (zN prog w) kvs s.heap.objs.size g as/\xs.toList=as.map Value.ref)
  hh (let ⟨o,ho,x⟩:=hv;⟨o,Heap.get?_push_of_some _ ho,x⟩) (hm.push _) s.heap.objs.size (GR lr) (Ep ld) (.ref s.heap.objs.size) 0 dZ
  (λg k xs c as kp ha hl hG hx=>⟨g,k,as,xs,c,rfl,rfl,λb o e=>kp b o (Ep (Heap.lt_size e)) (Heap.get?_push_of_some _ e),ha,hl,hG.low uX,hx⟩) hn
 have done:∀(g:Heap) (k:Nat) (as:List Addr) (xs:Array Value) (c:Nat),(∀b o,s.heap.get? b=some o->g.get? b=some o)->g.get? s.heap.objs.size=some {cls:= .type "list",dict:=none,data:= .seq xs c,slots:= #[]}->as.length=kvs.length->KdxG (zN prog w) kvs s.heap.objs.size g as->xs.toList=as.map Value.ref->R xs.toList {s with heap:=g,toks:=k}:=λg k as xs c kp ha hl hG hx=>by
  rw[hx]
  exact fin g k as kp (Heap.lt_size ha) hl hG
 refine wpAny_mono step (λf s' x=> ?_) λe s' x=> ?_
 ·cases f with
  |done f0=>
   obtain⟨g,k,as,xs,c,e,rfl,kp,ha,hl,hG,hx⟩:=x
   cases e
   exact wpAny_bind (wpAny_load ha (wpAny_pure (done g k as xs c kp ha hl hG hx)))
  |again c0=>
   refine⟨x.1,codeAny_mono x.2 λq s2 y=> ?_⟩
   obtain⟨g,k,as,xs,c,rfl,rfl,kp,ha,hl,hG,hx⟩:=y
   exact wpAny_bind (wpAny_load ha (wpAny_pure (done g k as xs c kp ha hl hG hx)))
 ·obtain⟨_,_,_,_,_,z,_⟩:=x
  cases z
theorem zhO {vs:List Value} {fs:List Int} (hl:fs.length=vs.length) (nd:fs.Nodup)
  (h:∀i,i<vs.length->∃(a:Addr) (o:Obj) (ae:Array Value) (n:Nat) (t:Tok) (r:List Value),vs.getD i Value.none= .ref a/\s.heap.get? a=some o/\o.cls= .type "tuple"/\o.data= .seq ae n/\ae.toList= .int (fs.getD i 0) t::r) (h2:2<=vs.length):zdE prog w A (λi=>fs.getD i 0) vs s:=by
 have firsts:∃ks:List Value,KatTups s.heap vs ks/\ks.length=vs.length/\∀v∈ks,∃i t,v=Value.int i t:=by
  have key:∀(vs:List Value) (fs:List Int),fs.length=vs.length->(∀i,i<vs.length->∃(a:Addr) (o:Obj) (ae:Array Value) (n:Nat) (t:Tok) (r:List Value),vs.getD i Value.none= .ref a/\s.heap.get? a=some o/\o.cls= .type "tuple"/\o.data= .seq ae n/\ae.toList= .int (fs.getD i 0) t::r)->∃ks:List Value,KatTups s.heap vs ks/\ks.length=vs.length/\∀v∈ks,∃i t,v=Value.int i t:=by
   intro vs
   induction vs with
   |nil=>intro fs _ _;exact⟨[],KatTups.nil,rfl,by simp⟩
   |cons v vs ih=>
    intro fs hl h
    cases fs with
    |nil=>simp at hl
    |cons f fs=>
     obtain⟨ks,k1,k2,k3⟩:=ih fs (by simpa using hl) λi hi=>by
      have:=h (i+1) (by simpa using hi)
      simpa using this
     obtain⟨a,o,ae,n,t,r,e1,e2,e3,e4,e5⟩:=h 0 (by simp)
     have e1:v= .ref a:=by simpa using e1
     subst e1
     refine⟨Value.int f t::ks,KatTups.cons e2 e3 e4 (f:=Value.int f t) (by rw[<-Fo,e5];rfl) k1,by simp[k2],λv hv=> ?_⟩
     rcases Er.1 hv with rfl|hv
     ·exact⟨_,_,rfl⟩
     ·exact k3 v hv
  exact key vs fs hl h
 obtain⟨ks,k1,k2,k3⟩:=firsts
 refine⟨tuples' (Value.type "int" !=Value.type "tuple"),λQ q=>kat_kind k1 ⋯ (T:= .type "int") (λv hv=> ?_) ∅ q,λi j C fE kz dC hc=> ?_⟩
 ·obtain⟨i,t,rfl⟩:=k3 v hv
  exact .now
 ·obtain⟨a,o,ae,n,t,r,e1,e2,e3,e4,e5⟩:=h i fE
  obtain⟨a',o',its',n',t',r',g1,g2,g3,g4,g5⟩:=h j kz
  unfold kas_ask
  rw[e1,g1]
  rw[show (Value.type "int" !=Value.type "tuple")=true by decide]
  refine kat_lt e2 e4 g2 g4 ?_
  rw[e5,g5,G4]
  have cq:fs.getD i 0≠fs.getD j 0:=λz=>by
   have cA:i<fs.length:=by omega
   have dR:j<fs.length:=by omega
   simp only[Ec,DZ cA,DZ dR,HV] at z
   exact dC ((FE nd).1 z)
  refine kat_cons (wpAny_eqBool_int ?_)
  refine kat_go (λe=>absurd (by simpa using e) cq) λ_=>kat_no (kat_lt_int hc)
theorem zcE {r d:Addr} {kvs:List (Key×Value)} {ep:Nat} {ns:List Int} {Q:Value->Shared->Prop} (hh:A.handled=none) (hv:s.heap.IsItemsView r d) (hm:s.heap.DictAt (zN prog w) d kvs ep) (hk:kvs.map (·.1)=ns.map F6) (nd:ns.Nodup) (cJ:kvs.length<64)
  (h:∀(D:Addr) (h':Heap) (tk e:Nat) (as:List Addr) (p:Array Nat),(∀b o,s.heap.get? b=some o->h'.get? b=some o)->s.heap.objs.size<D->(∀a∈as,s.heap.objs.size<a/\a<D)->as.Pairwise (· < ·)->as.length=kvs.length->(∀(j:Nat) a,as[j]? =some a->∃key k x,kvs[j]? =some (k,x)/\Wy k key=true/\h'.get? a=some {cls:= .type "tuple",data:= .seq #[key,x]})->
   PmN kvs.length p->ZI (λi=>ns.getD i 0) p kvs.length->h'.get? D=some (seqObj "list" (FC (p.toList.map λi=>(as.map Value.ref).getD i Value.none)) e)->Q (.ref D) {s with heap:=h',toks:=tk}):
  wpAny (model prog w) A (call (.builtin "sorted") [.ref r]) Q E s:=by
 have hn:kvs.length<=sizeLine:=WN cJ
 have eZ:ns.length=kvs.length:=by rw[<-Eb (f:=(F6:Int->Key)),<-hk,Eb]
 refine call_function_entry kind_sorted plain_sorted entry_sorted (args_sorted1 _) ?_
 unfold Builtin.«sorted»
 refine wpAny_bind (m:=checkCount "sorted" 1 1 _) (wpAny_pure (wpAny_bind (zbg (A:=A.in1) hh hv hm hn λg tk as kp lt hl hG=> ?_)))
 have fS:(as.map Value.ref).length=kvs.length:=by rw[Eb];exact hl
 refine wpAny_bind (wpAny_newList ?_ (by rw[fS];exact hn))
 have dZ:(g.push {cls:= .type "list",data:= .seq (as.map Value.ref).toArray}).get? g.objs.size=some (seqObj "list" (as.map Value.ref).toArray 0):=Heap.get?_push_size _ rfl
 have pairs:∀(j:Nat) a,as[j]? =some a->∃key k x,kvs[j]? =some (k,x)/\Wy k key=true/\g.get? a=some {cls:= .type "tuple",data:= .seq #[key,x]}:=hG.pairs
 refine wpAny_bind (wpAny_holding (wpAny_call_entry slot_list_sort ⟨_,dZ,rfl⟩ entry_list_sort (Ud (λi=>ns.getD i 0) dZ (by rw[fS];exact cJ) (λh2 g2 jf=>zhO (by rw[fS];exact eZ) nd (λi hi=> ?_) h2) λp pm fN=>⟨_,rfl,?_⟩) (args_list_sort _)))
 ·rw[fS] at hi
  have kB:i<as.length:=by omega
  obtain⟨key,k,x,f1,f2,f3⟩:=pairs i _ (DZ kB)
  have BG:k= .inl (ns.getD i 0):=by
   have e1:(kvs.map (·.1))[i]? =some k:=by rw[Ef,f1];rfl
   have cA:i<ns.length:=by omega
   rw[hk,Ef,DZ cA] at e1
   rw[Ec,DZ cA]
   exact (EE e1).symm
  subst BG
  rcases yx f2 with⟨m,t,e1,rfl⟩|⟨_,_,e1,_⟩
  ·injection e1 with e1
   subst e1
   exact⟨as[i],_,_,_,t,[x],by simp[Ec,kB],jf _ _ (Ep (Heap.lt_size f3)) (Heap.get?_push_of_some _ f3),rfl,rfl,rfl⟩
  ·cases e1
 ·rw[fS] at pm fN
  obtain⟨e,he⟩:=sortedHeap_at (out:=FC (p.toList.map λi=>(as.map Value.ref).getD i Value.none)) dZ
  have old:∀b o,g.get? b=some o->(sortedHeap (g.push {cls:= .type "list",data:= .seq (as.map Value.ref).toArray}) g.objs.size (as.map Value.ref) (FC (p.toList.map λi=>(as.map Value.ref).getD i Value.none))).get? b=some o:=λb o eb=>by
   have ic:=Heap.lt_size eb
   rw[sortedHeap_old (Ep ic) (by rw[Heap.size_push];exact Fu ic)]
   exact Heap.get?_push_of_some _ eb
  refine wpAny_pure ⟨_,rfl,h _ _ tk e as p (λb o eb=>old b o (kp b o eb)) lt (λa ha=>⟨hG.above a ha,?_⟩) hG.rise hl (λj a ja=> ?_) pm fN he⟩
  ·obtain⟨j,ja⟩:=Fj ha
   obtain⟨_,_,_,_,_,f3⟩:=pairs j a ja
   exact Heap.lt_size f3
  ·obtain⟨key,k,x,f1,f2,f3⟩:=pairs j a ja
   exact⟨key,k,x,f1,f2,old _ _ f3⟩
end
section
variable {X:Cx} {pins:List (Addr×Obj)} {σ:St} {H H':Hp} {s:Shared} {h':Heap}
theorem zhP {t':Nat} (I:Inv X pins σ H s) (k:∀b u,s.heap.get? b=some u->h'.get? b=some u) (old:WL H H') (new:∀b u,H' b=some u->H b=some u\/s.heap.objs.size<=b) (ok:∀b u,H' b=some u->H b=none->ym X.prog X.w H' h' b u):
  Inv X pins σ H' {s with heap:=h',toks:=t'}:=by
 refine I.un ⟨λb u q _ _ _=>k b u q,λb u q _ _ _=>⟨u.slots,k b u q⟩,λb u q n _=> ?_,λb u q _=>⟨u,k b u q⟩,λb xs q=>old _ _ q,λb u xs q=>old _ _ q,λb ps q=>⟨#[],by rw[old _ _ q];simp⟩⟩ λb u q=> ?_
 ·cases e:H' b with
  |none=>rfl
  |some o=>
   rcases new b o e with z|z
   ·rw[n] at z;cases z
   ·exact absurd (EK (Heap.lt_size q) z) (Fv _)
 ·cases e:H b with
  |none=>exact ok b u q e
  |some o=>
   have:=old b o e
   rw[q] at this
   cases this
   exact (I.hok b _ e).stay (λc v _ z=>k c v z) (λc z=>old c _ z) λc xs z=>old c _ z
end
section
variable {X:Cx}
noncomputable def zlh (kvs:List (Key×V)) (ns:List Int):List (Int×V):=(yQ ns).map λk=>(k,(Zq kvs (.inl k)).getD .non)
inductive WY (H:Hp):List Addr->List (Int×V)->Prop
 |nil:WY H [] []
 |cons {p:Addr} {x:Int×V} {ps:List Addr} {xs:List (Int×V)}:H p=some (.tup [.int x.1,x.2])->WY H ps xs->WY H (p::ps) (x::xs)
def zft:List V->Hp->VK->Prop:=λxs H Q=>∃(p a:Addr) (kvs:List (Key×V)) (ns:List Int),xs=[.ref p]/\H p=some (zbM p a)/\H a=some (.dK kvs)/\kvs.map (·.1)=ns.map F6/\ns.length<64/\
 ∀H1 ps l,WL H H1->WY H1 ps (zlh kvs ns)->H1 l=none->Q (.ref l) (upd H1 l (.lst (ps.map V.ref)))
theorem zmm {P:Program} {w:World} {h:Heap} {a:Addr} {kvs:List (Key×V)} {vs:List (Key×Value)} {ns:List Int} {ep:Nat} (rel:KV kvs vs) (hm:h.DictAt (zN P w) a vs ep) (hk:kvs.map (·.1)=ns.map F6):ns.Nodup/\vs.map (·.1)=ns.map F6:=by
 have e:vs.map (·.1)=kvs.map (·.1):=by
  clear hm hk
  unfold KV at rel
  induction rel with
  |nil=>rfl
  |cons a _ ih=>rw[Eg,Eg,ih,a.1]
 obtain⟨o,es,_,_,_,_,_,nd⟩:=hm
 rw[e,hk] at nd
 exact⟨(EZ.1 nd).imp λh z=>h (by rw[z]),e.trans hk⟩
noncomputable def zcF (H:Hp) (as:List Addr) (kvs:List (Key×V)):Hp:=λb=>match (as.zip kvs).find? λx=>decide (x.1=b) with
 |some x=>some (.tup [kV x.2.1,x.2.2])
 |none=>H b
theorem zfu {H:Hp} {as:List Addr} {kvs:List (Key×V)} (nd:as.Nodup) {j:Nat} {a:Addr} {k:Key} {v:V} (h1:as[j]? =some a) (h2:kvs[j]? =some (k,v)):zcF H as kvs a=some (.tup [kV k,v]):=by
 have:(as.zip kvs).find? (λx=>decide (x.1=a))=some (a,k,v):=by
  induction as generalizing j kvs with
  |nil=>simp at h1
  |cons b as ih=>
   cases kvs with
   |nil=>simp at h2
   |cons q kvs=>
    rw[G4,F1]
    cases j with
    |zero=>simp at h1 h2;subst h1 h2;simp
    |succ j=>
     have h1:as[j]? =some a:=by simpa using h1
     have cq:b≠a:=λe=>(Fw.1 nd).1 (e ▸ Ei h1)
     simp only[decide_eq_false cq]
     exact ih (Fw.1 nd).2 h1 (by simpa using h2)
 unfold zcF
 rw[this]
theorem VA {H:Hp} {as:List Addr} {kvs:List (Key×V)} {b:Addr} (h:b∉as):zcF H as kvs b=H b:=by
 have:(as.zip kvs).find? (λx=>decide (x.1=b))=none:=GW.2 λx hx=>by
  obtain⟨x1,x2⟩:=x
  have:=(Gj hx).1
  simp
  exact λe=>h (e ▸ this)
 unfold zcF
 rw[this]
theorem zfv:∀{kvs:List (Key×V)} {j:Nat} {k:Key} {v:V},(kvs.map (·.1)).Nodup->kvs[j]? =some (k,v)->Zq kvs k=some v
 |a::r,0,k,v,nd,h=>by simp at h;subst h;simp[Zq]
 |a::r,j+1,k,v,nd,h=>by
  rw[Eg,Fw] at nd
  have h:r[j]? =some (k,v):=by simpa using h
  have:a.1≠k:=λe=>nd.1 (Eh.2 ⟨_,Ei h,e.symm⟩)
  have ih:=zfv nd.2 h
  unfold Zq at ih ⊢
  rw[F1,decide_eq_false this]
  exact ih
theorem zdP (hc:X.calm=true):vy X (.builtin "sorted") zft:=by
 intro pins s σ H xs us Q I r h
 obtain⟨p,a,kvs,ns,rfl,hp,ha,hk,cJ,q⟩:=h
 obtain⟨u,rfl,ru⟩:=ZU r
 cases ru
 obtain⟨hz,lo,vs,rel,dd⟩:=zdh I.hok ha
 obtain⟨ep,dB⟩:=dd.dictAt
 have hv:s.heap.IsItemsView p a:=(show ym X.prog X.w H s.heap p (zbM p a) from I.hok p _ hp).1
 obtain⟨nd,iw⟩:=zmm rel dB hk
 have B7:vs.length=ns.length:=by rw[<-Eb (f:=(·.1)),iw,Eb]
 refine zcE (I.ok.hd hc) hv dB iw nd ⋯ λD h' tk e as pm kp hD fj g8 hl pairs pQ kO km=> ?_
 have sS:as.Nodup:=g8.imp λh e=>absurd h (by rw[e];exact Fv _)
 have gU:kvs.length=ns.length:=by rw[<-Eb (f:=(·.1)),hk,Eb]
 have Al:(kvs.map (·.1)).Nodup:=by
  rw[hk,FW,EZ]
  exact nd.imp λh z=>h (by injection z)
 rw[B7] at pQ kO hl
 have aI:pm.toList.Perm (F7 ns.length):=by
  have:=HL pQ
  simpa using this
 have sM:∀i∈pm.toList,i<ns.length:=λi hi=>Fb.1 (aI.mem_iff.1 hi)
 have ku:pm.toList.map (λi=>ns.getD i 0)=yQ ns:=by
  refine TV ?_ ?_
  ·refine (aI.map _).trans ?_
   have:(F7 ns.length).map (λi=>ns.getD i 0)=ns:=by
    apply Jl
    ·simp
    ·intro i h1 h2
     simp[Ec,h2]
   rw[this]
  ·rw[G6]
   intro i j hi hj dC
   have cm:i<pm.size:=by simpa using hi
   have dj:j<pm.size:=by simpa using hj
   have hs:=pQ.size
   have:=Uc kO (EL dC) ⋯
   unfold Kr at this
   simp only[Jk,IK]
   rw[show pm.getD i 0=pm[i] by simp[GY,cm],show pm.getD j 0=pm[j] by simp[GY,dj]] at this
   exact this
 have at_:∀i,i<ns.length->∃a v,as[i]? =some a/\as.getD i 0=a/\kvs[i]? =some (.inl (ns.getD i 0),v)/\Zq kvs (.inl (ns.getD i 0))=some v:=λi hi=>by
  have kB:i<as.length:=by omega
  have ui:i<kvs.length:=by omega
  have j8:kvs[i].1= .inl (ns.getD i 0):=by
   have:(kvs.map (·.1))[i]? =(ns.map F6)[i]? :=by rw[hk]
   rw[Ef,Ef,DZ ui,DZ hi] at this
   rw[Ec,DZ hi]
   exact EE this
  have iw:kvs[i]? =some (.inl (ns.getD i 0),kvs[i].2):=by rw[DZ ui,<-j8]
  exact⟨as[i],kvs[i].2,DZ kB,by simp[Ec,kB],iw,zfv Al iw⟩
 have oH:∀b u,H b=some u->b∉as:=λb u e hb=>absurd (IV (I.hok.lt e) (fj b hb).1) (Fv _)
 have sm:WL H (zcF H as kvs):=λb u e=>by rw[VA (oH b u e)];exact e
 have CB:D∉as:=λhb=>absurd (fj D hb).2 (Fv _)
 have Cz:zcF H as kvs D=none:=by rw[VA CB];exact I.hok.fresh (EL hD)
 have tups:WY (zcF H as kvs) (pm.toList.map λi=>as.getD i 0) (zlh kvs ns):=by
  unfold zlh
  rw[<-ku,F3]
  have:∀l:List Nat,(∀i∈l,i<ns.length)->WY (zcF H as kvs) (l.map λi=>as.getD i 0) (l.map ((λk=>(k,(Zq kvs (.inl k)).getD .non)) ∘ λi=>ns.getD i 0)):=by
   intro l
   induction l with
   |nil=>intro _;exact .nil
   |cons i l ih=>
    intro hl
    obtain⟨a',v,e1,e2,e3,e4⟩:=at_ i (hl i (Em ..))
    refine .cons ?_ (ih λj hj=>hl j (Ej _ hj))
    dsimp only[HG]
    rw[e2,e4,zfu sS e1 e3]
    rfl
  exact this _ sM
 refine⟨.ref D,_,zhP (H':=upd (zcF H as kvs) D (.lst ((pm.toList.map λi=>as.getD i 0).map V.ref))) (t':=tk) I kp (λb u e=> ?_) (λb u e=> ?_) (λb u e n=> ?_),rfl,q _ _ D sm tups Cz⟩
 ·have:b≠D:=Ep (IV (I.hok.lt e) hD)
  rw[yb this]
  exact sm b u e
 ·by_cases hb:b=D
  ·exact .inr (hb ▸ EL hD)
  ·rw[yb hb] at e
   by_cases hm:b∈as
   ·exact .inr (EL (fj b hm).1)
   ·rw[VA hm] at e
    exact .inl e
 ·by_cases hb:b=D
  ·subst hb
   rw[yj] at e
   cases e
   have fQ:pm.toList.length=ns.length:=by rw[aI.length_eq,Hc]
   refine⟨by rw[Eb,Eb,fQ];exact WN cJ,_,_,?_,km⟩
   have:∀l:List Nat,(∀i∈l,i<ns.length)->zT ((l.map λi=>as.getD i 0).map V.ref) (l.map λi=>(as.map Value.ref).getD i Value.none):=by
    intro l
    induction l with
    |nil=>intro _;exact .nil
    |cons i l ih=>
     intro hl
     obtain⟨a',v,e1,e2,_⟩:=at_ i (hl i (Em ..))
     refine .cons ?_ (ih λj hj=>hl j (Ej _ hj))
     dsimp only
     rw[e2,Ec,Ef,e1]
     rfl
   exact this _ sM
  ·rw[yb hb] at e
   by_cases hm:b∈as
   ·obtain⟨j,hj⟩:=Fj hm
    have mh:j<ns.length:=by rw[<-hl];exact (E8.1 hj).1
    obtain⟨a',v,e1,_,e3,_⟩:=at_ j mh
    rw[hj] at e1
    cases e1
    rw[zfu sS hj e3] at e
    cases e
    obtain⟨key,k,x,f1,f2,f3⟩:=pairs j b hj
    obtain⟨x',g1,g2⟩:=zeE rel e3
    rw[f1] at g1
    cases g1
    exact⟨by show 2<=sizeLine;decide,[key,x],.cons (zkg (P:=X.prog) (w:=X.w) f2) (.cons g2 .nil),_,f3,rfl,_,rfl⟩
   ·rw[VA hm] at e
    rw[n] at e
    cases e
end
section
variable {X:Cx}
theorem zdQ {prog:Program} {w:World} {A:Around} {E:Value->Shared->Prop} {s:Shared} {T:String} {r d:Addr} {n:Nat} {P:Nat->Value->Prop} {OK:Heap->Prop} {Q:Value->Shared->Prop} (K:GX prog w T r d n P OK) (hh:A.handled=none) (hok:OK s.heap) (cJ:n<64) {ns:List Int} (ip:∀vs:List Value,vs.length=n->(∀(j:Nat) (v:Value),vs[j]? =some v->P j v)->IntsAre vs ns)
  (h:∀(D:Addr) (h':Heap) (tk e:Nat) (out:Array Value),(∀b o,s.heap.get? b=some o->h'.get? b=some o)->s.heap.objs.size<=D->h'.get? D=some (seqObj "list" out e)->IntsAre out.toList (yQ ns).reverse->Q (.ref D) {s with heap:=h',toks:=tk}):
  wpAny (model prog w) A (call (.builtin "sorted") [.ref r] [(Str.ofString "reverse",.bool true)]) Q E s:=by
 have hn:n<=sizeLine:=WN cJ
 refine call_function_entry_kw kind_sorted plain_sorted entry_sorted (args_sorted_rev _ _) ?_
 unfold Builtin.«sorted»
 refine wpAny_bind (m:=checkCount "sorted" 1 1 _) (wpAny_pure (wpAny_bind (XH (A:=A.in1) K hh hok hn λg tk acc kp lt bb=> ?_)))
 have hl:acc.toList.length=n:=by rw[Fe];exact bb.1
 have hI:=ip acc.toList hl (λj v e=>bb.2 j v (by rw[<-Fo];exact e))
 refine wpAny_bind (wpAny_newList ?_ (by rw[hl];exact hn))
 have dZ:(g.push {cls:= .type "list",data:= .seq acc.toList.toArray}).get? g.objs.size=some (seqObj "list" acc.toList.toArray 0):=Heap.get?_push_size _ rfl
 refine wpAny_bind (wpAny_holding (wpAny_call_entry_kw slot_list_sort ⟨_,dZ,rfl⟩ entry_list_sort (list_sort_tree_rev dZ hI ⋯ λout ns' a1 a2 a3=>⟨_,rfl,?_⟩) (args_list_sort_rev _ _)))
 obtain⟨e,he⟩:=sortedHeap_at (out:=out) dZ
 refine wpAny_pure ⟨_,rfl,h _ _ tk e out (λb o eb=> ?_) (EL lt) he ?_⟩
 ·have ic:=Heap.lt_size (kp b o eb)
  rw[sortedHeap_old (Ep ic) (by rw[Heap.size_push];exact Fu ic)]
  exact Heap.get?_push_of_some _ (kp b o eb)
 ·have:ns'.reverse=yQ ns:=by
   refine TV ((List.reverse_perm _).trans a2) ?_
   rw[List.pairwise_reverse]
   exact a3
  rw[<-this,List.reverse_reverse]
  exact a1
def zhQ (K:E9) (te:TE):TE:=λσ H Q=>zde K "dict" zbF te σ H λx H1=>∃(p a:Addr) (kvs:List (Key×V)) (ns:List Int),x= .ref p/\H1 p=some (WB p a)/\Rd H1 a (.dK kvs)/\kvs.map (·.1)=ns.map F6/\ns.length<64/\∀l,H1 l=none->Q (.ref l) (upd H1 l (.lst ((yQ ns).reverse.map V.int)))
theorem zhR {K:E9} {e:Expr} {te:TE} {pp kp pos tq:Pos} {tp:Nat} (hc:X.calm=true) (hg:Gl X "sorted") (hm:X.mg "sorted"=none) (ha:PE X e (zde K "dict" zbF te))
  (Ca:starEach [e] X.env=[(false,eval e X.env)]:=by rfl) (he:backTo pos (starEach [e] X.env)=(false,eval e X.env)::backTo pos (starEach [] X.env):=by rfl) (fQ:(backTo pos (starEach [e] X.env)).any (·.1)=false:=by rfl):
  PE X (.Call (.Name "sorted" pp) [e] [⟨some "reverse",.Constant (.bool true) tp tq,kp⟩] pos) (zhQ K te):=by
 intro pins s σ H Q I h
 refine wpAny_Call_Name_kw (ZT I hg hm boot_sorted ?_ ∅ ∅)
 refine callWith_kw (thn (za ha zf Ca pos pins s σ H (λvs H1=>∃x,vs=[x]/\∃(p a:Addr) (kvs:List (Key×V)) (ns:List Int),x= .ref p/\H1 p=some (WB p a)/\Rd H1 a (.dK kvs)/\kvs.map (·.1)=ns.map F6/\ns.length<64/\∀l,H1 l=none->Q (.ref l) (upd H1 l (.lst ((yQ ns).reverse.map V.int)))) I ?_) λus s1 ⟨vs,H1,I1,r1,q1⟩=> ?_) he fQ rfl rfl
 ·have h:zde K "dict" zbF te σ H _:=h
  show zde K "dict" zbF te σ H λx H1=>∃y,[x]=[y]/\_
  simpa only[Io,and_true,exists_eq_left'] using h
 obtain⟨x,rfl,p,a,kvs,ns,rfl,hp,Cr,hk,cJ,q⟩:=q1
 obtain⟨u,rfl,ru⟩:=ZU r1
 cases ru
 show wpAny _ _ (evalAll [(do let v <-eval (.Constant (.bool true) tp tq) X.env;standAt pos;pure v)]) _ _ s1
 refine wpAny_evalAll_cons (wpAny_bind (wpAny_of_eq (a:=Value.bool true) rfl (wpAny_bind (wpAny_standAt (wpAny_pure ?_)))))
 refine wpAny_evalAll_nil ?_
 obtain⟨hz,lo,vs,rel,dd⟩:=XA I1.hok Cr
 obtain⟨ep,dB⟩:=dd.dictAt
 have hv:Ht s1.heap p a:=(show ym X.prog X.w H1 s1.heap p (WB p a) from I1.hok p _ hp).1
 have hl:vs.length=ns.length:=by rw[<-rel.length,<-Eb (f:=(·.1)),hk,Eb]
 refine zdQ (PySem.W.kdl_keys (knd:=zN X.prog X.w) (kvs:=vs) (ep:=ep)) (I1.ok.hd hc) ⟨hv,dB⟩ (by rw[hl];exact cJ) (ns:=ns) (λus hu hp=>zbE rel hk us hu hp) λD g tk e out kp hD jn hi=> ?_
 exact zdt I1 kp hD jn hi (by rw[G1,Wm];exact WN cJ) q
def zfw (K:E9):V->List V->Hp->VK->Prop:=λx vs H Q=>∃(l:Addr) (xs:List V) (y:V) (ds:List D) (d:D) (bs:List Bool) (j:Nat),x= .ref l/\vs=[y]/\H l=some (.lst xs)/\IsL K H xs ds/\Is K H y d/\bs.length=ds.length/\(∀(i:Nat) e b,ds[i]? =some e->bs[i]? =some b->eqG 39 e d=some b)/\bs[j]? =some true/\(∀m,m<j->bs[m]? =some false)/\Q (.int (j:Int)) H
theorem zgk {m:Nat} {K:E9} (hr:vk m X.A) (hK:X.K=K:=by rfl):MtM X "list.index" (zfw K):=by
 subst hK
 intro pins s σ H x vs v us Q I rx rv h
 obtain⟨l,xs,y,ds,d,bs,j,rfl,rfl,hH,hi,hy,hl,he,hj,iq,q⟩:=h
 have hu:X.A.units+41<cLine:=F8 ⋯ hr.units
 cases rx
 obtain⟨u,rfl,ru⟩:=rv.one
 obtain⟨zl,ae,n,r,m7,e⟩:=I.lstM hH
 obtain⟨e1,e2⟩:=UH I r hi hl he
 have hn:=Tz
 have iE:bs.length=ae.length:=by rw[<-e1,Eb]
 have qk:j<ae.length:=by rw[<-iE];exact (E8.1 hj).1
 have at_:∀(m:Nat) (hm:m<ae.length),bs[m]? =some (Xm X H d ae[m]):=λm hm=>by rw[<-e1,Ef,DZ hm];rfl
 refine call_meets F.slot_list_index ⟨_,e,rfl⟩ F.entry_list_index (F.args_list_index_2 _ _) (SeqAt.list_indexAt l ae.toArray n none #[] u (Xm X H d) j (by rw[EC];omega) ⋯ ?_ ?_) ⟨e,λc hc=> ?_,?_⟩
 ·have:=at_ j qk
  rw[hj] at this
  simpa using (EE this).symm
 ·intro m hm bS
  have qc:m<ae.length:=by rw[EC] at hm;exact hm
  have:=at_ m qc
  rw[iq m bS] at this
  simpa using (EE this).symm
 ·obtain⟨v',e',g1,g2,g3⟩:=e2 c (by simpa using hc)
  exact YR I 39 (A:=X.A.in1) g3 (by show X.A.units+1+39<cLine;omega) g2 hy g1 ru
 ·exact⟨.int j,H,I.tok _,⟨_,rfl⟩,q⟩
end
open PySem.AutoSeq1 (wpAny_loadPart')
open PySem.MeetsSeq PySem.MeetsSeq2 PySem.MeetsSeq3
section
variable {prog:Program} {w:World} {E:Value->Shared->Prop}
theorem zli {n:Nat} {A:Around} {s:Shared} {l b:Addr} {items au:Array Value} {ks js:List NK} (hl:s.heap.IsList l items) (hb:s.heap.IsList b au) (hi:yg s.heap ks items.toList) (hj:yg s.heap js au.toList) (hd:∀k∈ks,yi k<=n) (hu:A.units+1+n<cLine):SeqAt.EqAt A s (.ref l) (.ref b) (decide (ks=js)):=by
 have s1:items.size=ks.length:=by have:=hi.len;simpa using this.symm
 have s2:au.size=js.length:=by have:=hj.len;simpa using this.symm
 by_cases aG:l=b
 ·subst aG
  obtain⟨o,ho,_,n1,gi⟩:=hl
  obtain⟨o',cF,_,n2,hd2⟩:=hb
  rw[ho] at cF
  cases cF
  rw[gi] at hd2
  cases hd2
  rw[decide_eq_true (hi.inj hj)]
  exact SeqAt.EqAt.same _
 ·refine SeqAt.EqAt.of_refs aG ?_
  by_cases hz:ks.length=js.length
  ·have:=SeqAt.RcAt.lists (A:=A) (e:=λq=>decide (ks[q]? =js[q]?)) hl hb ⋯ ⋯ (λq h1 h2=>by
    have q1:ks[q]? =some ks[q]:=DZ ⋯
    have q2:js[q]? =some js[q]:=DZ ⋯
    obtain⟨u1,f1,g1⟩:=hi.get q1
    obtain⟨u2,f2,g2⟩:=hj.get q2
    have e1:items[q]=u1:=by rw[Fo] at f1;rw[FJ h1] at f1;exact EE f1
    have e2:au[q]=u2:=by rw[Fo] at f2;rw[FJ h2] at f2;exact EE f2
    rw[e1,e2]
    have:=zaq n (A:=A.in1) (hd _ (Eo ⋯)) (by show A.units+1+n<cLine;omega) g1 g2
    rwa [show decide (ks[q]? =js[q]?)=decide (ks[q]=js[q]) by rw[q1,q2,decide_eq_decide,Fg]])
   rw[s1] at this
   have jg:(F7 ks.length).all (λq=>decide (ks[q]? =js[q]?))=decide (ks=js):=by
    have:=UE ks js (λq=>decide (ks[q]? =js[q]?)) λj a b ha hb=>by rw[decide_eq_true_iff,ha,hb,Fg]
    rw[GO,decide_eq_true_iff,<-this,show min ks.length js.length=ks.length by omega]
    simp[hz]
   rwa [jg] at this
  ·rw[decide_eq_false λe=>hz (by rw[e])]
   exact SeqAt.RcAt.lists_lengths hl hb (by rw[s1,s2];simpa using hz) ⋯
theorem zhS (l b:Addr) (items au:Array Value) (n n2 m:Nat) (dd jy:Option Addr) (sl fV:Array (Option Value)) (ks js:List NK) (k:Nat):
  ∀i:Nat,i<=items.size->items.size-i=k->Meets (Builtin.«list.__eq__.loop» ⟨[.ref l,.ref b,rawInt i,rawInt 0],[]⟩)
   (λA R s=>s.heap.get? l=some {cls:= .type "list",dict:=dd,data:= .seq items n,slots:=sl}/\s.heap.get? b=some {cls:= .type "list",dict:=jy,data:= .seq au n2,slots:=fV}/\
    yg s.heap (ks.drop i) (items.toList.drop i)/\yg s.heap (js.drop i) (au.toList.drop i)/\cpL (ks.drop i) (js.drop i)=true/\(∀k∈ks,yi k<=m)/\ks.length=items.size/\js.length=au.size/\A.units+1+m<cLine/\
    R (.ok (.ret (.bool (ltL (yq (ks.drop i)) (yq (js.drop i)))))) s):=by
 induction k with
 |zero=>
  intro i hle hk prog w A R s h
  obtain⟨hp,g,d,tk,os⟩:=s
  obtain⟨hl,hb,hi,hj,hc,hd,z1,z2,hu,h⟩:=h
  wp_walk using wpAny_loadPart' hl,wpAny_loadPart' hb
  have fE:items[((i:Nat):Int).toNat]? =none:=by simp;omega
  rw[fE]
  have hv:ltL (yq (ks.drop i)) (yq (js.drop i))=decide (items.size<au.size):=by
   have e1:ks.drop i=[]:=by rw[GF];omega
   rw[e1]
   cases qj:js.drop i with
   |nil=>
    rw[GF] at qj
    rw[yq,Zg]
    exact (decide_eq_false ⋯).symm
   |cons b r=>
    have:i<js.length:=by
     apply FA
     intro z
     rw[GF.2 ⋯] at qj
     cases qj
    obtain⟨t,q,e,ht⟩:=Zj b
    rw[yq,yq,e]
    show ltL [0] (t::_)=_
    rw[vT ⋯,decide_eq_true ht]
    exact (decide_eq_true ⋯).symm
  rw[hv] at h
  wp_walk using wpAny_loadPart' hl,wpAny_loadPart' hb
  exact h
 |succ k ih=>
  intro i hle hk prog w A R s h
  obtain⟨hp,g,d,tk,os⟩:=s
  obtain⟨hl,hb,hi,hj,hc,hd,z1,z2,hu,h⟩:=h
  wp_walk using wpAny_loadPart' hl,wpAny_loadPart' hb
  have bS:i<items.size:=by omega
  have fE:items[((i:Nat):Int).toNat]? =some items[i]:=by simp[bS]
  rw[fE]
  have ek:ks.drop i=ks[i]'⋯::ks.drop (i+1):=G7 ⋯
  have ev:items.toList.drop i=items[i]::items.toList.drop (i+1):=by
   rw[G7 (by simpa using bS)]
   simp
  have qg:=hd _ (Eo (show i<ks.length by omega))
  rw[ek] at hi hc h
  rw[ev] at hi
  generalize ks[i]'⋯=ka at hi hc h qg
  cases hi with
  |cons k4 B6=>
   by_cases gS:i<au.size
   ·have cA:au[((i:Nat):Int).toNat]? =some au[i]:=by simp[gS]
    rw[cA]
    have ej:js.drop i=js[i]'⋯::js.drop (i+1):=G7 ⋯
    have ew:au.toList.drop i=au[i]::au.toList.drop (i+1):=by
     rw[G7 (by simpa using gS)]
     simp
    rw[ej] at hj hc h
    rw[ew] at hj
    generalize js[i]'⋯=kb at hj hc h
    cases hj with
    |cons jZ eI=>
     unfold cpL at hc
     rw[FG] at hc
     rw[Wq hc.1] at h
     have gj:((i:Int)+1)=((i+1:Nat):Int):=by push_cast;rfl
     refine wpAny_bind (zaq m qg (by show A.units+1+m<cLine;omega) k4 jZ prog w _ _ ?_)
     by_cases aG:ka=kb
     ·rw[if_pos aG] at h
      rw[decide_eq_true aG]
      wp_walk
      rw[gj]
      exact⟨plainId_quiet plain_eq_loop _,codeAny_builtin entry_eq_loop (by
       rw[Around.under_plainId plain_eq_loop _]
       exact ih (i+1) ⋯ ⋯ prog w A R _ ⟨hl,hb,B6,eI,hc.2,hd,z1,z2,hu,h⟩)⟩
     ·rw[if_neg aG] at h
      rw[decide_eq_false aG]
      wp_walk using wpAny_loadPart' hl,wpAny_loadPart' hb
      rw[fE,cA]
      refine wpAny_bind (zhI m qg (by show A.units+1+m<cLine;omega) hc.1 k4 jZ ?_)
      wp_walk
      exact h
   ·have cA:au[((i:Nat):Int).toNat]? =none:=by simp;omega
    rw[cA]
    have ej:js.drop i=[]:=by rw[GF];omega
    rw[ej] at h
    have hv:ltL (yq (ka::ks.drop (i+1))) (yq [])=decide (items.size<au.size):=by
     obtain⟨t,q,e,ht⟩:=Zj ka
     rw[yq,yq,e]
     show ltL (t::_) [0]=_
     rw[vT ⋯,decide_eq_false ⋯]
     exact (decide_eq_false ⋯).symm
    rw[hv] at h
    wp_walk using wpAny_loadPart' hl,wpAny_loadPart' hb
    exact h
theorem zhT (l b:Addr) (items au:Array Value) (n n2 m:Nat) (dd jy:Option Addr) (sl fV:Array (Option Value)) (ks js:List NK):
  Meets (Builtin.«list.__lt__» ⟨[.ref l,.ref b],[]⟩)
   (λA R s=>s.heap.get? l=some {cls:= .type "list",dict:=dd,data:= .seq items n,slots:=sl}/\s.heap.get? b=some {cls:= .type "list",dict:=jy,data:= .seq au n2,slots:=fV}/\
    yg s.heap ks items.toList/\yg s.heap js au.toList/\cpL ks js=true/\(∀k∈ks,yi k<=m)/\ks.length=items.size/\js.length=au.size/\A.units+1+m<cLine/\
    R (.ok (.ret (.bool (ltL (yq ks) (yq js))))) s):=by
 intro prog w A R s h
 obtain⟨hp,g,d,tk,os⟩:=s
 obtain⟨hl,hb,h⟩:=h
 have f3:=AutoSeq1.sub_list_list
 wp_walk using wpAny_loadPart' hl,wpAny_loadPart' hb
 exact⟨plainId_quiet plain_eq_loop _,codeAny_builtin entry_eq_loop (by
  rw[Around.under_plainId plain_eq_loop _]
  exact zhS l b items au n n2 m dd jy sl fV ks js _ 0 (FR _) rfl prog w A R _ ⟨hl,hb,h⟩)⟩
theorem zlj {m:Nat} {A:Around} {s:Shared} {l b:Addr} {items au:Array Value} {ks js:List NK} {Q:Value->Shared->Prop} (hl:s.heap.IsList l items) (hb:s.heap.IsList b au) (hi:yg s.heap ks items.toList) (hj:yg s.heap js au.toList) (hc:cpL ks js=true) (hd:∀k∈ks,yi k<=m) (hu:A.units+1+m<cLine) (h:Q (.bool (ltL (yq ks) (yq js))) s):wpAny (model prog w) A (richCompare .Lt (.ref l) (.ref b)) Q E s:=by
 have s1:items.size=ks.length:=by have:=hi.len;simpa using this.symm
 have s2:au.size=js.length:=by have:=hj.len;simpa using this.symm
 obtain⟨⟨cls,dd,data,sl⟩,ho,eK,n,gi⟩:=id hl
 obtain⟨⟨sd,jy,data2,fV⟩,tY,kL,n2,hd2⟩:=id hb
 simp only at eK gi kL hd2
 subst eK gi kL hd2
 exact richCompare_meets_room (op:= .Lt) ⟨_,ho,rfl⟩ ⟨_,tY,rfl⟩ F.slot_list_lt F.entry_list_lt (F.args_list_lt_2 _ _) (zhT l b items au n n2 m dd jy sl fV ks js) ⟨ho,tY,hi,hj,hc,hd,s1.symm,s2.symm,hu,⟨nofun,h⟩⟩ ⋯
def zgl (h:Heap) (k:NK) (v:Value):Prop:=∃(gs ps:List NK) (a:Addr) (o:Obj) (f:Value) (m:Nat) (l:Addr) (ae:Array Value),k= .tup [.tup gs,.tup ps]/\v= .ref a/\h.get? a=some o/\o.cls= .type "tuple"/\o.data= .seq #[f,.ref l] m/\yI h (.tup gs) f/\h.IsList l ae/\yg h ps ae.toList
theorem zhU {A:Around} {s:Shared} {vs:List Value} {ks:List NK} (hl:ks.length=vs.length) (nd:ks.Nodup) (gJ:∀a∈ks,∀b∈ks,cp a b=true) (kE:∀k∈ks,yi k<=8) (hu:A.units+9<cLine)
  (h:∀(i:Nat) k,ks[i]? =some k->∃v,vs[i]? =some v/\zgl s.heap k v) (h2:2<=vs.length):zdE prog w A (xX (ks.map enc)) vs s:=by
 have nd':(ks.map enc).Nodup:=by
  rw[FW,EZ]
  exact Fs (λha hb aG e=>aG (Vy (gJ _ ha _ hb) e)) nd
 have firsts:∃fs:List Value,KatTups s.heap vs fs/\fs.length=vs.length/\∀v∈fs,∃a o,v=Value.ref a/\s.heap.get? a=some o/\o.cls= .type "tuple":=by
  have key:∀(vs:List Value) (ks:List NK),ks.length=vs.length->(∀(i:Nat) k,ks[i]? =some k->∃v,vs[i]? =some v/\zgl s.heap k v)->∃fs:List Value,KatTups s.heap vs fs/\fs.length=vs.length/\∀v∈fs,∃a o,v=Value.ref a/\s.heap.get? a=some o/\o.cls= .type "tuple":=by
   intro vs
   induction vs with
   |nil=>intro ks _ _;exact⟨[],KatTups.nil,rfl,by simp⟩
   |cons v vs ih=>
    intro ks hl h
    cases ks with
    |nil=>simp at hl
    |cons k ks=>
     obtain⟨fs,k1,k2,k3⟩:=ih ks (by simpa using hl) λi k' e=>by
      have:=h (i+1) k' (by simpa using e)
      simpa using this
     obtain⟨v',e1,gs,ps,a,o,f,m,l,ae,rfl,rfl,ho,hc,hd,hf,_,_⟩:=h 0 k rfl
     have e1:v= .ref a:=by simpa using e1
     subst e1
     refine⟨f::fs,KatTups.cons ho hc hd (f:=f) rfl k1,by simp[k2],λv hv=> ?_⟩
     rcases Er.1 hv with rfl|hv
     ·cases hf with
      | @tup b' o' _ _ _ cF cZ _ _=>exact⟨b',o',rfl,cF,cZ⟩
     ·exact k3 v hv
  exact key vs ks hl h
 obtain⟨fs,k1,k2,k3⟩:=firsts
 refine⟨tuples' (tyB false !=Value.type "tuple"),λQ q=>kat_kind k1 ⋯ (T:=tyB false) (λv hv=> ?_) ∅ q,λi j C fE kz dC hc=> ?_⟩
 ·obtain⟨a,o,rfl,ho,eO⟩:=k3 v hv
  rw[show tyB false=o.cls from eO.symm]
  exact (Looks.ld ho).andThen .now
 ·have cA:i<ks.length:=by omega
  have dR:j<ks.length:=by omega
  obtain⟨v1,e1,gs,ps,a,o,f,m,l,ae,ek,rfl,ho,eO,hd,hf,qf,hit⟩:=h i ks[i] (DZ cA)
  obtain⟨v2,g1,gs',ps',a',o',f',m',l',its',ek',rfl,cF,hJ,fM,jH,ko,gZ⟩:=h j ks[j] (DZ dR)
  have r:=Xj nd' (by rw[Eb];exact cA) (by rw[Eb];exact dR) dC
  have ei:(ks.map enc).getD i []=enc ks[i]:=by rw[Ec,Ef,DZ cA];rfl
  have ej:(ks.map enc).getD j []=enc ks[j]:=by rw[Ec,Ef,DZ dR];rfl
  rw[ei,ej] at r
  have eK:=gJ _ (Eo cA) _ (Eo dR)
  have gi:=kE _ (Eo cA)
  rw[ek] at r eK gi
  rw[ek'] at r eK
  unfold kas_ask
  rw[show vs.getD i Value.none= .ref a by rw[Ec,e1];rfl,show vs.getD j Value.none= .ref a' by rw[Ec,g1];rfl]
  rw[show (tyB false !=Value.type "tuple")=false by decide]
  rw[enc,enc,xy] at r
  rw[<-r] at hc
  simp only[cp,cpL,JF,FG] at eK
  have fR:yi (.tup gs)<=7/\yi (.tup ps)<=7:=by unfold yi xU at gi;unfold xU at gi;omega
  have tU:∀k∈ps,yi k<=6:=λk hk=>by have:=wc hk;have:=fR.2;unfold yi at this;omega
  rw[Wq (show cp (.tup gs) (.tup gs')=true by unfold cp;exact eK.1)] at hc
  refine kat_lt ho hd cF fM ?_
  refine kat_cons (zaq 7 fR.1 ⋯ hf jH _ _ _ _ ?_)
  refine kat_go (λe=> ?_) λe=> ?_
  ·have e:NK.tup gs= .tup gs':=of_decide_eq_true e
   rw[if_pos e,Wq (show cp (.tup ps) (.tup ps')=true by unfold cp;exact eK.2)] at hc
   refine kat_yes (kat_cons (zli (n:=6) qf ko hit gZ tU ⋯ _ _ _ _ ?_))
   refine kat_go (λe=> ?_) λe=> ?_
   ·have e:ps=ps':=of_decide_eq_true e
    rw[if_pos (by rw[e]),Zg] at hc
    exact kat_yes (kat_nil hc)
   ·have e:¬ps=ps':=of_decide_eq_false e
    rw[if_neg (λz=>e (by injection z)),enc,enc,xy] at hc
    exact kat_no (kat_one _ _ (zlj (m:=6) qf ko hit gZ eK.2 tU ⋯ (by exact hc)))
  ·have e:¬NK.tup gs= .tup gs':=of_decide_eq_false e
   rw[if_neg e] at hc
   exact kat_no (kat_one _ _ (zhI 7 fR.1 ⋯ (by unfold cp;exact eK.1) hf jH (by exact hc)))
end
section
variable {X:Cx}
def KdV (K:E9) (H:Hp) (v:V) (k:NK):Prop:=∃(gs ps:List NK) (a l:Addr) (x:V) (ws:List V),k= .tup [.tup gs,.tup ps]/\v= .ref a/\SqT K H a [x,.ref l]/\NIs K H x (.tup gs)/\SqL K H l ws/\XT K H ws ps
theorem KdV.isKd {pins:List (Addr×Obj)} {σ:St} {H:Hp} {s:Shared} {v:V} {k:NK} {u:Value} (I:Inv X pins σ H s) (h:KdV X.K H v k) (r:zK v u):zgl s.heap k u:=by
 obtain⟨gs,ps,a,l,x,ws,rfl,rfl,h1,h2,h3,h4⟩:=h
 obtain⟨ae,r1,⟨o,ho,hc,n,hd⟩,_⟩:=I.tuple h1
 obtain⟨bF,r2,p2,_⟩:=I.list h3
 have r:u= .ref a:=r
 obtain⟨u1,its',rfl,q1,r1⟩:∃u1 its',ae=u1::its'/\zK x u1/\zT [.ref l] its':=by cases r1 with|cons q r=>exact⟨_,_,rfl,q,r⟩
 obtain⟨u2,rfl,q2⟩:=ZU r1
 have q2:u2= .ref l:=q2
 subst q2
 exact⟨gs,ps,a,o,u1,n,l,_,rfl,r,ho,hc,hd,h2.isNK I q1,p2.isList,h4.isNK I r2⟩
theorem zgl.grow {h h':Heap} {k:NK} {v:Value} (hs:∀b o,h.get? b=some o->h'.get? b=some o) (q:zgl h k v):zgl h' k v:=by
 obtain⟨gs,ps,a,o,f,m,l,ae,e1,e2,ho,hc,hd,hf,⟨o2,g1,g2⟩,hi⟩:=q
 exact⟨gs,ps,a,o,f,m,l,ae,e1,e2,hs _ _ ho,hc,hd,hf.grow hs,⟨o2,hs _ _ g1,g2⟩,hi.grow hs⟩
def zfx (K:E9):List V->Hp->VK->Prop:=zhL K false λH v k=>KdV K H v k
theorem zdR {m:Nat} {K:E9} (hr:vk m X.A) (hK:X.K=K:=by rfl):vy X (.builtin "sorted") (zfx K):=by
 subst hK
 have hu:X.A.units+41<cLine:=F8 ⋯ hr.units
 refine zaE (b:=false) rfl λ{pins s σ H ys ks ae} I rv dB hlen ok nd h2 g hg=>zhU hlen.symm nd ok.cmp ok.dep (by show X.A.units+1+1+9<cLine;omega) (λi k hk=> ?_) h2
 obtain⟨v,e2,e3⟩:=dB i k hk
 obtain⟨u,e4,e5⟩:=Wr rv e2
 exact⟨u,e4,(e3.isKd I e5).grow hg⟩
end
end L2
namespace L2
open PySem PySem.Spec PyProof.Rows PySem.Calls
section
variable {K:E9} {E:XK}
noncomputable def Th:D->D->Bool
 | .tup _,.tup _=>true
 | .lst _,.lst _=>true
 |_,_=>false
noncomputable def Ug (neg:Bool):Op2:=λx y S=>match yU S 40 x,yU S 40 y with
 |some d,some e=>if Th d e then (eqG 40 d e).map λb=>(.bl (neg !=b),S) else none
 |_,_=>none
theorem zeM {d e:D} (h:Th d e=true):∃l m,(d= .tup l/\e= .tup m)\/(d= .lst l/\e= .lst m):=by
 unfold Th at h
 split at h
 ·exact⟨_,_,.inl ⟨rfl,rfl⟩⟩
 ·exact⟨_,_,.inr ⟨rfl,rfl⟩⟩
 ·cases h
theorem XV {neg:Bool}:WP K (zk7 K neg) (Ug neg):=by
 intro F j σ H ρ S S' x y z u v Q E1 hx hy h k
 unfold Ug at h
 split at h
 ·rename_i d e e1 e2
  split at h
  ·rename_i hb
   cases hg:eqG 40 d e with
   |none=>rw[hg] at h;cases h
   |some b=>
    rw[hg] at h
    cases h
    exact⟨d,e,b,zeM hb,(Xg E1 40 _ _ _ hx e1).1,(Xg E1 40 _ _ _ hy e2).1,hg,k _ _ _ Ext.refl E1 (.bl _)⟩
  ·cases h
 ·cases h
end
section
variable {S:Sto} {x y:Xv} {P:Xv->Sto->Prop} {p q:Int}
theorem XW {neg b:Bool} {d e:D} (h1:yU S 40 x=some d) (h2:yU S 40 y=some e) (hs:Th d e=true) (hb:eqG 40 d e=some b) (k:P (.bl (neg !=b)) S):WO (Ug neg x y S) P:= .of (by unfold Ug;rw[h1,h2];dsimp only;rw[if_pos hs,hb];rfl) k
theorem Uh {n:Nat}:∀(l m:List Int),l.length=m.length->vM (eqG n) (l.map D.int) (m.map D.int)=some (decide (l=m))
 |[],[],_=>by simp[vM]
 |[],_::_,h=>by simp at h
 |_::_,[],h=>by simp at h
 |a::l,b::m,h=>by
  have ih:=Uh (n:=n) l m (by simpa using h)
  have e:eqG n (.int a) (.int b)=some (a==b):=by cases n<;>rfl
  simp only[Eg,vM,e,Ee,ih,FI]
  by_cases h1:a=b
  ·subst h1;simp
  ·simp[h1]
theorem XX (l m:List Int):eqG 40 (.lst (l.map D.int)) (.lst (m.map D.int))=some (decide (l=m)):=by
 unfold eqG
 dsimp only
 rw[Eb,Eb]
 by_cases h:l.length=m.length
 ·rw[if_pos h,Uh l m h]
 ·rw[if_neg h]
  have:l≠m:=λz=>h (by rw[z])
  simp[this]
theorem zhV {ρc:Rho} {get:Sto->Option (List Xv)} {g:TwG} {c:TwT} {m:TwE} {xs:List Xv} (hl:xs.length<=sizeLine) (J:Nat->List Xv->Sto->Prop) (hg:∀i es S,i<=xs.length->J i es S->get S=some xs)
  (h:∀(i:Nat) (x:Xv) es S,xs[i]? =some x->es.length<=i->J i es S->W (g x ρc S) λρ1 S1=>W (c ρ1 S1) λb S2=>(b=true->W (m ρ1 S2) λy S3=>J (i+1) (es++[y]) S3)/\(b=false->J (i+1) es S2)) (h0:J 0 [] S)
  (k:∀es S,es.length<=xs.length->J xs.length es S->P (.ref S.length) (S++[.lst es])):W (vE get g c m ρc (xs.length+1) 0 [] S) P:=by
 have aux:∀(n i:Nat) (es:List Xv) (S:Sto),i+n=xs.length->es.length<=i->J i es S->W (vE get g c m ρc (n+1) i es S) P:=by
  intro n
  induction n with
  |zero=>
   intro i es S e el hj
   unfold vE
   rw[hg i es S ⋯ hj,Ee,EY ⋯]
   dsimp only
   rw[if_pos ⋯]
   exact .of rfl (k es S ⋯ (by rw[show xs.length=i by omega];exact hj))
  |succ n ih=>
   intro i es S e el hj
   unfold vE
   have hi:i<xs.length:=by omega
   rw[hg i es S ⋯ hj,Ee,DZ hi]
   obtain⟨ρ1,S1,e1,b,S2,e2,t,f⟩:=h i _ es S (DZ hi) el hj
   dsimp only[rn]
   rw[e1]
   dsimp only[rn]
   rw[e2]
   dsimp only[rn]
   cases b with
   |true=>
    obtain⟨y,S3,e3,q⟩:=t rfl
    rw[if_pos rfl,e3]
    dsimp only[rn]
    rw[if_pos ⋯]
    exact ih (i+1) (es++[y]) S3 ⋯ (by simp;omega) q
   |false=>
    rw[if_neg (by simp)]
    exact ih (i+1) es S2 ⋯ ⋯ (f rfl)
 exact aux xs.length 0 [] S ⋯ (by simp) h0
end
section
variable {K:E9} {E:XK}
end
section
variable {K:E9} {E:XK}
end
noncomputable def kX:Key->Xv
 | .inl i=> .int i
 | .inr z=> .str z
section
variable {K:E9} {E:XK}
theorem zmn {j:List Addr} {H:Hp} {k:Key}:Xis K j H (kX k) (kV k):=by
 cases k
 ·exact .int _
 ·exact .str _
theorem KX.get {j:List Addr} {H:Hp}:∀{kvs:List (Key×Xv)} {ks:List (Key×V)} {i:Nat} {k:Key} {x:Xv},KX K j H kvs ks->kvs[i]? =some (k,x)->∃v,ks[i]? =some (k,v)/\Xis K j H x v
 |_,_,i,k,x,.nil,h=>by simp at h
 |_,_,0,k,x,.cons h _,e=>by
  simp at e
  obtain⟨rfl,rfl⟩:=e
  exact⟨_,rfl,h⟩
 |_,_,i+1,k,x,.cons _ l,e=>by
  obtain⟨v,e1,e2⟩:=KX.get (i:=i) l (by simpa using e)
  exact⟨v,by simpa using e1,e2⟩
end
noncomputable def zbh (y:Xv):Option NK:=match y with
 | .tup l=>(YL (.tup l)).bind λk=>if yi k<=8 then some k else none
 | .ct l=>(YL (.ct l)).bind λk=>if yi k<=8 then some k else none
 |_=>none
noncomputable def ZK (kvs:List (NK×Xv×Xv)) (k:NK):Option Xv:=(kvs.find? λp=>decide (p.1=k)).map (·.2.2)
noncomputable def zdS (kvs:List (NK×Xv×Xv)) (k:NK) (x y:Xv):List (NK×Xv×Xv):=if (ZK kvs k).isSome=true then kvs.map (λp=>if p.1=k then (p.1,p.2.1,y) else p) else kvs++[(k,x,y)]
noncomputable def WE (S:Sto) (x y:Xv):Option (Option Xv):=match x with
 | .ref n=>match S[n]? with
  |some (.dk kvs)=>match XM y with
   |some key=>some (yV kvs key)
   |none=>if kvs.isEmpty=true/\(zbh y).isSome=true then some none else none
  |some (.dn kvs)=>(zbh y).map (ZK kvs)
  |_=>none
 |_=>none
noncomputable def zaF (S:Sto) (x y z:Xv):Option Sto:=match x with
 | .ref n=>match S[n]? with
  |some (.dk kvs)=>match XM y with
   |some key=>if kvs.length<sizeLine then some (S.set n (.dk (XC kvs key z))) else none
   |none=>if kvs.isEmpty=true then (zbh y).map λk=>S.set n (.dn [(k,y,z)]) else none
  |some (.dn kvs)=>if kvs.length<sizeLine then (zbh y).map λk=>S.set n (.dn (zdS kvs k y z)) else none
  |_=>none
 |_=>none
section
variable {K:E9} {E:XK} {F:Fm} {j:List Addr} {H:Hp} {σ:St} {ρ:Rho} {S:Sto} {x y z:Xv} {u v w:V}
mutual
theorem Xis.nis:∀{x:Xv} {v:V} {k:NK},Xis K j H x v->YL x=some k->NIs K H v k
 |_,_,_,.non,e=>by simp[YL] at e
 |_,_,_,.bl b,e=>by simp[YL] at e
 |_,_,_,.int i,e=>by simp[YL] at e;subst e;exact .int i
 |_,_,_,.str i,e=>by simp[YL] at e;subst e;exact .str i
 |_,_,_,.tup h l,e=>by
  simp only[YL,Ez] at e
  obtain⟨m,e1,rfl⟩:=e
  exact .tup (SqT.of h) (zO.nis l e1)
 |_,_,_,.ct h l,e=>by
  simp only[YL,Ez] at e
  obtain⟨m,e1,rfl⟩:=e
  exact .tup (h H) (zO.nis l e1)
 |_,_,_,.ref h,e=>by simp[YL] at e
theorem zO.nis:∀{x:List Xv} {v:List V} {k:List NK},zO K j H x v->YM x=some k->XT K H v k
 |_,_,_,.nil,e=>by simp[YM] at e;subst e;exact .nil
 |_,_,_,.cons h l,e=>by
  simp only[YM,Et,Ez] at e
  obtain⟨a,e1,b,e2,rfl⟩:=e
  exact .cons (Xis.nis h e1) (zO.nis l e2)
end
theorem Ti {k:NK} (h:Xis K j H x v) (e:zbh x=some k):∃b,v= .ref b/\NIs K H v k/\yi k<=8/\YL x=some k:=by
 cases h with
 |tup h l=>
  simp only[zbh,Et] at e
  obtain⟨k',e1,e2⟩:=e
  split at e2
  ·cases e2;exact⟨_,rfl,(Xis.tup h l).nis e1,by assumption,e1⟩
  ·cases e2
 |ct h l=>
  simp only[zbh,Et] at e
  obtain⟨k',e1,e2⟩:=e
  split at e2
  ·cases e2;exact⟨_,rfl,(Xis.ct h l).nis e1,by assumption,e1⟩
  ·cases e2
 |_=>simp[zbh] at e
theorem NX.len:∀{kvs:List (NK×Xv×Xv)} {ks:List (NK×Addr×V)},NX K j H kvs ks->ks.length=kvs.length
 |_,_,.nil=>rfl
 |_,_,.cons _ _ _ l=>by simp[l.len]
theorem NX.nis:∀{kvs:List (NK×Xv×Xv)} {ks:List (NK×Addr×V)},NX K j H kvs ks->zhs K H ks
 |_,_,.nil,p,hp=>by cases hp
 |_,_,.cons e h1 _ l,p,hp=>by
  rcases Er.1 hp with rfl|hp
  ·exact⟨h1.nis e.1,e.2⟩
  ·exact l.nis p hp
theorem NX.val {k:NK}:∀{kvs:List (NK×Xv×Xv)} {ks:List (NK×Addr×V)},NX K j H kvs ks->(∀y,ZK kvs k=some y->∃w,XD ks k=some w/\Xis K j H y w)/\(ZK kvs k=none->XD ks k=none)
 |_,_,.nil=>⟨λ_ e=>by simp[ZK] at e,λ_=>rfl⟩
 |(k1,x1,y1)::r,(_,b1,w1)::rs,.cons ek h1 h l=>by
  obtain⟨i1,i2⟩:=NX.val (k:=k) l
  by_cases e:k1=k
  ·subst e
   refine⟨λy ey=> ?_,λey=> ?_⟩
   ·simp[ZK] at ey
    subst ey
    exact⟨w1,by simp[XD],h⟩
   ·simp[ZK] at ey
  ·have e1:ZK ((k1,x1,y1)::r) k=ZK r k:=by simp[ZK,F1,e]
   have e2:XD ((k1,b1,w1)::rs) k=XD rs k:=by simp[XD,F1,e]
   rw[e1,e2]
   exact⟨i1,i2⟩
theorem NX.append:∀{kvs r:List (NK×Xv×Xv)} {ks rs:List (NK×Addr×V)},NX K j H kvs ks->NX K j H r rs->NX K j H (kvs++r) (ks++rs)
 |_,_,_,_,.nil,h=>h
 |_,_,_,_,.cons e h1 h l,g=> .cons e h1 h (l.append g)
theorem NX.put {k:NK} {b:Addr} (hk:YL x=some k/\yi k<=8) (hx:Xis K j H x (.ref b)) (hy:Xis K j H y v) {kvs:List (NK×Xv×Xv)} {ks:List (NK×Addr×V)} (h:NX K j H kvs ks):NX K j H (zdS kvs k x y) (zas ks k b v):=by
 have e:(XD ks k).isSome=(ZK kvs k).isSome:=by
  cases ev:ZK kvs k with
  |none=>rw[h.val.2 ev];rfl
  |some z=>obtain⟨w,g,_⟩:=h.val.1 _ ev;rw[g];rfl
 unfold zdS zas
 rw[e]
 split
 ·rename_i hc
  clear hc e
  induction h with
  |nil=>exact .nil
  | @cons k1 x1 y1 b1 v1 r rs ek h1 h l ih=>
   rw[Eg,Eg]
   by_cases e:k1=k
   ·rw[if_pos e,if_pos e];exact .cons ek h1 hy ih
   ·rw[if_neg e,if_neg e];exact .cons ek h1 h ih
 ·exact h.append (.cons hk hx hy .nil)
theorem En.dn {n:Nat} {kvs:List (NK×Xv×Xv)} (E1:En K F j H σ ρ S) (hx:Xis K j H (.ref n) v) (h:S[n]? =some (.dn kvs)):∃a ks,v= .ref a/\j[n]? =some a/\H a=some (.dN ks)/\NX K j H kvs ks:=by
 obtain⟨a,rfl,hj⟩:=hx.ref_inv
 obtain⟨ks,e1,e2⟩:=E1.cel _ _ _ h hj
 exact⟨a,ks,rfl,hj,e1,e2⟩
theorem En.dgetN {r:Option Xv} (E1:En K F j H σ ρ S) (hx:Xis K j H x u) (hy:Xis K j H y w) (h:WE S x y=some r):∃a o,u= .ref a/\zbN K H a w o/\o.isSome=r.isSome/\(∀z zd,Xis K j H z zd->Xis K j H (r.getD z) (o.getD zd))/\∀z,r=some z->∃z',o=some z'/\Xis K j H z z':=by
 unfold WE at h
 split at h
 ·rename_i n
  split at h
  ·rename_i kvs hs
   have hd:Zv S (.ref n)=some (n,kvs):=yF hs
   obtain⟨a,ks,rfl,hj,f1,f2⟩:=E1.dk hx hd
   split at h
   ·rename_i key ek
    cases h
    obtain⟨o,g1,g2,g3⟩:=zcr (key:=key) f1 f2
    refine⟨a,o,rfl,.inl (by rw[Wo hy ek];exact g1),g2,g3,λz hz=> ?_⟩
    have:=g3 .non .non .non
    rw[hz] at this g2
    cases o with
    |none=>cases g2
    |some z'=>exact⟨z',rfl,this⟩
   ·split at h
    ·rename_i hc
     cases h
     obtain⟨k,hk⟩:=FO.1 hc.2
     obtain⟨b,rfl,hn,hB,_⟩:=Ti hy hk
     have:kvs=[]:=Jm.1 hc.1
     subst this
     cases f2
     exact⟨a,none,rfl,.inr ⟨k,b,rfl,hn,hB,.inr ⟨f1,rfl⟩⟩,rfl,λz zd hz=>hz,λz hz=>by cases hz⟩
    ·cases h
  ·rename_i kvs hs
   obtain⟨a,ks,rfl,hj,f1,f2⟩:=E1.dn hx hs
   rw[Ez] at h
   obtain⟨k,hk,rfl⟩:=h
   obtain⟨b,rfl,hn,hB,_⟩:=Ti hy hk
   refine⟨a,XD ks k,rfl,.inr ⟨k,b,rfl,hn,hB,.inl ⟨ks,f1,f2.nis,rfl⟩⟩,?_,λz zd hz=> ?_,λz hz=>f2.val.1 z hz⟩
   ·cases ev:ZK kvs k with
    |none=>rw[f2.val.2 ev];rfl
    |some z=>obtain⟨w,g,_⟩:=f2.val.1 _ ev;rw[g];rfl
   ·cases ev:ZK kvs k with
    |none=>rw[f2.val.2 ev];exact hz
    |some z=>obtain⟨w,g,g2⟩:=f2.val.1 _ ev;rw[g];exact g2
  ·cases h
 ·cases h
theorem En.dputN {S':Sto} (E1:En K F j H σ ρ S) (hx:Xis K j H x u) (hy:Xis K j H y w) (hz:Xis K j H z v) (h:zaF S x y z=some S'):∃a H',u= .ref a/\zhu K H a w v H'/\En K F j H' σ ρ S'/\Ext j H j H':=by
 unfold zaF at h
 split at h
 ·rename_i n
  split at h
  ·rename_i kvs hs
   have hd:Zv S (.ref n)=some (n,kvs):=yF hs
   obtain⟨a,ks,rfl,hj,f1,f2⟩:=E1.dk hx hd
   split at h
   ·rename_i key ek
    split at h
    ·rename_i hl
     cases h
     obtain⟨E4,X4⟩:=E1.wdk hd hj (f2.put (k:=key) hz)
     refine⟨a,_,rfl,.inl ?_,E4,X4⟩
     rw[Wo hy ek]
     exact zei.k f1 (by rw[f2.len];exact hl)
    ·cases h
   ·split at h
    ·rename_i hc
     rw[Ez] at h
     obtain⟨k,hk,rfl⟩:=h
     obtain⟨b,rfl,hn,hB,pB⟩:=Ti hy hk
     have:kvs=[]:=Jm.1 hc
     subst this
     cases f2
     obtain⟨E4,X4⟩:=E1.write (o:= .dN [(k,b,v)]) (c':= .dn [(k,y,z)]) hs rfl hj rfl λX=>⟨_,yj,.cons ⟨pB,hB⟩ (hy.mono X) (hz.mono X) .nil⟩
     exact⟨a,_,rfl,.inr ⟨k,b,rfl,hn,hB,.inr ⟨f1,rfl⟩⟩,E4,X4⟩
    ·cases h
  ·rename_i kvs hs
   obtain⟨a,ks,rfl,hj,f1,f2⟩:=E1.dn hx hs
   split at h
   ·rename_i hl
    rw[Ez] at h
    obtain⟨k,hk,rfl⟩:=h
    obtain⟨b,rfl,hn,hB,pB⟩:=Ti hy hk
    obtain⟨E4,X4⟩:=E1.write (o:= .dN (zas ks k b v)) (c':= .dn (zdS kvs k y z)) hs rfl hj rfl λX=>⟨_,yj,(f2.put ⟨pB,hB⟩ hy hz).mono X⟩
    exact⟨a,_,rfl,.inr ⟨k,b,rfl,hn,hB,.inl ⟨ks,f1,f2.nis,by rw[f2.len];exact hl,rfl⟩⟩,E4,X4⟩
   ·cases h
  ·cases h
 ·cases h
noncomputable def zeN (d k:TwE):TwE:=λρ S=>rb (d ρ S) λx S1=>rb (k ρ S1) λy S2=>(WE S2 x y).bind λo=>o.map λz=> .ok z S2
theorem zhW {td ty:TE} {d k:TwE} (hd:RE K E td d) (hk:RE K E ty k):RE K E (zhw K td ty) (zeN d k):=by
 intro F j σ H ρ S r Q En0 e kk
 rcases zA e with⟨x,S1,e1,e⟩|⟨c,S1,e1,rfl⟩
 ·refine hd En0 e1 λj1 H1 X1 E1 u hu=> ?_
  rcases zA e with⟨y,S2,e2,e⟩|⟨c,S2,e2,rfl⟩
  ·refine hk E1 e2 λj2 H2 X2 E2 w hw=> ?_
   cases ed:WE S2 x y with
   |none=>rw[ed] at e;cases e
   |some o=>
    rw[ed,Ee] at e
    cases o with
    |none=>cases e
    |some z=>
     cases e
     obtain⟨a,o,rfl,g,_,_,g3⟩:=E2.dgetN (hu.mono X2) hw ed
     obtain⟨z',rfl,hz⟩:=g3 z rfl
     exact⟨a,z',rfl,g,kk _ _ (X1.trans X2) E2 _ hz⟩
  ·exact hk E1 e2 (PX.mono kk X1)
 ·exact hd En0 e1 kk
noncomputable def zhX (neg:Bool) (k d:TwE):TwE:=λρ S=>rb (k ρ S) λy S1=>rb (d ρ S1) λx S2=>(WE S2 x y).map λo=> .ok (.bl (neg !=o.isSome)) S2
theorem zjn {neg:Bool} {td ty:TE} {d k:TwE} (hk:RE K E ty k) (hd:RE K E td d):RE K E (zki K neg ty td) (zhX neg k d):=by
 intro F j σ H ρ S r Q En0 e kk
 rcases zA e with⟨y,S1,e1,e⟩|⟨c,S1,e1,rfl⟩
 ·refine hk En0 e1 λj1 H1 X1 E1 u hu=> ?_
  rcases zA e with⟨x,S2,e2,e⟩|⟨c,S2,e2,rfl⟩
  ·refine hd E1 e2 λj2 H2 X2 E2 w hw=> ?_
   cases ed:WE S2 x y with
   |none=>rw[ed] at e;cases e
   |some o=>
    rw[ed] at e
    cases e
    obtain⟨a,o',rfl,g,g1,_,_⟩:=E2.dgetN hw (hu.mono X2) ed
    refine⟨a,o',rfl,g,kk _ _ (X1.trans X2) E2 _ ?_⟩
    rw[g1]
    exact .bl _
  ·exact hd E1 e2 (PX.mono kk X1)
 ·exact hk En0 e1 kk
noncomputable def zcG (d k v:TwE):TwS:=λρ S=>sb (v ρ S) λz S1=>sb (d ρ S1) λx S2=>sb (k ρ S2) λy S3=>(zaF S3 x y z).map λS4=> .nx ρ S4
theorem zhY {td ty tv:TE} {d k v:TwE} (hd:RE K E td d) (hk:RE K E ty k) (hv:RE K E tv v):RS K E (zhx K td ty tv) (zcG d k v):=by
 intro F j D' σ H ρ S fl E0 e kk
 rcases xt e with⟨z,S1,e1,e⟩|⟨c,S1,e1,rfl⟩
 ·refine hv E0 e1 λj1 H1 X1 E1 wz pE=> ?_
  rcases xt e with⟨x,S2,e2,e⟩|⟨c,S2,e2,rfl⟩
  ·refine hd E1 e2 λj2 H2 X2 E2 u hu=> ?_
   rcases xt e with⟨y,S3,e3,e⟩|⟨c,S3,e3,rfl⟩
   ·refine hk E2 e3 λj3 H3 X3 E3 w hw=> ?_
    cases ed:zaF S3 x y z with
    |none=>rw[ed] at e;cases e
    |some S4=>
     rw[ed] at e
     cases e
     obtain⟨a,H4,rfl,g,E4,X4⟩:=E3.dputN (hu.mono X3) hw (pE.mono (X2.trans X3)) ed
     exact⟨a,H4,rfl,g,kk _ _ _ (X1.trans (X2.trans (X3.trans X4))) E4⟩
   ·exact hk E2 e3 (PX.mono kk (X1.trans X2))
  ·exact hd E1 e2 (PX.mono kk X1)
 ·exact hv E0 e1 kk
end
section
variable {K:E9} {j:List Addr} {H:Hp}
end
section
variable {ρ:Rho} {S:Sto} {P:Xv->Sto->Prop} {N:Rho->Sto->Prop} {R:Xv->Sto->Prop} {a b m z:TwE} {x y:Xv}
theorem zhZ (h:W (a ρ S) λx S1=>W (b ρ S1) λy S2=>∃z,WE S2 x y=some (some z)/\P z S2):W (zeN a b ρ S) P:=
 W.bind (h.imp λ_ _ h=>W.bind (h.imp λ_ _ h=>by obtain⟨z,e1,q⟩:=h;rw[e1];exact .of rfl q))
theorem zjo {neg:Bool} (h:W (a ρ S) λy S1=>W (b ρ S1) λx S2=>∃o,WE S2 x y=some o/\P (.bl (neg !=o.isSome)) S2):W (zhX neg a b ρ S) P:=
 W.bind (h.imp λ_ _ h=>W.bind (h.imp λ_ _ h=>by obtain⟨o,e1,q⟩:=h;rw[e1];exact .of rfl q))
theorem zh0 (h:W (m ρ S) λz S1=>W (a ρ S1) λx S2=>W (b ρ S2) λy S3=>∃S4,zaF S3 x y z=some S4/\N ρ S4):WS (zcG a b m ρ S) N R:=
 WS.bind (h.imp λ_ _ h=>WS.bind (h.imp λ_ _ h=>WS.bind (h.imp λ_ _ h=>by obtain⟨S4,e1,q⟩:=h;rw[e1];exact .nx rfl q)))
end
section
variable {K:E9} {E:XK} {F:Fm} {j:List Addr} {H:Hp} {σ:St} {ρ:Rho} {S:Sto} {x:Xv} {v:V} {nm f m:Str} {C:Addr}
end
section
variable {ρ:Rho} {S:Sto} {P:Xv->Sto->Prop} {N:Rho->Sto->Prop} {R:Xv->Sto->Prop} {o m:TwE} {ms:List TwE} {nm f:Str}
end
section
variable {K:E9} {E:XK} {j:List Addr} {H:Hp}
end
section
variable {K:E9} {E:XK} {F:Fm} {j:List Addr} {H:Hp} {σ:St} {ρ:Rho} {S:Sto} {x:Xv} {v:V} {c:Str} {C:Addr}
end
end L2
namespace L2
open PySem
section
variable {ρ:Rho} {S S':Sto} {x y:Xv} {a b m o:TwE} {c:TwT} {s t:TwS} {i k:Nat} {P:Xv->Sto->Prop} {PL:List Xv->Sto->Prop} {N:Rho->Sto->Prop} {R:Xv->Sto->Prop} {X:Str->Sto->Prop}
end
end L2
namespace L2
open PySem PySem.Spec PyProof.Rows PySem.Calls
section
variable {K:E9} {E:XK} {F:Fm} {j:List Addr} {H:Hp} {σ:St} {ρ:Rho} {S:Sto} {x:Xv} {v:V} {nm f:Str} {C:Addr}
end
structure zmF (tw:TwF) (S:Sto) (l:List Xv) (is:List (List Int)):Prop where
 len:is.length=l.length
 key:∀(i:Nat) x,l[i]? =some x->∃k,tw [x] S=some (.ok k S)/\k.tupOf=some ((is.getD i []).map Xv.int)
 fall:zmh is
section
variable {K:E9} {E:XK} {j:List Addr} {H:Hp}
end
section
variable {K:E9} {E:XK} {F:Fm} {j:List Addr} {H:Hp} {σ:St} {ρ:Rho} {S:Sto}
end
mutual
noncomputable def unk:NK->Xv
 | .int i=> .int i
 | .str x=> .str x
 | .tup l=> .tup (zcH l)
noncomputable def zcH:List NK->List Xv
 |[]=>[]
 |k::r=>unk k::zcH r
end
theorem ZY:∀l:List NK,zcH l=l.map unk
 |[]=>rfl
 |k::r=>by rw[zcH,Eg,ZY r]
mutual
theorem zaG:∀k:NK,YL (unk k)=some k
 | .int i=>by rw[unk,YL]
 | .str x=>by rw[unk,YL]
 | .tup l=>by rw[unk,YL,YU l];rfl
theorem YU:∀l:List NK,YM (zcH l)=some l
 |[]=>by rw[zcH,YM]
 |k::r=>by rw[zcH,YM,zaG k,YU r];rfl
end
open Classical in
noncomputable def XY:Xv->Sto->Option (Xv×Sto):=λx S=>(zu S x).bind λl=>(YM l).bind λks=>if l=ks.map unk/\ks.length<=4/\KOk false ks/\(∀k∈ks,ZJ k=true) then some (.ref S.length,S++[.lst ((xY ks).map unk)]) else none
open Classical in
noncomputable def zaH (b:Bool):Opn:=λxs S=>match xs with
 |[x]=>(zu S x).bind λl=>(YM l).bind λks=>if l=ks.map unk/\ks.length<64/\KOk b ks/\ks.Nodup then some (.ref S.length,S++[.lst ((xY ks).map unk)]) else none
 |_=>none
section
variable {K:E9} {E:XK}
theorem WZ {j:List Addr} {H:Hp} {ys:List V} {ks:List NK} (hl:zO K j H (ks.map unk) ys):∀{outs:List (NK×V)},(∀x∈outs,∃p:Nat,ks[p]? =some x.1/\ys[p]? =some x.2)->zO K j H ((outs.map (·.1)).map unk) (outs.map (·.2))
 |[],_=> .nil
 |o::outs,h=>by
  obtain⟨p,e1,e2⟩:=h o (Em ..)
  obtain⟨v,e3,e4⟩:=hl.get (i:=p) (x:=unk o.1) (by rw[Ef,e1];rfl)
  rw[e2] at e3
  cases e3
  exact .cons e4 (WZ hl λx hx=>h x (Ej _ hx))
theorem zeO {to:TE} {o:TwE} (h:RE K E to o):RE K E (zdN K to) (eUn XY o):=by
 intro F j σ H ρ S r Q En0 e k
 rcases zA e with⟨x,S1,e1,e⟩|⟨c,S1,e1,rfl⟩
 ·refine h En0 e1 λj1 H1 X1 E1 u hu=> ?_
  obtain⟨z,S2,e2,rfl⟩:=wA e
  unfold XY at e2
  rw[Et] at e2
  obtain⟨l,e3,e2⟩:=e2
  rw[Et] at e2
  obtain⟨ks,e4,e2⟩:=e2
  split at e2
  ·rename_i hc
   cases e2
   obtain⟨rfl,h4,ok,gF⟩:=hc
   obtain⟨a,vs,rfl,f1,f2⟩:=E1.lstAt hu e3
   refine⟨a,vs,ks,rfl,f1,f2.nis e4,h4,ok,gF,λp outs so hp=> ?_⟩
   have hr:xY ks=outs.map (·.1):=Vz so.1 so.2.1
   obtain⟨E2,X2,h3⟩:=E1.lst (WZ f2 so.2.2) hp
   rw[hr] at k
   exact k _ _ (X1.trans X2) E2 _ h3
  ·cases e2
 ·exact h En0 e1 k
theorem zh1 {b:Bool}:TW K (zhK K b) (zaH b):=by
 intro F j σ H ρ S S' xs z vs Q E1 hv h k
 unfold zaH at h
 split at h
 ·rename_i x
  rw[Et] at h
  obtain⟨l,e3,e2⟩:=h
  rw[Et] at e2
  obtain⟨ks,e4,e2⟩:=e2
  split at e2
  ·rename_i hc
   cases e2
   obtain⟨rfl,h4,ok,nd⟩:=hc
   obtain⟨w,rfl,hx⟩:=hv.d1
   obtain⟨p,ws,rfl,h1,h2⟩:=E1.lstAt hx e3
   refine⟨p,ws,ks,rfl,h1.sql,h2.nis e4,h4,ok,nd,λq outs so _ hq=> ?_⟩
   have hr:xY ks=outs.map (·.1):=Vz so.1 so.2.1
   obtain⟨E2,X2,h3⟩:=E1.lst (WZ h2 so.2.2) hq
   rw[hr] at k
   exact k _ _ _ X2 E2 h3
  ·cases e2
 ·cases h
end
theorem zeP {S:Sto} {x:Xv} {ks:List NK} {P:Xv->Sto->Prop} (h:zu S x=some (ks.map unk)) (h4:ks.length<=4) (ok:KOk false ks) (hn:∀k∈ks,ZJ k=true) (k:P (.ref S.length) (S++[.lst ((xY ks).map unk)])):WO (XY x S) P:= .of (by
 unfold XY
 rw[h,Ee,<-ZY,YU,Ee,ZY,if_pos ⟨rfl,h4,ok,hn⟩]) k
theorem zh2 {b:Bool} {S:Sto} {x:Xv} {ks:List NK} {P:Xv->Sto->Prop} (h:zu S x=some (ks.map unk)) (h4:ks.length<64) (ok:KOk b ks) (nd:ks.Nodup) (k:P (.ref S.length) (S++[.lst ((xY ks).map unk)])):WO (zaH b [x] S) P:= .of (by
 unfold zaH
 dsimp only
 rw[h,Ee,<-ZY,YU,Ee,ZY,if_pos ⟨rfl,h4,ok,nd⟩]) k
noncomputable def zdT (kvs:List (Key×Xv)):List Xv:=kvs.map λp=>kX p.1
noncomputable def zh3 (n:Nat) (S:Sto):Option (List Xv):=match S[n]? with
 |some (.fdk kvs)=>some (zdT kvs)
 |_=>none
noncomputable def zh4 (m:TwE):TwI:=λρ S=>rb (m ρ S) λx S1=>(xP S1 x).map λp=> .ok (zh3 p.1) (S1.set p.1 (.fdk p.2))
section
variable {K:E9} {E:XK}
theorem zh5 {S:Sto} {n:Nat} {c:Ce} (h:S[n]? =some c):S.set n c=S:=by
 obtain⟨hi,e⟩:=E8.1 h
 rw[<-e]
 exact Hl hi
theorem zjp {t:TE} {m:TwE} (h:RE K E t m):RI K E (zhM (zde K "dict" zbF t)) (zh4 m):=by
 intro F j σ H ρ S r R En0 e k
 rcases zA e with⟨x,S1,e1,e⟩|⟨c,S1,e1,rfl⟩
 ·cases e4:xP S1 x with
  |none=>rw[e4] at e;cases e
  |some p=>
   obtain⟨n,kvs⟩:=p
   rw[e4] at e
   cases e
   refine h En0 e1 λj1 H1 X1 E1 u hu=> ?_
   obtain⟨a,ks,rfl,hj,h1,h2⟩:=E1.dr hu e4
   refine⟨zi9 h1,a,ks,rfl,rfl,h1,λp hp=> ?_⟩
   obtain⟨E2,X2⟩:=E1.new (o:=WB p a) hp
   have fin:∀o j3 H3,Ext j1 (upd H1 p (WB p a)) j3 H3->En K F j3 H3 σ ρ (S1.set n (.fdk kvs))->H3 a=some (.frz o (.dK ks))->R (Kym a o ks) H3:=λo j3 H3 X3 E3 Cq=>by
    refine k _ _ (X1.trans (X2.trans X3)) E3 _ ?_
    intro F2 j2 H2 σ2 ρ2 S2 xs i X4 E4 e5
    unfold zh3 at e5
    split at e5
    ·rename_i oJ ec
     cases e5
     have ha:H2 a=some (.frz o (.dK ks)):=X4.imm _ _ Cq rfl
     obtain⟨o',ks',f1,f2⟩:=E4.cel n _ a ec (X4.pre n a (X3.pre n a (X2.pre n a hj)))
     rw[ha] at f1
     cases f1
     refine⟨λy ey=> ?_,λhle=>⟨ha,by rw[f2.len];unfold zdT at hle;rw[Eb] at hle;omega⟩⟩
     unfold zdT at ey
     rw[Ef] at ey
     cases ep:oJ[i]? with
     |none=>rw[ep] at ey;cases ey
     |some q=>
      obtain⟨kk,xx⟩:=q
      rw[ep] at ey
      cases ey
      obtain⟨v,g1,g2⟩:=f2.get ep
      refine⟨⟨ha,kk,v,g1⟩,?_⟩
      rintro v' H' ⟨rfl,k2,v2,rfl,g3⟩
      rw[g1] at g3
      cases g3
      exact⟨WL.refl _,zmn⟩
    ·cases e5
   refine⟨p,a,ks,rfl,yj,h1.new hp,λh3 o=> ?_,λo h3=> ?_⟩
   ·have hs:S1[n]? =some (.dk kvs):=by
     cases x<;>simp only[xP,reduceCtorEq] at e4
     split at e4
     ·rename_i hs
      cases e4
      exact hs
     ·rename_i hs
      cases e4
      obtain⟨o',ks',f1,_⟩:=E2.cel n _ a hs (X2.pre n a hj)
      rw[h3] at f1
      cases f1
     ·cases e4
    obtain⟨E3,X3⟩:=E2.writeF (n:=n) (c':= .fdk kvs) (o:= .frz o (.dK ks)) hs rfl (X2.pre n a hj) (λX=>⟨o,ks,yj,(h2.mono X2).mono X⟩)
    exact fin o _ _ X3 E3 yj
   ·have hs:S1[n]? =some (.fdk kvs):=by
     cases x<;>simp only[xP,reduceCtorEq] at e4
     split at e4
     ·rename_i hs
      cases e4
      obtain⟨ks',f1,_⟩:=E2.cel n _ a hs (X2.pre n a hj)
      rw[h3] at f1
      cases f1
     ·rename_i hs
      cases e4
      exact hs
     ·cases e4
    rw[zh5 hs] at fin
    exact fin o _ _ Ext.refl E2 h3
 ·exact h En0 e1 k
end
theorem zh6 {ρ:Rho} {S:Sto} {m:TwE} {Q':(Sto->Option (List Xv))->Sto->Prop} (h:W (m ρ S) λx S1=>∃n kvs,xP S1 x=some (n,kvs)/\Q' (zh3 n) (S1.set n (.fdk kvs))):W (zh4 m ρ S) Q':=W.bind (h.imp λx S1 h=>by
 obtain⟨n,kvs,e,q⟩:=h
 rw[e]
 exact .of rfl q)
noncomputable def gL (n:Nat) (gs:zci):TwG:=λx ρ S=>(zu S x).bind λl=>if l.length=n then gs l ρ S else none
theorem zlk {K:E9} {E:XK} {n:Nat} {t:TGs} {gs:zci} (h:RGs K E t gs):RG K E (zkj K n t) (gL n gs):=by
 intro F j σ H ρ S r x v R E0 hx e k
 unfold gL at e
 rw[Et] at e
 obtain⟨l,e1,e⟩:=e
 split at e
 ·rename_i hl
  obtain⟨a,vs,rfl,h1,h2⟩:=E0.lstAt hx e1
  exact⟨a,vs,rfl,h1.sql,by rw[h2.len];exact hl,h E0 h2 e k⟩
 ·cases e
noncomputable def zdU:Opn:=λxs S=>match xs with
 |[.ref n]=>match S[n]? with
  |some (.dk kvs)=>some (.int kvs.length,S)
  |some (.fdk kvs)=>some (.int kvs.length,S)
  |some (.dn kvs)=>some (.int kvs.length,S)
  |_=>none
 |_=>none
theorem zjq {K:E9}:TW K zkk zdU:=by
 intro F j σ H ρ S S' xs z vs Q E1 hv h k
 unfold zdU at h
 split at h
 ·rename_i n
  obtain⟨w,rfl,hx⟩:=hv.d1
  obtain⟨a,rfl,hj⟩:=hx.ref_inv
  refine⟨a,rfl,?_⟩
  split at h
  ·rename_i kvs hs
   cases h
   obtain⟨ks,e1,e2⟩:=E1.cel _ _ _ hs hj
   exact .inl ⟨ks,.inl e1,k _ _ _ Ext.refl E1 (by rw[e2.len];exact .int _)⟩
  ·rename_i kvs hs
   cases h
   obtain⟨o,ks,e1,e2⟩:=E1.cel _ _ _ hs hj
   exact .inl ⟨ks,.inr ⟨o,e1⟩,k _ _ _ Ext.refl E1 (by rw[e2.len];exact .int _)⟩
  ·rename_i kvs hs
   cases h
   obtain⟨ks,e1,e2⟩:=E1.cel _ _ _ hs hj
   exact .inr ⟨ks,e1,k _ _ _ Ext.refl E1 (by rw[e2.len];exact .int _)⟩
  ·cases h
 ·cases h
noncomputable def zdV (d:D):List D->Option (List Bool)
 |[]=>some []
 |e::r=>(eqG 39 e d).bind λb=>(zdV d r).map (b:: ·)
theorem zcI {d:D}:∀{ds:List D} {bs:List Bool},zdV d ds=some bs->bs.length=ds.length/\∀(i:Nat) e b,ds[i]? =some e->bs[i]? =some b->eqG 39 e d=some b
 |[],bs,h=>by cases h;exact⟨rfl,λi e b h=>by simp at h⟩
 |e::r,bs,h=>by
  unfold zdV at h
  rw[Et] at h
  obtain⟨b,h1,h⟩:=h
  rw[Ez] at h
  obtain⟨bs',h2,rfl⟩:=h
  obtain⟨i1,i2⟩:=zcI h2
  refine⟨by rw[EB,EB,i1],λi e' b' q1 q2=> ?_⟩
  cases i with
  |zero=>simp at q1 q2;subst q1 q2;exact h1
  |succ i=>exact i2 i e' b' (by simpa using q1) (by simpa using q2)
noncomputable def zdW (neg:Bool):Op2:=λx y S=>(zu S y).bind λl=>(xW (yU S 40) l).bind λds=>(yU S 40 x).bind λd=>(zdV d ds).map λbs=>(.bl (neg !=bs.any id),S)
noncomputable def VB:OpM:=λx ys S=>match UR S x,ys with
 |some (_,l),[y]=>(xW (yU S 40) l).bind λds=>(yU S 40 y).bind λd=>(zdV d ds).bind λbs=>(bs.findIdx? id).map λ(k:Nat)=>(Xv.int (k:Int),S)
 |_,_=>none
noncomputable def VC:Xv->Sto->Option (Xv×Sto):=λx S=>(Zv S x).bind λp=>(vG p.2).bind λns=>if ns.length<64 then some (.ref S.length,S++[.lst ((yQ ns).map λk=> .tup [.int k,(yV p.2 (.inl k)).getD .non])]) else none
noncomputable def Ui:Xv->Sto->Option (Xv×Sto):=λx S=>((xP S x).bind λp=>vG p.2).bind λns=>if ns.length<64 then some (.ref S.length,S++[.lst ((yQ ns).reverse.map Xv.int)]) else none
section
variable {K:E9} {E:XK}
theorem zh7 {neg:Bool}:WP K (zml K neg) (zdW neg):=by
 intro F j σ H ρ S S' x y z u v Q E1 hx hy h k
 unfold zdW at h
 rw[Et] at h
 obtain⟨l,e1,h⟩:=h
 rw[Et] at h
 obtain⟨ds,e2,h⟩:=h
 rw[Et] at h
 obtain⟨d,e3,h⟩:=h
 rw[Ez] at h
 obtain⟨bs,e4,h⟩:=h
 cases h
 obtain⟨p,ws,rfl,h1,h2⟩:=E1.lstAt hy e1
 obtain⟨i1,i2⟩:=zcI e4
 exact⟨p,ws,ds,d,bs,rfl,h1.sql,(YN (λa b c=>Xg E1 40 a b c) h2 e2).1,(Xg E1 40 _ _ _ hx e3).1,i1,i2,k _ _ _ Ext.refl E1 (.bl _)⟩
theorem zgm:zkQ K (zfw K) VB:=by
 intro F j σ H ρ S S' x z ys u vs Q E0 hx hy h k
 unfold VB at h
 split at h
 ·rename_i n l y e
  rw[Et] at h
  obtain⟨ds,e2,h⟩:=h
  rw[Et] at h
  obtain⟨d,e3,h⟩:=h
  rw[Et] at h
  obtain⟨bs,e4,h⟩:=h
  rw[Ez] at h
  obtain⟨q,e5,h⟩:=h
  cases h
  obtain⟨a,ws,rfl,hj,h1,h2⟩:=E0.wl hx e
  obtain⟨w0,rfl,hw⟩:=hy.d1
  obtain⟨i1,i2⟩:=zcI e4
  obtain⟨bS,kz,dR⟩:=He.1 e5
  refine⟨a,ws,w0,ds,d,bs,q,rfl,rfl,h1,(YN (λa b c=>Xg E0 40 a b c) h2 e2).1,(Xg E0 40 _ _ _ hw e3).1,i1,i2,?_,λm hm=> ?_,k _ _ _ Ext.refl E0 (.int _)⟩
  ·rw[DZ bS]
   exact congrArg some kz
  ·rw[DZ ⋯]
   have:=dR m hm
   exact congrArg some (by simpa using this)
 ·cases h
theorem zh8 {to:TE} {o:TwE} (h:RE K E to o):RE K E (zhQ K to) (eUn Ui o):=by
 intro F j σ H ρ S r Q En0 e k
 rcases zA e with⟨x,S1,e1,e⟩|⟨c,S1,e1,rfl⟩
 ·obtain⟨z,S3,e3,rfl⟩:=wA e
  refine h En0 e1 λj1 H1 X1 E1 u hu=> ?_
  unfold Ui at e3
  cases e4:xP S1 x with
  |none=>rw[e4] at e3;cases e3
  |some p=>
   obtain⟨n,kvs⟩:=p
   rw[e4] at e3
   cases e2:vG kvs with
   |none=>simp[e2] at e3
   |some ns=>
    simp only[Ee,e2] at e3
    split at e3
    ·rename_i cJ
     cases e3
     obtain⟨a,ks,rfl,hj,h1,h2⟩:=E1.dr hu e4
     refine⟨zi9 h1,a,ks,rfl,rfl,h1,λp hp=> ?_⟩
     obtain⟨E2,X2⟩:=E1.new (o:=WB p a) hp
     refine⟨p,a,ks,ns,rfl,yj,h1.new hp,h2.keys.trans (YQ e2),cJ,λq hq=> ?_⟩
     obtain⟨E3,X3,h3⟩:=E2.lst (zO.ints (yQ ns).reverse) hq
     exact k _ _ (X1.trans (X2.trans X3)) E3 _ h3
    ·cases e3
 ·exact h En0 e1 k
theorem zkl {j:List Addr} {H:Hp} {kvs:List (Key×Xv)} {ks:List (Key×V)} (h:KX K j H kvs ks):∀(ns:List Int),(∀n∈ns,(F6 n:Key)∈kvs.map (·.1))->∀{ps:List Addr},WY H ps (ns.map λk=>(k,(Zq ks (.inl k)).getD .non))->zO K j H (ns.map λk=>Xv.tup [.int k,(yV kvs (.inl k)).getD .non]) (ps.map V.ref)
 |[],_,_,.nil=> .nil
 |n::ns,hm,_,.cons e r=>by
  refine .cons (.tup e (.cons (.int _) (.cons ?_ .nil))) (zkl h ns (λm qc=>hm m (Ej _ qc)) r)
  obtain⟨i1,_⟩:=KX.val (k:=(F6 n:Key)) h
  have aw:=hm n (Em ..)
  cases ev:yV kvs (F6 n:Key) with
  |none=>
   unfold yV at ev
   rw[Iy,GW] at ev
   obtain⟨q,q1,q2⟩:=Eh.1 aw
   exact absurd (decide_eq_true q2) (ev q q1)
  |some y=>
   obtain⟨w,w1,w2⟩:=i1 y ev
   dsimp only
   rw[w1]
   exact w2
theorem zgn {to:TE} {o:TwE} (h:RE K E to o):RE K E (tCB zft (Wz (zde K "dict" zhq to) zc9)) (eUn VC o):=by
 intro F j σ H ρ S r Q En0 e k
 rcases zA e with⟨x,S1,e1,e⟩|⟨c,S1,e1,rfl⟩
 ·obtain⟨z,S3,e3,rfl⟩:=wA e
  refine h En0 e1 λj1 H1 X1 E1 u hu=> ?_
  unfold VC at e3
  cases e4:Zv S1 x with
  |none=>rw[e4] at e3;cases e3
  |some p=>
   obtain⟨n,kvs⟩:=p
   rw[e4] at e3
   cases e2:vG kvs with
   |none=>simp[e2] at e3
   |some ns=>
    simp only[Ee,e2] at e3
    split at e3
    ·rename_i cJ
     cases e3
     obtain⟨a,ks,rfl,hj,h1,h2⟩:=E1.dk hu e4
     refine⟨tyD h1,a,ks,rfl,rfl,h1,λp hp=> ?_⟩
     obtain⟨E2,X2⟩:=E1.new (o:=zbM p a) hp
     have hk:=h2.keys.trans (YQ e2)
     refine⟨p,a,ks,ns,rfl,yj,by rw[yb (xK h1 hp)];exact h1,hk,cJ,λH2 ps l sm ts hl=> ?_⟩
     have X3:Ext j1 (upd H1 p (zbM p a)) j1 H2:=Ext.same sm
     have E3:=E2.heap sm
     have h3:=zkl ((h2.mono X2).mono X3) (yQ ns) (λm hm=>by
      rw[YQ e2]
      exact Eh.2 ⟨m,(vS ns).mem_iff.1 hm,rfl⟩) ts
     obtain⟨E4,X4,h4⟩:=E3.lst h3 hl
     exact k _ _ (X1.trans (X2.trans (X3.trans X4))) E4 _ h4
    ·cases e3
 ·exact h En0 e1 k
end
section
variable {S:Sto} {x y:Xv} {P:Xv->Sto->Prop}
theorem zh9 {neg:Bool} {l:List Xv} {ds:List D} {d:D} {bs:List Bool} (h1:zu S y=some l) (h2:xW (yU S 40) l=some ds) (h3:yU S 40 x=some d) (h4:zdV d ds=some bs) (k:P (.bl (neg !=bs.any id)) S):WO (zdW neg x y S) P:= .of (by
 unfold zdW
 rw[h1,Ee,h2,Ee,h3,Ee,h4]
 rfl) k
theorem zia {n:Nat} {kvs:List (Key×Xv)} {ns:List Int} (h:xP S x=some (n,kvs)) (e:vG kvs=some ns) (cJ:ns.length<64) (k:P (.ref S.length) (S++[.lst ((yQ ns).reverse.map Xv.int)])):WO (Ui x S) P:= .of (by unfold Ui;rw[h,Ee,e,Ee,if_pos cJ]) k
theorem zgo {n:Nat} {kvs:List (Key×Xv)} {ns:List Int} (h:Zv S x=some (n,kvs)) (e:vG kvs=some ns) (cJ:ns.length<64) (k:P (.ref S.length) (S++[.lst ((yQ ns).map λk=> .tup [.int k,(yV kvs (.inl k)).getD .non])])):WO (VC x S) P:= .of (by unfold VC;rw[h,Ee,e,Ee,if_pos cJ]) k
end
noncomputable def zbS (S:Sto):Xv->Option NK
 | .tup [x,.ref m]=>(YL x).bind λg=>match g with
  | .tup gs=>((zu S (.ref m)).bind YM).map λps=> .tup [.tup gs,.tup ps]
  |_=>none
 |_=>none
noncomputable def zaI (S:Sto):List Xv->Option (List NK)
 |[]=>some []
 |x::r=>(zbS S x).bind λk=>(zaI S r).map (k:: ·)
noncomputable def zaJ (ks:List NK) (l:List Xv) (k:NK):Xv:=l.getD ((ks.findIdx? λz=>decide (z=k)).getD 0) .non
open Classical in
noncomputable def Ws:Opn:=λxs S=>match xs with
 |[x]=>(zu S x).bind λl=>(zaI S l).bind λks=>if ks.length<64/\KOk false ks/\ks.Nodup then some (.ref S.length,S++[.lst ((xY ks).map (zaJ ks l))]) else none
 |_=>none
theorem zdX {S:Sto}:∀{l:List Xv} {ks:List NK},zaI S l=some ks->ks.length=l.length/\∀(i:Nat) k,ks[i]? =some k->∃x,l[i]? =some x/\zbS S x=some k
 |[],ks,h=>by cases h;exact⟨rfl,λi k e=>by simp at e⟩
 |x::r,ks,h=>by
  unfold zaI at h
  rw[Et] at h
  obtain⟨k,h1,h⟩:=h
  rw[Ez] at h
  obtain⟨ks',h2,rfl⟩:=h
  obtain⟨i1,i2⟩:=zdX h2
  refine⟨by rw[EB,EB,i1],λi k' e=> ?_⟩
  cases i with
  |zero=>simp at e;subst e;exact⟨x,rfl,h1⟩
  |succ i=>exact i2 i k' (by simpa using e)
theorem zdY {ks:List NK} {l:List Xv} (nd:ks.Nodup) {p:Nat} {k:NK} {x:Xv} (h1:ks[p]? =some k) (h2:l[p]? =some x):zaJ ks l k=x:=by
 unfold zaJ
 obtain⟨hp,ep⟩:=E8.1 h1
 have:ks.findIdx? (λz=>decide (z=k))=some p:=by
  rw[He]
  refine⟨hp,decide_eq_true ep,λj hj=> ?_⟩
  have:ks[j]≠k:=λe=>by
   have:=(FE nd).1 (e.trans ep.symm)
   omega
  simpa using this
 rw[this,HV,Ec,h2]
 rfl
section
variable {K:E9} {E:XK}
theorem zib {F:Fm} {j:List Addr} {H:Hp} {σ:St} {ρ:Rho} {S:Sto} {x:Xv} {v:V} {k:NK} (E1:En K F j H σ ρ S) (hx:Xis K j H x v) (h:zbS S x=some k):KdV K H v k:=by
 unfold zbS at h
 split at h
 ·rename_i x m
  rw[Et] at h
  obtain⟨g,e1,h⟩:=h
  split at h
  ·rename_i gs
   rw[Ez] at h
   obtain⟨ps,e2,rfl⟩:=h
   rw[Et] at e2
   obtain⟨l,e2,e3⟩:=e2
   cases hx with
   | @tup a vs _ h1 h2=>
    cases h2 with
    | @cons _ w _ vs' hw h2=>
     cases h2 with
     | @cons _ w' _ _ B5 h3=>
      cases h3
      obtain⟨b,ws,rfl,f1,f2⟩:=E1.lstAt B5 e2
      exact⟨gs,ps,a,b,w,ws,rfl,rfl,SqT.of h1,hw.nis e1,f1.sql,f2.nis e3⟩
  ·cases h
 ·cases h
theorem zgp:TW K (zfx K) Ws:=by
 intro F j σ H ρ S S' xs z vs Q E1 hv h k
 unfold Ws at h
 split at h
 ·rename_i x
  rw[Et] at h
  obtain⟨l,e3,e2⟩:=h
  rw[Et] at e2
  obtain⟨ks,e4,e2⟩:=e2
  split at e2
  ·rename_i hc
   cases e2
   obtain⟨h4,ok,nd⟩:=hc
   obtain⟨w,rfl,hx⟩:=hv.d1
   obtain⟨p,ws,rfl,h1,h2⟩:=E1.lstAt hx e3
   obtain⟨i1,i2⟩:=zdX e4
   have hlen:=h2.len
   refine⟨p,ws,ks,rfl,h1.sql,⋯,λi k hk=> ?_,h4,ok,nd,λq outs so eY hq=> ?_⟩
   ·obtain⟨x,r1,r2⟩:=i2 i k hk
    obtain⟨v,r3,r4⟩:=h2.get r1
    exact⟨v,r3,zib E1 r4 r2⟩
   have hr:xY ks=outs.map (·.1):=Vz so.1 so.2.1
   have tJ:zO K j H ((xY ks).map (zaJ ks l)) (outs.map (·.2)):=by
    rw[hr,F3]
    have sL:=so.2.2
    clear hr so eY
    induction outs with
    |nil=>exact .nil
    |cons o outs ih=>
     obtain⟨p,r1,r2⟩:=sL o (Em ..)
     have hp:p<l.length:=by rw[<-i1];exact (E8.1 r1).1
     obtain⟨v,r3,r4⟩:=h2.get (DZ hp)
     rw[r2] at r3
     cases r3
     refine .cons ?_ (ih λx hx=>sL x (Ej _ hx))
     show Xis K j H (zaJ ks l o.1) o.2
     rw[zdY nd r1 (DZ hp)]
     exact r4
   obtain⟨E2,X2,h3⟩:=E1.lst tJ hq
   exact k _ _ _ X2 E2 h3
  ·cases e2
 ·cases h
end
theorem zgq {S:Sto} {x:Xv} {l:List Xv} {ks:List NK} {P:Xv->Sto->Prop} (h:zu S x=some l) (hk:zaI S l=some ks) (h4:ks.length<64) (ok:KOk false ks) (nd:ks.Nodup) (k:P (.ref S.length) (S++[.lst ((xY ks).map (zaJ ks l))])):WO (Ws [x] S) P:= .of (by
 unfold Ws
 dsimp only
 rw[h,Ee,hk,Ee,if_pos ⟨h4,ok,nd⟩]) k
end L2
namespace Mth
open PySem.Builtin.Int (intBits)
end Mth
namespace Prf
open PySem PySem.Spec PyProof.Rows L2
open PySem.Builtin.Int (intBits)
set_option maxHeartbeats 4000000
section
variable {P:Program} {w:World} {K:E9} {mg:Str->Option Value} {base:Heap} {fu:Nat}
noncomputable def top (i:Nat):Stmt:=PySem.Challenge.pw_lots_k71_rounds_walked.main.body.getD i (.Pass ⟨0,0,0,0⟩)
noncomputable abbrev xn:Stmt:=top 2
noncomputable abbrev ZZ:Stmt:=top 3
noncomputable abbrev Va:Stmt:=top 4
noncomputable abbrev wD:Stmt:=top 5
noncomputable abbrev Ya:Stmt:=top 7
noncomputable abbrev wE:Stmt:=top 8
noncomputable abbrev Yb:Stmt:=top 9
noncomputable abbrev xg:Stmt:=top 10
noncomputable abbrev yR:Stmt:=top 11
noncomputable abbrev yX:Stmt:=top 13
noncomputable abbrev xR:Stmt:=top 14
noncomputable abbrev yG:Stmt:=top 15
noncomputable abbrev wF:Stmt:=top 16
noncomputable abbrev wG:Stmt:=top 17
noncomputable abbrev xh:Stmt:=top 18
noncomputable abbrev xi:Stmt:=top 19
noncomputable abbrev xj:Stmt:=top 20
noncomputable abbrev xS:Stmt:=top 21
noncomputable abbrev yB:Stmt:=top 22
noncomputable abbrev yC:Stmt:=top 23
noncomputable abbrev xJ:Stmt:=top 24
noncomputable abbrev yH:Stmt:=top 25
noncomputable abbrev vU:Stmt:=top 26
noncomputable abbrev xT:Stmt:=top 27
noncomputable abbrev xo:Stmt:=top 28
noncomputable abbrev VD:Stmt:=top 29
theorem xz:zY ["one","other","rest"] ["one","other"] (zp xn):=⟨rfl,rfl,rfl, *...*,rfl, *...*, *...*⟩
theorem Uj:zY ["top","bottom","part"] ["top","bottom"] (zp ZZ):=⟨rfl,rfl,rfl, *...*,rfl, *...*, *...*⟩
theorem zjr:zY ["one","other"] ["one","other"] (zp Va):=⟨rfl,rfl,rfl, *...*,rfl, *...*, *...*⟩
theorem Yl:zY ["pairs","totals","thing","share"] ["pairs"] (zp wD):=⟨rfl,rfl,rfl, *...*,rfl, *...*, *...*⟩
theorem Wt:zY ["net","marks","told","finer"] ["net","marks"] (zp Ya):=⟨rfl,rfl,rfl, *...*,rfl, *...*, *...*⟩
theorem XZ:zY ["keys","numbers","key"] ["keys"] (zp wE):=⟨rfl,rfl,rfl, *...*,rfl, *...*, *...*⟩
theorem Wu:zY ["net","classes","keys","node","choices"] ["net","classes"] (zp Yb):=⟨rfl,rfl,rfl, *...*,rfl, *...*, *...*⟩
theorem WF:zY ["choices","classes","by_classes"] ["choices","classes"] (zp xg):=⟨rfl,rfl,rfl, *...*,rfl, *...*, *...*⟩
theorem zaK:zY ["parts","classes"] ["parts","classes"] (zp yR):=⟨rfl,rfl,rfl, *...*,rfl, *...*, *...*⟩
theorem UT:zY ["_law_script","_law_k"] ["_law_script","_law_k"] (zp yX):=⟨rfl,rfl,rfl, *...*,rfl, *...*, *...*⟩
theorem zbi:zY ["_law_number","_law_prime","_law_many"] ["_law_number","_law_prime","_law_many"] (zp xR):=⟨rfl,rfl,rfl, *...*,rfl, *...*, *...*⟩
theorem wN:zY ["_law_top","_law_bottom","_law_one","_law_other"] ["_law_top","_law_bottom"] (zp yG):=⟨rfl,rfl,rfl, *...*,rfl, *...*, *...*⟩
theorem zcJ:zY ["_law_cell"] ["_law_cell"] (zp wF):=⟨rfl,rfl,rfl, *...*,rfl, *...*, *...*⟩
theorem VE:zY ["_law_script","_law_count","_law_place","_law_turned"] ["_law_script","_law_count","_law_place"] (zp wG):=⟨rfl,rfl,rfl, *...*,rfl, *...*, *...*⟩
theorem wO:zY ["_law_script","_law_first","_law_count","_law_net","_law_place","_law_node"] ["_law_script"] (zp xh):=⟨rfl,rfl,rfl, *...*,rfl, *...*, *...*⟩
theorem yD:zY ["_law_script","_law_count","_law_table","_law_k","_law_cell","_law_place","_law_slot","_law_weights","_law_to"] ["_law_script"] (zp xi):=⟨rfl,rfl,rfl, *...*,rfl, *...*, *...*⟩
theorem Yt:zY ["_law_script","_law_node","_law_to","_law_copies","_law_cell","_law_weights"] ["_law_script","_law_node","_law_to","_law_copies"] (zp xj):=⟨rfl,rfl,rfl, *...*,rfl, *...*, *...*⟩
theorem xp:zY ["_law_script","_law_node","_law_weights","_law_homes_here","_law_parts_here","_law_whole","_law_to","_law_split_here","_law_k","_law_weight"] ["_law_script","_law_node","_law_weights","_law_homes_here"] (zp xS):=⟨rfl,rfl,rfl, *...*,rfl, *...*, *...*⟩
theorem wU:zY ["_law_script","_law_count","_law_many","_law_homes_here","_law_copies","_law_begun"] ["_law_script","_law_count"] (zp yB):=⟨rfl,rfl,rfl, *...*,rfl, *...*, *...*⟩
theorem zW:zY ["_law_script","_law_table","_law_homes_here","_law_count","_law_net","_law_marks","_law_cell","_law_base","_law_home","_law_node","_law_slot","_law_gain_here","_law_weights"] ["_law_script"] (zp yC):=⟨rfl,rfl,rfl, *...*,rfl, *...*, *...*⟩
theorem Xn:zY ["_law_net","_law_copied","_law_choices"] ["_law_net"] (zp xJ):=⟨rfl,rfl,rfl, *...*,rfl, *...*, *...*⟩
theorem wP:zY ["_law_keys","_law_firsts","_law_classes","_law_key"] ["_law_keys"] (zp yH):=⟨rfl,rfl,rfl, *...*,rfl, *...*, *...*⟩
theorem vV:zY ["_law_choice","_law_classes","_law_sums","_law_node","_law_share","_law_top","_law_bottom"] ["_law_choice","_law_classes"] (zp vU):=⟨rfl,rfl,rfl, *...*,rfl, *...*, *...*⟩
theorem wd:zY ["_law_net","_law_classes","_law_keys","_law_node","_law_kinds","_law_choice","_law_kind"] ["_law_net","_law_classes"] (zp xT):=⟨rfl,rfl,rfl, *...*,rfl, *...*, *...*⟩
theorem Wa:zY ["_law_found","_law_count","_law_number"] ["_law_found","_law_count"] (zp xo):=⟨rfl,rfl,rfl, *...*,rfl, *...*, *...*⟩
theorem vW:zY ["_law_script","_law_net","_law_marks","_law_handed","_law_asked","_law_found","_law_due","_law_classes","_law_kept"] ["_law_script"] (zp VD):=⟨rfl,rfl,rfl, *...*,rfl, *...*, *...*⟩
set_option genInjectivity false in
set_option genSizeOf false in
structure Tx (K:E9) (mg:Str->Option Value) where
 aY:Addr
 aK:FuncData
 bQ:Fun K "common_part" "common_part" xn aY aK
 cH:mg "common_part"=some (.ref aY)
 cL:yT K aK ["one","other"] []
 dg:Addr
 cD:FuncData
 e8:Fun K "lowest" "lowest" ZZ dg cD
 eR:mg "lowest"=some (.ref dg)
 eU:yT K cD ["top","bottom"] []
 eL:Addr
 dD:FuncData
 fA:Fun K "plus" "plus" Va eL dD
 fZ:mg "plus"=some (.ref eL)
 gu:yT K dD ["one","other"] []
 bY:Addr
 bI:FuncData
 cS:Fun K "gathered" "gathered" wD bY bI
 dM:mg "gathered"=some (.ref bY)
 dY:yT K bI ["pairs"] []
 de:Addr
 cB:FuncData
 dh:Fun K "rounds" "rounds" Ya de cB
 dI:mg "rounds"=some (.ref de)
 dW:yT K cB ["net","marks"] []
 bX:Addr
 bH:FuncData
 c7:Fun K "numbered" "numbered" wE bX bH
 cP:mg "numbered"=some (.ref bX)
 cQ:yT K bH ["keys"] []
 df:Addr
 cC:FuncData
 di:Fun K "parted" "parted" Yb df cC
 dJ:mg "parted"=some (.ref df)
 dX:yT K cC ["net","classes"] []
 bp:Addr
 aP:FuncData
 c9:Fun K "choices_by" "choices_by" xg bp aP
 cT:mg "choices_by"=some (.ref bp)
 d3:yT K aP ["choices","classes"] []
 aX:Addr
 aJ:FuncData
 bP:Fun K "gathered_by" "gathered_by" yR aX aJ
 cG:mg "gathered_by"=some (.ref aX)
 cK:yT K aJ ["parts","classes"] []
 aM:Addr
 aB:FuncData
 aj:Fun K "_law_cell_at" "_law_cell_at" yX aM aB
 ak:mg "_law_cell_at"=some (.ref aM)
 ao:yT K aB ["_law_script","_law_k"] []
 bu:Addr
 aS:FuncData
 af:Fun K "_law_mixed" "_law_mixed" xR bu aS
 ag:mg "_law_mixed"=some (.ref bu)
 ah:yT K aS ["_law_number","_law_prime","_law_many"] []
 aE:Addr
 ay:FuncData
 av:Fun K "_law_fraction" "_law_fraction" yG aE ay
 aA:mg "_law_fraction"=some (.ref aE)
 aC:yT K ay ["_law_top","_law_bottom"] []
 bM:Addr
 bh:FuncData
 cy:Fun K "_law_gain" "_law_gain" wF bM bh
 du:mg "_law_gain"=some (.ref bM)
 dz:yT K bh ["_law_cell"] []
 bL:Addr
 bg:FuncData
 b7:Fun K "_law_name" "_law_name" wG bL bg
 bG:mg "_law_name"=some (.ref bL)
 bJ:yT K bg ["_law_script","_law_count","_law_place"] []
 bK:Addr
 bf:FuncData
 cx:Fun K "_law_rows" "_law_rows" xh bK bf
 dq:mg "_law_rows"=some (.ref bK)
 dy:yT K bf ["_law_script"] []
 bz:Addr
 aV:FuncData
 cj:Fun K "_law_bases" "_law_bases" xi bz aV
 cX:mg "_law_bases"=some (.ref bz)
 da:yT K aV ["_law_script"] []
 bq:Addr
 aQ:FuncData
 cb:Fun K "_law_split" "_law_split" xj bq aQ
 cU:mg "_law_split"=some (.ref bq)
 d7:yT K aQ ["_law_script","_law_node","_law_to","_law_copies"] []
 bt:Addr
 aR:FuncData
 bB:Fun K "_law_parts" "_law_parts" xS bt aR
 bU:mg "_law_parts"=some (.ref bt)
 bW:yT K aR ["_law_script","_law_node","_law_weights","_law_homes_here"] []
 bw:Addr
 aT:FuncData
 cf:Fun K "_law_homes" "_law_homes" yB bw aT
 cV:mg "_law_homes"=some (.ref bw)
 d8:yT K aT ["_law_script","_law_count"] []
 bx:Addr
 aU:FuncData
 cg:Fun K "_law_blown" "_law_blown" yC bx aU
 cW:mg "_law_blown"=some (.ref bx)
 d9:yT K aU ["_law_script"] []
 bN:Addr
 bj:FuncData
 cz:Fun K "_law_copy" "_law_copy" xJ bN bj
 dv:mg "_law_copy"=some (.ref bN)
 dA:yT K bj ["_law_net"] []
 aD:Addr
 ax:FuncData
 aF:Fun K "_law_numbered" "_law_numbered" yH aD ax
 b8:mg "_law_numbered"=some (.ref aD)
 b9:yT K ax ["_law_keys"] []
 cE:Addr
 bV:FuncData
 dm:Fun K "_law_by" "_law_by" vU cE bV
 eB:mg "_law_by"=some (.ref cE)
 eE:yT K bV ["_law_choice","_law_classes"] []
 bA:Addr
 aW:FuncData
 ck:Fun K "_law_after" "_law_after" xT bA aW
 cY:mg "_law_after"=some (.ref bA)
 dc:yT K aW ["_law_net","_law_classes"] []
 aZ:Addr
 aL:FuncData
 bR:Fun K "_law_wholes" "_law_wholes" xo aZ aL
 cI:mg "_law_wholes"=some (.ref aZ)
 cM:yT K aL ["_law_found","_law_count"] []
 eV:Addr
 dS:FuncData
 iI:Fun K "law" "law" VD eV dS
 jX:mg "law"=some (.ref eV)
 lO:yT K dS ["_law_script"] []
 fY:mg "abs"=none
 fX:mg "bool"=none
 b0:mg "enumerate"=none
 ib:mg "int"=none
 aH:mg "isinstance"=none
 cu:mg "len"=none
 cO:mg "list"=none
 az:mg "range"=none
 dH:mg "reversed"=none
 ia:mg "set"=none
 bC:mg "sorted"=none
 dG:mg "sum"=none
 eG:mg "tuple"=none
 aN:Addr
 dO:mg "NOUGHT"=some (.ref aN)
 dU:∀H,SqT K H aN [.int 0,.int 1]
local macro_rules | `(tactic| walk_at "q1") => `(tactic| first | exact .inl rfl | exact .inr rfl | assumption)
noncomputable def Yc (fu:Nat):TwS:=(zF (yc (eFn zhb [(ze 0)]) (gN 0)) (zF (yc (eFn zhb [(ze 1)]) (gN 1)) (zF (sWh fu (bE (eOp zet (ze 1) (eC (.int 0)))) (zF (yc (eOp Xe (ze 0) (ze 1)) (gN 2)) (zF (yc (ze 1) (gN 0)) (yc (ze 2) (gN 1))))) (wg (ze 0)))))
noncomputable def Wb (fu:Nat):TwF:=yZ 2 1 (Yc fu)
theorem zaL (T:Tx K mg):xE P w K mg base (CXE P w) 1 T.aY T.aK ["one","other"] (sTw K 2 (Wb fu)):=
 T.bQ.okE xz (λvs H Q E h=>h.1) (λaO A outer s H vs Q E hr h=>⟨_,(@zi _ _ _ _ _ (@zH _ _ 0 _ _ _ _ xz.nd rfl (El rfl) (zQ zc8 rfl T.fY boot_abs (@za _ _ _ _ _ (pv 0) zf zj)) (by rfl) (by walk_at "q1")) (@zi _ _ _ _ _ (@zH _ _ 1 _ _ _ _ xz.nd rfl (El rfl) (zQ zc8 rfl T.fY boot_abs (@za _ _ _ _ _ (pv 1) zf zj)) (by rfl) (by walk_at "q1")) (@zi _ _ _ _ _ (Tt PassesOwn.leaving (we (zb5 (pv 1) zn)) (@zi _ _ _ _ _ (@zH _ _ 2 _ _ _ _ xz.nd rfl (El rfl) (zI Zp (pv 0) (pv 1)) (by rfl) (by walk_at "q1")) (@zi _ _ _ _ _ (@zH _ _ 0 _ _ _ _ xz.nd rfl (El rfl) (pv 1) (by rfl) (by walk_at "q1")) (@zr _ _ _ (@zH _ _ 1 _ _ _ _ xz.nd rfl (El rfl) (pv 2) (by rfl) (by walk_at "q1")))))) (@zr _ _ _ (@ye _ _ _ _ (pv 0)))))),xH (n:=2) (k:=1) (b:=Yc fu) rfl (zq (zB (xV zhc (zc (zb 0) zg)) zm) (zq (zB (xV zhc (zc (zb 1) zg)) zm) (zq (zaa (ZL (zcn (zb 1) (zo _))) (zq (zB (zt Zu (zb 0) (zb 1)) zm) (zq (zB (zb 1) zm) (zB (zb 2) zm)))) (yf (zb 0))))) h⟩)
noncomputable def Uk (fu:Nat):TwS:=(zF (yc (zC (Wb fu) [(ze 0),(ze 1)]) (gN 2)) (zF (sIf (bE (eOp dLt (ze 1) (eC (.int 0)))) (yc (eUn Vo (ze 2)) (gN 2)) xG) (wg (vD [(eOp WR (ze 0) (ze 2)),(eOp WR (ze 1) (ze 2))]))))
noncomputable def Ul (fu:Nat):TwF:=yZ 2 1 (Uk fu)
theorem zgr (T:Tx K mg):xE P w K mg base (CXE P w) 2 T.dg T.cD ["top","bottom"] (sTw K 2 (Ul fu)):=
 T.e8.okE Uj (λvs H Q E h=>h.1) (λaO A outer s H vs Q E hr h=>⟨_,(@zi _ _ _ _ _ (@zH _ _ 2 _ _ _ _ Uj.nd rfl (El rfl) (zv (zaL (fu:=fu) T) (hr.mono ∅) rfl T.cH T.bQ.kp T.cL .nil zM (@za _ _ _ _ _ (pv 0) (@za _ _ _ _ _ (pv 1) zf zj) zj)) (by rfl) (by walk_at "q1")) (@zi _ _ _ _ _ (wx (we (zjV (pv 1) zn)) (@zr _ _ _ (@zH _ _ 2 _ _ _ _ Uj.nd rfl (El rfl) (Tv WJ (pv 2)) (by rfl) (by walk_at "q1"))) yy) (@zr _ _ _ (@ye _ _ _ _ (@yL _ _ _ _ _ (@za _ _ _ _ _ (zI Vl (pv 0) (pv 2)) (@za _ _ _ _ _ (zI Vl (pv 1) (pv 2)) zf zZ) zZ)))))),xH (n:=2) (k:=1) (b:=Uk fu) rfl (zq (zB (zw (zc (zb 0) (zc (zb 1) zg))) zm) (zq (wB (ZL (zkf (zb 1) (zo _))) (zB (TY WT (zb 2)) zm) yz) (yf (yM (zc (zt Vp (zb 0) (zb 2)) (zc (zt Vp (zb 1) (zb 2)) zg)))))) h⟩)
noncomputable def zcK (fu:Nat):TwS:=(wg (zC (Ul fu) [(eOp vx (eOp ZG (eOp XI (ze 0) (eC (.int 0))) (eOp XI (ze 1) (eC (.int 1)))) (eOp ZG (eOp XI (ze 1) (eC (.int 0))) (eOp XI (ze 0) (eC (.int 1))))),(eOp ZG (eOp XI (ze 0) (eC (.int 1))) (eOp XI (ze 1) (eC (.int 1))))]))
noncomputable def zcL (fu:Nat):TwF:=yZ 2 0 (zcK fu)
theorem zjs (T:Tx K mg):xE P w K mg base (CXE P w) 3 T.eL T.dD ["one","other"] (sTw K 2 (zcL fu)):=
 T.fA.okE zjr (λvs H Q E h=>h.1) (λaO A outer s H vs Q E hr h=>⟨_,(@zr _ _ _ (@ye _ _ _ _ (zv (zgr (fu:=fu) T) (hr.mono ∅) rfl T.eR T.e8.kp T.eU .nil zM (@za _ _ _ _ _ (zI yK (zI vc (@yn _ _ _ _ _ _ _ (vB (K:=K)) (pv 0) zn (λ_ _=>rfl)) (@yn _ _ _ _ _ _ _ (vB (K:=K)) (pv 1) zn (λ_ _=>rfl))) (zI vc (@yn _ _ _ _ _ _ _ (vB (K:=K)) (pv 1) zn (λ_ _=>rfl)) (@yn _ _ _ _ _ _ _ (vB (K:=K)) (pv 0) zn (λ_ _=>rfl)))) (@za _ _ _ _ _ (zI vc (@yn _ _ _ _ _ _ _ (vB (K:=K)) (pv 0) zn (λ_ _=>rfl)) (@yn _ _ _ _ _ _ _ (vB (K:=K)) (pv 1) zn (λ_ _=>rfl))) zf zZ) zZ)))),xH (n:=2) (k:=0) (b:=zcK fu) rfl (yf (zw (zc (zt yO (zt vg (zt ZV (zb 0) (zo _)) (zt ZV (zb 1) (zo _))) (zt vg (zt ZV (zb 1) (zo _)) (zt ZV (zb 0) (zo _)))) (zc (zt vg (zt ZV (zb 0) (zo _)) (zt ZV (zb 1) (zo _))) zg)))) h⟩)
noncomputable def Wc (fu:Nat):TwS:=(zF (yc WV (gN 1)) (zF (Yr (iL (ze 0)) (gT 2 (yh (gN 2) (yh (gN 3) vN))) (VZ (ze 1) (ze 2) (zC (zcL fu) [(zag (ze 1) (ze 2) (eC (.ct [.int 0,.int 1]))),(ze 3)]))) (wg (wu [none,some 1] (iL (eFn zai [(ze 1)])) (gN 0) (bE (eOp (Ug true) (Vr (ze 1) (ze 0)) (eC (.ct [.int 0,.int 1])))) (vD [(ze 0),(Vr (ze 1) (ze 0))])))))
noncomputable def Wd (fu:Nat):TwF:=yZ 1 3 (Wc fu)
theorem zdZ (T:Tx K mg):xE P w K mg base (CXE P w) 4 T.bY T.bI ["pairs"] (sTw K 1 (Wd fu)):=
 T.cS.okE Yl (λvs H Q E h=>h.1) (λaO A outer s H vs Q E hr h=>⟨_,(@zi _ _ _ _ _ (@zH _ _ 1 _ _ _ _ Yl.nd rfl (HA rfl) XF (by rfl) (by walk_at "q1")) (@zi _ _ _ _ _ (wf PassesOwn.leaving rfl (yr (K:=K) (pv 0)) (ve (K:=K) (n:=2) rfl (zP (zy (i:=2) Yl.nd rfl (El rfl)) (zP (zy (i:=3) Yl.nd rfl (El rfl)) wJ))) (@zr _ _ _ (UX (YJ hr) (pv 1) (pv 2) (zv (zjs (fu:=fu) T) (hr.mono ∅) rfl T.fZ T.fA.kp T.gu .nil zM (@za _ _ _ _ _ (TH (YJ hr) (pv 1) (pv 2) (ze1 (v:= .ref T.aN) rfl T.dO rfl) ⟨rfl,rfl,rfl,rfl⟩) (@za _ _ _ _ _ (pv 3) zf zj) ya)) rfl))) (@zr _ _ _ (@ye _ _ _ _ (Zf (N':=["thing","totals"]) rfl (blk (osc:=zp wD) rfl (by decide+kernel)) (yE (vC (i:=1) rfl rfl xa)) (yr (K:=K) (zQ (zen rfl) rfl T.bC PyProof.Rows.Boot.«sorted» (@za _ _ _ _ _ (pv 1) zf zj))) (yd rfl) (λC s₀ H₀ fp=>zy (i:=0) (show (["thing","totals"]:List Str).Nodup from by decide+kernel) rfl (El rfl)) (λC s₀ H₀ fp=>zfa (wZ (Ua (K:=K) hr) (Vk (YJ hr) (pv 1) (pv 0) (λ_ _=>rfl)) (ze1 (v:= .ref T.aN) rfl T.dO rfl) (by rfl))) (λC s₀ H₀ fp=>(@yL _ _ _ _ _ (@za _ _ _ _ _ (pv 0) (@za _ _ _ _ _ (Vk (YJ hr) (pv 1) (pv 0) (λ_ _=>rfl)) zf yt) zj)))))))),xH (n:=1) (k:=3) (b:=Wc fu) rfl (zq (zB Vq zm) (zq (wj (yN (zb 0)) (Zs (zR zm (zR zm wL))) (Tc (zb 1) (zb 2) (zw (zc (zah (zb 1) (zb 2) (zi4 λj H=> .ct (λH=>T.dU H) (.cons (.int _) (.cons (.int _) (.nil))))) (zc (zb 3) zg))))) (yf (xb (cap:=[none,some 1]) (yN (xV zhe (zc (zb 1) zg))) zm (vf (zt XV (Vs (zb 1) (zb 0)) (zi4 λj H=> .ct (λH=>T.dU H) (.cons (.int _) (.cons (.int _) (.nil)))))) (yM (zc (zb 0) (zc (Vs (zb 1) (zb 0)) zg))))))) h⟩)
noncomputable def We (fu:Nat):TwS:=(zF (yc WV (gN 1)) (zF (Yr (iL (ze 0)) (gN 2) (sIf (bE (zhX true (ze 2) (ze 1))) (zcG (ze 1) (ze 2) (eFn zdU [(ze 1)])) xG)) (wg (wu [none,some 1] (iL (ze 0)) (gN 0) wR (zeN (ze 1) (ze 0))))))
noncomputable def Ym (fu:Nat):TwF:=yZ 1 2 (We fu)
theorem UI (T:Tx K mg):xE P w K mg base (CXE P w) 1 T.bX T.bH ["keys"] (sTw K 1 (Ym fu)):=
 T.c7.okE XZ (λvs H Q E h=>h.1) (λaO A outer s H vs Q E hr h=>⟨_,(@zi _ _ _ _ _ (@zH _ _ 1 _ _ _ _ XZ.nd rfl (HA rfl) XF (by rfl) (by walk_at "q1")) (@zi _ _ _ _ _ (wf PassesOwn.leaving rfl (yr (K:=K) (pv 0)) (zy (i:=2) XZ.nd rfl (El rfl)) (@zr _ _ _ (wx (we (zeH (K:=K) hr (pv 2) (pv 1))) (@zr _ _ _ (zhA (K:=K) hr (pv 1) (pv 2) (zQ zgj rfl T.cu boot_len (@za _ _ _ _ _ (pv 1) zf zj)) rfl)) yy))) (@zr _ _ _ (@ye _ _ _ _ (Zf (N':=["key","numbers"]) rfl (blk (osc:=zp wE) rfl (by decide+kernel)) (yE (vC (i:=1) rfl rfl xa)) (yr (K:=K) (pv 0)) (yd rfl) (λC s₀ H₀ fp=>zy (i:=0) (show (["key","numbers"]:List Str).Nodup from by decide+kernel) rfl (El rfl)) (λC s₀ H₀ fp=>xM) (λC s₀ H₀ fp=>(zhz (K:=K) hr (pv 1) (pv 0) (λ_ _=>rfl)))))))),xH (n:=1) (k:=2) (b:=We fu) rfl (zq (zB Vq zm) (zq (wj (yN (zb 0)) zm (wB (ZL (zjn (zb 2) (zb 1))) (zhY (zb 1) (zb 2) (xV zjq (zc (zb 1) zg))) yz)) (yf (xb (cap:=[none,some 1]) (yN (zb 0)) zm xO (zhW (zb 1) (zb 0)))))) h⟩)
noncomputable def Yd (fu:Nat):TwS:=(wg (zC (Wd fu) [(wu [none,none,some 1] (iL (ze 0)) (gT 2 (yh (gN 0) (yh (gN 1) vN))) wR (vD [(eOp xm (ze 2) (ze 0)),(ze 1)]))]))
noncomputable def Ye (fu:Nat):TwF:=yZ 2 0 (Yd fu)
theorem zaM (T:Tx K mg):xE P w K mg base (CXE P w) 5 T.aX T.aJ ["parts","classes"] (sTw K 2 (Ye fu)):=
 T.bP.okE zaK (λvs H Q E h=>h.1) (λaO A outer s H vs Q E hr h=>⟨_,(@zr _ _ _ (@ye _ _ _ _ (zv (zdZ (fu:=fu) T) (hr.mono ∅) rfl T.dM T.cS.kp T.dY .nil zM (za (Zf (N':=["number","share","classes"]) rfl (blk (osc:=zp yR) rfl (by decide+kernel)) (yE (yE (vC (i:=1) rfl rfl xa))) (yr (K:=K) (pv 0)) (TJ (vQ (yd rfl) (vQ (yd rfl) VS vR) vR)) (λC s₀ H₀ fp=>ve (K:=K) (n:=2) rfl (zP (zy (i:=0) (show (["number","share","classes"]:List Str).Nodup from by decide+kernel) rfl (El rfl)) (zP (zy (i:=1) (show (["number","share","classes"]:List Str).Nodup from by decide+kernel) rfl (El rfl)) wJ))) (λC s₀ H₀ fp=>xM) (λC s₀ H₀ fp=>(@yL _ _ _ _ _ (@za _ _ _ _ _ (@yn _ _ _ _ _ _ _ (zJ (K:=K)) (pv 2) (pv 0) (λ_ _=>rfl)) (@za _ _ _ _ _ (pv 1) zf zj) yt)))) zf)))),xH (n:=2) (k:=0) (b:=Yd fu) rfl (yf (zw (zc (xb (cap:=[none,none,some 1]) (yN (zb 0)) (Zs (zR zm (zR zm wL))) xO (yM (zc (zt yp (zb 2) (zb 0)) (zc (zb 1) zg)))) zg))) h⟩)
noncomputable def Yu (fu:Nat):TwS:=(zF (yc (wu [none,none,some 1] (iL (ze 0)) (gT 2 (yh (gN 0) (yh (gN 1) vN))) wR (vD [(ze 0),(eFn VW [(zC (Ye fu) [(ze 1),(ze 2)])])])) (gN 2)) (wg (eUn XY (ze 2))))
noncomputable def Yv (fu:Nat):TwF:=yZ 2 1 (Yu fu)
theorem zbj (T:Tx K mg):xE P w K mg base (CXE P w) 6 T.bp T.aP ["choices","classes"] (sTw K 2 (Yv fu)):=
 T.c9.okE WF (λvs H Q E h=>h.1) (λaO A outer s H vs Q E hr h=>⟨_,(@zi _ _ _ _ _ (vm (i:=2) (N':=["gain","parts","classes"]) rfl (blk (osc:=zp xg) rfl (by decide+kernel)) (yE (yE (vC (i:=1) rfl rfl xa))) (yr (K:=K) (pv 0)) (TJ (vQ (yd rfl) (vQ (yd rfl) VS vR) vR)) (λC s₀ H₀ fp=>ve (K:=K) (n:=2) rfl (zP (zy (i:=0) (show (["gain","parts","classes"]:List Str).Nodup from by decide+kernel) rfl (El rfl)) (zP (zy (i:=1) (show (["gain","parts","classes"]:List Str).Nodup from by decide+kernel) rfl (El rfl)) wJ))) (λC s₀ H₀ fp=>xM) (λC s₀ H₀ fp=>(@yL _ _ _ _ _ (@za _ _ _ _ _ (pv 0) (@za _ _ _ _ _ (YI (Uz (K:=K)) rfl T.eG boot_tuple (@za _ _ _ _ _ (zv (zaM (fu:=fu) T) (hr.mono ∅) rfl T.cG T.bP.kp T.cK .nil zdr (@za _ _ _ _ _ (pv 1) (@za _ _ _ _ _ (pv 2) zf zj) zj)) zf ya)) zf ya) zj))) WF.nd rfl rfl) (@zr _ _ _ (@ye _ _ _ _ (zeK (K:=K) hr rfl rfl T.bC rfl T.ia (pv 2))))),xH (n:=2) (k:=1) (b:=Yu fu) rfl (zq (vn (xb (cap:=[none,none,some 1]) (yN (zb 0)) (Zs (zR zm (zR zm wL))) xO (yM (zc (zb 0) (zc (xV zdw (zc (zw (zc (zb 1) (zc (zb 2) zg))) zg)) zg))))) (yf (zeO (zb 2)))) h⟩)
noncomputable def Um (fu:Nat):TwS:=(zF (yc (Zr []) (gN 2)) (zF (Yr (iEn (ze 0)) (gT 2 (yh (gN 3) (yh (gN 4) vN))) (vt (eMt yo (ze 2) [(vD [(eOp xm (ze 1) (ze 3)),(eFn VW [(zC (Yv fu) [(ze 4),(ze 1)])])])]))) (wg (zC (Ym fu) [(ze 2)]))))
noncomputable def ZQ (fu:Nat):TwF:=yZ 2 3 (Um fu)
theorem zbT (T:Tx K mg):xE P w K mg base (CXE P w) 7 T.df T.cC ["net","classes"] (sTw K 2 (ZQ fu)):=
 T.di.okE Wu (λvs H Q E h=>h.1) (λaO A outer s H vs Q E hr h=>⟨_,(@zi _ _ _ _ _ (@zH _ _ 2 _ _ _ _ Wu.nd rfl (El rfl) (@xk _ _ _ _ zf) (by rfl) (by walk_at "q1")) (@zi _ _ _ _ _ (wf PassesOwn.leaving rfl (UY (K:=K) rfl T.b0 (@za _ _ _ _ _ (pv 0) zf zj)) (ve (K:=K) (n:=2) rfl (zP (zy (i:=3) Wu.nd rfl (El rfl)) (zP (zy (i:=4) Wu.nd rfl (El rfl)) wJ))) (@zr _ _ _ (xL (ZC EJ ER EV yw (pv 2) (@za _ _ _ _ _ (@yL _ _ _ _ _ (@za _ _ _ _ _ (@yn _ _ _ _ _ _ _ (zJ (K:=K)) (pv 1) (pv 3) (λ_ _=>rfl)) (@za _ _ _ _ _ (YI (Uz (K:=K)) rfl T.eG boot_tuple (@za _ _ _ _ _ (zv (zbj (fu:=fu) T) (hr.mono ∅) rfl T.cT T.c9.kp T.d3 .nil zM (@za _ _ _ _ _ (pv 4) (@za _ _ _ _ _ (pv 1) zf zj) zj)) zf ya)) zf ya) yt)) zf xw))))) (@zr _ _ _ (@ye _ _ _ _ (zv (UI (fu:=fu) T) (hr.mono ∅) rfl T.cP T.c7.kp T.cQ .nil zM (@za _ _ _ _ _ (pv 2) zf zj)))))),xH (n:=2) (k:=3) (b:=Um fu) rfl (zq (zB (xl zg) zm) (zq (wj (Ta (zb 0)) (Zs (zR zm (zR zm wL))) (xN (ZF yA (zb 2) (zc (yM (zc (zt yp (zb 1) (zb 3)) (zc (xV zdw (zc (zw (zc (zb 4) (zc (zb 1) zg))) zg)) zg))) zg)))) (yf (zw (zc (zb 2) zg))))) h⟩)
noncomputable def Uo (fu:Nat):TwS:=(zF (yc (Zr [(zC (Ym fu) [(ze 1)])]) (gN 2)) (zF (yc (zC (ZQ fu) [(ze 0),(eOp xm (ze 2) (eUn Vo (eC (.int 1))))]) (gN 3)) (zF (sWh fu (bE (eOp (Ug true) (ze 3) (eOp xm (ze 2) (eUn Vo (eC (.int 1)))))) (zF (vt (eMt yo (ze 2) [(ze 3)])) (yc (zC (ZQ fu) [(ze 0),(eOp xm (ze 2) (eUn Vo (eC (.int 1))))]) (gN 3)))) (wg (ze 2)))))
noncomputable def YV (fu:Nat):TwF:=yZ 2 2 (Uo fu)
theorem zbU (T:Tx K mg):xE P w K mg base (CXE P w) 8 T.de T.cB ["net","marks"] (sTw K 2 (YV fu)):=
 T.dh.okE Wt (λvs H Q E h=>h.1) (λaO A outer s H vs Q E hr h=>⟨_,(@zi _ _ _ _ _ (@zH _ _ 2 _ _ _ _ Wt.nd rfl (El rfl) (@xk _ _ _ _ (@za _ _ _ _ _ (zv (UI (fu:=fu) T) (hr.mono ∅) rfl T.cP T.c7.kp T.cQ .nil zM (@za _ _ _ _ _ (pv 1) zf zj)) zf ya)) (by rfl) (by walk_at "q1")) (@zi _ _ _ _ _ (@zH _ _ 3 _ _ _ _ Wt.nd rfl (El rfl) (zv (zbT (fu:=fu) T) (hr.mono ∅) rfl T.dJ T.di.kp T.dX .nil zM (@za _ _ _ _ _ (pv 0) (@za _ _ _ _ _ (@yn _ _ _ _ _ _ _ (zJ (K:=K)) (pv 2) (Tv WJ zn) (λ_ _=>rfl)) zf yt) zj)) (by rfl) (by walk_at "q1")) (@zi _ _ _ _ _ (Tt PassesOwn.leaving (wZ (Ua (K:=K) hr) (pv 3) (@yn _ _ _ _ _ _ _ (zJ (K:=K)) (pv 2) (Tv WJ zn) (λ_ _=>rfl)) (by rfl)) (@zi _ _ _ _ _ (xL (ZC EJ ER EV yw (pv 2) (@za _ _ _ _ _ (pv 3) zf zj))) (@zr _ _ _ (@zH _ _ 3 _ _ _ _ Wt.nd rfl (El rfl) (zv (zbT (fu:=fu) T) (hr.mono ∅) rfl T.dJ T.di.kp T.dX .nil zM (@za _ _ _ _ _ (pv 0) (@za _ _ _ _ _ (@yn _ _ _ _ _ _ _ (zJ (K:=K)) (pv 2) (Tv WJ zn) (λ_ _=>rfl)) zf yt) zj)) (by rfl) (by walk_at "q1"))))) (@zr _ _ _ (@ye _ _ _ _ (pv 2)))))),xH (n:=2) (k:=2) (b:=Uo fu) rfl (zq (zB (xl (zc (zw (zc (zb 1) zg)) zg)) zm) (zq (zB (zw (zc (zb 0) (zc (zt yp (zb 2) (TY WT (zo _))) zg))) zm) (zq (zaa (vf (zt XV (zb 3) (zt yp (zb 2) (TY WT (zo _))))) (zq (xN (ZF yA (zb 2) (zc (zb 3) zg))) (zB (zw (zc (zb 0) (zc (zt yp (zb 2) (TY WT (zo _))) zg))) zm))) (yf (zb 2))))) h⟩)
noncomputable def Zy (fu:Nat):TwS:=(zF (sIf (bE (eOp dLt (ze 1) (eFn WU [(ze 0)]))) (wg (eOp xm (ze 0) (ze 1))) xG) (wg (eC (.int 0))))
noncomputable def zG (fu:Nat):TwF:=yZ 2 0 (Zy fu)
theorem zU (T:Tx K mg):xE P w K mg base (CXE P w) 1 T.aM T.aB ["_law_script","_law_k"] (sTw K 2 (zG fu)):=
 T.aj.okE UT (λvs H Q E h=>h.1) (λaO A outer s H vs Q E hr h=>⟨_,(@zi _ _ _ _ _ (wx (we (zjV (pv 1) (zQ (wK (K:=K)) rfl T.cu boot_len (@za _ _ _ _ _ (pv 0) zf zj)))) (@zr _ _ _ (@ye _ _ _ _ (@yn _ _ _ _ _ _ _ (zJ (K:=K)) (pv 0) (pv 1) (λ_ _=>rfl)))) yy) (@zr _ _ _ (@ye _ _ _ _ zn))),xH (n:=2) (k:=0) (b:=Zy fu) rfl (zq (wB (ZL (zkf (zb 1) (xV Xf (zc (zb 0) zg)))) (yf (zt yp (zb 0) (zb 1))) yz) (yf (zo _))) h⟩)
noncomputable def Yw (fu:Nat):TwS:=(wg (eOp Xe (eOp Xe (eOp zgb (eOp Xe (ze 0) (eC (.int 1000003))) (eC (.int 48271))) (ze 1)) (ze 2)))
noncomputable def zx (fu:Nat):TwF:=yZ 3 0 (Yw fu)
theorem zE (T:Tx K mg):xE P w K mg base (CXE P w) 1 T.bu T.aS ["_law_number","_law_prime","_law_many"] (sTw K 3 (zx fu)):=
 T.af.okE zbi (λvs H Q E h=>h.1) (λaO A outer s H vs Q E hr h=>⟨_,(@zr _ _ _ (@ye _ _ _ _ (zI Zp (zI Zp (zI zef (zI Zp (pv 0) zn) zn) (pv 1)) (pv 2)))),xH (n:=3) (k:=0) (b:=Yw fu) rfl (yf (zt Zu (zt Zu (zt zeu (zt Zu (zb 0) (zo _)) (zo _)) (zb 1)) (zb 2))) h⟩)
noncomputable def vX (fu:Nat):TwS:=(zF (yc (ze 0) (gN 2)) (zF (yc (ze 1) (gN 3)) (zF (sWh fu (bE (eOp dGt (ze 3) (eC (.int 0)))) (zg6 2 3 [(ze 3),(eOp Xe (ze 2) (ze 3))])) (wg (vD [(eOp WR (ze 0) (ze 2)),(eOp WR (ze 1) (ze 2))])))))
noncomputable def xA (fu:Nat):TwF:=yZ 2 2 (vX fu)
theorem vY (T:Tx K mg):xE P w K mg base (CXE P w) 1 T.aE T.ay ["_law_top","_law_bottom"] (sTw K 2 (xA fu)):=
 T.av.okE wN (λvs H Q E h=>h.1) (λaO A outer s H vs Q E hr h=>⟨_,(@zi _ _ _ _ _ (@zH _ _ 2 _ _ _ _ wN.nd rfl (El rfl) (pv 0) (by rfl) (by walk_at "q1")) (@zi _ _ _ _ _ (@zH _ _ 3 _ _ _ _ wN.nd rfl (El rfl) (pv 1) (by rfl) (by walk_at "q1")) (@zi _ _ _ _ _ (Tt PassesOwn.leaving (we (ze2 (pv 3) zn)) (@zr _ _ _ (zgJ (i:=2) (j:=3) rfl wN.nd rfl rfl ∅ rfl rfl (@za _ _ _ _ _ (pv 3) (@za _ _ _ _ _ (zI Zp (pv 2) (pv 3)) zf zZ) zj) rfl))) (@zr _ _ _ (@ye _ _ _ _ (@yL _ _ _ _ _ (@za _ _ _ _ _ (zI Vl (pv 0) (pv 2)) (@za _ _ _ _ _ (zI Vl (pv 1) (pv 2)) zf zZ) zZ))))))),xH (n:=2) (k:=2) (b:=vX fu) rfl (zq (zB (zb 0) zm) (zq (zB (zb 1) zm) (zq (zaa (ZL (zff (zb 3) (zo _))) (zg7 (zc (zb 3) (zc (zt Zu (zb 2) (zb 3)) zg)))) (yf (yM (zc (zt Vp (zb 0) (zb 2)) (zc (zt Vp (zb 1) (zb 2)) zg))))))) h⟩)
noncomputable def Xo (fu:Nat):TwS:=(zF (sIf (bE (eOp dGt (zC (zx fu) [(ze 0),(eC (.int 60013)),(eC (.int 3))]) (eC (.int 0)))) (wg (vD [(eC (.int 0)),(eC (.int 1))])) xG) (wg (zC (xA fu) [(eOp Xe (ze 0) (eOp zes (eC (.int 10)) (eC (.int 60)))),(eOp vx (eC (.int 1)) (zC (zx fu) [(ze 0),(eC (.int 10007)),(eC (.int 4))]))])))
noncomputable def Xp (fu:Nat):TwF:=yZ 1 0 (Xo fu)
theorem zcM (T:Tx K mg):xE P w K mg base (CXE P w) 2 T.bM T.bh ["_law_cell"] (sTw K 1 (Xp fu)):=
 T.cy.okE zcJ (λvs H Q E h=>h.1) (λaO A outer s H vs Q E hr h=>⟨_,(@zi _ _ _ _ _ (wx (we (ze2 (zv (zE (fu:=fu) T) (hr.mono ∅) rfl T.ag T.af.kp T.ah .nil zM (@za _ _ _ _ _ (pv 0) (@za _ _ _ _ _ zn (@za _ _ _ _ _ zn zf zk) zk) zj)) zn)) (@zr _ _ _ (@ye _ _ _ _ (@yL _ _ _ _ _ (@za _ _ _ _ _ zn (@za _ _ _ _ _ zn zf zk) zk)))) yy) (@zr _ _ _ (@ye _ _ _ _ (zv (vY (fu:=fu) T) (hr.mono ∅) rfl T.aA T.av.kp T.aC .nil zM (@za _ _ _ _ _ (zI Zp (pv 0) (zI zeg zn zn)) (@za _ _ _ _ _ (zI yK zn (zv (zE (fu:=fu) T) (hr.mono ∅) rfl T.ag T.af.kp T.ah .nil zM (@za _ _ _ _ _ (pv 0) (@za _ _ _ _ _ zn (@za _ _ _ _ _ zn zf zk) zk) zj))) zf zZ) zZ))))),xH (n:=1) (k:=0) (b:=Xo fu) rfl (zq (wB (ZL (zff (zw (zc (zb 0) (zc (zo _) (zc (zo _) zg)))) (zo _))) (yf (yM (zc (zo _) (zc (zo _) zg)))) yz) (yf (zw (zc (zt Zu (zb 0) (zt zev (zo _) (zo _))) (zc (zt yO (zo _) (zw (zc (zb 0) (zc (zo _) (zc (zo _) zg))))) zg))))) h⟩)
noncomputable def Xq (fu:Nat):TwS:=(zF (yc (eOp Xe (eOp vx (ze 2) (zC (zx fu) [(zC (zG fu) [(ze 0),(eC (.int 1))]),(eC (.int 30011)),(ze 1)])) (ze 1)) (gN 3)) (zF (sIf (bE (eOp zbe (zC (zx fu) [(zC (zG fu) [(ze 0),(eC (.int 1))]),(eC (.int 40009)),(eC (.int 2))]) (eC (.int 1)))) (wg (eOp zer (eOp zer (ze 1) (eC (.int 1))) (ze 3))) xG) (wg (ze 3))))
noncomputable def vJ (fu:Nat):TwF:=yZ 3 1 (Xq fu)
theorem Xr (T:Tx K mg):xE P w K mg base (CXE P w) 2 T.bL T.bg ["_law_script","_law_count","_law_place"] (sTw K 3 (vJ fu)):=
 T.b7.okE VE (λvs H Q E h=>h.1) (λaO A outer s H vs Q E hr h=>⟨_,(@zi _ _ _ _ _ (@zH _ _ 3 _ _ _ _ VE.nd rfl (El rfl) (zI Zp (zI yK (pv 2) (zv (zE (fu:=fu) T) (hr.mono ∅) rfl T.ag T.af.kp T.ah .nil zM (@za _ _ _ _ _ (zv (zU (fu:=fu) T) (hr.mono ∅) rfl T.ak T.aj.kp T.ao .nil zM (@za _ _ _ _ _ (pv 0) (@za _ _ _ _ _ zn zf zk) zj)) (@za _ _ _ _ _ zn (@za _ _ _ _ _ (pv 1) zf zj) zk) ya))) (pv 1)) (by rfl) (by walk_at "q1")) (@zi _ _ _ _ _ (wx (we (VP (zv (zE (fu:=fu) T) (hr.mono ∅) rfl T.ag T.af.kp T.ah .nil zM (@za _ _ _ _ _ (zv (zU (fu:=fu) T) (hr.mono ∅) rfl T.ak T.aj.kp T.ao .nil zM (@za _ _ _ _ _ (pv 0) (@za _ _ _ _ _ zn zf zk) zj)) (@za _ _ _ _ _ zn (@za _ _ _ _ _ zn zf zk) zk) ya)) zn)) (@zr _ _ _ (@ye _ _ _ _ (zI Tw (zI Tw (pv 1) zn) (pv 3)))) yy) (@zr _ _ _ (@ye _ _ _ _ (pv 3))))),xH (n:=3) (k:=1) (b:=Xq fu) rfl (zq (zB (zt Zu (zt yO (zb 2) (zw (zc (zw (zc (zb 0) (zc (zo _) zg))) (zc (zo _) (zc (zb 1) zg))))) (zb 1)) zm) (zq (wB (ZL (VU (zw (zc (zw (zc (zb 0) (zc (zo _) zg))) (zc (zo _) (zc (zo _) zg)))) (zo _))) (yf (zt zac (zt zac (zb 1) (zo _)) (zb 3))) yz) (yf (zb 3)))) h⟩)
noncomputable def Xs (fu:Nat):TwS:=(zF (yc (eOp vx (eC (.int 1)) (zC (zx fu) [(zC (zG fu) [(ze 0),(eC (.int 0))]),(eC (.int 80021)),(eC (.int 15))])) (gN 1)) (zF (yc (eOp vx (eOp vx (ze 1) (eC (.int 1))) (zC (zx fu) [(zC (zG fu) [(ze 0),(eC (.int 0))]),(eC (.int 90001)),(eC (.int 15))])) (gN 2)) (zF (yc (wu [none] (iR1 (ze 2)) (gN 0) wR (Zr [])) (gN 3)) (zF (Yr (iR1 (ze 2)) (gN 4) (zF (yc (zC (vJ fu) [(ze 0),(ze 2),(ze 4)]) (gN 5)) (sIf (zkN (bE (eOp zet (ze 4) (eOp zer (ze 1) (eC (.int 1))))) (bE (eOp zet (ze 4) (eOp zer (ze 2) (eC (.int 1)))))) (vt (eMt yo (eOp xm (ze 3) (ze 5)) [(vD [(vD [(eC (.int 0)),(eC (.int 1))]),(Zr [(vD [(zC (vJ fu) [(ze 0),(ze 2),(eOp vx (ze 4) (eC (.int 1)))]),(vD [(eC (.int 1)),(eC (.int 1))])])])])])) (sIf (bE (eOp zbe (zC (zx fu) [(zC (zG fu) [(ze 0),(eC (.int 2))]),(eC (.int 10007)),(eC (.int 2))]) (eC (.int 1)))) (vt (eMt yo (eOp xm (ze 3) (ze 5)) [(vD [(vD [(eOp vx (eC (.int 1)) (eOp Xe (zC (zG fu) [(ze 0),(eC (.int 2))]) (eOp zes (eC (.int 10)) (eC (.int 9))))),(eC (.int 1))]),(Zr [(vD [(ze 5),(vD [(eC (.int 1)),(eC (.int 1))])])])])])) xG)))) (wg (vD [(ze 3),(wu [none] (iR1 (ze 2)) (gN 0) wR (eC (.int 4)))]))))))
noncomputable def Xt (fu:Nat):TwF:=yZ 1 5 (Xs fu)
theorem zcN (T:Tx K mg):xE P w K mg base (CXE P w) 3 T.bK T.bf ["_law_script"] (sTw K 1 (Xt fu)):=
 T.cx.okE wO (λvs H Q E h=>h.1) (λaO A outer s H vs Q E hr h=>⟨_,(@zi _ _ _ _ _ (@zH _ _ 1 _ _ _ _ wO.nd rfl (El rfl) (zI yK zn (zv (zE (fu:=fu) T) (hr.mono ∅) rfl T.ag T.af.kp T.ah .nil zM (@za _ _ _ _ _ (zv (zU (fu:=fu) T) (hr.mono ∅) rfl T.ak T.aj.kp T.ao .nil zM (@za _ _ _ _ _ (pv 0) (@za _ _ _ _ _ zn zf zk) zj)) (@za _ _ _ _ _ zn (@za _ _ _ _ _ zn zf zk) zk) ya))) (by rfl) (by walk_at "q1")) (@zi _ _ _ _ _ (@zH _ _ 2 _ _ _ _ wO.nd rfl (El rfl) (zI yK (zI yK (pv 1) zn) (zv (zE (fu:=fu) T) (hr.mono ∅) rfl T.ag T.af.kp T.ah .nil zM (@za _ _ _ _ _ (zv (zU (fu:=fu) T) (hr.mono ∅) rfl T.ak T.aj.kp T.ao .nil zM (@za _ _ _ _ _ (pv 0) (@za _ _ _ _ _ zn zf zk) zj)) (@za _ _ _ _ _ zn (@za _ _ _ _ _ zn zf zk) zk) ya))) (by rfl) (by walk_at "q1")) (@zi _ _ _ _ _ (vm (i:=3) (N':=["_law_k"]) rfl (blk (osc:=zp xh) rfl (by decide+kernel)) (yE xa) (wa rfl T.az (@za _ _ _ _ _ (pv 2) zf zj)) (yd rfl) (λC s₀ H₀ fp=>zy (i:=0) (show (["_law_k"]:List Str).Nodup from by decide+kernel) rfl (El rfl)) (λC s₀ H₀ fp=>xM) (λC s₀ H₀ fp=>(@xk _ _ _ _ zf)) wO.nd rfl rfl) (@zi _ _ _ _ _ (wf PassesOwn.leaving rfl (wa rfl T.az (@za _ _ _ _ _ (pv 2) zf zj)) (zy (i:=4) wO.nd rfl (El rfl)) (@zi _ _ _ _ _ (@zH _ _ 5 _ _ _ _ wO.nd rfl (El rfl) (zv (Xr (fu:=fu) T) (hr.mono ∅) rfl T.bG T.b7.kp T.bJ .nil zM (@za _ _ _ _ _ (pv 0) (@za _ _ _ _ _ (pv 2) (@za _ _ _ _ _ (pv 4) zf zj) zj) zj)) (by rfl) (by walk_at "q1")) (@zr _ _ _ (wx (PW.pt (zkv (we (zb5 (pv 4) (zI Tw (pv 1) zn))) (ziO (we (zb5 (pv 4) (zI Tw (pv 2) zn)))))) (@zr _ _ _ (xL (ZC EJ ER EV yw (@yn _ _ _ _ _ _ _ (zJ (K:=K)) (pv 3) (pv 5) (λ_ _=>rfl)) (@za _ _ _ _ _ (@yL _ _ _ _ _ (@za _ _ _ _ _ (@yL _ _ _ _ _ (@za _ _ _ _ _ zn (@za _ _ _ _ _ zn zf zk) zk)) (@za _ _ _ _ _ (@xk _ _ _ _ (@za _ _ _ _ _ (@yL _ _ _ _ _ (@za _ _ _ _ _ (zv (Xr (fu:=fu) T) (hr.mono ∅) rfl T.bG T.b7.kp T.bJ .nil zM (@za _ _ _ _ _ (pv 0) (@za _ _ _ _ _ (pv 2) (@za _ _ _ _ _ (zI yK (pv 4) zn) zf zZ) zj) zj)) (@za _ _ _ _ _ (@yL _ _ _ _ _ (@za _ _ _ _ _ zn (@za _ _ _ _ _ zn zf zk) zk)) zf xw) ya)) zf xw)) zf Vm) xw)) zf xw)))) (@zr _ _ _ (wx (we (VP (zv (zE (fu:=fu) T) (hr.mono ∅) rfl T.ag T.af.kp T.ah .nil zM (@za _ _ _ _ _ (zv (zU (fu:=fu) T) (hr.mono ∅) rfl T.ak T.aj.kp T.ao .nil zM (@za _ _ _ _ _ (pv 0) (@za _ _ _ _ _ zn zf zk) zj)) (@za _ _ _ _ _ zn (@za _ _ _ _ _ zn zf zk) zk) ya)) zn)) (@zr _ _ _ (xL (ZC EJ ER EV yw (@yn _ _ _ _ _ _ _ (zJ (K:=K)) (pv 3) (pv 5) (λ_ _=>rfl)) (@za _ _ _ _ _ (@yL _ _ _ _ _ (@za _ _ _ _ _ (@yL _ _ _ _ _ (@za _ _ _ _ _ (zI yK zn (zI Zp (zv (zU (fu:=fu) T) (hr.mono ∅) rfl T.ak T.aj.kp T.ao .nil zM (@za _ _ _ _ _ (pv 0) (@za _ _ _ _ _ zn zf zk) zj)) (zI zeg zn zn))) (@za _ _ _ _ _ zn zf zk) zZ)) (@za _ _ _ _ _ (@xk _ _ _ _ (@za _ _ _ _ _ (@yL _ _ _ _ _ (@za _ _ _ _ _ (pv 5) (@za _ _ _ _ _ (@yL _ _ _ _ _ (@za _ _ _ _ _ zn (@za _ _ _ _ _ zn zf zk) zk)) zf xw) zj)) zf xw)) zf Vm) xw)) zf xw)))) yy)))))) (@zr _ _ _ (@ye _ _ _ _ (@yL _ _ _ _ _ (@za _ _ _ _ _ (pv 3) (za (Zf (N':=["_law_k"]) rfl (blk (osc:=zp xh) rfl (by decide+kernel)) (yE xa) (wa rfl T.az (@za _ _ _ _ _ (pv 2) zf zj)) (yd rfl) (λC s₀ H₀ fp=>zy (i:=0) (show (["_law_k"]:List Str).Nodup from by decide+kernel) rfl (El rfl)) (λC s₀ H₀ fp=>xM) (λC s₀ H₀ fp=>zn)) zf) zj)))))))),xH (n:=1) (k:=5) (b:=Xs fu) rfl (zq (zB (zt yO (zo _) (zw (zc (zw (zc (zb 0) (zc (zo _) zg))) (zc (zo _) (zc (zo _) zg))))) zm) (zq (zB (zt yO (zt yO (zb 1) (zo _)) (zw (zc (zw (zc (zb 0) (zc (zo _) zg))) (zc (zo _) (zc (zo _) zg))))) zm) (zq (vn (xb (cap:=[none]) (wb (zb 2)) zm xO (xl zg))) (zq (wj (wb (zb 2)) zm (zq (zB (zw (zc (zb 0) (zc (zb 2) (zc (zb 4) zg)))) zm) (wB (zkO (ZL (zcn (zb 4) (zt zac (zb 1) (zo _)))) (ZL (zcn (zb 4) (zt zac (zb 2) (zo _))))) (xN (ZF yA (zt yp (zb 3) (zb 5)) (zc (yM (zc (yM (zc (zo _) (zc (zo _) zg))) (zc (xl (zc (yM (zc (zw (zc (zb 0) (zc (zb 2) (zc (zt yO (zb 4) (zo _)) zg)))) (zc (yM (zc (zo _) (zc (zo _) zg))) zg))) zg)) zg))) zg))) (wB (ZL (VU (zw (zc (zw (zc (zb 0) (zc (zo _) zg))) (zc (zo _) (zc (zo _) zg)))) (zo _))) (xN (ZF yA (zt yp (zb 3) (zb 5)) (zc (yM (zc (yM (zc (zt yO (zo _) (zt Zu (zw (zc (zb 0) (zc (zo _) zg))) (zt zev (zo _) (zo _)))) (zc (zo _) zg))) (zc (xl (zc (yM (zc (zb 5) (zc (yM (zc (zo _) (zc (zo _) zg))) zg))) zg)) zg))) zg))) yz)))) (yf (yM (zc (zb 3) (zc (xb (cap:=[none]) (wb (zb 2)) zm xO (zo _)) zg)))))))) h⟩)
noncomputable def Yx (fu:Nat):TwS:=(zF (yc (eOp vx (eC (.int 1)) (zC (zx fu) [(zC (zG fu) [(ze 0),(eC (.int 0))]),(eC (.int 99991)),(eC (.int 4))])) (gN 1)) (zF (yc (wu [none] (iR1 (ze 1)) (gN 0) wR WV) (gN 2)) (zF (Yr (iEn (eSl zep (ze 0) (zfd (eC (.int 3))) (zfd (eC (.int 33))))) (gT 2 (yh (gN 3) (yh (gN 4) vN))) (zF (yc (eOp Xe (ze 3) (ze 1)) (gN 5)) (sIf (bE (eOp dGt (zC (zx fu) [(eOp vx (zC (zG fu) [(ze 0),(eC (.int 2))]) (eOp ZG (ze 5) (ze 5))),(eC (.int 70001)),(eC (.int 4))]) (eC (.int 0)))) (zF (yc (zC (zx fu) [(ze 4),(eC (.int 20011)),(eC (.int 2))]) (gN 6)) (zF (sIf (bE (zkS true (ze 6) (eOp xm (ze 2) (ze 5)))) (VZ (eOp xm (ze 2) (ze 5)) (ze 6) (Zr [(zC (Xp fu) [(ze 4)]),WV])) xG) (zF (yc (eOp xm (Vr (eOp xm (ze 2) (ze 5)) (ze 6)) (eC (.int 1))) (gN 7)) (zF (yc (zC (zx fu) [(ze 4),(eC (.int 99991)),(ze 1)]) (gN 8)) (VZ (ze 7) (ze 8) (eOp vx (eOp vx (zag (ze 7) (ze 8) (eC (.int 0))) (eC (.int 1))) (zC (zx fu) [(ze 4),(eC (.int 131071)),(eC (.int 9))]))))))) xG))) (wg (ze 2)))))
noncomputable def Zh (fu:Nat):TwF:=yZ 1 8 (Yx fu)
theorem zbk (T:Tx K mg):xE P w K mg base (CXE P w) 3 T.bz T.aV ["_law_script"] (sTw K 1 (Zh fu)):=
 T.cj.okE yD (λvs H Q E h=>h.1) (λaO A outer s H vs Q E hr h=>⟨_,(@zi _ _ _ _ _ (@zH _ _ 1 _ _ _ _ yD.nd rfl (El rfl) (zI yK zn (zv (zE (fu:=fu) T) (hr.mono ∅) rfl T.ag T.af.kp T.ah .nil zM (@za _ _ _ _ _ (zv (zU (fu:=fu) T) (hr.mono ∅) rfl T.ak T.aj.kp T.ao .nil zM (@za _ _ _ _ _ (pv 0) (@za _ _ _ _ _ zn zf zk) zj)) (@za _ _ _ _ _ zn (@za _ _ _ _ _ zn zf zk) zk) ya))) (by rfl) (by walk_at "q1")) (@zi _ _ _ _ _ (vm (i:=2) (N':=["_law_k"]) rfl (blk (osc:=zp xi) rfl (by decide+kernel)) (yE xa) (wa rfl T.az (@za _ _ _ _ _ (pv 1) zf zj)) (yd rfl) (λC s₀ H₀ fp=>zy (i:=0) (show (["_law_k"]:List Str).Nodup from by decide+kernel) rfl (El rfl)) (λC s₀ H₀ fp=>xM) (λC s₀ H₀ fp=>XF) yD.nd rfl rfl) (@zi _ _ _ _ _ (wf PassesOwn.leaving rfl (UY (K:=K) rfl T.b0 (@za _ _ _ _ _ (zgO (zg2 (K:=K)) (pv 0) (ze3 zn) (ze3 zn)) zf yt)) (ve (K:=K) (n:=2) rfl (zP (zy (i:=3) yD.nd rfl (El rfl)) (zP (zy (i:=4) yD.nd rfl (El rfl)) wJ))) (@zi _ _ _ _ _ (@zH _ _ 5 _ _ _ _ yD.nd rfl (El rfl) (zI Zp (pv 3) (pv 1)) (by rfl) (by walk_at "q1")) (@zr _ _ _ (wx (we (ze2 (zv (zE (fu:=fu) T) (hr.mono ∅) rfl T.ag T.af.kp T.ah .nil zM (@za _ _ _ _ _ (zI yK (zv (zU (fu:=fu) T) (hr.mono ∅) rfl T.ak T.aj.kp T.ao .nil zM (@za _ _ _ _ _ (pv 0) (@za _ _ _ _ _ zn zf zk) zj)) (zI vc (pv 5) (pv 5))) (@za _ _ _ _ _ zn (@za _ _ _ _ _ zn zf zk) zk) zZ)) zn)) (@zi _ _ _ _ _ (@zH _ _ 6 _ _ _ _ yD.nd rfl (El rfl) (zv (zE (fu:=fu) T) (hr.mono ∅) rfl T.ag T.af.kp T.ah .nil zM (@za _ _ _ _ _ (pv 4) (@za _ _ _ _ _ zn (@za _ _ _ _ _ zn zf zk) zk) zj)) (by rfl) (by walk_at "q1")) (@zi _ _ _ _ _ (wx (we (zfX (YJ hr) (pv 6) (@yn _ _ _ _ _ _ _ (zJ (K:=K)) (pv 2) (pv 5) (λ_ _=>rfl)))) (@zr _ _ _ (UX (YJ hr) (@yn _ _ _ _ _ _ _ (zJ (K:=K)) (pv 2) (pv 5) (λ_ _=>rfl)) (pv 6) (@xk _ _ _ _ (@za _ _ _ _ _ (zv (zcM (fu:=fu) T) (hr.mono ∅) rfl T.du T.cy.kp T.dz .nil zM (@za _ _ _ _ _ (pv 4) zf zj)) (za XF zf) ya)) rfl)) yy) (@zi _ _ _ _ _ (@zH _ _ 7 _ _ _ _ yD.nd rfl (El rfl) (@yn _ _ _ _ _ _ _ (zJ (K:=K)) (Vk (YJ hr) (@yn _ _ _ _ _ _ _ (zJ (K:=K)) (pv 2) (pv 5) (λ_ _=>rfl)) (pv 6) (λ_ _=>rfl)) zn (λ_ _=>rfl)) (by rfl) (by walk_at "q1")) (@zi _ _ _ _ _ (@zH _ _ 8 _ _ _ _ yD.nd rfl (El rfl) (zv (zE (fu:=fu) T) (hr.mono ∅) rfl T.ag T.af.kp T.ah .nil zM (@za _ _ _ _ _ (pv 4) (@za _ _ _ _ _ zn (@za _ _ _ _ _ (pv 1) zf zj) zk) zj)) (by rfl) (by walk_at "q1")) (@zr _ _ _ (UX (YJ hr) (pv 7) (pv 8) (zI yK (zI yK (TH (YJ hr) (pv 7) (pv 8) zn ⟨rfl,rfl,rfl,rfl⟩) zn) (zv (zE (fu:=fu) T) (hr.mono ∅) rfl T.ag T.af.kp T.ah .nil zM (@za _ _ _ _ _ (pv 4) (@za _ _ _ _ _ zn (@za _ _ _ _ _ zn zf zk) zk) zj))) rfl)))))) yy)))) (@zr _ _ _ (@ye _ _ _ _ (pv 2)))))),xH (n:=1) (k:=8) (b:=Yx fu) rfl (zq (zB (zt yO (zo _) (zw (zc (zw (zc (zb 0) (zc (zo _) zg))) (zc (zo _) (zc (zo _) zg))))) zm) (zq (vn (xb (cap:=[none]) (wb (zb 1)) zm xO Vq)) (zq (wj (Ta (zkP (zb 0) (zfe (zo _)) (zfe (zo _)))) (Zs (zR zm (zR zm wL))) (zq (zB (zt Zu (zb 3) (zb 1)) zm) (wB (ZL (zff (zw (zc (zt yO (zw (zc (zb 0) (zc (zo _) zg))) (zt vg (zb 5) (zb 5))) (zc (zo _) (zc (zo _) zg)))) (zo _))) (zq (zB (zw (zc (zb 4) (zc (zo _) (zc (zo _) zg)))) zm) (zq (wB (ZL (zgc (zb 6) (zt yp (zb 2) (zb 5)))) (Tc (zt yp (zb 2) (zb 5)) (zb 6) (xl (zc (zw (zc (zb 4) zg)) (zc Vq zg)))) yz) (zq (zB (zt yp (Vs (zt yp (zb 2) (zb 5)) (zb 6)) (zo _)) zm) (zq (zB (zw (zc (zb 4) (zc (zo _) (zc (zb 1) zg)))) zm) (Tc (zb 7) (zb 8) (zt yO (zt yO (zah (zb 7) (zb 8) (zo _)) (zo _)) (zw (zc (zb 4) (zc (zo _) (zc (zo _) zg)))))))))) yz))) (yf (zb 2))))) h⟩)
noncomputable def Yy (fu:Nat):TwS:=(zF (yc (zC (zG fu) [(ze 0),(eOp vx (eC (.int 33)) (eOp Xe (eOp vx (ze 1) (eOp zgb (eC (.int 7)) (ze 2))) (eC (.int 30))))]) (gN 4)) (zF (yc (wu [none,some 1,some 4] (iR1 (ze 3)) (gN 0) wR (zC (zx fu) [(eOp vx (eOp vx (ze 2) (eOp ZG (eOp zgb (eC (.int 11)) (ze 0)) (ze 0))) (ze 1)),(eC (.int 50021)),(eC (.int 4))])) (gN 5)) (zF (sIf (bE (eOp zbe (eFn zae [(ze 5)]) (eC (.int 0)))) (yc (eC (.int 1)) (WQ (ze 5) (eOp Xe (ze 1) (ze 3)))) xG) (wg (ze 5)))))
noncomputable def Yz (fu:Nat):TwF:=yZ 4 2 (Yy fu)
theorem zbl (T:Tx K mg):xE P w K mg base (CXE P w) 2 T.bq T.aQ ["_law_script","_law_node","_law_to","_law_copies"] (sTw K 4 (Yz fu)):=
 T.cb.okE Yt (λvs H Q E h=>h.1) (λaO A outer s H vs Q E hr h=>⟨_,(@zi _ _ _ _ _ (@zH _ _ 4 _ _ _ _ Yt.nd rfl (HA rfl) (zv (zU (fu:=fu) T) (hr.mono ∅) rfl T.ak T.aj.kp T.ao .nil zM (@za _ _ _ _ _ (pv 0) (@za _ _ _ _ _ (zI yK zn (zI Zp (zI yK (pv 1) (zI zef zn (pv 2))) zn)) zf zZ) zj)) (by rfl) (by walk_at "q1")) (@zi _ _ _ _ _ (vm (i:=5) (N':=["_law_k","_law_node","_law_cell"]) rfl (blk (osc:=zp xj) rfl (by decide+kernel)) (yE (vC (i:=1) rfl rfl (vC (i:=4) rfl rfl xa))) (wa rfl T.az (@za _ _ _ _ _ (pv 3) zf zj)) (yd rfl) (λC s₀ H₀ fp=>zy (i:=0) (show (["_law_k","_law_node","_law_cell"]:List Str).Nodup from by decide+kernel) rfl (El rfl)) (λC s₀ H₀ fp=>xM) (λC s₀ H₀ fp=>(zv (zE (fu:=fu) T) (hr.mono ∅) rfl T.ag T.af.kp T.ah .nil zdr (@za _ _ _ _ _ (zI yK (zI yK (pv 2) (zI vc (zI zef zn (pv 0)) (pv 0))) (pv 1)) (@za _ _ _ _ _ zn (@za _ _ _ _ _ zn zf zk) zk) zZ))) Yt.nd rfl rfl) (@zi _ _ _ _ _ (wx (we (VP (zQ (YK (K:=K) rfl) rfl T.dG PyProof.Rows.Boot.«sum» (@za _ _ _ _ _ (pv 5) zf zj)) zn)) (@zr _ _ _ (WI zn (zed (pv 5) (zI Zp (pv 1) (pv 3)) TB))) yy) (@zr _ _ _ (@ye _ _ _ _ (pv 5)))))),xH (n:=4) (k:=2) (b:=Yy fu) rfl (zq (zB (zw (zc (zb 0) (zc (zt yO (zo _) (zt Zu (zt yO (zb 1) (zt zeu (zo _) (zb 2))) (zo _))) zg))) zm) (zq (vn (xb (cap:=[none,some 1,some 4]) (wb (zb 3)) zm xO (zw (zc (zt yO (zt yO (zb 2) (zt vg (zt zeu (zo _) (zb 0)) (zb 0))) (zb 1)) (zc (zo _) (zc (zo _) zg)))))) (zq (wB (ZL (VU (xV zaf (zc (zb 5) zg)) (zo _))) (zB (zo _) (TZ (zb 5) (zt Zu (zb 1) (zb 3)))) yz) (yf (zb 5))))) h⟩)
noncomputable def YA (fu:Nat):TwS:=(zF (yc (Zr []) (gN 4)) (zF (yc (eUn zdA (ze 2)) (gN 5)) (zF (Yr (zh4 (ze 2)) (gN 6) (zF (yc (zC (Yz fu) [(ze 0),(ze 1),(ze 6),(eFn WU [(eOp xm (ze 3) (ze 6))])]) (gN 7)) (Yr (iEn (ze 7)) (gT 2 (yh (gN 8) (yh (gN 9) vN))) (sIf (bE (eOp dGt (ze 9) (eC (.int 0)))) (vt (eMt yo (ze 4) [(vD [(eOp xm (eOp xm (ze 3) (ze 6)) (ze 8)),(zC (xA fu) [(eOp ZG (Vr (ze 2) (ze 6)) (ze 9)),(eOp ZG (ze 5) (eFn zae [(ze 7)]))])])])) xG)))) (wg (eFn (zaH true) [(ze 4)])))))
noncomputable def xq (fu:Nat):TwF:=yZ 4 6 (YA fu)
theorem WG (T:Tx K mg):xE P w K mg base (CXE P w) 3 T.bt T.aR ["_law_script","_law_node","_law_weights","_law_homes_here"] (sTw K 4 (xq fu)):=
 T.bB.okE xp (λvs H Q E h=>h.1) (λaO A outer s H vs Q E hr h=>⟨_,(@zi _ _ _ _ _ (@zH _ _ 4 _ _ _ _ xp.nd rfl (El rfl) (@xk _ _ _ _ zf) (by rfl) (by walk_at "q1")) (@zi _ _ _ _ _ (@zH _ _ 5 _ _ _ _ xp.nd rfl (El rfl) (zQ (zf6 rfl) rfl T.dG PyProof.Rows.Boot.«sum» (@za _ _ _ _ _ (zcb Gd HW PySem.F.type_dict_values zi1 (pv 2)) zf ya)) (by rfl) (by walk_at "q1")) (@zi _ _ _ _ _ (wf PassesOwn.leaving rfl (zjk (zcb Gd Hd Iz zfc (pv 2))) (zy (i:=6) xp.nd rfl (El rfl)) (@zi _ _ _ _ _ (@zH _ _ 7 _ _ _ _ xp.nd rfl (El rfl) (zv (zbl (fu:=fu) T) (hr.mono ∅) rfl T.cU T.cb.kp T.d7 .nil zM (@za _ _ _ _ _ (pv 0) (@za _ _ _ _ _ (pv 1) (@za _ _ _ _ _ (pv 6) (@za _ _ _ _ _ (zQ (wK (K:=K)) rfl T.cu boot_len (@za _ _ _ _ _ (@yn _ _ _ _ _ _ _ (zJ (K:=K)) (pv 3) (pv 6) (λ_ _=>rfl)) zf yt)) zf ya) zj) zj) zj)) (by rfl) (by walk_at "q1")) (@zr _ _ _ (wf PassesOwn.leaving rfl (UY (K:=K) rfl T.b0 (@za _ _ _ _ _ (pv 7) zf zj)) (ve (K:=K) (n:=2) rfl (zP (zy (i:=8) xp.nd rfl (El rfl)) (zP (zy (i:=9) xp.nd rfl (El rfl)) wJ))) (@zr _ _ _ (wx (we (ze2 (pv 9) zn)) (@zr _ _ _ (xL (ZC EJ ER EV yw (pv 4) (@za _ _ _ _ _ (@yL _ _ _ _ _ (@za _ _ _ _ _ (@yn _ _ _ _ _ _ _ (zJ (K:=K)) (@yn _ _ _ _ _ _ _ (zJ (K:=K)) (pv 3) (pv 6) (λ_ _=>rfl)) (pv 8) (λ_ _=>rfl)) (@za _ _ _ _ _ (zv (vY (fu:=fu) T) (hr.mono ∅) rfl T.aA T.av.kp T.aC .nil zM (@za _ _ _ _ _ (zI vc (Vk (YJ hr) (pv 2) (pv 6) (λ_ _=>rfl)) (pv 9)) (@za _ _ _ _ _ (zI vc (pv 5) (zQ (YK (K:=K) rfl) rfl T.dG PyProof.Rows.Boot.«sum» (@za _ _ _ _ _ (pv 7) zf zj))) zf zZ) zZ)) zf ya) yt)) zf xw)))) yy)))))) (@zr _ _ _ (@ye _ _ _ _ (zQ (zeL (K:=K) (b:=true) hr) rfl T.bC PyProof.Rows.Boot.«sorted» (@za _ _ _ _ _ (pv 4) zf zj))))))),xH (n:=4) (k:=6) (b:=YA fu) rfl (zq (zB (xl zg) zm) (zq (zB (zja (zb 2)) zm) (zq (wj (zjp (zb 2)) zm (zq (zB (zw (zc (zb 0) (zc (zb 1) (zc (zb 6) (zc (xV Xf (zc (zt yp (zb 3) (zb 6)) zg)) zg))))) zm) (wj (Ta (zb 7)) (Zs (zR zm (zR zm wL))) (wB (ZL (zff (zb 9) (zo _))) (xN (ZF yA (zb 4) (zc (yM (zc (zt yp (zt yp (zb 3) (zb 6)) (zb 8)) (zc (zw (zc (zt vg (Vs (zb 2) (zb 6)) (zb 9)) (zc (zt vg (zb 5) (xV zaf (zc (zb 7) zg))) zg))) zg))) zg))) yz)))) (yf (xV zh1 (zc (zb 4) zg)))))) h⟩)
noncomputable def YB (fu:Nat):TwS:=(zF (yc (wu [none,some 0] (iR1 (ze 1)) (gN 0) wR (eOp vx (eC (.int 1)) (zC (zx fu) [(eOp vx (zC (zG fu) [(ze 1),(eC (.int 1))]) (eOp ZG (ze 0) (ze 0))),(eC (.int 20011)),(eC (.int 3))]))) (gN 2)) (zF (yc (Zr []) (gN 3)) (zF (Yr (iL (ze 2)) (gN 4) (zF (yc (eFn zae [(wu [none] (iL (ze 3)) (gN 0) wR (eFn WU [(ze 0)]))]) (gN 5)) (vt (eMt yo (ze 3) [(wu [none,some 0,some 2,some 5] (iR1 (ze 4)) (gN 0) wR (zC (vJ fu) [(ze 1),(eFn zae [(ze 2)]),(eOp vx (ze 3) (ze 0))]))])))) (wg (ze 3)))))
noncomputable def YC (fu:Nat):TwF:=yZ 2 4 (YB fu)
theorem zbm (T:Tx K mg):xE P w K mg base (CXE P w) 3 T.bw T.aT ["_law_script","_law_count"] (sTw K 2 (YC fu)):=
 T.cf.okE wU (λvs H Q E h=>h.1) (λaO A outer s H vs Q E hr h=>⟨_,(@zi _ _ _ _ _ (@zH _ _ 2 _ _ _ _ wU.nd rfl (HA rfl) (Zf (N':=["_law_k","_law_script"]) rfl (blk (osc:=zp yB) rfl (by decide+kernel)) (yE (vC (i:=0) rfl rfl xa)) (wa rfl T.az (@za _ _ _ _ _ (pv 1) zf zj)) (yd rfl) (λC s₀ H₀ fp=>zy (i:=0) (show (["_law_k","_law_script"]:List Str).Nodup from by decide+kernel) rfl (El rfl)) (λC s₀ H₀ fp=>xM) (λC s₀ H₀ fp=>(zI yK zn (zv (zE (fu:=fu) T) (hr.mono ∅) rfl T.ag T.af.kp T.ah .nil zdr (@za _ _ _ _ _ (zI yK (zv (zU (fu:=fu) T) (hr.mono ∅) rfl T.ak T.aj.kp T.ao .nil zdr (@za _ _ _ _ _ (pv 1) (@za _ _ _ _ _ zn zf zk) zj)) (zI vc (pv 0) (pv 0))) (@za _ _ _ _ _ zn (@za _ _ _ _ _ zn zf zk) zk) zZ))))) (by rfl) (by walk_at "q1")) (@zi _ _ _ _ _ (@zH _ _ 3 _ _ _ _ wU.nd rfl (El rfl) (@xk _ _ _ _ zf) (by rfl) (by walk_at "q1")) (@zi _ _ _ _ _ (wf PassesOwn.leaving rfl (yr (K:=K) (pv 2)) (zy (i:=4) wU.nd rfl (El rfl)) (@zi _ _ _ _ _ (@zH _ _ 5 _ _ _ _ wU.nd rfl (HA rfl) (zQ (YK (K:=K) rfl) rfl T.dG PyProof.Rows.Boot.«sum» (za (Zf (N':=["_law_home"]) rfl (blk (osc:=zp yB) rfl (by decide+kernel)) (yE xa) (yr (K:=K) (pv 3)) (yd rfl) (λC s₀ H₀ fp=>zy (i:=0) (show (["_law_home"]:List Str).Nodup from by decide+kernel) rfl (El rfl)) (λC s₀ H₀ fp=>xM) (λC s₀ H₀ fp=>(zQ (wK (K:=K)) rfl T.cu boot_len (@za _ _ _ _ _ (pv 0) zf zj)))) zf)) (by rfl) (by walk_at "q1")) (@zr _ _ _ (xL (ZC EJ ER EV yw (pv 3) (za (Zf (N':=["_law_k","_law_script","_law_many","_law_begun"]) rfl (blk (osc:=zp yB) rfl (by decide+kernel)) (yE (vC (i:=0) rfl rfl (vC (i:=2) rfl rfl (vC (i:=5) rfl rfl xa)))) (wa rfl T.az (@za _ _ _ _ _ (pv 4) zf zj)) (yd rfl) (λC s₀ H₀ fp=>zy (i:=0) (show (["_law_k","_law_script","_law_many","_law_begun"]:List Str).Nodup from by decide+kernel) rfl (El rfl)) (λC s₀ H₀ fp=>xM) (λC s₀ H₀ fp=>(zv (Xr (fu:=fu) T) (hr.mono ∅) rfl T.bG T.b7.kp T.bJ .nil zdr (@za _ _ _ _ _ (pv 1) (@za _ _ _ _ _ (zQ (YK (K:=K) rfl) rfl T.dG PyProof.Rows.Boot.«sum» (@za _ _ _ _ _ (pv 2) zf zj)) (@za _ _ _ _ _ (zI yK (pv 3) (pv 0)) zf zZ) ya) zj)))) zf)))))) (@zr _ _ _ (@ye _ _ _ _ (pv 3)))))),xH (n:=2) (k:=4) (b:=YB fu) rfl (zq (zB (xb (cap:=[none,some 0]) (wb (zb 1)) zm xO (zt yO (zo _) (zw (zc (zt yO (zw (zc (zb 1) (zc (zo _) zg))) (zt vg (zb 0) (zb 0))) (zc (zo _) (zc (zo _) zg)))))) zm) (zq (zB (xl zg) zm) (zq (wj (yN (zb 2)) zm (zq (zB (xV zaf (zc (xb (cap:=[none]) (yN (zb 3)) zm xO (xV Xf (zc (zb 0) zg))) zg)) zm) (xN (ZF yA (zb 3) (zc (xb (cap:=[none,some 0,some 2,some 5]) (wb (zb 4)) zm xO (zw (zc (zb 1) (zc (xV zaf (zc (zb 2) zg)) (zc (zt yO (zb 3) (zb 0)) zg))))) zg))))) (yf (zb 3))))) h⟩)
noncomputable def YD (fu:Nat):TwS:=(zF (yc (zC (Zh fu) [(ze 0)]) (gN 1)) (zF (yc (zC (YC fu) [(ze 0),(eFn WU [(ze 1)])]) (gN 2)) (zF (yc (eFn zae [(wu [none] (iL (ze 2)) (gN 0) wR (eFn WU [(ze 0)]))]) (gN 3)) (zF (yc (wu [none] (iR1 (ze 3)) (gN 0) wR (Zr [])) (gN 4)) (zF (yc (wu [none] (iR1 (ze 3)) (gN 0) wR (eC (.int 0))) (gN 5)) (zF (yc (zC (zG fu) [(ze 0),(eC (.int 2))]) (gN 6)) (zF (Yr (iEn (ze 2)) (gT 2 (yh (gN 7) (yh (gN 8) vN))) (Yr (iL (ze 8)) (gN 9) (zF (yc (eOp xm (Zr [(eC (.int 0)),(eC (.int 7)),(eUn Vo (eOp Xe (ze 6) (eOp zes (eC (.int 10)) (eC (.int 60)))))]) (zC (zx fu) [(eOp vx (ze 6) (eOp ZG (ze 7) (ze 7))),(eC (.int 40009)),(eC (.int 3))])) (WQ (ze 5) (ze 9))) (zF (Yr (iL (eUn Ui (eOp xm (ze 1) (ze 7)))) (gN 10) (zF (yc (Vr (eOp xm (ze 1) (ze 7)) (ze 10)) (gL 2 (yh (gN 11) (yh (gN 12) vN)))) (zF (vt (eMt yo (eOp xm (ze 4) (ze 9)) [(vD [(ze 11),(zC (xq fu) [(ze 0),(ze 9),(ze 12),(ze 2)])])])) (sIf (bE (eOp zbe (zC (zx fu) [(eOp vx (ze 6) (ze 9)),(eC (.int 60013)),(eC (.int 3))]) (eC (.int 0)))) (vt (eMt yo (eOp xm (ze 4) (ze 9)) [(vD [(ze 11),(zC (xq fu) [(ze 0),(eOp vx (ze 9) (eC (.int 1))),(ze 12),(ze 2)])])])) xG)))) (sIf (bE (eOp zbe (zC (zx fu) [(eOp vx (ze 6) (ze 9)),(eC (.int 30011)),(eC (.int 2))]) (eC (.int 1)))) (yc (eUn YO (eOp xm (ze 4) (ze 9))) (WQ (ze 4) (ze 9))) xG))))) (wg (vD [(ze 4),(ze 5)])))))))))
noncomputable def YE (fu:Nat):TwF:=yZ 1 12 (YD fu)
theorem zbn (T:Tx K mg):xE P w K mg base (CXE P w) 4 T.bx T.aU ["_law_script"] (sTw K 1 (YE fu)):=
 T.cg.okE zW (λvs H Q E h=>h.1) (λaO A outer s H vs Q E hr h=>⟨_,(@zi _ _ _ _ _ (@zH _ _ 1 _ _ _ _ zW.nd rfl (El rfl) (zv (zbk (fu:=fu) T) (hr.mono ∅) rfl T.cX T.cj.kp T.da .nil zM (@za _ _ _ _ _ (pv 0) zf zj)) (by rfl) (by walk_at "q1")) (@zi _ _ _ _ _ (@zH _ _ 2 _ _ _ _ zW.nd rfl (El rfl) (zv (zbm (fu:=fu) T) (hr.mono ∅) rfl T.cV T.cf.kp T.d8 .nil zM (@za _ _ _ _ _ (pv 0) (@za _ _ _ _ _ (zQ (wK (K:=K)) rfl T.cu boot_len (@za _ _ _ _ _ (pv 1) zf zj)) zf ya) zj)) (by rfl) (by walk_at "q1")) (@zi _ _ _ _ _ (@zH _ _ 3 _ _ _ _ zW.nd rfl (El rfl) (zQ (YK (K:=K) rfl) rfl T.dG PyProof.Rows.Boot.«sum» (za (Zf (N':=["_law_home"]) rfl (blk (osc:=zp yC) rfl (by decide+kernel)) (yE xa) (yr (K:=K) (pv 2)) (yd rfl) (λC s₀ H₀ fp=>zy (i:=0) (show (["_law_home"]:List Str).Nodup from by decide+kernel) rfl (El rfl)) (λC s₀ H₀ fp=>xM) (λC s₀ H₀ fp=>(zQ (wK (K:=K)) rfl T.cu boot_len (@za _ _ _ _ _ (pv 0) zf zj)))) zf)) (by rfl) (by walk_at "q1")) (@zi _ _ _ _ _ (vm (i:=4) (N':=["_law_k"]) rfl (blk (osc:=zp yC) rfl (by decide+kernel)) (yE xa) (wa rfl T.az (@za _ _ _ _ _ (pv 3) zf zj)) (yd rfl) (λC s₀ H₀ fp=>zy (i:=0) (show (["_law_k"]:List Str).Nodup from by decide+kernel) rfl (El rfl)) (λC s₀ H₀ fp=>xM) (λC s₀ H₀ fp=>(@xk _ _ _ _ zf)) zW.nd rfl rfl) (@zi _ _ _ _ _ (vm (i:=5) (N':=["_law_k"]) rfl (blk (osc:=zp yC) rfl (by decide+kernel)) (yE xa) (wa rfl T.az (@za _ _ _ _ _ (pv 3) zf zj)) (yd rfl) (λC s₀ H₀ fp=>zy (i:=0) (show (["_law_k"]:List Str).Nodup from by decide+kernel) rfl (El rfl)) (λC s₀ H₀ fp=>xM) (λC s₀ H₀ fp=>zn) zW.nd rfl rfl) (@zi _ _ _ _ _ (@zH _ _ 6 _ _ _ _ zW.nd rfl (El rfl) (zv (zU (fu:=fu) T) (hr.mono ∅) rfl T.ak T.aj.kp T.ao .nil zM (@za _ _ _ _ _ (pv 0) (@za _ _ _ _ _ zn zf zk) zj)) (by rfl) (by walk_at "q1")) (@zi _ _ _ _ _ (wf PassesOwn.leaving rfl (UY (K:=K) rfl T.b0 (@za _ _ _ _ _ (pv 2) zf zj)) (ve (K:=K) (n:=2) rfl (zP (zy (i:=7) zW.nd rfl (El rfl)) (zP (zy (i:=8) zW.nd rfl (El rfl)) wJ))) (@zr _ _ _ (wf PassesOwn.leaving rfl (yr (K:=K) (pv 8)) (zy (i:=9) zW.nd rfl (El rfl)) (@zi _ _ _ _ _ (WI (@yn _ _ _ _ _ _ _ (zJ (K:=K)) (@xk _ _ _ _ (@za _ _ _ _ _ zn (@za _ _ _ _ _ zn (@za _ _ _ _ _ (Tv WJ (zI Zp (pv 6) (zI zeg zn zn))) zf TU) zk) zk)) (zv (zE (fu:=fu) T) (hr.mono ∅) rfl T.ag T.af.kp T.ah .nil zM (@za _ _ _ _ _ (zI yK (pv 6) (zI vc (pv 7) (pv 7))) (@za _ _ _ _ _ zn (@za _ _ _ _ _ zn zf zk) zk) zZ)) (λ_ _=>rfl)) (zed (pv 5) (pv 9) TB)) (@zi _ _ _ _ _ (wf PassesOwn.leaving rfl (yr (K:=K) (zhR (K:=K) rfl rfl T.bC (zcb Gd Hd Iz zfc (@yn _ _ _ _ _ _ _ (zJ (K:=K)) (pv 1) (pv 7) (λ_ _=>rfl))))) (zy (i:=10) zW.nd rfl (El rfl)) (@zi _ _ _ _ _ (WI (Vk (YJ hr) (@yn _ _ _ _ _ _ _ (zJ (K:=K)) (pv 1) (pv 7) (λ_ _=>rfl)) (pv 10) (λ_ _=>rfl)) (zjm (K:=K) (n:=2) rfl (zP (zy (i:=11) zW.nd rfl (El rfl)) (zP (zy (i:=12) zW.nd rfl (El rfl)) wJ)))) (@zi _ _ _ _ _ (xL (ZC EJ ER EV yw (@yn _ _ _ _ _ _ _ (zJ (K:=K)) (pv 4) (pv 9) (λ_ _=>rfl)) (@za _ _ _ _ _ (@yL _ _ _ _ _ (@za _ _ _ _ _ (pv 11) (@za _ _ _ _ _ (zv (WG (fu:=fu) T) (hr.mono ∅) rfl T.bU T.bB.kp T.bW .nil zM (@za _ _ _ _ _ (pv 0) (@za _ _ _ _ _ (pv 9) (@za _ _ _ _ _ (pv 12) (@za _ _ _ _ _ (pv 2) zf zj) zj) zj) zj)) zf ya) zj)) zf xw))) (@zr _ _ _ (wx (we (VP (zv (zE (fu:=fu) T) (hr.mono ∅) rfl T.ag T.af.kp T.ah .nil zM (@za _ _ _ _ _ (zI yK (pv 6) (pv 9)) (@za _ _ _ _ _ zn (@za _ _ _ _ _ zn zf zk) zk) zZ)) zn)) (@zr _ _ _ (xL (ZC EJ ER EV yw (@yn _ _ _ _ _ _ _ (zJ (K:=K)) (pv 4) (pv 9) (λ_ _=>rfl)) (@za _ _ _ _ _ (@yL _ _ _ _ _ (@za _ _ _ _ _ (pv 11) (@za _ _ _ _ _ (zv (WG (fu:=fu) T) (hr.mono ∅) rfl T.bU T.bB.kp T.bW .nil zM (@za _ _ _ _ _ (pv 0) (@za _ _ _ _ _ (zI yK (pv 9) zn) (@za _ _ _ _ _ (pv 12) (@za _ _ _ _ _ (pv 2) zf zj) zj) zZ) zj)) zf ya) zj)) zf xw)))) yy))))) (@zr _ _ _ (wx (we (VP (zv (zE (fu:=fu) T) (hr.mono ∅) rfl T.ag T.af.kp T.ah .nil zM (@za _ _ _ _ _ (zI yK (pv 6) (pv 9)) (@za _ _ _ _ _ zn (@za _ _ _ _ _ zn zf zk) zk) zZ)) zn)) (@zr _ _ _ (WI (zel (K:=K) rfl rfl T.cO rfl T.dH (@yn _ _ _ _ _ _ _ (zJ (K:=K)) (pv 4) (pv 9) (λ_ _=>rfl))) (zed (pv 4) (pv 9) TB))) yy))))))) (@zr _ _ _ (@ye _ _ _ _ (@yL _ _ _ _ _ (@za _ _ _ _ _ (pv 4) (@za _ _ _ _ _ (pv 5) zf zj) zj))))))))))),xH (n:=1) (k:=12) (b:=YD fu) rfl (zq (zB (zw (zc (zb 0) zg)) zm) (zq (zB (zw (zc (zb 0) (zc (xV Xf (zc (zb 1) zg)) zg))) zm) (zq (zB (xV zaf (zc (xb (cap:=[none]) (yN (zb 2)) zm xO (xV Xf (zc (zb 0) zg))) zg)) zm) (zq (vn (xb (cap:=[none]) (wb (zb 3)) zm xO (xl zg))) (zq (vn (xb (cap:=[none]) (wb (zb 3)) zm xO (zo _))) (zq (zB (zw (zc (zb 0) (zc (zo _) zg))) zm) (zq (wj (Ta (zb 2)) (Zs (zR zm (zR zm wL))) (wj (yN (zb 8)) zm (zq (zB (zt yp (xl (zc (zo _) (zc (zo _) (zc (TY WT (zt Zu (zb 6) (zt zev (zo _) (zo _)))) zg)))) (zw (zc (zt yO (zb 6) (zt vg (zb 7) (zb 7))) (zc (zo _) (zc (zo _) zg))))) (TZ (zb 5) (zb 9))) (zq (wj (yN (zh8 (zt yp (zb 1) (zb 7)))) zm (zq (zB (Vs (zt yp (zb 1) (zb 7)) (zb 10)) (zlk (zR zm (zR zm wL)))) (zq (xN (ZF yA (zt yp (zb 4) (zb 9)) (zc (yM (zc (zb 11) (zc (zw (zc (zb 0) (zc (zb 9) (zc (zb 12) (zc (zb 2) zg))))) zg))) zg))) (wB (ZL (VU (zw (zc (zt yO (zb 6) (zb 9)) (zc (zo _) (zc (zo _) zg)))) (zo _))) (xN (ZF yA (zt yp (zb 4) (zb 9)) (zc (yM (zc (zb 11) (zc (zw (zc (zb 0) (zc (zt yO (zb 9) (zo _)) (zc (zb 12) (zc (zb 2) zg))))) zg))) zg))) yz)))) (wB (ZL (VU (zw (zc (zt yO (zb 6) (zb 9)) (zc (zo _) (zc (zo _) zg)))) (zo _))) (zB (zex (zt yp (zb 4) (zb 9))) (TZ (zb 4) (zb 9))) yz))))) (yf (yM (zc (zb 4) (zc (zb 5) zg))))))))))) h⟩)
noncomputable def Xu (fu:Nat):TwS:=(zF (yc (Zr []) (gN 1)) (zF (Yr (iL (ze 0)) (gN 2) (vt (eMt yo (ze 1) [(wu [none,none] (iL (ze 2)) (gT 2 (yh (gN 0) (yh (gN 1) vN))) wR (vD [(ze 0),(eFn UA [(ze 1)])]))]))) (wg (ze 1))))
noncomputable def Xw (fu:Nat):TwF:=yZ 1 2 (Xu fu)
theorem zcO (T:Tx K mg):xE P w K mg base (CXE P w) 1 T.bN T.bj ["_law_net"] (sTw K 1 (Xw fu)):=
 T.cz.okE Xn (λvs H Q E h=>h.1) (λaO A outer s H vs Q E hr h=>⟨_,(@zi _ _ _ _ _ (@zH _ _ 1 _ _ _ _ Xn.nd rfl (El rfl) (@xk _ _ _ _ zf) (by rfl) (by walk_at "q1")) (@zi _ _ _ _ _ (wf PassesOwn.leaving rfl (yr (K:=K) (pv 0)) (zy (i:=2) Xn.nd rfl (El rfl)) (@zr _ _ _ (xL (ZC EJ ER EV yw (pv 1) (za (Zf (N':=["_law_gain_here","_law_parts_here"]) rfl (blk (osc:=zp xJ) rfl (by decide+kernel)) (yE (yE xa)) (yr (K:=K) (pv 2)) (TJ (vQ (yd rfl) (vQ (yd rfl) VS vR) vR)) (λC s₀ H₀ fp=>ve (K:=K) (n:=2) rfl (zP (zy (i:=0) (show (["_law_gain_here","_law_parts_here"]:List Str).Nodup from by decide+kernel) rfl (El rfl)) (zP (zy (i:=1) (show (["_law_gain_here","_law_parts_here"]:List Str).Nodup from by decide+kernel) rfl (El rfl)) wJ))) (λC s₀ H₀ fp=>xM) (λC s₀ H₀ fp=>(@yL _ _ _ _ _ (@za _ _ _ _ _ (pv 0) (@za _ _ _ _ _ (YI (WM (K:=K)) rfl T.cO boot_list (@za _ _ _ _ _ (pv 1) zf zj)) zf ya) zj)))) zf))))) (@zr _ _ _ (@ye _ _ _ _ (pv 1))))),xH (n:=1) (k:=2) (b:=Xu fu) rfl (zq (zB (xl zg) zm) (zq (wj (yN (zb 0)) zm (xN (ZF yA (zb 1) (zc (xb (cap:=[none,none]) (yN (zb 2)) (Zs (zR zm (zR zm wL))) xO (yM (zc (zb 0) (zc (xV zco (zc (zb 1) zg)) zg)))) zg)))) (yf (zb 1)))) h⟩)
noncomputable def vZ (fu:Nat):TwS:=(zF (yc (Zr []) (gN 1)) (zF (yc (Zr []) (gN 2)) (zF (Yr (iL (ze 0)) (gN 3) (zF (sIf (bE (eOp (zdW true) (ze 3) (ze 1))) (vt (eMt yo (ze 1) [(ze 3)])) xG) (vt (eMt yo (ze 2) [(eMt VB (ze 1) [(ze 3)])])))) (wg (ze 2)))))
noncomputable def wQ (fu:Nat):TwF:=yZ 1 3 (vZ fu)
theorem YW (T:Tx K mg):xE P w K mg base (CXE P w) 1 T.aD T.ax ["_law_keys"] (sTw K 1 (wQ fu)):=
 T.aF.okE wP (λvs H Q E h=>h.1) (λaO A outer s H vs Q E hr h=>⟨_,(@zi _ _ _ _ _ (@zH _ _ 1 _ _ _ _ wP.nd rfl (El rfl) (@xk _ _ _ _ zf) (by rfl) (by walk_at "q1")) (@zi _ _ _ _ _ (@zH _ _ 2 _ _ _ _ wP.nd rfl (El rfl) (@xk _ _ _ _ zf) (by rfl) (by walk_at "q1")) (@zi _ _ _ _ _ (wf PassesOwn.leaving rfl (yr (K:=K) (pv 0)) (zy (i:=3) wP.nd rfl (El rfl)) (@zi _ _ _ _ _ (wx (wZ (zbR (K:=K) hr) (pv 3) (pv 1) (by rfl)) (@zr _ _ _ (xL (ZC EJ ER EV yw (pv 1) (@za _ _ _ _ _ (pv 3) zf zj)))) yy) (@zr _ _ _ (xL (ZC EJ ER EV yw (pv 2) (@za _ _ _ _ _ (ZC EJ PySem.F.slot_list_index PySem.F.type_list_index (zgk (K:=K) hr) (pv 1) (@za _ _ _ _ _ (pv 3) zf zj)) zf ya)))))) (@zr _ _ _ (@ye _ _ _ _ (pv 2)))))),xH (n:=1) (k:=3) (b:=vZ fu) rfl (zq (zB (xl zg) zm) (zq (zB (xl zg) zm) (zq (wj (yN (zb 0)) zm (zq (wB (vf (zt zh7 (zb 3) (zb 1))) (xN (ZF yA (zb 1) (zc (zb 3) zg))) yz) (xN (ZF yA (zb 2) (zc (ZF zgm (zb 1) (zc (zb 3) zg)) zg))))) (yf (zb 2))))) h⟩)
noncomputable def Vb (fu:Nat):TwS:=(zF (yc WV (gN 2)) (zF (Yr (iL (eOp XI (ze 0) (eC (.int 1)))) (gT 2 (yh (gN 3) (yh (gN 4) vN))) (zF (yc (zag (ze 2) (eOp xm (ze 1) (ze 3)) (vD [(eC (.int 0)),(eC (.int 1))])) (gT 2 (yh (gN 5) (yh (gN 6) vN)))) (VZ (ze 2) (eOp xm (ze 1) (ze 3)) (zC (xA fu) [(eOp vx (eOp ZG (ze 5) (eOp XI (ze 4) (eC (.int 1)))) (eOp ZG (eOp XI (ze 4) (eC (.int 0))) (ze 6))),(eOp ZG (ze 6) (eOp XI (ze 4) (eC (.int 1))))])))) (wg (vD [(eOp XI (ze 0) (eC (.int 0))),(eUn VC (ze 2))]))))
noncomputable def Vc (fu:Nat):TwF:=yZ 2 5 (Vb fu)
theorem zeQ (T:Tx K mg):xE P w K mg base (CXE P w) 2 T.cE T.bV ["_law_choice","_law_classes"] (sTw K 2 (Vc fu)):=
 T.dm.okE vV (λvs H Q E h=>h.1) (λaO A outer s H vs Q E hr h=>⟨_,(@zi _ _ _ _ _ (@zH _ _ 2 _ _ _ _ vV.nd rfl (El rfl) XF (by rfl) (by walk_at "q1")) (@zi _ _ _ _ _ (wf PassesOwn.leaving rfl (yr (K:=K) (@yn _ _ _ _ _ _ _ (vB (K:=K)) (pv 0) zn (λ_ _=>rfl))) (ve (K:=K) (n:=2) rfl (zP (zy (i:=3) vV.nd rfl (El rfl)) (zP (zy (i:=4) vV.nd rfl (El rfl)) wJ))) (@zi _ _ _ _ _ (WI (TH (YJ hr) (pv 2) (@yn _ _ _ _ _ _ _ (zJ (K:=K)) (pv 1) (pv 3) (λ_ _=>rfl)) (@yL _ _ _ _ _ (@za _ _ _ _ _ zn (@za _ _ _ _ _ zn zf zk) zk)) ⟨rfl,rfl,rfl,rfl⟩) (ve (K:=K) (n:=2) rfl (zP (zy (i:=5) vV.nd rfl (El rfl)) (zP (zy (i:=6) vV.nd rfl (El rfl)) wJ)))) (@zr _ _ _ (UX (YJ hr) (pv 2) (@yn _ _ _ _ _ _ _ (zJ (K:=K)) (pv 1) (pv 3) (λ_ _=>rfl)) (zv (vY (fu:=fu) T) (hr.mono ∅) rfl T.aA T.av.kp T.aC .nil zM (@za _ _ _ _ _ (zI yK (zI vc (pv 5) (@yn _ _ _ _ _ _ _ (vB (K:=K)) (pv 4) zn (λ_ _=>rfl))) (zI vc (@yn _ _ _ _ _ _ _ (vB (K:=K)) (pv 4) zn (λ_ _=>rfl)) (pv 6))) (@za _ _ _ _ _ (zI vc (pv 6) (@yn _ _ _ _ _ _ _ (vB (K:=K)) (pv 4) zn (λ_ _=>rfl))) zf zZ) zZ)) rfl)))) (@zr _ _ _ (@ye _ _ _ _ (@yL _ _ _ _ _ (@za _ _ _ _ _ (@yn _ _ _ _ _ _ _ (vB (K:=K)) (pv 0) zn (λ_ _=>rfl)) (@za _ _ _ _ _ (zQ (zdP rfl) rfl T.bC PyProof.Rows.Boot.«sorted» (@za _ _ _ _ _ (zcb Gd Ii PySem.F.type_dict_items zhr (pv 2)) zf ya)) zf ya) yt)))))),xH (n:=2) (k:=5) (b:=Vb fu) rfl (zq (zB Vq zm) (zq (wj (yN (zt ZV (zb 0) (zo _))) (Zs (zR zm (zR zm wL))) (zq (zB (zah (zb 2) (zt yp (zb 1) (zb 3)) (yM (zc (zo _) (zc (zo _) zg)))) (Zs (zR zm (zR zm wL)))) (Tc (zb 2) (zt yp (zb 1) (zb 3)) (zw (zc (zt yO (zt vg (zb 5) (zt ZV (zb 4) (zo _))) (zt vg (zt ZV (zb 4) (zo _)) (zb 6))) (zc (zt vg (zb 6) (zt ZV (zb 4) (zo _))) zg)))))) (yf (yM (zc (zt ZV (zb 0) (zo _)) (zc (zgn (zb 2)) zg)))))) h⟩)
noncomputable def YF (fu:Nat):TwS:=(zF (yc (Zr []) (gN 2)) (zF (Yr (iR1 (eFn WU [(ze 0)])) (gN 3) (zF (yc (Zr []) (gN 4)) (zF (Yr (iL (eOp xm (ze 0) (ze 3))) (gN 5) (zF (yc (zC (Vc fu) [(ze 5),(ze 1)]) (gN 6)) (sIf (bE (eOp (zdW true) (ze 6) (ze 4))) (vt (eMt yo (ze 4) [(ze 6)])) xG))) (vt (eMt yo (ze 2) [(vD [(eOp xm (ze 1) (ze 3)),(eFn Ws [(ze 4)])])]))))) (wg (zC (wQ fu) [(ze 2)]))))
noncomputable def YG (fu:Nat):TwF:=yZ 2 5 (YF fu)
theorem zbo (T:Tx K mg):xE P w K mg base (CXE P w) 3 T.bA T.aW ["_law_net","_law_classes"] (sTw K 2 (YG fu)):=
 T.ck.okE wd (λvs H Q E h=>h.1) (λaO A outer s H vs Q E hr h=>⟨_,(@zi _ _ _ _ _ (@zH _ _ 2 _ _ _ _ wd.nd rfl (El rfl) (@xk _ _ _ _ zf) (by rfl) (by walk_at "q1")) (@zi _ _ _ _ _ (wf PassesOwn.leaving rfl (wa rfl T.az (@za _ _ _ _ _ (zQ (wK (K:=K)) rfl T.cu boot_len (@za _ _ _ _ _ (pv 0) zf zj)) zf ya)) (zy (i:=3) wd.nd rfl (El rfl)) (@zi _ _ _ _ _ (@zH _ _ 4 _ _ _ _ wd.nd rfl (El rfl) (@xk _ _ _ _ zf) (by rfl) (by walk_at "q1")) (@zi _ _ _ _ _ (wf PassesOwn.leaving rfl (yr (K:=K) (@yn _ _ _ _ _ _ _ (zJ (K:=K)) (pv 0) (pv 3) (λ_ _=>rfl))) (zy (i:=5) wd.nd rfl (El rfl)) (@zi _ _ _ _ _ (@zH _ _ 6 _ _ _ _ wd.nd rfl (El rfl) (zv (zeQ (fu:=fu) T) (hr.mono ∅) rfl T.eB T.dm.kp T.eE .nil zM (@za _ _ _ _ _ (pv 5) (@za _ _ _ _ _ (pv 1) zf zj) zj)) (by rfl) (by walk_at "q1")) (@zr _ _ _ (wx (wZ (zbR (K:=K) hr) (pv 6) (pv 4) (by rfl)) (@zr _ _ _ (xL (ZC EJ ER EV yw (pv 4) (@za _ _ _ _ _ (pv 6) zf zj)))) yy)))) (@zr _ _ _ (xL (ZC EJ ER EV yw (pv 2) (@za _ _ _ _ _ (@yL _ _ _ _ _ (@za _ _ _ _ _ (@yn _ _ _ _ _ _ _ (zJ (K:=K)) (pv 1) (pv 3) (λ_ _=>rfl)) (@za _ _ _ _ _ (zQ (zdR (K:=K) hr) rfl T.bC PyProof.Rows.Boot.«sorted» (@za _ _ _ _ _ (pv 4) zf zj)) zf ya) yt)) zf xw))))))) (@zr _ _ _ (@ye _ _ _ _ (zv (YW (fu:=fu) T) (hr.mono ∅) rfl T.b8 T.aF.kp T.b9 .nil zM (@za _ _ _ _ _ (pv 2) zf zj)))))),xH (n:=2) (k:=5) (b:=YF fu) rfl (zq (zB (xl zg) zm) (zq (wj (wb (xV Xf (zc (zb 0) zg))) zm (zq (zB (xl zg) zm) (zq (wj (yN (zt yp (zb 0) (zb 3))) zm (zq (zB (zw (zc (zb 5) (zc (zb 1) zg))) zm) (wB (vf (zt zh7 (zb 6) (zb 4))) (xN (ZF yA (zb 4) (zc (zb 6) zg))) yz))) (xN (ZF yA (zb 2) (zc (yM (zc (zt yp (zb 1) (zb 3)) (zc (xV zgp (zc (zb 4) zg)) zg))) zg)))))) (yf (zw (zc (zb 2) zg))))) h⟩)
noncomputable def Yf (fu:Nat):TwS:=(zF (sIf (bOr (zf7 (bE (eUn (zdz "list") (ze 0)))) (bE (eOp zet (eFn WU [(ze 0)]) (ze 1)))) (wg (eC (.bl false))) xG) (zF (Yr (iL (ze 0)) (gN 2) (sIf (bOr (zf7 (bE (eUn (zdz "int") (ze 2)))) (bE (eUn (zdz "bool") (ze 2)))) (wg (eC (.bl false))) xG)) (wg (eC (.bl true)))))
noncomputable def Yg (fu:Nat):TwF:=yZ 2 1 (Yf fu)
theorem zaN (T:Tx K mg):xE P w K mg base (CXE P w) 1 T.aZ T.aL ["_law_found","_law_count"] (sTw K 2 (Yg fu)):=
 T.bR.okE Wa (λvs H Q E h=>h.1) (λaO A outer s H vs Q E hr h=>⟨_,(@zi _ _ _ _ _ (wx (PW.pt (zbs (zb6 (Tr (zQ (Wl (K:=K)) rfl T.aH boot_isinstance (za (pv 0) (za (UW (v:= .ty "list") rfl T.cO boot_list rfl) zf))))) (Ts (we (zb5 (zQ (wK (K:=K)) rfl T.cu boot_len (@za _ _ _ _ _ (pv 0) zf zj)) (pv 1)))))) (@zr _ _ _ (@ye _ _ _ _ Tq)) yy) (@zi _ _ _ _ _ (wf PassesOwn.leaving rfl (yr (K:=K) (pv 0)) (zy (i:=2) Wa.nd rfl (El rfl)) (@zr _ _ _ (wx (PW.pt (zbs (zb6 (Tr (zQ (Wl (K:=K)) rfl T.aH boot_isinstance (za (pv 2) (za (UW (v:= .ty "int") rfl T.ib boot_int rfl) zf))))) (Ts (Tr (zQ (Wl (K:=K)) rfl T.aH boot_isinstance (za (pv 2) (za (UW (v:= .ty "bool") rfl T.fX boot_bool rfl) zf))))))) (@zr _ _ _ (@ye _ _ _ _ Tq)) yy))) (@zr _ _ _ (@ye _ _ _ _ Tq)))),xH (n:=2) (k:=1) (b:=Yf fu) rfl (zq (wB (zbG (zcj (ZL (zcp zdy (zb 0)))) (ZL (zcn (xV Xf (zc (zb 0) zg)) (zb 1)))) (yf (TX _)) yz) (zq (wj (yN (zb 0)) zm (wB (zbG (zcj (ZL (zcp zi6 (zb 2)))) (ZL (zcp zhd (zb 2)))) (yf (TX _)) yz)) (yf (TX _)))) h⟩)
noncomputable def zeR (fu:Nat):TwS:=(zF (zg6 1 2 [(Zr []),(Zr [])]) (zF (sIf (bE (eOp (WW true) (ze 0) (Zr []))) (zF (yc (zC (YE fu) [(ze 0)]) (gT 2 (yh (gN 1) (yh (gN 2) vN)))) (sIf (bE (eOp zbe (zC (zx fu) [(eOp xm (ze 0) (eC (.int 0))),(eC (.int 65537)),(eC (.int 3))]) (eC (.int 1)))) (yc (zC (Xt fu) [(ze 0)]) (gT 2 (yh (gN 1) (yh (gN 2) vN)))) xG)) xG) (zF (yc (zC (Xw fu) [(ze 1)]) (gN 3)) (zF (yc (eFn UA [(ze 2)]) (gN 4)) (zF (yc (zC (YV fu) [(ze 3),(ze 4)]) (gN 5)) (zF (sIf (bOr (zf7 (bE (eUn (zdz "list") (ze 5)))) (bOr (bE (eOp (Ug true) (ze 3) (ze 1))) (bE (eOp (Ug true) (ze 4) (ze 2))))) (wg (eC (.bl false))) xG) (zF (yc (zC (wQ fu) [(ze 2)]) (gN 6)) (zF (Yr (iL (ze 5)) (gN 7) (zF (sIf (bOr (zf7 (bE (zC (Yg fu) [(ze 7),(eFn WU [(ze 1)])]))) (bE (eOp (Ug true) (ze 7) (ze 6)))) (wg (eC (.bl false))) xG) (yc (zC (YG fu) [(ze 1),(ze 7)]) (gN 6)))) (zF (sIf (bOr (bE (eOp (WW false) (ze 5) (Zr []))) (bE (eOp (Ug true) (eOp xm (ze 5) (eUn Vo (eC (.int 1)))) (ze 6)))) (wg (eC (.bl false))) xG) (zF (sIf (bE (eOp (WW true) (wu [none,some 5] (iR2 (eC (.int 1)) (eFn WU [(ze 5)])) (gN 0) (bE (eOp (Ug false) (eOp xm (ze 1) (ze 0)) (eOp xm (ze 1) (eOp zer (ze 0) (eC (.int 1)))))) (ze 0)) (Zr []))) (wg (eC (.bl false))) xG) (zF (yc (wu [none] (iL (ze 5)) (gN 0) wR (eFn UA [(ze 0)])) (gN 8)) (zF (vt (eMt yo (eOp xm (ze 5) (eC (.int 0))) [(eUn Vo (eC (.int 1)))])) (zF (vt (eMt yo (ze 5) [(Zr [])])) (wg (eOp (Ug false) (zC (YV fu) [(ze 3),(ze 4)]) (ze 8))))))))))))))))
noncomputable def zeS (fu:Nat):TwF:=yZ 1 8 (zeR fu)
theorem zjt (T:Tx K mg):xE P w K mg base (CXE P w) 9 T.eV T.dS ["_law_script"] (sTw K 1 (zeS fu)):=
 T.iI.okE vW (λvs H Q E h=>h.1) (λaO A outer s H vs Q E hr h=>⟨_,(@zi _ _ _ _ _ (zgJ (i:=1) (j:=2) rfl vW.nd rfl rfl ∅ rfl rfl (@za _ _ _ _ _ (@xk _ _ _ _ zf) (@za _ _ _ _ _ (@xk _ _ _ _ zf) zf Vm) Vm) rfl) (@zi _ _ _ _ _ (wx (wZ (zdC (K:=K) hr) (pv 0) (@xk _ _ _ _ zf) (by rfl)) (@zi _ _ _ _ _ (WI (zv (zbn (fu:=fu) T) (hr.mono ∅) rfl T.cW T.cg.kp T.d9 .nil zM (@za _ _ _ _ _ (pv 0) zf zj)) (ve (K:=K) (n:=2) rfl (zP (zy (i:=1) vW.nd rfl (El rfl)) (zP (zy (i:=2) vW.nd rfl (El rfl)) wJ)))) (@zr _ _ _ (wx (we (VP (zv (zE (fu:=fu) T) (hr.mono ∅) rfl T.ag T.af.kp T.ah .nil zM (@za _ _ _ _ _ (@yn _ _ _ _ _ _ _ (zJ (K:=K)) (pv 0) zn (λ_ _=>rfl)) (@za _ _ _ _ _ zn (@za _ _ _ _ _ zn zf zk) zk) yt)) zn)) (@zr _ _ _ (WI (zv (zcN (fu:=fu) T) (hr.mono ∅) rfl T.dq T.cx.kp T.dy .nil zM (@za _ _ _ _ _ (pv 0) zf zj)) (ve (K:=K) (n:=2) rfl (zP (zy (i:=1) vW.nd rfl (El rfl)) (zP (zy (i:=2) vW.nd rfl (El rfl)) wJ))))) yy))) yy) (@zi _ _ _ _ _ (@zH _ _ 3 _ _ _ _ vW.nd rfl (El rfl) (zv (zcO (fu:=fu) T) (hr.mono ∅) rfl T.dv T.cz.kp T.dA .nil zM (@za _ _ _ _ _ (pv 1) zf zj)) (by rfl) (by walk_at "q1")) (@zi _ _ _ _ _ (@zH _ _ 4 _ _ _ _ vW.nd rfl (El rfl) (YI (WM (K:=K)) rfl T.cO boot_list (@za _ _ _ _ _ (pv 2) zf zj)) (by rfl) (by walk_at "q1")) (@zi _ _ _ _ _ (@zH _ _ 5 _ _ _ _ vW.nd rfl (HA rfl) (zv (zbU (fu:=fu) T) (hr.mono ∅) rfl T.dI T.dh.kp T.dW .nil zM (@za _ _ _ _ _ (pv 3) (@za _ _ _ _ _ (pv 4) zf zj) zj)) (by rfl) (by walk_at "q1")) (@zi _ _ _ _ _ (wx (PW.pt (zbs (zb6 (Tr (zQ (Wl (K:=K)) rfl T.aH boot_isinstance (za (pv 5) (za (UW (v:= .ty "list") rfl T.cO boot_list rfl) zf))))) (zbs (wZ (Ua (K:=K) hr) (pv 3) (pv 1) (by rfl)) (Ts (wZ (Ua (K:=K) hr) (pv 4) (pv 2) (by rfl)))))) (@zr _ _ _ (@ye _ _ _ _ Tq)) yy) (@zi _ _ _ _ _ (@zH _ _ 6 _ _ _ _ vW.nd rfl (El rfl) (zv (YW (fu:=fu) T) (hr.mono ∅) rfl T.b8 T.aF.kp T.b9 .nil zM (@za _ _ _ _ _ (pv 2) zf zj)) (by rfl) (by walk_at "q1")) (@zi _ _ _ _ _ (wf PassesOwn.leaving rfl (yr (K:=K) (pv 5)) (zy (i:=7) vW.nd rfl (El rfl)) (@zi _ _ _ _ _ (wx (PW.pt (zbs (zb6 (Tr (zv (zaN (fu:=fu) T) (hr.mono ∅) rfl T.cI T.bR.kp T.cM .nil zM (@za _ _ _ _ _ (pv 7) (@za _ _ _ _ _ (zQ (wK (K:=K)) rfl T.cu boot_len (@za _ _ _ _ _ (pv 1) zf zj)) zf ya) zj)))) (Ts (wZ (Ua (K:=K) hr) (pv 7) (pv 6) (by rfl))))) (@zr _ _ _ (@ye _ _ _ _ Tq)) yy) (@zr _ _ _ (@zH _ _ 6 _ _ _ _ vW.nd rfl (El rfl) (zv (zbo (fu:=fu) T) (hr.mono ∅) rfl T.cY T.ck.kp T.dc .nil zM (@za _ _ _ _ _ (pv 1) (@za _ _ _ _ _ (pv 7) zf zj) zj)) (by rfl) (by walk_at "q1"))))) (@zi _ _ _ _ _ (wx (PW.pt (zbs (wZ (zg5 (K:=K) hr) (pv 5) (@xk _ _ _ _ zf) (by rfl)) (Ts (wZ (Ua (K:=K) hr) (@yn _ _ _ _ _ _ _ (zJ (K:=K)) (pv 5) (Tv WJ zn) (λ_ _=>rfl)) (pv 6) (by rfl))))) (@zr _ _ _ (@ye _ _ _ _ Tq)) yy) (@zi _ _ _ _ _ (wx (wZ (zdC (K:=K) hr) (Zf (N':=["_law_k","_law_found"]) rfl (blk (osc:=zp VD) rfl (by decide+kernel)) (yE (vC (i:=5) rfl rfl xa)) (zfS rfl T.az (@za _ _ _ _ _ zn (@za _ _ _ _ _ (zQ (wK (K:=K)) rfl T.cu boot_len (@za _ _ _ _ _ (pv 5) zf zj)) zf ya) zk)) (yd rfl) (λC s₀ H₀ fp=>zy (i:=0) (show (["_law_k","_law_found"]:List Str).Nodup from by decide+kernel) rfl (El rfl)) (λC s₀ H₀ fp=>zfa (wZ (zhn (K:=K) hr) (@yn _ _ _ _ _ _ _ (zJ (K:=K)) (pv 1) (pv 0) (λ_ _=>rfl)) (@yn _ _ _ _ _ _ _ (zJ (K:=K)) (pv 1) (zI Tw (pv 0) zn) (λ_ _=>rfl)) (by rfl))) (λC s₀ H₀ fp=>(pv 0))) (@xk _ _ _ _ zf) (by rfl)) (@zr _ _ _ (@ye _ _ _ _ Tq)) yy) (@zi _ _ _ _ _ (vm (i:=8) (N':=["_law_classes"]) rfl (blk (osc:=zp VD) rfl (by decide+kernel)) (yE xa) (yr (K:=K) (pv 5)) (yd rfl) (λC s₀ H₀ fp=>zy (i:=0) (show (["_law_classes"]:List Str).Nodup from by decide+kernel) rfl (El rfl)) (λC s₀ H₀ fp=>xM) (λC s₀ H₀ fp=>(YI (WM (K:=K)) rfl T.cO boot_list (@za _ _ _ _ _ (pv 0) zf zj))) vW.nd rfl rfl) (@zi _ _ _ _ _ (xL (ZC EJ ER EV yw (@yn _ _ _ _ _ _ _ (zJ (K:=K)) (pv 5) zn (λ_ _=>rfl)) (@za _ _ _ _ _ (Tv WJ zn) zf TU))) (@zi _ _ _ _ _ (xL (ZC EJ ER EV yw (pv 5) (@za _ _ _ _ _ (@xk _ _ _ _ zf) zf Vm))) (@zr _ _ _ (@ye _ _ _ _ (ziR (zhn (K:=K) hr) (zv (zbU (fu:=fu) T) (hr.mono ∅) rfl T.dI T.dh.kp T.dW .nil zM (@za _ _ _ _ _ (pv 3) (@za _ _ _ _ _ (pv 4) zf zj) zj)) (pv 8) (by rfl))))))))))))))))),xH (n:=1) (k:=8) (b:=zeR fu) rfl (zq (zg7 (zc (xl zg) (zc (xl zg) zg))) (zq (wB (vf (zt zaj (zb 0) (xl zg))) (zq (zB (zw (zc (zb 0) zg)) (Zs (zR zm (zR zm wL)))) (wB (ZL (VU (zw (zc (zt yp (zb 0) (zo _)) (zc (zo _) (zc (zo _) zg)))) (zo _))) (zB (zw (zc (zb 0) zg)) (Zs (zR zm (zR zm wL)))) yz)) yz) (zq (zB (zw (zc (zb 1) zg)) zm) (zq (zB (xV zco (zc (zb 2) zg)) zm) (zq (zB (zw (zc (zb 3) (zc (zb 4) zg))) zm) (zq (wB (zbG (zcj (ZL (zcp zdy (zb 5)))) (zbG (vf (zt XV (zb 3) (zb 1))) (vf (zt XV (zb 4) (zb 2))))) (yf (TX _)) yz) (zq (zB (zw (zc (zb 2) zg)) zm) (zq (wj (yN (zb 5)) zm (zq (wB (zbG (zcj (ZL (zw (zc (zb 7) (zc (xV Xf (zc (zb 1) zg)) zg))))) (vf (zt XV (zb 7) (zb 6)))) (yf (TX _)) yz) (zB (zw (zc (zb 1) (zc (zb 7) zg))) zm))) (zq (wB (zbG (vf (zt zaj (zb 5) (xl zg))) (vf (zt XV (zt yp (zb 5) (TY WT (zo _))) (zb 6)))) (yf (TX _)) yz) (zq (wB (vf (zt zaj (xb (cap:=[none,some 5]) (zf8 (zo _) (xV Xf (zc (zb 5) zg))) zm (vf (zt XV (zt yp (zb 1) (zb 0)) (zt yp (zb 1) (zt zac (zb 0) (zo _))))) (zb 0)) (xl zg))) (yf (TX _)) yz) (zq (vn (xb (cap:=[none]) (yN (zb 5)) zm xO (xV zco (zc (zb 0) zg)))) (zq (xN (ZF yA (zt yp (zb 5) (zo _)) (zc (TY WT (zo _)) zg))) (zq (xN (ZF yA (zb 5) (zc (xl zg) zg))) (yf (zt XV (zw (zc (zb 3) (zc (zb 4) zg))) (zb 8)))))))))))))))) h⟩)
end
section
open Mth
def Big (fu:Nat):Prop:=2^9000<=fu
theorem Big.le {fu:Nat} (h:Big fu):1000000<=fu:=Ey (show 1000000<=2^20 by decide) (Ey (Gp ∅ ∅) h)
local macro_rules | `(tactic| walk_at "w1") => `(tactic| first
 | with_reducible apply zkT | ((with_reducible apply Zw); exact rfl) | with_reducible apply WX | with_reducible apply mM | with_reducible apply Te | with_reducible apply zjb
 | with_reducible apply yW | ((with_reducible apply XN); try dsimp only[EW]) | with_reducible apply vi | with_reducible apply XO | with_reducible apply zhi
 | with_reducible apply UB | with_reducible apply zmd | with_reducible apply zdB | with_reducible apply sI | with_reducible apply zak
 | with_reducible apply vh | with_reducible apply zey | with_reducible apply zkV | with_reducible apply zhf | with_reducible apply Vt
 | with_reducible apply zhg | with_reducible apply zme | with_reducible apply zhh
 | with_reducible apply zkY | with_reducible apply zeA | with_reducible apply zkZ | with_reducible apply zmf | with_reducible apply sN | with_reducible apply zmg | with_reducible apply sO | with_reducible apply zk0 | with_reducible apply zk1
 | with_reducible apply nN | with_reducible apply nO | with_reducible apply zk4 | with_reducible apply zk5
 | ((with_reducible apply zk3); exact⟨∅, by decide, by decide⟩)
 | ((with_reducible apply zk2); first | exact .inl ∅ | exact .inr ∅)
 | with_reducible refine J0 _ (And.intro rfl ?_))
local macro_rules | `(tactic| walk_at "w") => `(tactic| repeat walk_at "w1")
local macro_rules|`(tactic|nofun)=>`(tactic|walk_at "w")
local macro_rules | `(tactic| walk_at "wr") => `(tactic| (refine zkX rfl rfl ?_; dsimp only [List.map, HAppend.hAppend, Append.append, List.append, List.replicate]))
section
variable {fu:Nat} {S S' S2:Sto} {x y:Xv}
theorem Zz {c:Prop} [Decidable c] {A B:Prop} (h:c->A) (g:¬c->B):(decide c=true->A)/\(decide c=false->B):=⟨λe=>h (of_decide_eq_true e),λe=>g (of_decide_eq_false e)⟩
theorem W.eqs {r:Option (Rs Xv)} {a:Xv} {P:Xv->Sto->Prop} (h:W r λv S'=>v=a/\S=S') (k:P a S):W r P:=h.imp λ_ _ ⟨e,e'⟩=>e ▸ e' ▸ k
def Fz (S S':Sto):Prop:=S.length<=S'.length/\∀(n:Nat) c,S[n]? =some c->S'[n]? =some c\/∃kvs,c= .dk kvs/\S'[n]? =some (.fdk kvs)
theorem Fz.refl:Fz S S:=⟨Ek _,λ_ _ e=> .inl e⟩
theorem Fz.trans (a:Fz S S') (b:Fz S' S2):Fz S S2:=⟨Ey a.1 b.1,λn c e=>by
 rcases a.2 n c e with h|⟨kvs,rfl,h⟩
 ·exact b.2 n c h
 ·rcases b.2 n _ h with g|⟨_,g,_⟩
  ·exact .inr ⟨kvs,rfl,g⟩
  ·cases g⟩
theorem Fz.app {T:Sto} (a:Fz S S'):Fz S (S'++T):=⟨by rw[Ew];have:=a.1;omega,λn c e=>by
 rcases a.2 n c e with h|⟨kvs,rfl,h⟩
 ·exact .inl (by rw[Ed (E8.1 h).1];exact h)
 ·exact .inr ⟨kvs,rfl,by rw[Ed (E8.1 h).1];exact h⟩⟩
theorem Fz.set {n:Nat} {c:Ce} (a:Fz S S') (h:S.length<=n):Fz S (S'.set n c):=⟨by simpa using a.1,λm d e=>by
 have hm:=(E8.1 e).1
 rw[Ex,if_neg ⋯]
 exact a.2 m d e⟩
theorem Fz.lst {n:Nat} {l:List Xv} (a:Fz S S') (e:S[n]? =some (.lst l)):S'[n]? =some (.lst l):=by
 rcases a.2 n _ e with h|⟨_,h,_⟩
 ·exact h
 ·cases h
theorem Fz.lstAt {l:List Xv} (a:Fz S S') (e:L2.zu S x=some l):L2.zu S' x=some l:=by
 cases x<;>simp only[L2.zu,reduceCtorEq] at e ⊢
 split at e<;>cases e
 ·rename_i h
  rw[a.lst h]
 ·rename_i h
  rcases a.2 _ _ h with g|⟨_,g,_⟩
  ·rw[g]
  ·cases g
theorem Fz.drAt {p:Nat×List (Key×Xv)} (a:Fz S S') (e:L2.xP S x=some p):L2.xP S' x=some p:=by
 cases x<;>simp only[L2.xP,reduceCtorEq] at e ⊢
 split at e<;>cases e
 ·rename_i h
  rcases a.2 _ _ h with g|⟨kvs,g,h2⟩
  ·rw[g]
  ·cases g;rw[h2]
 ·rename_i h
  rcases a.2 _ _ h with g|⟨_,g,_⟩
  ·rw[g]
  ·cases g
theorem Fz.freeze {n:Nat} {kvs:List (Key×Xv)} (h:L2.xP S x=some (n,kvs)):Fz S (S.set n (.fdk kvs)):=by
 refine⟨by simp,λm c e=> ?_⟩
 rw[Ex]
 split
 ·rename_i hm
  subst hm
  rw[if_pos (E8.1 e).1]
  cases x<;>simp only[L2.xP,reduceCtorEq] at h
  split at h<;>cases h
  ·rename_i g
   rw[g] at e
   cases e
   exact .inr ⟨kvs,rfl,rfl⟩
  ·rename_i g
   rw[g] at e
   cases e
   exact .inl rfl
 ·exact .inl e
theorem yP {c:Ce}:(S++[c])[S.length]? =some c:=by simp
theorem Za {n:Nat} {c c':Ce} (h:S[n]? =some c):(S.set n c')[n]? =some c':=by rw[Ex,if_pos rfl,if_pos (E8.1 h).1]
theorem wo {n m:Nat} {c c':Ce} (h:S[m]? =some c) (q:n≠m):(S.set n c')[m]? =some c:=by rw[Ex,if_neg q];exact h
theorem Zb {n:Nat} (h:n<=64):n<sizeLine:=F8 h ∅
theorem zbV {n:Nat} (h:n<=999):n<sizeLine:=F8 h ∅
theorem zL {α:Type} {l:List α} {i:Nat} {a:α} (h:l[i]? =some a):l.take (i+1)=l.take i++[a]:=by
 obtain⟨hi,e⟩:=E8.1 h
 rw[List.take_succ_eq_append_getElem hi,e]
theorem wH {α β:Type} {f:α->β} {l:List α} {i:Nat} {b:β} (h:(l.map f)[i]? =some b):∃a,l[i]? =some a/\b=f a:=by
 rw[Ef] at h
 cases e:l[i]? with
 |none=>rw[e] at h;cases h
 |some a=>rw[e] at h;cases h;exact⟨a,rfl,rfl⟩
def LAt {α:Type} (R:Sto->Xv->α->Prop) (S:Sto) (x:Xv) (as:List α):Prop:=∃l,L2.zu S x=some l/\l.length=as.length/\∀(i:Nat) a,as[i]? =some a->∃z,l[i]? =some z/\R S z a
def Le (S S':Sto):Prop:=(∀x l,L2.zu S x=some l->L2.zu S' x=some l)/\∀x p,L2.xP S x=some p->L2.xP S' x=some p
theorem Fz.le (a:Fz S S'):Le S S':=⟨λ_ _=>a.lstAt,λ_ _=>a.drAt⟩
theorem Le.trans (a:Le S S') (b:Le S' S2):Le S S2:=⟨λx l h=>b.1 x l (a.1 x l h),λx p h=>b.2 x p (a.2 x p h)⟩
noncomputable def hid (S:Sto) (n:Nat):Sto:=S.set n (.dn [])
theorem zaO {n m:Nat}:(hid S n)[m]? =if n=m then (if n<S.length then some (.dn []) else none) else S[m]? :=by unfold hid;rw[Ex]
theorem zcP {n:Nat}:L2.zu (hid S n) (.ref n)=none/\L2.xP (hid S n) (.ref n)=none:=by
 simp only[L2.zu,L2.xP]
 rw[zaO,if_pos rfl]
 by_cases h:n<S.length
 ·rw[if_pos h];exact⟨rfl,rfl⟩
 ·rw[if_neg h];exact⟨rfl,rfl⟩
theorem zju {n:Nat} {c:Ce}:Le (hid S n) (S.set n c):=by
 constructor<;>intro x l h<;>cases x<;>simp only[L2.zu,L2.xP,reduceCtorEq] at h ⊢ <;>rename_i m<;>by_cases q:n=m
 ·subst q;have:=(zcP (S:=S) (n:=n)).1;simp only[L2.zu] at this;rw[this] at h;cases h
 ·rw[zaO,if_neg q] at h;rw[Ex,if_neg q];exact h
 ·subst q;have:=(zcP (S:=S) (n:=n)).2;simp only[L2.xP] at this;rw[this] at h;cases h
 ·rw[zaO,if_neg q] at h;rw[Ex,if_neg q];exact h
theorem Vd {n:Nat}:Le (hid S n) S:=by
 by_cases hn:n<S.length
 ·have:=zju (S:=S) (n:=n) (c:=S[n])
  rwa [Hl] at this
 ·unfold hid
  rw[List.set_eq_of_length_le ⋯]
  exact Fz.refl.le
theorem Tj {n m:Nat} {l:List Xv} (h:L2.zu S (.ref m)=some l) (q:n≠m):L2.zu (hid S n) (.ref m)=some l:=by
 simp only[L2.zu] at h ⊢
 rw[zaO,if_neg q]
 exact h
theorem zll {n m:Nat} {l:Nat×List (Key×Xv)} (h:L2.xP S (.ref m)=some l) (q:n≠m):L2.xP (hid S n) (.ref m)=some l:=by
 simp only[L2.xP] at h ⊢
 rw[zaO,if_neg q]
 exact h
theorem Fz.hid {n:Nat} (a:Fz S S'):Le (hid S n) (hid S' n):=by
 constructor<;>intro x l h
 ·have h2:=a.le.1 x l (Vd.1 x l h)
  obtain⟨m,rfl⟩:∃m,x= .ref m:=by cases x<;>first|exact⟨_,rfl⟩|(simp only[L2.zu,reduceCtorEq] at h)
  by_cases q:n=m
  ·subst q;rw[zcP.1] at h;cases h
  ·exact Tj h2 q
 ·have h2:=a.le.2 x l (Vd.2 x l h)
  obtain⟨m,rfl⟩:∃m,x= .ref m:=by cases x<;>first|exact⟨_,rfl⟩|(simp only[L2.xP,reduceCtorEq] at h)
  by_cases q:n=m
  ·subst q;rw[zcP.2] at h;cases h
  ·exact zll h2 q
theorem LAt.mono {α:Type} {R:Sto->Xv->α->Prop} {as:List α} (hR:∀z a,R S z a->R S' z a) (p:Le S S') (h:LAt R S x as):LAt R S' x as:=by
 obtain⟨l,e,el,k⟩:=h
 exact⟨l,p.1 _ _ e,el,λi a ha=>by obtain⟨z,e1,e2⟩:=k i a ha;exact⟨z,e1,hR z a e2⟩⟩
theorem Wf {α β:Type} {R:β->α->Prop}:∀(l:List β),(∀z∈l,∃a,R z a)->∃as:List α,l.length=as.length/\(∀(i:Nat) a,as[i]? =some a->∃z,l[i]? =some z/\R z a)/\∀a∈as,∃z∈l,R z a
 |[],_=>⟨[],rfl,by simp,by simp⟩
 |z::r,h=>by
  obtain⟨a,ha⟩:=h z (by simp)
  obtain⟨as,e,k,m⟩:=Wf r λy hy=>h y (by simp[hy])
  refine⟨a::as,by simp[e],λi b hb=> ?_,λb hb=> ?_⟩
  ·cases i with
   |zero=>simp at hb;subst hb;exact⟨z,rfl,ha⟩
   |succ i=>exact k i b (by simpa using hb)
  ·rcases Er.1 hb with rfl|hb
   ·exact⟨z,by simp,ha⟩
   ·obtain⟨y,hy,q⟩:=m b hb
    exact⟨y,by simp[hy],q⟩
def Zl {α:Type} (R:Sto->Xv->α->Prop) (S:Sto) (n:Nat) (l:List Xv) (as:List α):Prop:=S[n]? =some (.lst l)/\l.length=as.length/\∀(i:Nat) a,as[i]? =some a->∃z,l[i]? =some z/\R (hid S n) z a
section
variable {α:Type} {R:Sto->Xv->α->Prop} {n:Nat} {l:List Xv} {as:List α}
theorem Zl.nil:Zl R (S++[.lst []]) S.length [] ([]:List α):=⟨yP,rfl,λi a e=>by simp at e⟩
theorem Zl.mono (hR:∀{S S':Sto} {z:Xv} {a:α},Le S S'->R S z a->R S' z a) (p:Fz S S') (h:Zl R S n l as):Zl R S' n l as:=⟨p.lst h.1,h.2.1,λi a ha=>by
 obtain⟨z,e1,e2⟩:=h.2.2 i a ha
 exact⟨z,e1,hR p.hid e2⟩⟩
theorem zjv {c:Ce}:hid (S.set n c) n=hid S n:=by unfold hid;rw[J1]
theorem Zl.push {z:Xv} {a:α} (h:Zl R S n l as) (hz:R (hid S n) z a):Zl R (S.set n (.lst (l++[z]))) n (l++[z]) (as++[a]):=by
 refine⟨Za h.1,by simp[h.2.1],λi b hb=> ?_⟩
 rw[zjv]
 by_cases hi:i<as.length
 ·rw[Ed hi] at hb
  obtain⟨y,e1,e2⟩:=h.2.2 i b hb
  exact⟨y,by rw[Ed (by rw[h.2.1];exact hi)];exact e1,e2⟩
 ·rw[Eu ⋯] at hb
  have:i-as.length=0:=by
   have:=(E8.1 hb).1
   simpa using this
  rw[this] at hb
  cases hb
  exact⟨z,by rw[Eu (by rw[h.2.1];omega),h.2.1,this];rfl,hz⟩
theorem Zl.at (hR:∀{S S':Sto} {z:Xv} {a:α},Le S S'->R S z a->R S' z a) (h:Zl R S n l as):LAt R S (.ref n) as:=⟨l,zh h.1,h.2.1,λi a ha=>by
 obtain⟨z,e1,e2⟩:=h.2.2 i a ha
 exact⟨z,e1,hR Vd e2⟩⟩
end
noncomputable def Zc (S:Sto) (k:Nat):Sto:=S.mapIdx λi c=>if i<k then .dn [] else c
theorem Yn {k m:Nat}:(Zc S k)[m]? =if m<k then S[m]?.map (λ_=>Ce.dn []) else S[m]? :=by
 unfold Zc
 rw[IL]
 split
 ·rfl
 ·simp
theorem vK {k m:Nat} {l:List Xv} (h:L2.zu S (.ref m)=some l) (q:k<=m):L2.zu (Zc S k) (.ref m)=some l:=by
 simp only[L2.zu] at h ⊢
 rw[Yn,if_neg ⋯]
 exact h
theorem Tk {k:Nat} (h:∀m c,k<=m->S[m]? =some c->S'[m]? =some c\/∃kvs,c= .dk kvs/\S'[m]? =some (.fdk kvs)):Le (Zc S k) S':=by
 constructor<;>intro x l e<;>cases x<;>simp only[L2.zu,L2.xP,reduceCtorEq] at e ⊢ <;>rename_i m<;>rw[Yn] at e
 ·by_cases q:m<k
  ·rw[if_pos q] at e
   cases hs:S[m]? <;>rw[hs] at e<;>cases e
  ·rw[if_neg q] at e
   cases hs:S[m]? with
   |none=>rw[hs] at e;cases e
   |some c=>
    rw[hs] at e
    rcases h m c ⋯ hs with z|⟨kvs,rfl,z⟩
    ·rw[z];exact e
    ·cases e
 ·by_cases q:m<k
  ·rw[if_pos q] at e
   cases hs:S[m]? <;>rw[hs] at e<;>cases e
  ·rw[if_neg q] at e
   cases hs:S[m]? with
   |none=>rw[hs] at e;cases e
   |some c=>
    rw[hs] at e
    rcases h m c ⋯ hs with z|⟨kvs,rfl,z⟩
    ·rw[z];exact e
    ·rw[z];exact e
theorem Zm {k:Nat}:Le (Zc S k) S:=Tk λ_ _ _ e=> .inl e
theorem xB {j k:Nat} (a:Fz S S') (q:j<=k):Le (Zc S k) (Zc S' j):=Tk λm c h e=>by
 rcases a.2 m c e with z|⟨kvs,rfl,z⟩
 ·exact .inl (by rw[Yn,if_neg ⋯];exact z)
 ·exact .inr ⟨kvs,rfl,by rw[Yn,if_neg ⋯];exact z⟩
def Zd {α:Type} (R:Sto->Xv->α->Prop) (S:Sto) (n:Nat) (l:List Xv) (as:List α):Prop:=S[n]? =some (.lst l)/\l.length=as.length/\∀(i:Nat) a,as[i]? =some a->∃z,l[i]? =some z/\R (Zc S (n+1)) z a
section
variable {α:Type} {R:Sto->Xv->α->Prop} {n:Nat} {l:List Xv} {as:List α}
theorem Zd.nil:Zd R (S++[.lst []]) S.length [] ([]:List α):=⟨yP,rfl,λi a e=>by simp at e⟩
theorem Zd.mono (hR:∀{S S':Sto} {z:Xv} {a:α},Le S S'->R S z a->R S' z a) (p:Fz S S') (h:Zd R S n l as):Zd R S' n l as:=⟨p.lst h.1,h.2.1,λi a ha=>by
 obtain⟨z,e1,e2⟩:=h.2.2 i a ha
 exact⟨z,e1,hR (xB p (Ek _)) e2⟩⟩
theorem zic {c:Ce}:Zc (S.set n c) (n+1)=Zc S (n+1):=by
 refine FY λm=> ?_
 rw[Yn,Yn]
 by_cases q:m<n+1
 ·rw[if_pos q,if_pos q,Ex]
  split
  ·rename_i e
   subst e
   by_cases hl:n<S.length
   ·rw[if_pos hl,DZ hl];rfl
   ·rw[if_neg hl,EY ⋯]
  ·rfl
 ·rw[if_neg q,if_neg q,Ex,if_neg ⋯]
theorem Zd.push {z:Xv} {a:α} (h:Zd R S n l as) (hz:R (Zc S (n+1)) z a):Zd R (S.set n (.lst (l++[z]))) n (l++[z]) (as++[a]):=by
 refine⟨Za h.1,by simp[h.2.1],λi b hb=> ?_⟩
 rw[zic]
 by_cases hi:i<as.length
 ·rw[Ed hi] at hb
  obtain⟨y,e1,e2⟩:=h.2.2 i b hb
  exact⟨y,by rw[Ed (by rw[h.2.1];exact hi)];exact e1,e2⟩
 ·rw[Eu ⋯] at hb
  have:i-as.length=0:=by
   have:=(E8.1 hb).1
   simpa using this
  rw[this] at hb
  cases hb
  exact⟨z,by rw[Eu (by rw[h.2.1];omega),h.2.1,this];rfl,hz⟩
theorem Zd.at {k:Nat} (hR:∀{S S':Sto} {z:Xv} {a:α},Le S S'->R S z a->R S' z a) (hk:k<=n) (h:Zd R S n l as):LAt R (Zc S k) (.ref n) as:=⟨l,vK (zh h.1) hk,h.2.1,λi a ha=>by
 obtain⟨z,e1,e2⟩:=h.2.2 i a ha
 exact⟨z,e1,hR (xB Fz.refl ⋯) e2⟩⟩
end
end
section
variable {fu:Nat} {S:Sto} {xs:Xv} {ns:List Int}
noncomputable def xr (ns:List Int) (k:Nat):Int:=ns.getD k 0
noncomputable def wV (n p q:Int):Int:=n % 1000003*48271 % p % q
theorem ZM {k:Int} (h0:0<=k) (hs:zu S xs=some (ns.map Xv.int)):W (zG fu [xs,.int k] S) λv S'=>v= .int (xr ns k.toNat)/\S=S':=by
 walk_at "wr";unfold Zy;nofun
 refine wC ?_
 nofun
 refine Xi hs ?_
 nofun
 refine Zz (λh=> ?_) (λh=> ?_)
 ·nofun
  rw[Eb] at h
  have hk:k.toNat<ns.length:=by omega
  refine yv hs (wm h0 (by rw[Ef,DZ hk];rfl)) ?_
  exact⟨by unfold xr;simp[Ec,hk],rfl⟩
 ·refine Te ?_
  refine XO (zkT ?_)
  rw[Eb] at h
  have hk:¬k.toNat<ns.length:=by omega
  exact⟨by unfold xr;rw[Ec,EY ⋯];rfl,rfl⟩
theorem wW {n p q:Int} (hp:0<p) (hq:0<q):W (zx fu [.int n,.int p,.int q] S) λv S'=>v= .int (wV n p q)/\S=S':=by
 walk_at "wr";unfold Yw;nofun
 refine Xh ∅ ?_
 nofun
 refine Xh hp ?_
 nofun
 refine Xh hq ?_
 exact⟨rfl,rfl⟩
noncomputable def xZ (ns:List Int) (c p:Int):Int:=if wV (xr ns 1) 40009 2=1 then c-1-(p+wV (xr ns 1) 30011 c) % c else (p+wV (xr ns 1) 30011 c) % c
theorem YX {c p:Int} (hc:0<c):0<=xZ ns c p/\xZ ns c p<c:=by
 have h0:=G9 (p+wV (xr ns 1) 30011 c) (b:=c) ⋯
 have h1:=Gg (p+wV (xr ns 1) 30011 c) hc
 unfold xZ
 split<;>omega
theorem zd0 {c p q:Int} (hc:0<c) (hp:0<=p) (jD:p<c) (hq:0<=q) (DM:q<c) (h:xZ ns c p=xZ ns c q):p=q:=by
 have e:(p+wV (xr ns 1) 30011 c) % c=(q+wV (xr ns 1) 30011 c) % c:=by
  unfold xZ at h
  split at h<;>omega
 have e2:(p+wV (xr ns 1) 30011 c-(q+wV (xr ns 1) 30011 c)) % c=0:=Int.emod_eq_emod_iff_emod_sub_eq_zero.1 e
 have e3:(p-q) % c=0:=by
  rw[show p+wV (xr ns 1) 30011 c-(q+wV (xr ns 1) 30011 c)=p-q by omega] at e2
  exact e2
 obtain⟨k,hk⟩:=Int.dvd_of_emod_eq_zero e3
 rcases J7 k 0 with h1|h1|h1
 ·have:c*k<=c*(-1):=Gc ⋯ ⋯
  omega
 ·subst h1;omega
 ·have:c*1<=c*k:=Gc ⋯ ⋯
  omega
theorem zcQ {c p:Int} (hc:0<c) (hs:zu S xs=some (ns.map Xv.int)):W (vJ fu [xs,.int c,.int p] S) λv S'=>v= .int (xZ ns c p)/\S=S':=by
 walk_at "wr";unfold Xq;nofun
 refine (ZM ∅ hs).imp ?_
 rintro _ _ ⟨rfl,rfl⟩
 nofun
 refine (wW ∅ hc).imp ?_
 rintro _ _ ⟨rfl,rfl⟩
 nofun
 refine Xh hc ?_
 nofun
 refine wC ?_
 nofun
 refine (ZM ∅ hs).imp ?_
 rintro _ _ ⟨rfl,rfl⟩
 nofun
 refine (wW ∅ ∅).imp ?_
 rintro _ _ ⟨rfl,rfl⟩
 nofun
 refine Zz (λh=> ?_) (λh=> ?_)
 ·have h:wV (xr ns 1) 40009 2=1:=h
  refine XO (UB (UB (Zw rfl (zkT (zeA (Zw rfl (zeA ?_)))))))
  exact⟨by unfold xZ;rw[if_pos h];rfl,rfl⟩
 ·have h:¬wV (xr ns 1) 40009 2=1:=h
  refine Te (XO (Zw rfl ?_))
  exact⟨by unfold xZ;rw[if_neg h];rfl,rfl⟩
end
section
variable {fu:Nat} {S S':Sto} {xs:Xv} {ns:List Int} {dd:Int}
abbrev Q2:=Int×Int
noncomputable def qv (q:Q2):Xv:= .tup [.int q.1,.int q.2]
noncomputable def UU (t b:Int):Q2:=(t / (FD t b:Int),b / (FD t b:Int))
noncomputable def zcR (a b:Q2):Q2:=UU (a.1*b.2+b.1*a.2) (a.2*b.2)
structure QOk (dd c:Int) (q:Q2):Prop where
 pos:0<q.2
 dvd:q.2∣dd
 le:(q.1.natAbs:Int)<=c*q.2
 low:FD q.1 q.2=1
theorem QOk.bD {c:Int} {q:Q2} (hd:0<dd) (h:QOk dd c q):q.2<=dd:=Int.le_of_dvd hd h.dvd
theorem QOk.mono {c d:Int} {q:Q2} (h:QOk dd c q) (hd:c<=d):QOk dd d q:=⟨h.pos,h.dvd,HX h.le (FL hd (Int.le_of_lt h.pos)),h.low⟩
theorem QOk.nil:QOk dd 0 (0,1):=⟨∅,Int.one_dvd _,∅,∅⟩
theorem zid {c t b:Int} (hb:0<b) (hd:b∣dd*t) (hle:(t.natAbs:Int)<=c*b):QOk dd c (UU t b):=by
 have g0:0<FD t b:=Hw _ ⋯
 have gt:(FD t b:Int)∣t:=Jn ..
 have gb:(FD t b:Int)∣b:=J8 ..
 obtain⟨t',et⟩:=gt
 obtain⟨b',eb⟩:=gb
 have gz:((FD t b:Int))≠0:=by omega
 have gp:(0:Int)<(FD t b:Int):=by omega
 unfold UU
 have co:FD t' b'=1:=by
  have h1:FD t b=FD t b*FD t' b':=by
   have:=Int.gcd_mul_left (FD t b:Int) t' b'
   rw[<-et,<-eb] at this
   simpa using this
  exact Nat.eq_of_mul_eq_mul_left g0 (by rw[Nat.mul_one];exact h1.symm)
 have dt:t / (FD t b:Int)=t':=Gh gz et
 have db:b / (FD t b:Int)=b':=Gh gz eb
 rw[dt,db]
 generalize (FD t b:Int)=g at*
 have jm:0<b':=by
  rcases J7 b' 0 with h|h|h
  ·have:=Int.mul_neg_of_pos_of_neg gp h;omega
  ·subst h;simp at eb;omega
  ·exact h
 refine⟨jm,?_,?_,co⟩
 ·rw[et,eb] at hd
  have hd:b'∣dd*t':=by
   have:g*b'∣g*(dd*t'):=by rw[show g*(dd*t')=dd*(g*t') by rw[<-Fi,<-Fi,Gb g dd]];exact hd
   exact Int.dvd_of_mul_dvd_mul_left gz this
  have hn:b'.natAbs∣dd.natAbs*t'.natAbs:=by
   have:=IG.2 hd
   rwa [GZ] at this
  have hc:Nat.Coprime b'.natAbs t'.natAbs:=by
   show Gf _ _=1
   rw[Hr]
   exact co
  exact IG.1 (hc.dvd_of_dvd_mul_right hn)
 ·show (t'.natAbs:Int)<=c*b'
  rw[et,eb,GZ] at hle
  have hg:((g.natAbs:Nat):Int)=g:=Gq ⋯
  rw[Iq,hg,show c*(g*b')=g*(c*b') by rw[<-Fi,Gb c g,Fi]] at hle
  exact Int.le_of_mul_le_mul_left hle gp
theorem zlm {c d:Int} {a b:Q2} (ha:QOk dd c a) (hb:QOk dd d b):QOk dd (c+d) (zcR a b):=by
 have h1:=ha.pos
 have h2:=hb.pos
 refine zid (GL h1 h2) ?_ ?_
 ·obtain⟨u,hu⟩:=ha.dvd
  obtain⟨v,hv⟩:=hb.dvd
  refine⟨a.1*u+b.1*v,?_⟩
  have e1:(dd:Int)*(a.1*b.2+b.1*a.2)=a.1*b.2*dd+b.1*a.2*dd:=by rw[Je,Gb dd,Gb dd (b.1*a.2)]
  rw[e1]
  conv=>lhs;rw[show a.1*b.2*dd=a.1*b.2*(a.2*u) by rw[<-hu],show b.1*a.2*dd=b.1*a.2*(b.2*v) by rw[<-hv]]
  rw[Je]
  congr 1
  ·rw[Gb a.1 b.2,Fi,Gb a.2 b.2,Fi];congr 1;rw[<-Fi,<-Fi,Gb a.1 a.2]
  ·rw[Gb b.1 a.2,Fi,Fi];congr 1;rw[<-Fi,<-Fi,Gb b.1 b.2]
 ·have l1:((a.1*b.2).natAbs:Int)<=c*(a.2*b.2):=by
   rw[GZ,Iq,show ((b.2.natAbs:Nat):Int)=b.2 from Gq ⋯,<-Fi]
   exact FL ha.le ⋯
  have l2:((b.1*a.2).natAbs:Int)<=d*(a.2*b.2):=by
   rw[GZ,Iq,show ((a.2.natAbs:Nat):Int)=a.2 from Gq ⋯,Gb a.2 b.2,<-Fi]
   exact FL hb.le ⋯
  have:=Int.natAbs_add_le (a.1*b.2) (b.1*a.2)
  rw[Int.add_mul]
  omega
end
section
variable {fu:Nat} {S S':Sto} {dd:Int}
noncomputable def val (x:Q2):Rat:=(x.1:Rat) / (x.2:Rat)
theorem VF {b:Int} (h:b≠0):(b:Rat)≠0:=λz=>h (by exact_mod_cast z)
theorem zfy {t b:Int} (hb:0<b):val (UU t b)=(t:Rat) / (b:Rat):=by
 have g0:0<FD t b:=Hw _ ⋯
 obtain⟨t',et⟩:(FD t b:Int)∣t:=Jn ..
 obtain⟨b',eb⟩:(FD t b:Int)∣b:=J8 ..
 have gz:((FD t b:Int))≠0:=by omega
 have dt:t / (FD t b:Int)=t':=Gh gz et
 have db:b / (FD t b:Int)=b':=Gh gz eb
 unfold val UU
 dsimp only
 rw[dt,db]
 generalize (FD t b:Int)=g at*
 have jm:b'≠0:=λz=>by subst z;simp at eb;omega
 rw[et,eb,GP,GP]
 have h1:=VF gz
 have h2:=VF jm
 rw[Hf,Hf,Rat.inv_mul_rev]
 have:(g:Rat)*(t':Rat)*((b':Rat)⁻¹*(g:Rat)⁻¹)=(t':Rat)*(b':Rat)⁻¹*((g:Rat)*(g:Rat)⁻¹):=by grind
 rw[this,J2 _ h1,Rat.mul_one]
theorem zjw {a b:Q2} (ha:0<a.2) (hb:0<b.2):val (zcR a b)=val a+val b:=by
 unfold zcR
 rw[zfy (GL ha hb)]
 unfold val
 have h1:=VF (b:=a.2) ⋯
 have h2:=VF (b:=b.2) ⋯
 rw[Rat.intCast_add,GP,GP,GP]
 grind
end
section
variable {fu:Nat} {S S':Sto} {dd:Int} {x y:Xv}
theorem zie {P:Xv->Sto->Prop} {p:Int} (k:P (.int (p.natAbs:Int)) S):WO (zhb [.int p] S) P:= .of (show zhb [.int p] S=some (.int (if p<0 then -p else p),S) from rfl) (by
 rw[show (if p<0 then -p else p)=(p.natAbs:Int) by split<;>omega]
 exact k)
theorem zgs:∀(n:Nat) (one other:Nat) (a2:Option Xv),other<n->
  WS (US (bE (eOp zet (ze 1) (eC (.int 0)))) (zF (yc (eOp Xe (ze 0) (ze 1)) (gN 2)) (zF (yc (ze 1) (gN 0)) (yc (ze 2) (gN 1)))) n [some (.int one),some (.int other),a2] S) (λρ S'=>∃a2,ρ=[some (.int (Gf one other:Nat)),some (.int 0),a2]/\S=S') (λ_ _=>False):=by
 intro n
 induction n with
 |zero=>intro one other a2 h;omega
 |succ n ih=>
  intro one other a2 h
  refine zcu ?_
  nofun
  rw[show (!decide ((other:Int)=0))=decide (¬(other:Int)=0) by simp]
  refine Zz (λh=> ?_) (λh=> ?_)
  ·have h0:0<other:=by omega
   nofun
   refine Xh ⋯ ?_
   nofun
   have:=ih other (one % other) (some (.int ((one % other:Nat):Int))) (by have:=HP one h0;omega)
   rw[show Gf other (one % other)=Gf one other by rw[Hr other,<-Nat.gcd_rec,Hr]] at this
   rw[Jo] at this
   exact this
  ·have:other=0:=by omega
   subst this
   exact⟨a2,by simp,rfl⟩
def ww (n:Nat) (p:Int):Prop:=p.natAbs<2^n
theorem ww.mono {n m:Nat} {p:Int} (h:ww n p) (hn:n<=m):ww m p:=EK h (Gp ∅ hn)
theorem ww.le {n:Nat} {p:Int} (h:ww n p):intBits p<=n:=GB.mpr h
theorem ww.mul {n m:Nat} {p q:Int} (h:ww n p) (g:ww m q):ww (n+m) (p*q):=by
 unfold ww at*
 rw[GZ,Nat.pow_add]
 rcases Nat.eq_zero_or_pos q.natAbs with z|z
 ·rw[z,Nat.mul_zero];exact Nat.mul_pos (Jf ∅) (Jf ∅)
 ·exact Nat.mul_lt_mul_of_lt_of_le h (EL g) (Jf ∅)
theorem ww.fuel {n:Nat} {p:Int} (hb:Big fu) (h:ww n p) (hn:n<=9000):p.natAbs<fu:=EK (h.mono hn) hb
theorem zd1 {n:Nat} {t b:Int} (h0:0<b) (hb:ww n b) (hn:n<=9000):((Gf t.natAbs b.natAbs:Nat):Int)≠0/\intBits ((Gf t.natAbs b.natAbs:Nat):Int)<=9000:=by
 have g0:0<Gf t.natAbs b.natAbs:=HZ _ ⋯
 have gl:Gf t.natAbs b.natAbs<=b.natAbs:=Nat.gcd_le_right _ ⋯
 refine⟨⋯,Ey (ww.le (n:=n) ?_) hn⟩
 unfold ww
 rw[Int.natAbs_natCast]
 exact F8 gl hb
theorem zd2 {t b:Int}:qv (UU t b)= .tup [.int (t.fdiv ((Gf t.natAbs b.natAbs:Nat):Int)),.int (b.fdiv ((Gf t.natAbs b.natAbs:Nat):Int))]:=by
 rw[HH _ ⋯,HH _ ⋯]
 rfl
theorem zif (bT:Big fu) {t b:Int} (h0:0<b) (hb:ww 9000 b):W (Ul fu [.int t,.int b] S) λv S'=>v=qv (UU t b)/\S=S':=by
 have gb:=zd1 (t:=t) h0 hb (Ek _)
 walk_at "wr";unfold Uk
 nofun
 refine W.imp (P:=λv S'=>v= .int (Gf t.natAbs b.natAbs:Nat)/\S=S') ?_ ?_
 ·walk_at "wr";unfold Yc;nofun
  refine zie ?_
  nofun
  refine zie ?_
  nofun
  refine zhj ?_
  rcases zgs (S:=S) fu t.natAbs b.natAbs none (ww.fuel bT hb (Ek _)) with⟨ρ,S',e,a2,rfl,rfl⟩|⟨_,_,_,z⟩
  ·refine .nx e ?_
   nofun
   exact⟨rfl,rfl⟩
  ·exact z.elim
 rintro _ _ ⟨rfl,rfl⟩
 nofun
 refine wC ?_
 nofun
 refine Zz (λh=>absurd h ⋯) (λ_=>Te ?_)
 nofun
 refine Vu gb ?_
 nofun
 refine Vu gb ?_
 nofun
 exact⟨zd2.symm,rfl⟩
def QX (x:Xv) (q:Q2):Prop:=x.tupOf=some [.int q.1,.int q.2]
theorem QX.qv (q:Q2):QX (qv q) q:=rfl
theorem QOk.bits {c:Int} {q:Q2} (h:QOk dd c q) (hd:0<dd) (gI:ww 4000 dd) (h0:0<=c) (hc:c<1048576):ww 4020 q.1/\ww 4000 q.2:=by
 have h1:=h.bD hd
 have h2:=h.pos
 have hb:ww 4000 q.2:=F8 (show q.2.natAbs<=dd.natAbs by omega) gI
 refine⟨?_,hb⟩
 have Ci:ww 20 c:=by
  unfold ww
  have:(2:Nat)^20=1048576:=by decide
  omega
 have:=Ci.mul hb
 refine F8 ?_ (this.mono ∅)
 have h3:=h.le
 have h4:0<=c*q.2:=Ha h0 ⋯
 omega
end
section
variable {fu:Nat} {S S':Sto} {dd:Int} {x y:Xv}
theorem zln (bT:Big fu) {a b:Q2} {c e:Int} (hx:QX x a) (hy:QX y b) (oa:QOk dd c a) (ob:QOk dd e b) (hd:0<dd) (gI:ww 4000 dd) (c0:0<=c/\c<1048576) (e0:0<=e/\e<1048576):W (zcL fu [x,y] S) λv S'=>v=qv (zcR a b)/\S=S':=by
 obtain⟨a1,a2⟩:=oa.bits hd gI c0.1 c0.2
 obtain⟨b1,b2⟩:=ob.bits hd gI e0.1 e0.2
 have l1:=a1.le
 have l2:=a2.le
 have l3:=b1.le
 have l4:=b2.le
 walk_at "wr";unfold zcK
 nofun
 refine ZW hx zbL ?_
 nofun
 refine ZW hy UC ?_
 refine vj ⋯ ?_
 nofun
 refine ZW hy zbL ?_
 nofun
 refine ZW hx UC ?_
 refine vj ⋯ ?_
 nofun
 refine ZW hx UC ?_
 nofun
 refine ZW hy UC ?_
 refine vj ⋯ ?_
 nofun
 exact zif bT (GL oa.pos ob.pos) ((a2.mul b2).mono ∅)
end
section
variable {fu:Nat} {S S':Sto} {x y:Xv} {ns:List Int}
theorem zgt:∀(n:Nat) (t b:Xv) (one other:Nat),other<n->
  WS (US (bE (eOp dGt (ze 3) (eC (.int 0)))) (zg6 2 3 [(ze 3),(eOp Xe (ze 2) (ze 3))]) n [some t,some b,some (.int one),some (.int other)] S) (λρ S'=>ρ=[some t,some b,some (.int (Gf one other:Nat)),some (.int 0)]/\S=S') (λ_ _=>False):=by
 intro n
 induction n with
 |zero=>intro t b one other h;omega
 |succ n ih=>
  intro t b one other h
  refine zcu ?_
  nofun
  refine Zz (λh=> ?_) (λh=> ?_)
  ·have h0:0<other:=by omega
   nofun
   refine Xh ⋯ ?_
   nofun
   refine J0 _ (J0 _ (And.intro rfl ?_))
   dsimp only[EW]
   have:=ih t b other (one % other) (by have:=HP one h0;omega)
   rw[show Gf other (one % other)=Gf one other by rw[Hr other,<-Nat.gcd_rec,Hr]] at this
   rw[Jo] at this
   exact this
  ·have:other=0:=by omega
   subst this
   exact⟨by simp,rfl⟩
theorem zcS (bT:Big fu) {t b:Int} (h0:0<=t) (h1:0<b) (hb:ww 9000 b):W (xA fu [.int t,.int b] S) λv S'=>v=qv (UU t b)/\S=S':=by
 have gb:=zd1 (t:=t) h1 hb (Ek _)
 walk_at "wr";unfold vX;nofun
 refine zhj ?_
 rcases zgt (S:=S) fu (.int t) (.int b) t.natAbs b.natAbs (ww.fuel bT hb (Ek _)) with⟨ρ,S',e,rfl,rfl⟩|⟨_,_,_,z⟩
 rotate_left
 ·exact z.elim
 rw[Gq h0,Gq ⋯] at e
 refine .nx e ?_
 nofun
 refine Vu gb ?_
 nofun
 refine Vu gb ?_
 nofun
 exact⟨zd2.symm,rfl⟩
theorem zfz {p:Int} {n:Nat} (m:Nat) (h0:0<=p) (h:p<m) (hm:m<=2^n):ww n p:=by
 unfold ww
 omega
theorem zig {t b:Int} (h:0<b):0<(UU t b).2:=by
 have g0:0<Gf t.natAbs b.natAbs:=HZ _ ⋯
 have hd:((Gf t.natAbs b.natAbs:Nat):Int)∣b:=Int.ofNat_dvd_left.2 (Nat.gcd_dvd_right _ _)
 exact Int.ediv_pos_of_pos_of_dvd h ⋯ hd
theorem zjx (bT:Big fu) {c:Int}:W (Xp fu [.int c] S) λv S'=>(∃q,0<q.2/\v=qv q)/\S=S':=by
 walk_at "wr";unfold Xo;nofun
 refine wC ?_
 nofun
 refine (wW ∅ ∅).imp ?_
 rintro _ _ ⟨rfl,rfl⟩
 nofun
 refine Zz (λh=> ?_) (λh=> ?_)
 ·nofun
  exact⟨⟨(0,1),∅,rfl⟩,rfl⟩
 ·nofun
  refine Xh ∅ ?_
  nofun
  refine (wW ∅ ∅).imp ?_
  rintro _ _ ⟨rfl,rfl⟩
  nofun
  have h1:=G9 (c % 1000003*48271 % 10007) (b:=4) ∅
  have h2:=Gg (c % 1000003*48271 % 10007) (b:=4) ∅
  refine (zcS bT (G9 _ ∅) (by unfold wV;omega) (zfz 8 (by unfold wV;omega) (by unfold wV;omega) (Ey (show 8<=2^4 by decide) (Gp ∅ ∅)))).imp ?_
  rintro _ _ ⟨rfl,rfl⟩
  exact⟨⟨_,zig (by unfold wV;omega),rfl⟩,rfl⟩
theorem ZN {n p q:Int} (h:0<q):0<=wV n p q/\wV n p q<q:=⟨G9 _ ⋯,Gg _ h⟩
theorem zfA {p:Int} (h: -1000000<p/\p<1000000):intBits p<=20:=by
 refine GB.mpr ?_
 have:(2:Nat)^20=1048576:=by decide
 omega
theorem VG {p q:Int} (h: -1000000<p/\p<1000000) (g: -1000000<q/\q<1000000):intBits p+intBits q<=134217728:=by
 have:=zfA h
 have:=zfA g
 omega
def IsQ (x:Xv):Prop:=∃q:Q2,0<q.2/\x=qv q
end
section
variable {fu:Nat} {S:Sto} {xs:Xv} {ns:List Int}
inductive Kd where
 |fix (l:List Xv)|frz (l:List Xv)|nod|par|wts|chs|pts
def Xx (kvs:List (Key×Xv)) (m:Int):Prop:=(kvs.map (·.1)).Nodup/\∀p∈kvs,∃i:Int,p.1= .inl i/\0<=i/\i<m
def COk (c h m:Int) (τ:List Kd):Kd->Ce->Prop
 | .fix l,.lst xs=>xs=l
 | .frz l,.frz xs=>xs=l
 | .nod,.dk kvs=>Xx kvs h/\∀p∈kvs,∃n,p.2= .ref n/\τ[n]? =some .par
 | .par,.lst xs=>∃g n,xs=[g,.ref n]/\IsQ g/\τ[n]? =some .wts
 | .wts,.dk kvs=>Xx kvs c/\∀p∈kvs,∃w:Int,p.2= .int w/\0<w/\w<=m
 | .chs,.lst xs=>∀x∈xs,∃g n,x= .tup [g,.ref n]/\IsQ g/\τ[n]? =some .pts
 | .pts,.lst xs=>xs.length<=60/\∀x∈xs,∃(i:Int) (q:Xv),x= .tup [.int i,q]/\0<=i/\i<c/\IsQ q
 |_,_=>False
def Ty (c h m:Int) (τ:List Kd) (S:Sto):Prop:=τ.length=S.length/\∀(n:Nat) kd cell,τ[n]? =some kd->S[n]? =some cell->COk c h m τ kd cell
theorem ZB {τ τ':List Kd} {n:Nat} {k:Kd} (h:τ<+:τ') (e:τ[n]? =some k):τ'[n]? =some k:=by
 obtain⟨r,rfl⟩:=h
 rw[Ed (E8.1 e).1]
 exact e
theorem COk.mono {c h m m':Int} {τ τ':List Kd} (hp:τ<+:τ') (hm:m<=m'):∀{kd:Kd} {cell:Ce},COk c h m τ kd cell->COk c h m' τ' kd cell
 | .fix _,.lst _,e=>e
 | .frz _,.frz _,e=>e
 | .nod,.dk _,⟨a,b⟩=>⟨a,λp jE=>by obtain⟨n,e1,e2⟩:=b p jE;exact⟨n,e1,ZB hp e2⟩⟩
 | .par,.lst _,⟨g,n,e1,e2,e3⟩=>⟨g,n,e1,e2,ZB hp e3⟩
 | .wts,.dk _,⟨a,b⟩=>⟨a,λp jE=>by obtain⟨w,e1,e2,e3⟩:=b p jE;exact⟨w,e1,e2,⋯⟩⟩
 | .chs,.lst _,b=>λx hx=>by obtain⟨g,n,e1,e2,e3⟩:=b x hx;exact⟨g,n,e1,e2,ZB hp e3⟩
 | .pts,.lst _,b=>b
section
variable {c h m:Int} {τ τ':List Kd} {n:Nat} {kd:Kd} {cell:Ce}
theorem Ty.le {m':Int} (T:Ty c h m τ S) (hm:m<=m'):Ty c h m' τ S:=⟨T.1,λn kd cell e1 e2=>(T.2 n kd cell e1 e2).mono (FH _) hm⟩
theorem Ty.app (T:Ty c h m τ S) (hc:COk c h m (τ++[kd]) kd cell):Ty c h m (τ++[kd]) (S++[cell]):=by
 refine⟨by simp[T.1],λn k ce e1 e2=> ?_⟩
 by_cases hn:n<τ.length
 ·rw[Ed hn] at e1
  rw[Ed (by rw[<-T.1];exact hn)] at e2
  exact (T.2 n k ce e1 e2).mono (HD _ _) (Jd _)
 ·rw[Eu ⋯] at e1
  rw[Eu (by rw[<-T.1];omega)] at e2
  have:n-τ.length=0:=by
   have:=(E8.1 e1).1
   simpa using this
  rw[<-T.1,this] at e2
  rw[this] at e1
  simp at e1 e2
  subst e1 e2
  exact hc
theorem Ty.set (T:Ty c h m τ S) (e:τ[n]? =some kd) (hc:COk c h m τ kd cell):Ty c h m τ (S.set n cell):=by
 refine⟨by simp[T.1],λk kd' ce e1 e2=> ?_⟩
 rw[Ex] at e2
 split at e2
 ·rename_i q
  subst q
  split at e2
  ·cases e2
   rw[e] at e1
   cases e1
   exact hc
  ·cases e2
 ·exact T.2 k kd' ce e1 e2
theorem Ty.at_ (T:Ty c h m τ S) (e:τ[n]? =some kd):∃cell,S[n]? =some cell/\COk c h m τ kd cell:=by
 have hn:n<S.length:=by rw[<-T.1];exact (E8.1 e).1
 exact⟨S[n],DZ hn,T.2 n kd _ e (DZ hn)⟩
theorem Ty.fix {l:List Xv} (T:Ty c h m τ S) (e:τ[n]? =some (.fix l)):S[n]? =some (.lst l):=by
 obtain⟨cell,e1,e2⟩:=T.at_ e
 cases cell<;>first|(cases e2;exact e1)|cases e2
theorem Ty.frz {l:List Xv} (T:Ty c h m τ S) (e:τ[n]? =some (.frz l)):zu S (.ref n)=some l:=by
 obtain⟨cell,e1,e2⟩:=T.at_ e
 cases cell<;>first|(cases e2;simp[zu,e1])|cases e2
theorem Ty.nod (T:Ty c h m τ S) (e:τ[n]? =some .nod):∃kvs,S[n]? =some (.dk kvs)/\Xx kvs h/\∀p∈kvs,∃n,p.2= .ref n/\τ[n]? =some .par:=by
 obtain⟨cell,e1,e2⟩:=T.at_ e
 cases cell<;>first|exact⟨_,e1,e2⟩|cases e2
theorem Ty.par (T:Ty c h m τ S) (e:τ[n]? =some .par):∃g k,S[n]? =some (.lst [g,.ref k])/\IsQ g/\τ[k]? =some .wts:=by
 obtain⟨cell,e1,e2⟩:=T.at_ e
 cases cell<;>first|(obtain⟨g,k,rfl,a,b⟩:=e2;exact⟨g,k,e1,a,b⟩)|cases e2
theorem Ty.wts (T:Ty c h m τ S) (e:τ[n]? =some .wts):∃kvs,S[n]? =some (.dk kvs)/\Xx kvs c/\∀p∈kvs,∃w:Int,p.2= .int w/\0<w/\w<=m:=by
 obtain⟨cell,e1,e2⟩:=T.at_ e
 cases cell<;>first|exact⟨_,e1,e2⟩|cases e2
theorem Ty.new_at (T:Ty c h m τ S):(τ++[kd])[S.length]? =some kd:=by rw[<-T.1];simp
end
theorem zaP {kvs:List (Key×Xv)} {k:Key} {x:Xv} {p:Key×Xv} (hp:p∈XC kvs k x):p∈kvs\/p=(k,x):=by
 unfold XC at hp
 split at hp
 ·obtain⟨q,hq,e⟩:=Eh.1 hp
  split at e
  ·rename_i z
   rw[z] at e
   exact .inr e.symm
  ·exact .inl (e ▸ hq)
 ·rcases F5.1 hp with h|h
  ·exact .inl h
  ·exact .inr (by simpa using h)
theorem zbW (kvs:List (Key×Xv)) (k:Key) (x:Xv):(k∈kvs.map (·.1)/\(XC kvs k x).map (·.1)=kvs.map (·.1))\/(k∉kvs.map (·.1)/\(XC kvs k x).map (·.1)=kvs.map (·.1)++[k]):=by
 unfold XC
 split
 ·rename_i hc
  obtain⟨p,hp,e⟩:=Ia.1 hc
  refine .inl ⟨Eh.2 ⟨p,hp,of_decide_eq_true e⟩,?_⟩
  rw[F3]
  refine Fp λq _=> ?_
  dsimp only[HG]
  split<;>rfl
 ·rename_i hc
  refine .inr ⟨λhk=>hc ?_,by simp⟩
  obtain⟨p,hp,e⟩:=Eh.1 hk
  exact Ia.2 ⟨p,hp,decide_eq_true e⟩
theorem Xx.put {kvs:List (Key×Xv)} {m i:Int} {x:Xv} (h:Xx kvs m) (h0:0<=i) (h1:i<m):Xx (XC kvs (.inl i) x) m:=by
 refine⟨?_,λp hp=> ?_⟩
 ·rcases zbW kvs (.inl i) x with⟨_,e⟩|⟨hn,e⟩
  ·rw[e];exact h.1
  ·rw[e]
   exact Gz.2 ⟨h.1,by simp,λa ha b hb=>by simp at hb;subst hb;exact λz=>hn (z ▸ ha)⟩
 ·rcases zaP hp with hp|rfl
  ·exact h.2 p hp
  ·exact⟨i,rfl,h0,h1⟩
theorem zaQ {kvs:List (Key×Xv)} {k:Key} {z:Xv} (h:yV kvs k=some z):(k,z)∈kvs:=by
 unfold yV at h
 cases e:kvs.find? λkv=>decide (kv.1=k) with
 |none=>rw[e] at h;cases h
 |some p=>
  rw[e] at h
  cases h
  have h1:=Jw e
  have h2:=HQ e
  have:p.1=k:=by simpa using h1
  rw[<-this]
  exact h2
theorem zgu {kvs:List (Key×Xv)} {k:Key} (h:yV kvs k=none):k∉kvs.map (·.1):=by
 intro hk
 obtain⟨p,hp,e⟩:=Eh.1 hk
 unfold yV at h
 rw[Iy,GW] at h
 exact h p hp (by simpa using e)
theorem zgv {kvs:List (Key×Xv)} {k:Key} (h:k∈kvs.map (·.1)):∃z,yV kvs k=some z:=by
 cases e:yV kvs k with
 |some z=>exact⟨z,rfl⟩
 |none=>exact absurd h (zgu e)
theorem zcT {kvs:List (Key×Xv)} {k:Key} {x:Xv}:k∈(XC kvs k x).map (·.1):=by
 rcases zbW kvs k x with⟨h,e⟩|⟨_,e⟩
 ·rw[e];exact h
 ·rw[e];simp
theorem zaR:∀(m:Nat) (l:List Int),l.Nodup->(∀x∈l,0<=x/\x<m)->l.length<=m
 |0,l,_,h=>by
  cases l with
  |nil=>simp
  |cons a r=>have:=h a (by simp);omega
 |m+1,l,nd,h=>by
  by_cases hm:(m:Int)∈l
  ·have e:=List.length_erase_of_mem hm
   have:=zaR m (l.erase m) (nd.erase _) (λx hx=>by
    have h1:=h x (List.mem_of_mem_erase hx)
    have h2:x≠m:=λz=>by subst z;exact (List.Nodup.not_mem_erase nd) hx
    omega)
   have:=List.length_pos_of_mem hm
   omega
  ·have:=zaR m l nd (λx hx=>by
    have h1:=h x hx
    have h2:x≠m:=λz=>hm (z ▸ hx)
    omega)
   omega
theorem Xx.ints {kvs:List (Key×Xv)} {m:Int} (h:Xx kvs m):∃is:List Int,vG kvs=some is/\kvs.map (·.1)=is.map F6/\is.Nodup/\(∀i∈is,0<=i/\i<m)/\is.length<=m.toNat:=by
 have key:∀(l:List (Key×Xv)),(∀p∈l,∃i:Int,p.1= .inl i/\0<=i/\i<m)->∃is:List Int,vG l=some is/\l.map (·.1)=is.map F6/\∀i∈is,0<=i/\i<m:=by
  intro l
  induction l with
  |nil=>intro _;exact⟨[],rfl,rfl,by simp⟩
  |cons p r ih=>
   intro hp
   obtain⟨k,x⟩:=p
   obtain⟨i,e,h0,h1⟩:=hp (k,x) (by simp)
   have e:k= .inl i:=e
   subst e
   obtain⟨is,e1,e2,e3⟩:=ih λq hq=>hp q (by simp[hq])
   refine⟨i::is,by simp[vG,e1],by simp[e2],λj hj=> ?_⟩
   rcases Er.1 hj with rfl|hj
   ·exact⟨h0,h1⟩
   ·exact e3 j hj
 obtain⟨is,e1,e2,e3⟩:=key kvs h.2
 have nd:is.Nodup:=by
  have:=h.1
  rw[e2] at this
  exact (EZ.1 this).imp λh z=>h (by rw[z])
 refine⟨is,e1,e2,nd,e3,zaR _ _ nd λx hx=> ?_⟩
 have:=e3 x hx
 omega
end
section
variable {fu:Nat} {S:Sto} {xs:Xv} {ns:List Int}
theorem Yo {τ:List Kd} {k:Kd}:τ<+:τ++[k]:=HD _ _
structure Tab (c h m:Int) (τ0:List Kd) (cN:List Xv) (tn:Nat) (τ:List Kd) (S:Sto):Prop where
 ty:Ty c h m τ S
 pre:τ0<+:τ
 fix:τ[tn]? =some (.fix cN)
 len:(cN.length:Int)=c
 nod:∀x∈cN,∃n,x= .ref n/\τ[n]? =some .nod
theorem Tab.ext {c h m m':Int} {τ0:List Kd} {cN:List Xv} {tn:Nat} {τ τ':List Kd} {S':Sto} (T:Tab c h m τ0 cN tn τ S) (p:τ<+:τ') (ty:Ty c h m' τ' S'):Tab c h m' τ0 cN tn τ' S':=
 ⟨ty,T.pre.trans p,ZB p T.fix,T.len,λx hx=>by obtain⟨n,e1,e2⟩:=T.nod x hx;exact⟨n,e1,ZB p e2⟩⟩
theorem Tab.node {c h m:Int} {τ0:List Kd} {cN:List Xv} {tn:Nat} {τ:List Kd} {p:Int} (T:Tab c h m τ0 cN tn τ S) (h0:0<=p) (h1:p<c):∃nd,zu S (.ref tn)=some cN/\atI cN p=some (.ref nd)/\τ[nd]? =some .nod:=by
 have hp:p.toNat<cN.length:=by have:=T.len;omega
 obtain⟨nd,e1,e2⟩:=T.nod _ (Eo hp)
 exact⟨nd,zh (T.ty.fix T.fix),by rw[<-e1];exact wm h0 (DZ hp),e2⟩
theorem zeT {p:Int} (h0:0<=p) (h1:p<64):intBits p+intBits p<=134217728:=by
 have h2:p.natAbs<2^6:=by omega
 have:=GB.mpr h2
 omega
theorem zjy (bT:Big fu) {τ:List Kd} (hT:∀c,Ty c 2 0 τ S) (h0:τ[0]? =some (.frz (ns.map Xv.int))):W (Zh fu [.ref 0] S) λv S'=>∃tn c,v= .ref tn/\0<c/\c<=4/\∃τ' cN,Tab c 2 270 τ cN tn τ' S':=by
 have tR:zu S (.ref 0)=some (ns.map Xv.int):=(hT 0).frz h0
 walk_at "wr";unfold Yx;nofun
 refine (ZM ∅ tR).imp ?_
 rintro _ _ ⟨rfl,rfl⟩
 nofun
 refine (wW ∅ ∅).imp ?_
 rintro _ _ ⟨rfl,rfl⟩
 nofun
 obtain⟨qb,jF⟩:=ZN (n:=xr ns (FZ 0)) (p:=99991) (q:=4) ∅
 have hc:0<1+wV (xr ns (FZ 0)) 99991 4:=by omega
 have kL:1+wV (xr ns (FZ 0)) 99991 4<=4:=by omega
 generalize 1+wV (xr ns (FZ 0)) 99991 4=c at hc kL ⊢
 clear qb jF
 have hT:=hT c
 clear tR
 refine xQ (XQ ?_)
 nofun
 refine⟨⟨⋯,⋯⟩,_,rfl,?_⟩
 refine xc (by rw[yu];exact EL (Zb ⋯)) (λi es S1=>∃τ1,τ<+:τ1/\Ty c 2 0 τ1 S1/\∀x∈es,∃n,x= .ref n/\τ1[n]? =some .nod) (λ_ _ _ _ _=>rfl) ?_ ⟨τ,FH _,hT,by simp⟩ ?_
 ·rintro i x es S1 hx hl ⟨τ1,p1,T1,h8⟩
  refine .of rfl ?_
  nofun
  refine⟨rfl,?_⟩
  nofun
  refine⟨τ1++[.nod],p1.trans Yo,T1.app (kd:= .nod) (cell:= .dk []) ⟨⟨by simp,by simp⟩,by simp⟩,λy hy=> ?_⟩
  rcases F5.1 hy with hy|hy
  ·obtain⟨n,e1,e2⟩:=h8 y hy
   exact⟨n,e1,ZB Yo e2⟩
  ·simp at hy
   exact⟨_,hy,T1.new_at⟩
 rintro cN S1 hl ⟨τ1,p1,T1,h8⟩
 rw[yu] at hl
 have T2:=T1.app (kd:= .fix cN) (cell:= .lst cN) rfl
 have hU:Tab c 2 0 τ cN S1.length (τ1++[.fix cN]) (S1++[.lst cN]):=⟨T2,p1.trans Yo,T1.new_at,⋯,λx hx=>by obtain⟨n,e1,e2⟩:=h8 x hx;exact⟨n,e1,ZB Yo e2⟩⟩
 generalize S1.length=tn at hU ⊢
 generalize S1++[Ce.lst cN]=S2 at hU ⊢
 generalize τ1++[Kd.fix cN]=τ2 at hU
 clear T1 T2 h8 p1 hl
 nofun
 refine wk (zcv ?_)
 nofun
 refine zk6 (hU.ty.frz (ZB hU.pre h0)) ?_
 have kI:∀y∈L2.zck (ns.map Xv.int) (some 3) (some 33),∃z,y= .int z:=λy hy=>by
  unfold L2.zck at hy
  have:=List.mem_of_mem_drop (Hs hy)
  obtain⟨z,_,rfl⟩:=Eh.1 this
  exact⟨z,rfl⟩
 have eO:(L2.zck (ns.map Xv.int) (some 3) (some 33)).length<=30:=by
  unfold L2.zck
  rw[Fc]
  refine Ey (Nat.min_le_left _ _) ?_
  unfold HT.sIx
  simp
  omega
 generalize L2.zck (ns.map Xv.int) (some 3) (some 33)=l at kI eO ⊢
 have T3:=hU.ty.app (kd:= .fix l) (cell:= .lst l) rfl
 have gE:(τ2++[Kd.fix l])[S2.length]? =some (.fix l):=hU.ty.new_at
 have kR:=hU.ext Yo T3
 generalize S2.length=sn at gE ⊢
 generalize S2++[Ce.lst l]=S3 at kR ⊢
 generalize τ2++[Kd.fix l]=τ3 at kR gE
 clear T3 hU
 refine⟨l,zh (kR.ty.fix gE),vF l,by dsimp only;rw[zh (kR.ty.fix gE)];rfl,?_⟩
 refine yY (xs:=vF l) (λi ρ S4=>∃a3 a4 a5 a6 a7 a8 τ4,ρ=[some (.ref 0),some (.int c),some (.ref tn),a3,a4,a5,a6,a7,a8]/\τ3<+:τ4/\Tab c 2 (i*9) τ cN tn τ4 S4) ?_ ?_ ?_ ?_
 ·rintro i ρ S4 _ ⟨_,_,_,_,_,_,τ4,_,p4,T4⟩
  show (zu S4 (.ref sn)).map vF=_
  rw[zh (T4.ty.fix (ZB p4 gE))]
  rfl
 ·rintro i x ρ S4 hx ⟨a3,a4,a5,a6,a7,a8,τ4,rfl,p4,T4⟩
  obtain⟨y,ey,rfl⟩:=XL hx
  obtain⟨z,rfl⟩:=kI y (Ei ey)
  have hi:i<30:=by have:=(E8.1 ey).1;omega
  refine .of rfl ?_
  dsimp only[EW]
  nofun
  refine Xh hc ?_
  nofun
  have q0:=G9 (i:Int) (b:=c) ⋯
  have q1:=Gg (i:Int) hc
  generalize (i:Int) % c=pl at q0 q1 ⊢
  have BU:=T4.ty.frz (ZB T4.pre h0)
  refine wC ?_
  nofun
  refine (ZM ∅ BU).imp ?_
  rintro _ _ ⟨rfl,rfl⟩
  nofun
  refine vj (zeT q0 ⋯) ?_
  nofun
  refine (wW ∅ ∅).imp ?_
  rintro _ _ ⟨rfl,rfl⟩
  nofun
  have step:(i:Int)*9<=((i+1:Nat):Int)*9:=by omega
  refine⟨λ_=> ?_,λ_=> ?_⟩
  rotate_left
  ·nofun
   exact⟨_,_,_,_,_,_,τ4,rfl,p4,T4.ext (FH _) (T4.ty.le step)⟩
  nofun
  refine (wW ∅ ∅).imp ?_
  rintro _ _ ⟨rfl,rfl⟩
  obtain⟨s0,s1⟩:=ZN (n:=z) (p:=20011) (q:=2) ∅
  generalize wV z 20011 2=sl at s0 s1 ⊢
  nofun
  refine zez (λρ S5=>ρ=[some (.ref 0),some (.int c),some (.ref tn),some (.int i),some (.int z),some (.int pl),some (.int sl),a7,a8]/\∃τ5 nd kvs,τ4<+:τ5/\Tab c 2 (i*9) τ cN tn τ5 S5/\atI cN pl=some (.ref nd)/\S5[nd]? =some (.dk kvs)/\(F6 sl:Key)∈kvs.map (·.1)) (wC ?_) ?_
  ·obtain⟨nd,e1,e2,e3⟩:=T4.node q0 q1
   obtain⟨kvs,f1,f2,f3⟩:=T4.ty.nod e3
   refine zdB (zkW ?_)
   nofun
   refine yv e1 e2 ?_
   refine⟨nd,kvs,.inl sl,yF f1,rfl,_,rfl,?_⟩
   cases ev:yV kvs (F6 sl) with
   |some zz=>
    refine⟨nofun,λ_=> ?_⟩
    nofun
    exact⟨rfl,τ4,nd,kvs,FH _,T4,e2,f1,Eh.2 ⟨_,zaQ ev,rfl⟩⟩
   |none=>
    refine⟨λ_=> ?_,nofun⟩
    refine Td ?_
    nofun
    refine (zjx bT).imp ?_
    rintro _ _ ⟨⟨gq,qK,rfl⟩,rfl⟩
    have hg:IsQ (qv gq):=⟨_,qK,rfl⟩
    generalize qv gq=g at hg ⊢
    nofun
    have A1:=T4.ty.app (kd:= .wts) (cell:= .dk []) ⟨⟨by simp,by simp⟩,by simp⟩
    have k1:(τ4++[Kd.wts])[S4.length]? =some .wts:=T4.ty.new_at
    have A2:=A1.app (kd:= .par) (cell:= .lst [g,.ref S4.length]) ⟨g,_,rfl,hg,ZB Yo k1⟩
    have k2:(τ4++[Kd.wts]++[Kd.par])[(S4++[Ce.dk []]).length]? =some .par:=A1.new_at
    have pp:τ4<+:τ4++[Kd.wts]++[Kd.par]:=Yo.trans Yo
    generalize (S4++[Ce.dk []]).length=pn at k2 ⊢
    generalize S4++[Ce.dk []]++[Ce.lst [g,.ref S4.length]]=S5 at A2 ⊢
    generalize τ4++[Kd.wts]++[Kd.par]=τ5 at A2 k2 pp
    clear A1 k1
    have T5:=T4.ext pp A2
    obtain⟨nd',r9,lq,mK⟩:=T5.node q0 q1
    rw[e2] at lq
    cases lq
    obtain⟨kvs',kU,qO,qM⟩:=T5.ty.nod mK
    refine yv r9 e2 ?_
    nofun
    obtain⟨is,_,g2,_,_,g5⟩:=qO.ints
    have hlen:kvs'.length<sizeLine:=by
     have:kvs'.length=is.length:=by rw[<-Eb (f:=(·.1)),g2,Eb]
     exact Zb ⋯
    refine⟨nd,kvs',.inl sl,yF kU,rfl,hlen,rfl,τ5,nd,XC kvs' (.inl sl) (.ref pn),pp,T5.ext (FH _) (A2.set mK (cell:= .dk (XC kvs' (.inl sl) (.ref pn))) ⟨qO.put s0 s1,λp hp=> ?_⟩),e2,?_,zcT⟩
    ·rcases zaP hp with hp|rfl
     ·exact qM p hp
     ·exact⟨pn,rfl,k2⟩
    ·rw[Ex,if_pos rfl,if_pos (E8.1 kU).1]
  rintro ρ S5 ⟨rfl,τ5,nd,kvs,p5,T5,e2,f1,fk⟩
  nofun
  refine zcs ?_
  nofun
  obtain⟨nd',r9,lq,mK⟩:=T5.node q0 q1
  rw[e2] at lq
  cases lq
  obtain⟨kvs',kU,qO,qM⟩:=T5.ty.nod mK
  rw[f1] at kU
  cases kU
  refine yv r9 e2 ?_
  nofun
  obtain⟨pv,ev⟩:=zgv fk
  obtain⟨pn,ep,kp⟩:=qM _ (zaQ ev)
  have ep:pv= .ref pn:=ep
  subst ep
  refine⟨nd,kvs,.inl sl,.ref pn,yF f1,rfl,ev,?_⟩
  obtain⟨g,wn,gp,_,kw⟩:=T5.ty.par kp
  nofun
  refine yv (zh gp) UC ?_
  nofun
  refine (wW ∅ hc).imp ?_
  rintro _ _ ⟨rfl,rfl⟩
  obtain⟨t0,t1⟩:=ZN (n:=z) (p:=99991) (q:=c) hc
  generalize wV z 99991 c=to at t0 t1 ⊢
  nofun
  obtain⟨ws,fw,uB,fv⟩:=T5.ty.wts kw
  refine Td ?_
  refine UB (UB (zam ?_))
  nofun
  refine⟨⟨_,yF fw⟩,?_⟩
  nofun
  have hold:∃v0:Int,(yV ws (F6 to)).getD (.int 0)= .int v0/\0<=v0/\v0<=i*9:=by
   cases CJ:yV ws (F6 to) with
   |none=>exact⟨0,rfl,⋯,⋯⟩
   |some y=>
    obtain⟨w,e,h1,h2⟩:=fv _ (zaQ CJ)
    exact⟨w,e,⋯,h2⟩
  obtain⟨v0,CK,v1,v2⟩:=hold
  refine⟨wn,ws,.inl to,yF fw,rfl,?_⟩
  rw[CK]
  nofun
  refine (wW ∅ ∅).imp ?_
  rintro _ _ ⟨rfl,rfl⟩
  obtain⟨w0,w9⟩:=ZN (n:=z) (p:=131071) (q:=9) ∅
  generalize wV z 131071 9=wt at w0 w9 ⊢
  nofun
  obtain⟨is,_,g2,_,_,g5⟩:=uB.ints
  have hlen:ws.length<sizeLine:=by
   have:ws.length=is.length:=by rw[<-Eb (f:=(·.1)),g2,Eb]
   exact Zb ⋯
  refine⟨wn,ws,.inl to,yF fw,rfl,hlen,_,_,_,_,_,_,τ5,rfl,p4.trans p5,T5.ext (FH _) ((T5.ty.le step).set kw ⟨uB.put t0 t1,λp hp=> ?_⟩)⟩
  rcases zaP hp with hp|rfl
  ·obtain⟨w,e,h1,h2⟩:=fv p hp
   exact⟨w,e,h1,⋯⟩
  ·exact⟨_,rfl,⋯,⋯⟩
 ·exact⟨_,_,_,_,_,_,τ3,rfl,FH _,by simpa using kR⟩
 ·rintro ρ S4 ⟨a3,a4,a5,a6,a7,a8,τ4,rfl,p4,T4⟩
  nofun
  refine⟨tn,c,rfl,hc,kL,τ4,cN,T4.ext (FH _) (T4.ty.le ?_)⟩
  rw[Wn]
  omega
end
section
variable {fu:Nat} {S S':Sto} {x y:Xv} {ns:List Int}
abbrev Wx:=Int×Q2×List (Int×Int)
noncomputable def wX (ws:List (Int×Int)):List (Key×Xv):=ws.map λp=>(.inl p.1,.int p.2)
def zih (S:Sto) (kv:Key×Xv) (s:Wx):Prop:=kv.1= .inl s.1/\∃pn wn,kv.2= .ref pn/\L2.zu S (.ref pn)=some [qv s.2.1,.ref wn]/\L2.xP S (.ref wn)=some (wn,wX s.2.2)
def zaS (S:Sto) (x:Xv) (b:List Wx):Prop:=∃n kvs,L2.xP S x=some (n,kvs)/\kvs.length=b.length/\∀(i:Nat) s,b[i]? =some s->∃kv,kvs[i]? =some kv/\zih S kv s
theorem zih.mono {kv:Key×Xv} {s:Wx} (p:Le S S') (h:zih S kv s):zih S' kv s:=by
 obtain⟨e,pn,wn,e1,e2,e3⟩:=h
 exact⟨e,pn,wn,e1,p.1 _ _ e2,p.2 _ _ e3⟩
theorem zaS.mono {b:List Wx} (p:Le S S') (h:zaS S x b):zaS S' x b:=by
 obtain⟨n,kvs,e,el,k⟩:=h
 exact⟨n,kvs,p.2 _ _ e,el,λi s hs=>by obtain⟨kv,e1,e2⟩:=k i s hs;exact⟨kv,e1,e2.mono p⟩⟩
structure zlo (c:Int) (s:Wx):Prop where
 key:0<=s.1/\s.1<2
 gp:0<s.2.1.2
 nd:(s.2.2.map (·.1)).Nodup
 wt:∀p∈s.2.2,(0<=p.1/\p.1<c)/\0<p.2/\p.2<=270
structure zjz (c:Int) (b:List Wx):Prop where
 nd:(b.map (·.1)).Nodup
 all:∀s∈b,zlo c s
theorem zbX {α:Type} {kvs:List (Key×Xv)} {as:List α} {f:α->Int} (hl:kvs.length=as.length) (h:∀(i:Nat) a,as[i]? =some a->∃kv,kvs[i]? =some kv/\kv.1= .inl (f a)):kvs.map (·.1)=(as.map f).map F6:=by
 refine FY λi=> ?_
 rw[Ef,Ef,Ef]
 cases e:as[i]? with
 |none=>rw[EY (by rw[hl];exact FK.1 e)];rfl
 |some a=>
  obtain⟨kv,e1,e2⟩:=h i a e
  rw[e1]
  show some kv.1=_
  rw[e2]
  rfl
theorem zii {l:List Int} {kvs:List (Key×Xv)} (h:(kvs.map (·.1)).Nodup) (e:kvs.map (·.1)=l.map F6):l.Nodup:=by
 rw[e] at h
 exact (EZ.1 h).imp λh z=>h (by rw[z])
theorem Tab.read {c m:Int} {τ0 τ:List Kd} {cN:List Xv} {tn:Nat} (T:Tab c 2 270 τ0 cN tn τ S):∃tab:List (List Wx),LAt zaS S (.ref tn) tab/\(tab.length:Int)=c/\∀b∈tab,zjz c b:=by
 have base:∀z∈cN,∃b,zaS S z b/\zjz c b:=λz hz=>by
  obtain⟨n,rfl,kn⟩:=T.nod z hz
  obtain⟨kvs,e1,k1,hv⟩:=T.ty.nod kn
  have slot:∀kv∈kvs,∃s,zih S kv s/\zlo c s:=λkv iw=>by
   obtain⟨pn,ep,kp⟩:=hv kv iw
   obtain⟨i,ek,i0,i1⟩:=k1.2 kv iw
   obtain⟨g,wn,eg,⟨gq,qK,rfl⟩,kw⟩:=T.ty.par kp
   obtain⟨ws,ew,k2,hw⟩:=T.ty.wts kw
   have one:∀q∈ws,∃a:Int×Int,q=((.inl a.1:Key),Xv.int a.2)/\(0<=a.1/\a.1<c)/\0<a.2/\a.2<=270:=λq hq=>by
    obtain⟨i,e1,h1⟩:=k2.2 q hq
    obtain⟨w,e2,h2,h3⟩:=hw q hq
    exact⟨(i,w),by rw[<-e1,<-e2],h1,h2,h3⟩
   obtain⟨as,l1,l2,l3⟩:=Wf ws one
   have uC:ws=wX as:=by
    refine FY λi=> ?_
    unfold wX
    rw[Ef]
    cases e:as[i]? with
    |none=>rw[EY (by rw[l1];exact FK.1 e)];rfl
    |some a=>
     obtain⟨q,e1,e2,_⟩:=l2 i a e
     rw[e1,e2]
     rfl
   refine⟨(i,gq,as),⟨ek,pn,wn,ep,zh eg,by rw[<-uC];exact zcq (yF ew)⟩,⟨i0,i1⟩,qK,?_,λa ha=> ?_⟩
   ·refine zii (kvs:=ws) k2.1 ?_
    rw[uC]
    unfold wX
    rw[F3,F3]
    rfl
   ·obtain⟨_,_,_,h⟩:=l3 a ha
    exact h
  obtain⟨b,l1,l2,l3⟩:=Wf kvs slot
  refine⟨b,⟨n,kvs,zcq (yF e1),l1,λi s hs=>by obtain⟨kv,e2,e3,_⟩:=l2 i s hs;exact⟨kv,e2,e3⟩⟩,zii k1.1 (zbX (f:=(·.1)) l1 λi s hs=>by obtain⟨kv,e2,e3,_⟩:=l2 i s hs;exact⟨kv,e2,e3.1⟩),λs hs=> ?_⟩
  obtain⟨_,_,_,h⟩:=l3 s hs
  exact h
 obtain⟨tab,l1,l2,l3⟩:=Wf cN base
 refine⟨tab,⟨cN,zh (T.ty.fix T.fix),l1,λi b hb=>by obtain⟨z,e1,e2,_⟩:=l2 i b hb;exact⟨z,e1,e2⟩⟩,by have:=T.len;omega,λb hb=> ?_⟩
 obtain⟨_,_,_,h⟩:=l3 b hb
 exact h
theorem zij (bT:Big fu) {τ:List Kd} (hT:∀c,Ty c 2 0 τ S) (h0:τ[0]? =some (.frz (ns.map Xv.int))):W (Zh fu [.ref 0] S) λv S'=>∃(c:Int) (tab:List (List Wx)),0<c/\c<=4/\LAt zaS S' v tab/\(tab.length:Int)=c/\(∀b∈tab,zjz c b)/\L2.zu S' (.ref 0)=some (ns.map Xv.int):=by
 refine (zjy bT hT h0).imp ?_
 rintro _ S' ⟨tn,c,rfl,h1,h2,τ,cN,T⟩
 obtain⟨tab,e1,e2,e3⟩:=T.read (m:=270)
 exact⟨c,tab,h1,h2,e1,e2,e3,T.ty.frz (ZB T.pre h0)⟩
end
local macro_rules | `(tactic| walk_at "z1") => `(tactic| first
 | walk_at "w1"
 | ((with_reducible show W (zG _ _ _) _); refine W.eqs (ZM ∅ (by assumption)) ?_)
 | ((with_reducible show W (zx _ _ _) _); refine W.eqs (wW ∅ (by first | decide | assumption | omega)) ?_)
 | ((with_reducible show WO (Xe _ (.int _) _) _); refine Xh (by first | decide | assumption | omega) ?_))
local macro_rules | `(tactic| walk_at "z") => `(tactic| repeat walk_at "z1")
section
variable {fu:Nat} {S S':Sto} {x y:Xv} {ns:List Int}
theorem VH {P:Xv->Sto->Prop} {l:List Int} (h:L2.zu S x=some (l.map Xv.int)) (k:P (.int l.sum) S):WO (zae [x] S) P:= .of (by
 unfold zae
 dsimp only
 rw[h,Ee,zbJ]
 rfl) k
theorem zjA {node to cp:Int} (hs:L2.zu S (.ref 0)=some (ns.map Xv.int)) (h0:0<=node) (DV:0<=to) (hc:0<cp) (DS:cp<=3):
  W (Yz fu [.ref 0,.int node,.int to,.int cp] S) λv S'=>∃(m:Nat) (ws:List Int),v= .ref m/\S.length<=m/\S'[m]? =some (.lst (ws.map Xv.int))/\(ws.length:Int)=cp/\(∀w∈ws,0<=w/\w<=3)/\0<ws.sum/\Fz S S':=by
 walk_at "wr";unfold Yy
 walk_at "z"
 have q0:=G9 (node+7*to) (b:=30) ∅
 refine (ZM ⋯ hs).imp ?_
 rintro _ _ ⟨rfl,rfl⟩
 generalize xr ns (33+(node+7*to) % 30).toNat=cl
 walk_at "z"
 refine xQ (XQ ?_)
 walk_at "z"
 refine⟨⟨⋯,⋯⟩,_,rfl,?_⟩
 refine xc (by rw[yu];exact EL (Zb ⋯)) (λi es S1=>S=S1/\∃ws:List Int,es=ws.map Xv.int/\∀w∈ws,0<=w/\w<=3) (λ_ _ _ _ _=>rfl) ?_ ⟨rfl,[],rfl,by simp⟩ ?_
 ·rintro i w es _ hw hl ⟨rfl,ws,rfl,eI⟩
  obtain⟨hi,rfl⟩:=ZO hw
  refine .of rfl ?_
  dsimp only[Ys,Ga,EW]
  walk_at "z"
  refine⟨rfl,?_⟩
  walk_at "z"
  refine vj (VG ⋯ ⋯) ?_
  walk_at "z"
  obtain⟨m0,m1⟩:=ZN (n:=cl+11*(0+(i:Int))*(0+(i:Int))+node) (p:=50021) (q:=4) ∅
  refine⟨rfl,ws++[_],by rw[EI];rfl,λw hw=> ?_⟩
  rcases F5.1 hw with hw|hw
  ·exact eI w hw
  ·rw[EG] at hw
   subst hw
   omega
 rintro es _ hl ⟨rfl,ws,rfl,eI⟩
 rw[yu,Eb] at hl
 walk_at "z"
 have a1:(S++[Ce.lst (ws.map Xv.int)])[S.length]? =some (.lst (ws.map Xv.int)):=yP
 have f1:Fz S (S++[Ce.lst (ws.map Xv.int)]):=Fz.refl.app
 generalize S++[Ce.lst (ws.map Xv.int)]=S1 at a1 f1 ⊢
 have nn:0<=ws.sum:=by
  clear hl a1
  induction ws with
  |nil=>simp
  |cons a r ih=>
   have:=eI a (by simp)
   have:=ih λw hw=>eI w (by simp[hw])
   rw[Fq]
   omega
 refine wC ?_
 walk_at "z"
 refine VH (zh a1) ?_
 walk_at "z"
 refine Zz (λhz=> ?_) (λhz=> ?_)
 ·refine zan ?_
  walk_at "z"
  have r0:=G9 node (b:=cp) ⋯
  have r1:=Gg node hc
  have jY:∀w∈ws,w=0:=by
   clear hl a1
   induction ws with
   |nil=>simp
   |cons a r ih=>
    rw[Fq] at hz
    have h1:=eI a (by simp)
    have h2:0<=r.sum:=by
     clear ih hz nn
     induction r with
     |nil=>simp
     |cons b r p9=>
      have:=eI b (by simp)
      have:=p9 λw hw=>eI w (by rcases Er.1 hw with rfl|hw<;>simp[*])
      rw[Fq];omega
    intro w hw
    rcases Er.1 hw with rfl|hw
    ·omega
    ·exact ih (λw hw=>eI w (by simp[hw])) h2 ⋯ w hw
  have j9:ixN (ws.map Xv.int).length (node % cp)=some (node % cp).toNat:=by
   unfold ixN
   rw[Eb]
   rw[if_pos ⋯,if_pos ⋯]
  refine⟨S.length,_,_,_,xf a1,rfl,j9,?_⟩
  walk_at "z"
  refine⟨S.length,ws.set (node % cp).toNat 1,rfl,Ek _,?_,by rw[F9];omega,λw hw=> ?_,?_,f1.set (Ek _)⟩
  ·rw[Za a1,JM]
  ·rcases GQ hw with hw|rfl
   ·exact eI w hw
   ·omega
  ·have:∀(l:List Int) (k:Nat),k<l.length->(∀w∈l,w=0)->(l.set k 1).sum=1:=by
    intro l
    induction l with
    |nil=>intro k hk;simp at hk
    |cons a r ih=>
     intro k hk hz
     have ha:=hz a (by simp)
     subst ha
     cases k with
     |zero=>
      rw[List.set_cons_zero,Fq]
      have:r.sum=0:=by
       have hr:∀w∈r,w=0:=λw hw=>hz w (by simp[hw])
       clear ih hk hz
       induction r with
       |nil=>rfl
       |cons b r ih=>rw[Fq,hr b (by simp),ih λw hw=>hr w (by simp[hw])];rfl
      omega
     |succ k=>
      rw[List.set_cons_succ,Fq,ih k (by simpa using hk) λw hw=>hz w (by simp[hw])]
      rfl
   rw[this ws _ ⋯ jY]
   decide
 ·walk_at "z"
  exact⟨S.length,ws,rfl,Ek _,a1,⋯,eI,⋯,f1⟩
end
section
variable {fu:Nat} {S S':Sto} {x y:Xv} {ns:List Int}
def wT (S:Sto) (z:Xv) (h:List Int):Prop:=L2.zu S z=some (h.map Xv.int)
theorem wT.mono {S S':Sto} {z:Xv} {h:List Int} (p:Le S S') (a:wT S z h):wT S' z h:=p.1 _ _ a
theorem HmsAt.mono {aq:List (List Int)} (p:Le S S') (h:LAt wT S x aq):LAt wT S' x aq:=LAt.mono (λ_ _ h=>wT.mono p h) p h
theorem zcU {n:Nat} {zs:List Xv} {aq:List (List Int)} (o:Zl wT S n zs aq) (p:Fz S S'):Zl wT S' n zs aq:=Zl.mono (R:=wT) (λq h=>wT.mono q h) p o
theorem zkm {n:Nat} {zs:List Xv} {aq:List (List Int)} (o:Zl wT S n zs aq):LAt wT S (.ref n) aq:=Zl.at (R:=wT) (λq h=>wT.mono q h) o
structure zgw (ns:List Int) (c:Int) (aq:List (List Int)):Prop where
 len:(aq.length:Int)=c
 each:∀h∈aq,0<h.length/\h.length<=3
 flat:aq.flatten=(F7 aq.flatten.length).map λk:Nat=>xZ ns aq.flatten.length k
 tot:aq.flatten.length<=12
theorem zaT {l:List Int} {b:Int} (h:∀w∈l,0<=w/\w<=b):0<=l.sum/\l.sum<=b*l.length:=by
 induction l with
 |nil=>simp
 |cons a r ih=>
  have h1:=h a (by simp)
  have h2:=ih λw hw=>h w (by simp[hw])
  rw[Fq,EB,Ir,Je]
  omega
theorem zlp {n:Nat} {zs:List Xv} {aq:List (List Int)} (h:Zl wT S n zs aq) (hl:aq.length<=4) {P:Xv->Sto->Prop}
  (k:∀S',Fz S S'->P (.int aq.flatten.length) S'):
  W (eFn zae [(wu [none] (iL (ze 3)) (gN 0) wR (eFn WU [(ze 0)]))] [some (.ref 0),x,y,some (.ref n),a4,a5] S) P:=by
 refine zhf (vh (xQ (vH ?_)))
 nofun
 refine⟨_,zh h.1,_,zh h.1,?_⟩
 refine xc (by rw[h.2.1];exact EL (Zb ⋯)) (λi es S1=>S=S1/\es=((aq.take i).map λh=>(h.length:Int)).map Xv.int) ?_ ?_ ⟨rfl,rfl⟩ ?_
 ·rintro i es _ _ ⟨rfl,_⟩
  exact zh h.1
 ·rintro i w es _ hw ft ⟨rfl,rfl⟩
  have hi:i<aq.length:=by rw[<-h.2.1];exact (E8.1 hw).1
  obtain⟨z,e1,e2⟩:=h.2.2 i _ (DZ hi)
  rw[hw] at e1
  cases e1
  refine .of rfl ?_
  dsimp only[Ys,Ga,EW]
  nofun
  refine⟨rfl,?_⟩
  nofun
  refine Xi (Vd.1 _ _ e2) ?_
  refine⟨rfl,?_⟩
  rw[zL (DZ hi),EI,EI,Eb]
  rfl
 ·rintro es _ ef ⟨rfl,rfl⟩
  rw[h.2.1,F0]
  nofun
  refine VH yk ?_
  have:(aq.map λh=>(h.length:Int)).sum=aq.flatten.length:=by
   clear h hl ef k
   induction aq with
   |nil=>rfl
   |cons a r ih=>rw[Eg,Fq,ih,J9,Ew];omega
  rw[this]
  exact k _ Fz.refl.app
theorem zjB {c:Int} (hs:L2.zu S (.ref 0)=some (ns.map Xv.int)) (hc:0<c) (uq:c<=4):
  W (YC fu [.ref 0,.int c] S) λv S'=>∃aq,LAt wT S' v aq/\zgw ns c aq/\Fz S S':=by
 walk_at "wr";unfold YB
 walk_at "z"
 refine xQ (XQ ?_)
 walk_at "z"
 refine⟨⟨⋯,⋯⟩,_,rfl,?_⟩
 refine xc (by rw[yu];exact EL (Zb ⋯)) (λi es S1=>S=S1/\∃ws:List Int,es=ws.map Xv.int/\∀w∈ws,1<=w/\w<=3) (λ_ _ _ _ _=>rfl) ?_ ⟨rfl,[],rfl,by simp⟩ ?_
 ·rintro i w es _ hw hl ⟨rfl,ws,rfl,eI⟩
  obtain⟨hi,rfl⟩:=ZO hw
  refine .of rfl ?_
  dsimp only[Ys,Ga,EW]
  walk_at "z"
  refine⟨rfl,?_⟩
  walk_at "z"
  refine vj (VG ⋯ ⋯) ?_
  walk_at "z"
  obtain⟨m0,m1⟩:=ZN (n:=xr ns (FZ 1)+(0+(i:Int))*(0+(i:Int))) (p:=20011) (q:=3) ∅
  refine⟨rfl,ws++[_],by rw[EI];rfl,λw hw=> ?_⟩
  rcases F5.1 hw with hw|hw
  ·exact eI w hw
  ·rw[EG] at hw
   subst hw
   omega
 rintro es _ hl ⟨rfl,ms,rfl,aq⟩
 rw[yu,Eb] at hl
 have a1:(S++[Ce.lst (ms.map Xv.int)])[S.length]? =some (.lst (ms.map Xv.int)):=yP
 have f1:Fz S (S++[Ce.lst (ms.map Xv.int)]):=Fz.refl.app
 walk_at "z"
 have o0:Zl wT (S++[Ce.lst (ms.map Xv.int)]++[.lst []]) (S++[Ce.lst (ms.map Xv.int)]).length [] []:=Zl.nil
 have f2:Fz (S++[Ce.lst (ms.map Xv.int)]) (S++[Ce.lst (ms.map Xv.int)]++[.lst []]):=Fz.refl.app
 have BM:S.length<(S++[Ce.lst (ms.map Xv.int)]).length:=by simp
 generalize (S++[Ce.lst (ms.map Xv.int)]).length=hn at o0 BM ⊢
 have a2:=f2.lst a1
 have f3:=f1.trans f2
 generalize S++[Ce.lst (ms.map Xv.int)]++[.lst []]=S1 at o0 a2 f3 ⊢
 clear a1 f1 f2
 have iS:0<ms.sum/\ms.sum<=12/\(ms.length:Int)<=4:=by
  have h1:=zaT (l:=ms) (b:=3) λw hw=>⟨by have:=aq w hw;omega,(aq w hw).2⟩
  have h2:0<ms.sum:=by
   cases ms with
   |nil=>simp at hl;omega
   |cons a r=>
    have:=aq a (by simp)
    have:=zaT (l:=r) (b:=3) λw hw=>⟨by have:=aq w (by simp[hw]);omega,(aq w (by simp[hw])).2⟩
    rw[Fq]
    omega
  omega
 refine wk (vH ?_)
 walk_at "z"
 refine⟨_,zh a2,_,zh a2,?_⟩
 refine yY (xs:=ms.map Xv.int) (λi ρ S2=>∃a4 a5 zs hs,ρ=[some (.ref 0),some (.int c),some (.ref S.length),some (.ref hn),a4,a5]/\Zl wT S2 hn zs hs/\S2[S.length]? =some (.lst (ms.map Xv.int))/\Fz S S2/\hs.length=i/\(∀h∈hs,0<h.length/\h.length<=3)/\(hs.flatten.length:Int)=(ms.take i).sum/\hs.flatten=(F7 hs.flatten.length).map λk:Nat=>xZ ns ms.sum k) ?_ ?_ ?_ ?_
 ·rintro i ρ S2 _ ⟨_,_,_,_,_,_,e,_⟩
  exact zh e
 ·rintro i w ρ S2 hw ⟨a4,a5,zs,dw,rfl,o2,e2,f4,h1,h2,h3,h4⟩
  obtain⟨cp,r6,rfl⟩:=wH hw
  have gJ:=aq cp (Ei r6)
  have hi:i<ms.length:=(E8.1 r6).1
  refine .of rfl ?_
  dsimp only[EW]
  refine yW (XN (zlp o2 ⋯ λS3 f5=> ?_))
  dsimp only[EW]
  have o3:=zcU o2 f5
  have e3:=f5.lst e2
  have f6:=f4.trans f5
  clear o2 e2 f5 f4
  walk_at "z"
  refine ZH ?_
  walk_at "z"
  refine⟨⟨_,zh o3.1⟩,?_⟩
  refine vh (xQ (XQ ?_))
  walk_at "z"
  refine⟨⟨⋯,⋯⟩,_,rfl,?_⟩
  refine xc (by rw[yu];exact EL (Zb ⋯)) (λi es S4=>S3=S4/\es=((F7 i).map λk:Nat=>xZ ns ms.sum (dw.flatten.length+k)).map Xv.int) (λ_ _ _ _ _=>rfl) ?_ ⟨rfl,rfl⟩ ?_
  ·rintro j w es _ hw ft ⟨rfl,rfl⟩
   obtain⟨hj,rfl⟩:=ZO hw
   refine .of rfl ?_
   dsimp only[Ys,Ga,EW]
   walk_at "z"
   refine⟨rfl,?_⟩
   walk_at "z"
   refine VH (zh e3) ?_
   walk_at "z"
   refine W.eqs (zcQ iS.1 (f6.lstAt hs)) ⟨rfl,?_⟩
   rw[Ip,EI,EI,J3]
   rfl
  rintro es _ ef ⟨rfl,rfl⟩
  rw[yu] at ef ⊢
  walk_at "z"
  have o4:=zcU o3 (Fz.refl.app (T:=[Ce.lst (((F7 cp.toNat).map λk:Nat=>xZ ns ms.sum (dw.flatten.length+k)).map Xv.int)]))
  refine yS (xf o4.1) (Zb (by rw[o4.2.1];omega)) ?_
  have bS:hn<S3.length:=(E8.1 o3.1).1
  have o5:=o4.push (z:= .ref S3.length) (a:=(F7 cp.toNat).map λk:Nat=>xZ ns ms.sum (dw.flatten.length+k)) (Tj yk ⋯)
  have fq:(dw++[(F7 cp.toNat).map λk:Nat=>xZ ns ms.sum (dw.flatten.length+k)]).flatten=dw.flatten++(F7 cp.toNat).map λk:Nat=>xZ ns ms.sum (dw.flatten.length+k):=by simp
  refine⟨_,_,_,_,rfl,o5,?_,?_,by simp[h1],λh hh=> ?_,?_,?_⟩
  ·refine wo ?_ ⋯
   rw[Ed (E8.1 e3).1]
   exact e3
  ·exact (f6.app).set ⋯
  ·rcases F5.1 hh with hh|hh
   ·exact h2 h hh
   ·rw[EG] at hh
    subst hh
    simp
    omega
  ·rw[fq,zL r6,Im,Ew,Eb,Hc,Ir,h3]
   simp
   try omega
  ·rw[fq,Ew,Eb,Hc,List.range_add,EI,<-h4,F3]
   rfl
 ·exact⟨none,none,[],[],rfl,o0,a2,f3,rfl,by simp,by simp,by simp⟩
 ·rintro ρ S2 ⟨a4,a5,zs,dw,rfl,o2,e2,f4,h1,h2,h3,h4⟩
  rw[Eb] at h1 h3
  rw[F0] at h3
  walk_at "z"
  refine⟨dw,zkm o2,⟨⋯,h2,by rw[h3];exact h4,⋯⟩,f4⟩
end
section
variable {fu:Nat} {S S':Sto} {x y:Xv} {ns:List Int}
theorem zkn {α:Type}:∀ks:List α,∃l:List α,l.Nodup/\∀k,k∈l↔k∈ks
 |[]=>⟨[],IH,λ_=>Iff.rfl⟩
 |a::r=>by
  obtain⟨l,h1,h2⟩:=zkn r
  by_cases h:a∈r
  ·exact⟨l,h1,λk=>by rw[h2,Er];exact⟨.inr,λz=>z.elim (λe=>e ▸ h) id⟩⟩
  ·exact⟨a::l,Fw.2 ⟨λz=>h ((h2 a).1 z),h1⟩,λk=>by rw[Er,Er,h2]⟩
theorem Xy {b:Bool} {ks:List NK} (ok:KOk b ks):vO (xY ks)/\∀k,k∈xY ks↔k∈ks:=by
 obtain⟨l,nd,hm⟩:=zkn ks
 have nd':(l.map enc).Nodup:=by
  rw[FW,EZ]
  exact Fs (λha hb aG e=>aG (Vy (ok.cmp _ ((hm _).1 ha) _ ((hm _).1 hb)) e)) nd
 have aI:=vw (l.map enc)
 have iO:∀i∈ZX (l.map enc),i<l.length:=λi hi=>by
  have:=aI.mem_iff.1 hi
  rw[Fb,Eb] at this
  exact this
 have hr:vO ((ZX (l.map enc)).map λi=>l.getD i (.int 0)):=by
  unfold vO
  rw[F3]
  have e1:(ZX (l.map enc)).map (enc ∘ λi=>l.getD i (.int 0))=(ZX (l.map enc)).map λi=>(l.map enc).getD i []:=Fp λi hi=>by
   have:=iO i hi
   simp[Ec,this]
  rw[e1]
  exact Uf nd'
 have hk:∀k,k∈((ZX (l.map enc)).map λi=>l.getD i (.int 0))↔k∈ks:=λk=>by
  rw[<-hm k,Eh]
  constructor
  ·rintro⟨i,hi,rfl⟩
   have:=iO i hi
   rw[Ec,DZ this]
   exact Eo this
  ·intro hk
   obtain⟨i,hi,rfl⟩:=Ge hk
   exact⟨i,aI.mem_iff.2 (Fb.2 (by rw[Eb];exact hi)),by rw[Ec,DZ hi];rfl⟩
 rw[Vz hr hk]
 exact⟨hr,hk⟩
theorem zik {l:List NK} (h:vO l):l.Nodup:=by
 unfold vO at h
 rw[EZ] at h
 exact h.imp λ{a b} h e=>by subst e;rw[Zg] at h;cases h
theorem zeU {b:Bool} {ks:List NK} (ok:KOk b ks) (nd:ks.Nodup):(xY ks).Perm ks:=by
 obtain⟨h1,h2⟩:=Xy ok
 rw[List.perm_iff_count]
 intro a
 rw[(zik h1).count,nd.count]
 simp only[h2 a]
noncomputable def nq (q:Q2):NK:= .tup [.int q.1,.int q.2]
noncomputable def ptK (p:Int×Q2):NK:= .tup [.int p.1,nq p.2]
noncomputable def ptX (p:Int×Q2):Xv:= .tup [.int p.1,qv p.2]
theorem zil (q:Q2):unk (nq q)=qv q:=by simp[nq,unk,zcH,qv]
theorem zcV (p:Int×Q2):unk (ptK p)=ptX p:=by simp[ptK,nq,unk,zcH,ptX,qv]
theorem zcW {p q:Int×Q2} (h:ptK p=ptK q):p=q:=by
 obtain⟨a,b,c⟩:=p
 obtain⟨d,e,f⟩:=q
 simp[ptK,nq] at h
 obtain⟨rfl,rfl,rfl⟩:=h
 rfl
theorem zim {ps:List (Int×Q2)}:KOk true (ps.map ptK):=by
 refine⟨λx hx y hy=> ?_,λk hk=> ?_,λk hk=> ?_⟩
 ·obtain⟨p,_,rfl⟩:=Eh.1 hx
  obtain⟨q,_,rfl⟩:=Eh.1 hy
  simp[ptK,nq,cp,cpL]
 ·obtain⟨p,_,rfl⟩:=Eh.1 hk
  simp[ptK,nq,yi,xU]
 ·obtain⟨p,_,rfl⟩:=Eh.1 hk
  simp[ptK,Xl]
theorem zeV {ps:List (Int×Q2)} (nd:ps.Nodup):∃qs:List (Int×Q2),qs.Perm ps/\(xY (ps.map ptK)).map unk=qs.map ptX:=by
 have jA:(ps.map ptK).Nodup:=by
  rw[FW,EZ]
  exact nd.imp λh e=>h (zcW e)
 obtain⟨qs,h1,h2⟩:=zaC (zeU zim jA)
 refine⟨qs,h1,?_⟩
 rw[h2,F3]
 exact Fp λp _=>zcV p
noncomputable def zaU (whole wt:Int) (hs sp:List Int):List (Int×Q2):=((hs.zip sp).filter λz=>decide (0<z.2)).map λz=>(z.1,UU (wt*z.2) (whole*sp.sum))
inductive Ups (aq:List (List Int)) (whole:Int):List (Int×Int)->List (Int×Q2)->Prop
 |nil:Ups aq whole [] []
 |snoc {ws:List (Int×Int)} {ups:List (Int×Q2)} {to wt:Int} {hs sp:List Int}:Ups aq whole ws ups->0<=to->aq[to.toNat]? =some hs->sp.length=hs.length->hs.length<=3->(∀w∈sp,0<=w/\w<=3)->0<sp.sum->Ups aq whole (ws++[(to,wt)]) (ups++zaU whole wt hs sp)
theorem zgx {whole wt:Int} {hs sp:List Int}:(zaU whole wt hs sp).length<=hs.length:=by
 unfold zaU
 rw[Eb]
 refine Ey (II ..) ?_
 rw[Jx]
 omega
theorem Ups.len {aq:List (List Int)} {whole:Int} {ws:List (Int×Int)} {ups:List (Int×Q2)} (h:Ups aq whole ws ups):ups.length<=3*ws.length:=by
 induction h with
 |nil=>simp
 | @snoc ws ups to wt hs sp _ _ _ _ h3 _ _ ih=>
  have:=zgx (whole:=whole) (wt:=wt) (hs:=hs) (sp:=sp)
  rw[Ew,Ew,FN]
  omega
theorem Up {whole wt:Int} {hs sp:List Int} {p:Int×Q2} (h:p∈zaU whole wt hs sp):p.1∈hs/\∃w∈sp,0<w/\p.2=UU (wt*w) (whole*sp.sum):=by
 unfold zaU at h
 obtain⟨z,hz,rfl⟩:=Eh.1 h
 obtain⟨h1,h2⟩:=G8.1 hz
 obtain⟨a,b⟩:=z
 exact⟨(Gj h1).1,b,(Gj h1).2,of_decide_eq_true h2,rfl⟩
theorem zlq {hs:List Int}:∀{sp:List Int},hs.Nodup->((hs.zip sp).map (·.1)).Nodup:=by
 induction hs with
 |nil=>intro sp _;simp
 |cons a r ih=>
  intro sp nd
  cases sp with
  |nil=>simp
  |cons b s=>
   rw[Fw] at nd
   rw[G4,Eg,Fw]
   refine⟨λz=> ?_,ih nd.2⟩
   obtain⟨q,hq,e⟩:=Eh.1 z
   obtain⟨q1,q2⟩:=q
   have e:q1=a:=e
   subst e
   exact nd.1 (Gj hq).1
theorem zin {whole wt:Int} {hs sp:List Int} (nd:hs.Nodup):((zaU whole wt hs sp).map (·.1)).Nodup:=by
 unfold zaU
 rw[F3]
 exact (zlq (sp:=sp) nd).sublist (List.Sublist.map _ List.filter_sublist)
theorem zcX {aq:List (List Int)} (h:aq.flatten.Nodup):(∀(i:Nat) (hs:List Int),aq[i]? =some hs->hs.Nodup)/\∀(i j:Nat) (hs gs:List Int) (u:Int),aq[i]? =some hs->aq[j]? =some gs->u∈hs->u∈gs->i=j:=by
 rw[FW,List.pairwise_flatten] at h
 refine⟨λi hs e=>h.1 _ (Ei e),λi j hs gs u e1 e2 h1 h2=> ?_⟩
 have key:∀(i j:Nat) (hs gs:List Int),i<j->aq[i]? =some hs->aq[j]? =some gs->u∈hs->u∈gs->False:=λi j hs gs dC e1 e2 h1 h2=>by
  obtain⟨i1,rfl⟩:=E8.1 e1
  obtain⟨j1,rfl⟩:=E8.1 e2
  exact G6.1 h.2 i j i1 j1 dC u h1 u h2 rfl
 rcases HM i j with q|q|q
 ·exact (key i j hs gs q e1 e2 h1 h2).elim
 ·exact q
 ·exact (key j i gs hs q e2 e1 h2 h1).elim
theorem Ups.from {aq:List (List Int)} {whole:Int} {ws:List (Int×Int)} {ups:List (Int×Q2)} (h:Ups aq whole ws ups):∀p∈ups,∃w∈ws,∃hs,0<=w.1/\aq[w.1.toNat]? =some hs/\p.1∈hs:=by
 induction h with
 |nil=>intro p hp;cases hp
 | @snoc ws ups to wt hs sp _ h0 h1 _ _ _ _ ih=>
  intro p hp
  rcases F5.1 hp with hp|hp
  ·obtain⟨w,hw,r⟩:=ih p hp
   exact⟨w,GA _ hw,r⟩
  ·exact⟨(to,wt),by simp,hs,h0,h1,(Up hp).1⟩
theorem Ups.nd {aq:List (List Int)} {whole:Int} {ws:List (Int×Int)} {ups:List (Int×Q2)} (hf:aq.flatten.Nodup) (h:Ups aq whole ws ups) (nd:(ws.map (·.1)).Nodup):(ups.map (·.1)).Nodup:=by
 induction h with
 |nil=>simp
 | @snoc ws ups to wt hs sp hu h0 h1 _ _ _ _ ih=>
  rw[EI,Gz] at nd
  rw[EI,Gz]
  refine⟨ih nd.1,zin ((zcX hf).1 _ _ h1),λa ha b hb e=> ?_⟩
  subst e
  obtain⟨p,hp,rfl⟩:=Eh.1 ha
  obtain⟨q,hq,e⟩:=Eh.1 hb
  obtain⟨w,hw,gs,w0,g1,g2⟩:=hu.from p hp
  have h2:=(Up hq).1
  rw[e] at h2
  have:=(zcX hf).2 _ _ _ _ _ g1 h1 g2 h2
  refine nd.2.2 w.1 (Eh.2 ⟨w,hw,rfl⟩) to (by simp) ⋯
theorem zgy {α β:Type} {l:List (α×β)} (h:(l.map (·.1)).Nodup):l.Nodup:=(EZ.1 h).imp λh e=>h (by rw[e])
end
section
variable {fu:Nat} {S S':Sto} {x y:Xv} {ns:List Int}
theorem zd3 {c:Int} {aq:List (List Int)} (ho:zgw ns c aq):aq.flatten.Nodup:=by
 have h:=ho.flat
 generalize aq.flatten=l at h
 rw[h,FW,EZ]
 refine Fs (λ{a b} ha hb aG e=>aG ?_) Hg
 have h1:=Fb.1 ha
 have h2:=Fb.1 hb
 have:=zd0 (ns:=ns) (c:=(l.length:Int)) (p:=(a:Int)) (q:=(b:Int)) ⋯ ⋯ ⋯ ⋯ ⋯ e
 omega
structure zeW (c:Int) (ws:List (Int×Int)):Prop where
 nd:(ws.map (·.1)).Nodup
 wt:∀p∈ws,(0<=p.1/\p.1<c)/\0<p.2/\p.2<=270
theorem zeW.len {c:Int} {ws:List (Int×Int)} (h:zeW c ws) (h0:0<=c):(ws.length:Int)<=c:=by
 have:=zaR c.toNat (ws.map (·.1)) h.nd λx hx=>by
  obtain⟨p,hp,rfl⟩:=Eh.1 hx
  have:=(h.wt p hp).1
  omega
 rw[Eb] at this
 omega
noncomputable def Ve (ws:List (Int×Int)):Int:=(ws.map (·.2)).sum
theorem zfB {c:Int} {ws:List (Int×Int)} (h:zeW c ws) (h0:0<=c) (h4:c<=4):0<=Ve ws/\Ve ws<=1080/\∀p∈ws,p.2<=Ve ws:=by
 have h1:=zaT (l:=ws.map (·.2)) (b:=270) λw hw=>by
  obtain⟨p,hp,rfl⟩:=Eh.1 hw
  have:=(h.wt p hp).2
  omega
 rw[Eb] at h1
 have h2:=h.len h0
 refine⟨h1.1,by unfold Ve;omega,λp hp=> ?_⟩
 have key:∀(l:List Int),(∀w∈l,0<=w)->∀w∈l,w<=l.sum:=by
  intro l
  induction l with
  |nil=>intro _ w hw;cases hw
  |cons a r ih=>
   intro hl w hw
   have ha:=hl a (by simp)
   have hr:0<=r.sum:=by
    cases r with
    |nil=>simp
    |cons b r2=>have h5:=ih (λw hw=>hl w (by simp[hw])) b (by simp);have:=hl b (by simp);omega
   rw[Fq]
   rcases Er.1 hw with rfl|hw
   ·omega
   ·have:=ih (λw hw=>hl w (by simp[hw])) w hw
    omega
 exact key _ (λw hw=>by
  obtain⟨p,hp,rfl⟩:=Eh.1 hw
  have:=(h.wt p hp).2
  omega) _ (Eh.2 ⟨p,hp,rfl⟩)
theorem zlr {c:Int} {ws:List (Int×Int)} (h:zeW c ws) {p:Int×Int} (hp:p∈ws):yV (wX ws) (.inl p.1)=some (.int p.2):=by
 have nd:=h.nd
 clear h
 induction ws with
 |nil=>cases hp
 |cons a r ih=>
  rw[Eg,Fw] at nd
  unfold wX yV at ih ⊢
  rw[Eg,F1]
  rcases Er.1 hp with rfl|hp
  ·simp
  ·have:a.1≠p.1:=λe=>nd.1 (Eh.2 ⟨p,hp,e.symm⟩)
   have hd:decide ((F6 a.1:Key)=F6 p.1)=false:=decide_eq_false λe=>this (by injection e)
   dsimp only
   rw[hd]
   exact ih hp nd.2
theorem zjC {ws:List (Int×Int)}:zdT (wX ws)=(ws.map (·.1)).map Xv.int:=by
 unfold zdT wX
 rw[F3,F3]
 rfl
theorem zjD {ws:List (Int×Int)}:XB ((wX ws).map (·.2))=some (ws.map (·.2)):=by
 have:(wX ws).map (·.2)=(ws.map (·.2)).map Xv.int:=by
  unfold wX
  rw[F3,F3]
  rfl
 rw[this,zbJ]
theorem zio {hs sp:List Int} {j:Nat} {a b:Int} (h1:hs[j]? =some a) (h2:sp[j]? =some b):(hs.zip sp)[j]? =some (a,b):=by
 rw[List.getElem?_zip_eq_some]
 exact⟨h1,h2⟩
theorem zjE (bT:Big fu) {c node:Int} {wn:Nat} {ws:List (Int×Int)} {aq:List (List Int)} (hs:L2.zu S (.ref 0)=some (ns.map Xv.int)) (hw:L2.xP S (.ref wn)=some (wn,wX ws)) (hok:zeW c ws) (hh:LAt wT S y aq) (ho:zgw ns c aq) (h0:0<=c) (h4:c<=4) (kj:0<=node):
  W (xq fu [.ref 0,.int node,.ref wn,y] S) λv S'=>∃(m:Nat) (ps ups:List (Int×Q2)),v= .ref m/\S.length<=m/\S'[m]? =some (.lst (ps.map ptX))/\Ups aq (Ve ws) ws ups/\ps.Perm ups/\Fz S S':=by
 have iR:=hok.len h0
 obtain⟨s0,s1,s2⟩:=zfB hok h0 h4
 walk_at "wr";unfold YA
 walk_at "z"
 have f1:Fz S (S++[Ce.lst []]):=Fz.refl.app
 have a1:(S++[Ce.lst []])[S.length]? =some (.lst []):=yP
 generalize S++[Ce.lst []]=S1 at f1 a1 ⊢
 refine zhl (f1.drAt hw) zjD ?_
 show WS _ _ _
 walk_at "z"
 refine wk (zh6 ?_)
 walk_at "z"
 refine⟨wn,wX ws,f1.drAt hw,?_⟩
 have f2:=f1.trans (Fz.freeze (f1.drAt hw))
 have bS:wn<S.length:=by
  simp only[L2.xP] at hw
  cases e:S[wn]? with
  |none=>rw[e] at hw;cases hw
  |some cc=>exact (E8.1 e).1
 have b1:(S1.set wn (.fdk (wX ws)))[wn]? =some (.fdk (wX ws)):=by
  rw[Ex,if_pos rfl,if_pos (EK bS f1.1)]
 have a2:(S1.set wn (.fdk (wX ws)))[S.length]? =some (.lst []):=wo a1 ⋯
 generalize S1.set wn (.fdk (wX ws))=S2 at f2 b1 a2 ⊢
 clear a1 f1
 have uk:∀S3:Sto,S3[wn]? =some (.fdk (wX ws))->zh3 wn S3=some ((ws.map (·.1)).map Xv.int):=λS3 e=>by
  unfold zh3
  rw[e,<-zjC]
 refine⟨_,uk _ b1,?_⟩
 refine yY (xs:=(ws.map (·.1)).map Xv.int) (λi ρ S3=>∃a6 a7 a8 a9 ups,ρ=[some (.ref 0),some (.int node),some (.ref wn),some y,some (.ref S.length),some (.int (Ve ws)),a6,a7,a8,a9]/\S3[S.length]? =some (.lst (ups.map ptX))/\S3[wn]? =some (.fdk (wX ws))/\Fz S S3/\Ups aq (Ve ws) (ws.take i) ups) ?_ ?_ ?_ ?_
 ·rintro i ρ S3 _ ⟨_,_,_,_,_,_,_,e,_⟩
  exact uk _ e
 ·rintro i w ρ S3 hx ⟨a6,a7,a8,a9,ups,rfl,e3,b3,f3,hu⟩
  obtain⟨to,CN,rfl⟩:=wH hx
  obtain⟨p,ep,rfl⟩:=wH CN
  have hp:=Ei ep
  obtain⟨⟨t0,t1⟩,w0,w1⟩:=hok.wt p hp
  have Bf:=s2 p hp
  have hi:i<ws.length:=(E8.1 ep).1
  have fP:=hu.len
  rw[Fc] at fP
  refine .of rfl ?_
  dsimp only[EW]
  obtain⟨l,el,DX,ft⟩:=hh
  have pM:p.1.toNat<aq.length:=by have:=ho.len;omega
  obtain⟨z,ez,hz⟩:=ft _ _ (DZ pM)
  have gH:=DZ pM
  have iC:=ho.each _ (Eo pM)
  generalize aq[p.1.toNat]=fD at hz gH iC
  walk_at "z"
  refine yv (f3.lstAt el) (wm t0 ez) ?_
  walk_at "z"
  refine Xi (f3.lstAt hz) ?_
  walk_at "z"
  rw[Eb]
  refine (zjA (f3.lstAt hs) kj t0 ⋯ ⋯).imp ?_
  rintro _ S4 ⟨sn,sp,rfl,tP,qQ,Dx,se,jN,f4⟩
  have e4:=f4.lst e3
  have f5:=f3.trans f4
  have b4:S4[wn]? =some (.fdk (wX ws)):=by
   rcases f4.2 _ _ b3 with h|⟨_,h,_⟩
   ·exact h
   ·cases h
  have Bg:S.length<sn:=by have:=(E8.1 e3).1;omega
  clear e3 f3 b3
  walk_at "z"
  refine wk (zcv ?_)
  walk_at "z"
  refine⟨_,zh qQ,vF (sp.map Xv.int),by dsimp only;rw[zh qQ];rfl,?_⟩
  refine yY (xs:=vF (sp.map Xv.int)) (λj ρ S5=>∃a8 a9,ρ=[some (.ref 0),some (.int node),some (.ref wn),some y,some (.ref S.length),some (.int (Ve ws)),some (.int p.1),some (.ref sn),a8,a9]/\S5[S.length]? =some (.lst ((ups++((((fD.zip sp).take j).filter λz=>decide (0<z.2)).map λz=>(z.1,UU (p.2*z.2) (Ve ws*sp.sum)))).map ptX))/\S5[wn]? =some (.fdk (wX ws))/\S5[sn]? =some (.lst (sp.map Xv.int))/\Fz S S5) ?_ ?_ ?_ ?_
  ·rintro j ρ S5 _ ⟨_,_,_,_,_,e,_⟩
   show (L2.zu S5 (.ref sn)).map vF=_
   rw[zh e]
   rfl
  ·rintro j w ρ S5 hx ⟨a8,a9,rfl,e5,b5,c5,f6⟩
   obtain⟨q,eq,rfl⟩:=XL hx
   obtain⟨wv,qP,rfl⟩:=wH eq
   have DI:=se wv (Ei qP)
   have hj:j<fD.length:=by have:=(E8.1 qP).1;omega
   have CH:=zio (DZ hj) qP
   refine .of rfl ?_
   dsimp only[EW]
   refine wC ?_
   walk_at "z"
   rw[zL CH,List.filter_append]
   refine Zz (λeS=> ?_) (λeS=> ?_)
   ·have hd:([(fD[j],wv)].filter λz:Int×Int=>decide (0<z.2))=[(fD[j],wv)]:=by simp[eS]
    rw[hd]
    walk_at "z"
    refine ZH ?_
    walk_at "z"
    refine⟨⟨_,zh e5⟩,?_⟩
    walk_at "z"
    refine yv (f6.lstAt el) (wm t0 ez) ?_
    walk_at "z"
    refine yv (f6.lstAt hz) (wm (k:=(j:Int)) ⋯ (by rw[Fh,Ef,DZ hj];rfl)) ?_
    refine vh (Vt (vh (UB (zal ?_))))
    walk_at "z"
    refine⟨wn,wX ws,.inl p.1,.int p.2,zi8 b5,rfl,zlr hok hp,?_⟩
    walk_at "z"
    refine vj (VG ⋯ ⋯) ?_
    walk_at "z"
    refine VH (zh c5) ?_
    have gE:=zaT se
    refine vj (VG ⋯ ⋯) ?_
    walk_at "z"
    have hb:0<Ve ws*sp.sum:=GL ⋯ jN
    have uv:Ve ws*sp.sum<=1080*9:=HX (FL s1 ⋯) (Gc ⋯ ∅)
    refine W.eqs (zcS bT (Ha ⋯ ⋯) hb (zfz 10000 ⋯ ⋯ (Ey (show 10000<=2^14 by decide) (Gp ∅ ∅)))) ?_
    walk_at "z"
    refine yS (xf e5) (Zb ?_) ?_
    ·rw[Eb,Ew,Eb]
     have h1:(((fD.zip sp).take j).filter λz=>decide (0<z.2)).length<=j:=Ey (II ..) (by rw[Fc];omega)
     omega
    refine⟨_,_,rfl,?_,wo b5 ⋯,wo c5 ⋯,f6.set (Ek _)⟩
    rw[Za e5]
    simp only[EI,Gn,Eg,GU]
    rfl
   ·have hd:([(fD[j],wv)].filter λz:Int×Int=>decide (0<z.2))=[]:=by simp;omega
    rw[hd,Gi]
    walk_at "z"
    exact⟨_,_,rfl,e5,b5,c5,f6⟩
  ·refine⟨_,_,rfl,?_,b4,qQ,f5⟩
   rw[e4]
   simp
  ·rintro ρ S5 ⟨a8,a9,rfl,e5,b5,c5,f6⟩
   have m7:(vF (sp.map Xv.int)).length=(fD.zip sp).length:=by rw[Wn,Eb,Jx];omega
   rw[m7,F0] at e5
   refine⟨_,_,_,_,_,rfl,e5,b5,f6,?_⟩
   rw[zL ep]
   exact .snoc hu t0 gH ⋯ iC.2 se jN
 ·exact⟨_,_,_,_,[],rfl,a2,b1,f2,.nil⟩
 ·rintro ρ S3 ⟨a6,a7,a8,a9,ups,rfl,e3,b3,f3,hu⟩
  rw[Eb,Eb,F0] at hu
  walk_at "z"
  have fP:=hu.len
  have nd:=zgy (hu.nd (zd3 ho) hok.nd)
  obtain⟨ps,Bm,jD⟩:=zeV nd
  have jA:(ups.map ptK).Nodup:=by
   rw[FW,EZ]
   exact nd.imp λh e=>h (zcW e)
  refine zh2 (ks:=ups.map ptK) (by
   rw[zh e3,F3]
   first|rfl|(congr 1;exact Fp λp _=>(zcV p).symm)) (by rw[Eb];omega) zim jA ?_
  rw[jD]
  exact⟨_,ps,ups,rfl,f3.1,yP,hu,Bm,f3.app⟩
end
section
variable {fu:Nat} {S S':Sto} {x y:Xv} {ns:List Int}
abbrev Ch:=Q2×List (Int×Q2)
def xF (S:Sto) (z:Xv) (c:Ch):Prop:=∃m,z= .tup [qv c.1,.ref m]/\L2.zu S (.ref m)=some (c.2.map ptX)
theorem xF.mono {S S':Sto} {z:Xv} {c:Ch} (p:Le S S') (a:xF S z c):xF S' z c:=by
 obtain⟨m,e1,e2⟩:=a
 exact⟨m,e1,p.1 _ _ e2⟩
theorem zjF {n:Nat} {zs:List Xv} {chs:List Ch} (o:Zd xF S n zs chs) (p:Fz S S'):Zd xF S' n zs chs:=Zd.mono (R:=xF) (λq h=>xF.mono q h) p o
theorem ChsAt.mono {chs:List Ch} (p:Le S S') (h:LAt xF S x chs):LAt xF S' x chs:=LAt.mono (λ_ _ h=>xF.mono p h) p h
def vL (aq:List (List Int)) (s:Wx) (ch:Ch):Prop:=ch.1=s.2.1/\∃ups,Ups aq (Ve s.2.2) s.2.2 ups/\ch.2.Perm ups
structure zmI (aq:List (List Int)) (b:List Wx) (chs:List Ch):Prop where
 sub:∀ch∈chs,∃s∈b,vL aq s ch
 all:∀s∈b,∃ch∈chs,vL aq s ch
 few:chs.length<=4
theorem zls {ρ:Rho} {i j:Nat} {a b:Xv} {N:Rho->Sto->Prop} (h:L2.zu S x=some [a,b]) (k:N ((ρ.set i (some a)).set j (some b)) S):W (gL 2 (yh (gN i) (yh (gN j) vN)) x ρ S) N:= .of (by
 unfold gL
 rw[h,Ee]
 rfl) k
theorem zaV:∀{kvs:List (Key×Xv)} {l:List Int},kvs.map (·.1)=l.map F6->vG kvs=some l
 |[],[],_=>rfl
 |[],_::_,h=>by simp at h
 |_::_,[],h=>by simp at h
 |(k,v)::r,i::l,h=>by
  rw[Eg,Eg] at h
  injection h with h1 h2
  have h1:k= .inl i:=h1
  subst h1
  unfold vG
  rw[zaV h2]
  rfl
theorem ziq:∀{kvs:List (Key×Xv)} {kv:Key×Xv},(kvs.map (·.1)).Nodup->kv∈kvs->yV kvs kv.1=some kv.2
 |a::r,kv,nd,h=>by
  rw[Eg,Fw] at nd
  unfold yV
  rw[F1]
  rcases Er.1 h with rfl|h
  ·simp
  ·have:a.1≠kv.1:=λe=>nd.1 (Eh.2 ⟨kv,h,e.symm⟩)
   rw[decide_eq_false this]
   exact ziq nd.2 h
theorem zlt {l:List Int} {kvs:List (Key×Xv)} (h:l.Nodup) (e:kvs.map (·.1)=l.map F6):(kvs.map (·.1)).Nodup:=by
 rw[e,FW,EZ]
 exact h.imp λh z=>h (by injection z)
end
section
variable {fu:Nat} {S S' S2:Sto} {dd:Int} {x y:Xv}
structure SH (dd:Int) (q:Q2):Prop where
 ok:QOk dd 1 q
 vp:0<val q
noncomputable def YY (kvs:List (Int×Q2)) (i:Int):Option Q2:=(kvs.find? λp=>decide (p.1=i)).map (·.2)
noncomputable def zbp (kvs:List (Int×Q2)) (i:Int) (q:Q2):List (Int×Q2):=if (YY kvs i).isSome=true then kvs.map (λp=>if p.1=i then (p.1,q) else p) else kvs++[(i,q)]
noncomputable def Zn (kvs:List (Int×Q2)):List (Key×Xv):=kvs.map λp=>(.inl p.1,qv p.2)
theorem YZ:∀{kvs:List (Int×Q2)} {i:Int},yV (Zn kvs) (.inl i)=(YY kvs i).map qv
 |[],_=>rfl
 |(m,q)::r,i=>by
  have ih:=YZ (kvs:=r) (i:=i)
  unfold yV YY Zn at ih ⊢
  rw[Eg,F1,F1]
  by_cases e:m=i
  ·subst e;simp
  ·have d1:decide ((F6 m:Key)=F6 i)=false:=decide_eq_false λz=>e (by injection z)
   have d2:decide (m=i)=false:=decide_eq_false e
   dsimp only
   rw[d1,d2]
   exact ih
theorem zfC {κ:Type} [DecidableEq κ] {β:Type} {l:List (κ×β)} {k:κ}:(l.any λp=>decide (p.1=k))=((l.find? λp=>decide (p.1=k)).map (·.2)).isSome:=by
 induction l with
 |nil=>rfl
 |cons p r ih=>
  rw[GJ,F1]
  cases h:decide (p.1=k) with
  |true=>rfl
  |false=>rw[JB,ih]
theorem zd4 {kvs:List (Int×Q2)} {i:Int} {q:Q2}:XC (Zn kvs) (.inl i) (qv q)=Zn (zbp kvs i q):=by
 unfold XC zbp
 rw[zfC]
 have:=YZ (kvs:=kvs) (i:=i)
 unfold yV at this
 rw[this,Gm]
 split
 ·unfold Zn
  rw[F3,F3]
  refine Fp λp hp=> ?_
  dsimp only[HG]
  by_cases e:p.1=i
  ·rw[if_pos e,if_pos (by rw[e])]
  ·rw[if_neg e,if_neg λz=>e (by injection z)]
 ·unfold Zn
  rw[EI];rfl
theorem zaW {kvs:List (Int×Q2)} {i:Int} {q:Q2} (h:YY kvs i=some q):(i,q)∈kvs:=by
 unfold YY at h
 obtain⟨p,h1,h2⟩:=Ez.1 h
 have:=Jw h1
 have e:p.1=i:=by simpa using this
 rw[<-e,<-h2]
 exact HQ h1
theorem Wg {kvs:List (Int×Q2)} {i:Int} (h:i∈kvs.map (·.1)):∃q,YY kvs i=some q:=by
 obtain⟨p,hp,e⟩:=Eh.1 h
 unfold YY
 cases h2:kvs.find? λp=>decide (p.1=i) with
 |none=>exact absurd (decide_eq_true e) (GW.1 h2 p hp)
 |some q=>exact⟨_,rfl⟩
theorem zgz (kvs:List (Int×Q2)) (i:Int) (q:Q2):(i∈kvs.map (·.1)/\(zbp kvs i q).map (·.1)=kvs.map (·.1))\/(i∉kvs.map (·.1)/\(zbp kvs i q).map (·.1)=kvs.map (·.1)++[i]):=by
 unfold zbp
 split
 ·rename_i h
  obtain⟨z,e⟩:=FO.1 h
  refine .inl ⟨Eh.2 ⟨_,zaW e,rfl⟩,?_⟩
  rw[F3]
  refine Fp λp _=> ?_
  dsimp only[HG]
  split<;>rfl
 ·rename_i h
  refine .inr ⟨λz=>h ?_,by simp⟩
  obtain⟨q',e⟩:=Wg z
  rw[e]
  rfl
theorem zd5 {kvs:List (Int×Q2)} {i:Int} {q:Q2} {p:Int×Q2} (hp:p∈zbp kvs i q):(p.1≠i/\p∈kvs)\/p=(i,q):=by
 unfold zbp at hp
 split at hp
 ·obtain⟨r,hr,rfl⟩:=Eh.1 hp
  by_cases e:r.1=i
  ·rw[if_pos e]
   right
   rw[e]
  ·rw[if_neg e]
   exact .inl ⟨e,hr⟩
 ·rename_i hn
  rcases F5.1 hp with hp|hp
  ·refine .inl ⟨λe=>hn ?_,hp⟩
   obtain⟨q',e2⟩:=Wg (kvs:=kvs) (i:=i) (Eh.2 ⟨p,hp,e⟩)
   rw[e2]
   rfl
  ·rw[EG] at hp
   exact .inr hp
noncomputable def zaX (ps:List (Int×Q2)) (i:Int):Rat:=(ps.map λp=>if p.1=i then val p.2 else 0).sum
noncomputable def xC (ps:List (Int×Q2)):List (Int×Q2):=ps.foldl (λkvs p=>zbp kvs p.1 (zcR ((YY kvs p.1).getD (0,1)) p.2)) []
theorem ZR (ps:List (Int×Q2)) (p:Int×Q2):xC (ps++[p])=zbp (xC ps) p.1 (zcR ((YY (xC ps) p.1).getD (0,1)) p.2):=by
 unfold xC
 rw[Ja]
 rfl
theorem zgA (ps:List (Int×Q2)) (p:Int×Q2) (i:Int):zaX (ps++[p]) i=zaX ps i+if p.1=i then val p.2 else 0:=by
 unfold zaX
 rw[EI,Im]
 simp[Rat.add_zero]
theorem zgB {ps:List (Int×Q2)} {i:Int} (h:i∉ps.map (·.1)):zaX ps i=0:=by
 induction ps with
 |nil=>rfl
 |cons p r ih=>
  rw[Eg,Er] at h
  unfold zaX at ih ⊢
  rw[Eg,Fq,if_neg (λe=>h (.inl e.symm)),Rat.zero_add]
  exact ih λe=>h (.inr e)
theorem zfD {ps:List (Int×Q2)} (h:∀p∈ps,0<val p.2) (i:Int):0<=zaX ps i:=by
 induction ps with
 |nil=>exact Rat.le_refl
 |cons p r ih=>
  have:=ih λq hq=>h q (Ej _ hq)
  unfold zaX at this ⊢
  rw[Eg,Fq]
  have h0:=h p (Em ..)
  split<;>grind
theorem zir {ps:List (Int×Q2)} (h:∀p∈ps,0<val p.2) {i:Int} (hi:i∈ps.map (·.1)):0<zaX ps i:=by
 induction ps with
 |nil=>cases hi
 |cons p r ih=>
  have h0:=h p (Em ..)
  have hr:=zfD (ps:=r) (λq hq=>h q (Ej _ hq)) i
  unfold zaX at ih hr ⊢
  rw[Eg,Fq]
  by_cases e:p.1=i
  ·rw[if_pos e];grind
  ·rw[if_neg e,Rat.zero_add]
   refine ih (λq hq=>h q (Ej _ hq)) ?_
   rw[Eg,Er] at hi
   rcases hi with hi|hi
   ·exact (e hi.symm).elim
   ·exact hi
theorem zaY:val (0,1)=0:=by
 unfold val
 rw[Hf]
 show ((0:Int):Rat)*_=0
 rw[Rat.intCast_zero,Rat.zero_mul]
structure GI (dd:Int) (ps:List (Int×Q2)):Prop where
 nd:((xC ps).map (·.1)).Nodup
 ok:∀p∈xC ps,QOk dd (ps.length:Int) p.2
 vl:∀p∈xC ps,val p.2=zaX ps p.1
 ks:∀i,i∈(xC ps).map (·.1)↔i∈ps.map (·.1)
theorem GI.get {ps:List (Int×Q2)} (t:GI dd ps) (i:Int):QOk dd (ps.length:Int) ((YY (xC ps) i).getD (0,1))/\val ((YY (xC ps) i).getD (0,1))=zaX ps i:=by
 cases e:YY (xC ps) i with
 |none=>
  refine⟨QOk.nil.mono ⋯,?_⟩
  rw[HU,zaY,zgB λh=> ?_]
  obtain⟨q,e2⟩:=Wg ((t.ks i).2 h)
  rw[e] at e2
  cases e2
 |some q=>
  have:=zaW e
  exact⟨t.ok _ this,t.vl _ this⟩
theorem zjG {ps:List (Int×Q2)} {p:Int×Q2} (t:GI dd ps) (hp:SH dd p.2):GI dd (ps++[p]):=by
 obtain⟨g1,g2⟩:=t.get p.1
 have hk:=zgz (xC ps) p.1 (zcR ((YY (xC ps) p.1).getD (0,1)) p.2)
 refine⟨?_,λr hr=> ?_,λr hr=> ?_,λi=> ?_⟩
 ·rw[ZR]
  rcases hk with⟨_,e⟩|⟨hn,e⟩
  ·rw[e];exact t.nd
  ·rw[e]
   exact Gz.2 ⟨t.nd,by simp,λa ha b hb=>by simp at hb;subst hb;exact λz=>hn (z ▸ ha)⟩
 ·rw[ZR] at hr
  rw[Ew,Ir]
  rcases zd5 hr with⟨_,hr⟩|rfl
  ·exact (t.ok r hr).mono (by simp;omega)
  ·exact zlm g1 hp.ok
 ·rw[ZR] at hr
  rw[zgA]
  rcases zd5 hr with⟨ne,hr⟩|rfl
  ·rw[if_neg (λz=>ne z.symm),Rat.add_zero]
   exact t.vl r hr
  ·rw[if_pos rfl,zjw g1.pos hp.ok.pos,g2]
 ·rw[ZR,EI,F5,Eg,GU,EG]
  rcases hk with⟨h1,e⟩|⟨hn,e⟩
  ·rw[e,t.ks]
   exact⟨.inl,λh=>h.elim id λz=>z ▸ (t.ks _).1 h1⟩
  ·rw[e,F5,t.ks,EG]
theorem zlu:GI dd []:=⟨IH,(λp hp=>by cases hp),(λp hp=>by cases hp),λi=>Iff.rfl⟩
theorem Xz {ps:List (Int×Q2)} (h:∀p∈ps,SH dd p.2):∀i,GI dd (ps.take i)
 |0=>zlu
 |i+1=>by
  cases e:ps[i]? with
  |none=>
   have hl:=FK.1 e
   have:=Xz h i
   rw[G2 hl] at this
   rw[G2 ⋯]
   exact this
  |some p=>
   rw[zL e]
   exact zjG (Xz h i) (h p (Ei e))
theorem zlv {ps:List (Int×Q2)} (h:∀p∈ps,SH dd p.2):GI dd ps:=by
 have:=Xz h ps.length
 rwa [F0] at this
noncomputable def zgC (ps:List (Int×Q2)) (i:Int):Int×Q2:=(i,(YY (xC ps) i).getD (0,1))
noncomputable def UJ (ps:List (Int×Q2)):List (Int×Q2):=(yQ ((xC ps).map (·.1))).map (zgC ps)
theorem zmo (a b:Q2):eqG 40 (.tup [.int a.1,.int a.2]) (.tup [.int b.1,.int b.2])=some (decide (a=b)):=by
 have h:=Uh (n:=39) [a.1,a.2] [b.1,b.2] rfl
 show (vM (eqG 39) [.int a.1,.int a.2] [.int b.1,.int b.2]).map (· &&true)=_
 rw[show vM (eqG 39) [.int a.1,.int a.2] [.int b.1,.int b.2]=_ from h]
 rw[FI,JF]
 congr 1
 obtain⟨a1,a2⟩:=a
 obtain⟨b1,b2⟩:=b
 simp
theorem UK (kvs:List (Int×Q2)):vG (Zn kvs)=some (kvs.map (·.1)):=zaV (by unfold Zn;rw[F3,F3];rfl)
theorem zjH (bT:Big fu) (hd:0<dd) (gI:ww 4000 dd) {ps:List (Int×Q2)} {n:Nat} (h:∀p∈ps,SH dd p.2) (hl:ps.length<64) (e:S[n]? =some (.lst (ps.map ptX))):
  W (Wd fu [.ref n] S) λv S'=>∃m,v= .ref m/\S.length<=m/\S'[m]? =some (.lst ((UJ ps).map ptX))/\Fz S S':=by
 have kC:∀i,(xC (ps.take i)).length<=ps.length:=λi=>by
  have t:=Xz h i
  have:=t.nd.length_le_of_subset (l₂:=(ps.take i).map (·.1)) λl hl=>(t.ks l).1 hl
  rw[Eb,Eb,Fc] at this
  omega
 walk_at "wr";unfold Wc
 nofun
 refine wk (vH ?_)
 nofun
 have f1:Fz S (S++[Ce.dk []]):=Fz.refl.app
 refine⟨_,zh (f1.lst e),_,zh (f1.lst e),?_⟩
 refine yY (xs:=ps.map ptX) (λi ρ S2=>∃(a2 a3:Option Xv),ρ=[some (.ref n),some (.ref S.length),a2,a3]/\S2[S.length]? =some (.dk (Zn (xC (ps.take i))))/\Fz S S2) ?_ ?_ ?_ ?_
 ·rintro i ρ S2 _ ⟨_,_,_,_,k2⟩
  exact zh (k2.lst e)
 ·rintro i w ρ S2 hw ⟨a2,a3,rfl,c2,k2⟩
  obtain⟨p,ep,rfl⟩:=wH hw
  have hi:i<ps.length:=(E8.1 ep).1
  have hp:=h p (Ei ep)
  obtain⟨g1,g2⟩:=(Xz h i).get p.1
  rw[Fc] at g1
  refine .of rfl ?_
  dsimp only[EW]
  refine Td ?_
  nofun
  refine zam ?_
  nofun
  refine⟨⟨_,yF c2⟩,?_⟩
  nofun
  refine⟨_,_,.inl p.1,yF c2,rfl,?_⟩
  nofun
  rw[YZ]
  have Bj:QX (((YY (xC (ps.take i)) p.1).map qv).getD (.ct [.int 0,.int 1])) ((YY (xC (ps.take i)) p.1).getD (0,1)):=by
   cases YY (xC (ps.take i)) p.1 with
   |none=>rfl
   |some q=>rfl
  refine W.eqs (zln bT Bj (QX.qv _) g1 hp.ok hd gI ⟨⋯,⋯⟩ ∅) ?_
  nofun
  refine⟨S.length,Zn (xC (ps.take i)),.inl p.1,yF c2,rfl,?_,?_⟩
  ·unfold Zn
   rw[Eb]
   exact Zb (by have:=kC i;omega)
  refine⟨_,_,rfl,?_,k2.set (Ek _)⟩
  rw[Za c2,zd4,zL ep,ZR]
 ·exact⟨none,none,rfl,yP,f1⟩
 ·rintro ρ S2 ⟨a2,a3,rfl,c2,k2⟩
  rw[Eb,F0] at c2
  have t:=zlv h
  have qq:=kC ps.length
  rw[F0] at qq
  refine XO (xQ (vH ?_))
  nofun
  refine zhk (yF c2) (UK _) (by rw[Eb];omega) ?_
  refine⟨_,yk,_,yk,?_⟩
  have f3:=Fz.refl.app (S:=S2) (T:=[Ce.lst ((yQ ((xC ps).map (·.1))).map Xv.int)])
  have c3:(S2++[Ce.lst ((yQ ((xC ps).map (·.1))).map Xv.int)])[S.length]? =some (.dk (Zn (xC ps))):=by
   rw[Ed (E8.1 c2).1]
   exact c2
  have e3:=yP (S:=S2) (c:=Ce.lst ((yQ ((xC ps).map (·.1))).map Xv.int))
  have k3:=k2.trans f3
  generalize S2++[Ce.lst ((yQ ((xC ps).map (·.1))).map Xv.int)]=S3 at c3 e3 k3 ⊢
  have hlen:(yQ ((xC ps).map (·.1))).length=(xC ps).length:=by rw[Wm,Eb]
  refine xc (xs:=(yQ ((xC ps).map (·.1))).map Xv.int) (by rw[Eb,hlen];exact EL (Zb ⋯)) (λi es S4=>S4=S3/\es=(((yQ ((xC ps).map (·.1))).take i).map (zgC ps)).map ptX) ?_ ?_ ⟨rfl,rfl⟩ ?_
  ·rintro i es _ _ ⟨rfl,_⟩
   exact zh e3
  ·rintro i w es _ hw ft ⟨rfl,rfl⟩
   obtain⟨k,ek,rfl⟩:=wH hw
   have aw:k∈(xC ps).map (·.1):=(vS _).mem_iff.1 (Ei ek)
   obtain⟨q,eq⟩:=Wg aw
   have tM:=t.vl _ (zaW eq)
   have tL:yV (Zn (xC ps)) (F6 k)=some (qv q):=by rw[YZ,eq];rfl
   refine .of rfl ?_
   dsimp only[Ys,Ga,EW]
   refine zdB (UB (zcs ?_))
   nofun
   refine⟨_,_,.inl k,qv q,yF c3,rfl,tL,?_⟩
   nofun
   refine XW (d:= .tup [.int q.1,.int q.2]) (e:= .tup [.int 0,.int 1]) rfl rfl rfl (zmo q (0,1)) ?_
   have pP:q≠(0,1):=λz=>by
    rw[z] at tM
    have:=zir (λp hp=>(h p hp).vp) ((t.ks k).1 aw)
    rw[<-tM,zaY] at this
    exact absurd this ∅
   rw[decide_eq_false pP]
   refine⟨_,rfl,rfl,?_⟩
   refine zey (vh ?_)
   nofun
   refine zcs ?_
   nofun
   refine⟨_,_,.inl k,qv q,yF c3,rfl,tL,?_⟩
   nofun
   refine⟨rfl,?_⟩
   rw[zL ek,EI,EI]
   show _++[Xv.tup [.int k,qv q]]=_++[ptX (zgC ps k)]
   unfold zgC
   rw[eq]
   rfl
  ·rintro es _ _ ⟨rfl,rfl⟩
   rw[Eb,F0]
   exact⟨_,rfl,k3.1,yP,k3.app⟩
end
section
variable {fu:Nat} {S S' S2:Sto} {dd:Int} {x y:Xv}
noncomputable def Xb (cls:List Int) (i:Int):Int:=cls.getD i.toNat 0
noncomputable def byC (cls:List Int) (ps:List (Int×Q2)):List (Int×Q2):=ps.map λp=>(Xb cls p.1,p.2)
noncomputable def byK (cls:List Int) (c:Ch):NK:= .tup [nq c.1,.tup ((UJ (byC cls c.2)).map ptK)]
structure zd6 (n:Nat) (c:Ch):Prop where
 dd:∃dd:Int,0<dd/\ww 4000 dd/\∀p∈c.2,SH dd p.2
 rng:∀p∈c.2,0<=p.1/\p.1<n
 few:c.2.length<64
theorem zis (bT:Big fu) {cls:List Int} {c:Ch} {pn cn:Nat} (ok:zd6 cls.length c) (e:L2.zu S (.ref pn)=some (c.2.map ptX)) (ec:L2.zu S (.ref cn)=some (cls.map Xv.int)):
  W (Ye fu [.ref pn,.ref cn] S) λv S'=>∃m,v= .ref m/\S.length<=m/\S'[m]? =some (.lst ((UJ (byC cls c.2)).map ptX))/\Fz S S':=by
 obtain⟨dd,d0,d1,d2⟩:=ok.dd
 have hf:=ok.few
 walk_at "wr";unfold Yd
 refine XO (Vt (vh (xQ (vH ?_))))
 nofun
 refine⟨_,e,_,e,?_⟩
 refine xc (xs:=c.2.map ptX) (by rw[Eb];exact EL (Zb ⋯)) (λi es S2=>S=S2/\es=((byC cls c.2).take i).map ptX) ?_ ?_ ⟨rfl,rfl⟩ ?_
 ·rintro i es _ _ ⟨rfl,_⟩
  exact e
 ·rintro i w es _ hw ft ⟨rfl,rfl⟩
  obtain⟨p,ep,rfl⟩:=wH hw
  obtain⟨p0,p1⟩:=ok.rng p (Ei ep)
  have bS:p.1.toNat<cls.length:=by omega
  refine .of rfl ?_
  dsimp only[Ys,Ga,EW]
  nofun
  refine⟨rfl,?_⟩
  nofun
  refine yv ec (wm p0 (by rw[Ef,DZ bS];rfl)) ?_
  nofun
  refine⟨rfl,?_⟩
  have eb:(byC cls c.2)[i]? =some (Xb cls p.1,p.2):=by unfold byC;rw[Ef,ep];rfl
  rw[zL eb,EI]
  show _=_++[Xv.tup [.int (Xb cls p.1),qv p.2]]
  unfold Xb
  rw[Ec,DZ bS]
  rfl
 rintro es _ ef ⟨rfl,rfl⟩
 rw[Eb] at ef
 have iE:(byC cls c.2).length=c.2.length:=by unfold byC;rw[Eb]
 rw[Eb,<-iE,F0]
 nofun
 refine (zjH (dd:=dd) bT d0 d1 (ps:=byC cls c.2) (λp hp=> ?_) ⋯ yP).imp ?_
 ·obtain⟨q,hq,rfl⟩:=Eh.1 hp
  exact d2 q hq
 rintro _ S3 ⟨m,rfl,hm,em,f3⟩
 exact⟨m,rfl,by rw[Ew] at hm;simp at hm;omega,em,Fz.refl.app.trans f3⟩
theorem Tl (l:List NK):unk (.tup l)= .tup (l.map unk):=by rw[unk,ZY]
theorem zjI (cls:List Int) (c:Ch):unk (byK cls c)= .tup [qv c.1,.tup ((UJ (byC cls c.2)).map ptX)]:=by
 unfold byK
 rw[Tl,Eg,Eg,GU,zil,Tl,F3]
 congr 4
theorem zfE:∀(a b:List (Int×Q2)),cpL (a.map ptK) (b.map ptK)=true
 |[],_=>by simp[cpL]
 |_::_,[]=>by simp[cpL]
 |p::a,q::b=>by
  rw[Eg,Eg,cpL,zfE a b]
  simp[ptK,nq,cp,cpL]
theorem Uq:∀(a:List (Int×Q2)),xU (a.map ptK)<=2
 |[]=>by simp[xU]
 |p::a=>by
  rw[Eg,xU]
  have:=Uq a
  have:yi (ptK p)=2:=by simp[ptK,nq,yi,xU]
  omega
theorem zaZ:∀(a:List (Int×Q2)),Xk (a.map ptK)=true
 |[]=>by simp[Xk]
 |p::a=>by
  rw[Eg,Xk,zaZ a]
  simp[ptK,nq,ZJ,Xk]
theorem zeX (cls:List Int) (chs:List Ch):KOk false (chs.map (byK cls))/\∀k∈chs.map (byK cls),ZJ k=true:=by
 refine⟨⟨λx hx y hy=> ?_,λk hk=> ?_,λk hk=> ?_⟩,λk hk=> ?_⟩
 ·obtain⟨p,_,rfl⟩:=Eh.1 hx
  obtain⟨q,_,rfl⟩:=Eh.1 hy
  simp[byK,nq,cp,cpL,zfE]
 ·obtain⟨p,_,rfl⟩:=Eh.1 hk
  have:=Uq (UJ (byC cls p.2))
  simp[byK,nq,yi,xU]
  omega
 ·obtain⟨p,_,rfl⟩:=Eh.1 hk
  simp[byK,nq,Xl]
 ·obtain⟨p,_,rfl⟩:=Eh.1 hk
  simp[byK,nq,ZJ,Xk,zaZ]
theorem zbY {P:Xv->Sto->Prop} {l:List Xv} (h:L2.zu S x=some l) (k:P (.tup l) S):WO (VW [x] S) P:= .of (by
 obtain⟨m,rfl⟩:∃m,x= .ref m:=by cases x<;>first|exact⟨_,rfl⟩|(simp only[L2.zu,reduceCtorEq] at h)
 unfold VW
 simp[Vn,Xv.tupOf,h]) k
theorem zd7 (bT:Big fu) {cls:List Int} {chs:List Ch} {cn:Nat} (ok:∀c∈chs,zd6 cls.length c) (few:chs.length<=4) (e:LAt xF S x chs) (ec:L2.zu S (.ref cn)=some (cls.map Xv.int)):
  W (Yv fu [x,.ref cn] S) λv S'=>∃m,v= .ref m/\S.length<=m/\S'[m]? =some (.lst ((xY (chs.map (byK cls))).map unk))/\Fz S S':=by
 obtain⟨l,el,ll,hl⟩:=e
 walk_at "wr";unfold Yu
 refine yW (XN (xQ (vH ?_)))
 nofun
 refine⟨_,el,_,el,?_⟩
 refine xc (xs:=l) (EL (Zb ⋯)) (λi es S2=>Fz S S2/\es=((chs.take i).map (byK cls)).map unk) ?_ ?_ ⟨Fz.refl,rfl⟩ ?_
 ·rintro i es _ _ ⟨f,_⟩
  exact f.lstAt el
 ·rintro i w es S2 hw ft ⟨f2,rfl⟩
  have hi:i<chs.length:=by rw[<-ll];exact (E8.1 hw).1
  have hc:=DZ hi
  have hok:=ok _ (Eo hi)
  generalize chs[i]=c at hc hok
  obtain⟨z,e1,pn,e2,e3⟩:=hl i c hc
  rw[hw] at e1
  cases e1
  subst e2
  refine .of rfl ?_
  dsimp only[Ys,Ga,EW]
  nofun
  refine⟨rfl,?_⟩
  nofun
  refine (zis bT hok (f2.lstAt e3) (f2.lstAt ec)).imp ?_
  rintro _ S3 ⟨m,rfl,hm,em,f3⟩
  nofun
  refine zbY (zh em) ?_
  nofun
  refine⟨f2.trans f3,?_⟩
  rw[zL hc,EI,EI]
  show _=_++[unk (byK cls c)]
  rw[zjI]
 rintro es S2 ef ⟨f2,rfl⟩
 rw[ll,F0]
 dsimp only[EW]
 nofun
 obtain⟨k1,k2⟩:=zeX cls chs
 refine zeP yk (by rw[Eb];exact few) k1 k2 ?_
 refine⟨_,rfl,?_,yP,f2.app.app⟩
 rw[Ew]
 have:=f2.1
 omega
end
section
variable {fu:Nat} {S S' S2:Sto} {x y:Xv}
noncomputable def ix {α:Type} [DecidableEq α]:List α->α->Option Nat
 |[],_=>none
 |a::r,k=>if a=k then some 0 else (ix r k).map (· +1)
section
variable {α:Type} [DecidableEq α]
theorem zit:∀{l:List α} {k:α} {i:Nat},ix l k=some i->l[i]? =some k
 |a::r,k,i,h=>by
  unfold ix at h
  split at h
  ·cases h;rename_i e;rw[e];rfl
  ·obtain⟨j,h1,rfl⟩:=Ez.1 h
   exact zit (l:=r) h1
theorem VI:∀{l:List α} {k:α},k∈l->∃i,ix l k=some i
 |a::r,k,h=>by
  unfold ix
  by_cases e:a=k
  ·exact⟨0,if_pos e⟩
  ·rw[if_neg e]
   rcases Er.1 h with z|h
   ·exact (e z.symm).elim
   ·obtain⟨i,hi⟩:=VI h
    exact⟨i+1,by rw[hi];rfl⟩
theorem Tm:∀{l:List α} {k:α},k∉l->ix l k=none
 |[],_,_=>rfl
 |a::r,k,h=>by
  unfold ix
  rw[if_neg (λe:a=k=>h (e ▸ Em ..)),Tm λz=>h (Ej _ z)]
  rfl
theorem zcY:∀{l m:List α} {k:α} {i:Nat},ix l k=some i->ix (l++m) k=some i
 |a::r,m,k,i,h=>by
  unfold ix at h
  rw[Fy,ix]
  split at h
  ·rename_i e;rw[if_pos e];exact h
  ·rename_i e
   obtain⟨j,h1,rfl⟩:=Ez.1 h
   rw[if_neg e,zcY h1]
   rfl
noncomputable def fd (ks:List α):List α:=ks.foldl (λacc k=>if k∈acc then acc else acc++[k]) []
theorem xu (ks:List α) (k:α):fd (ks++[k])=if k∈fd ks then fd ks else fd ks++[k]:=by
 unfold fd
 rw[Ja]
 rfl
theorem zjJ (ks:List α):∀i,fd (ks.take i)<+:fd ks:=by
 have key:∀(l m:List α),fd l<+:fd (l++m):=by
  intro l m
  induction m generalizing l with
  |nil=>rw[Gi];exact FH _
  |cons a m ih=>
   have h1:fd l<+:fd (l++[a]):=by
    rw[xu]
    split
    ·exact FH _
    ·exact HD _ _
   have:=h1.trans (ih (l++[a]))
   rwa [Gn] at this
 intro i
 have:=key (ks.take i) (ks.drop i)
 rwa [List.take_append_drop] at this
theorem yJ (ks:List α):(fd ks).Nodup/\∀k,k∈fd ks↔k∈ks:=by
 have key:∀i,(fd (ks.take i)).Nodup/\∀k,k∈fd (ks.take i)↔k∈ks.take i:=by
  intro i
  induction i with
  |zero=>exact⟨IH,λk=>Iff.rfl⟩
  |succ i ih=>
   cases e:ks[i]? with
   |none=>
    have hl:=FK.1 e
    rw[G2 hl] at ih
    rw[G2 ⋯]
    exact ih
   |some a=>
    rw[zL e,xu]
    split
    ·rename_i h
     refine⟨ih.1,λk=> ?_⟩
     rw[ih.2,F5,EG]
     exact⟨.inl,λz=>z.elim id λe=>e ▸ (ih.2 _).1 h⟩
    ·rename_i h
     refine⟨Gz.2 ⟨ih.1,by simp,λa ha b hb=>by simp at hb;subst hb;exact λz=>h (z ▸ ha)⟩,λk=> ?_⟩
     rw[F5,F5,ih.2]
 have:=key ks.length
 rwa [F0] at this
theorem za0 (ks:List α):(fd ks).length<=ks.length:=(yJ ks).1.length_le_of_subset λk hk=>((yJ ks).2 k).1 hk
noncomputable def wY (ks:List α):List Int:=ks.map λk=>(((ix (fd ks) k).getD 0:Nat):Int)
theorem Tn {ks:List α} {i:Nat} {k:α} (h:ks[i]? =some k):∃j:Nat,(wY ks)[i]? =some (j:Int)/\(fd ks)[j]? =some k/\ix (fd ks) k=some j:=by
 obtain⟨j,hj⟩:=VI (((yJ ks).2 k).2 (Ei h))
 refine⟨j,?_,zit hj,hj⟩
 unfold wY
 rw[Ef,h]
 show some (((ix (fd ks) k).getD 0:Nat):Int)=_
 rw[hj]
 rfl
theorem Zo (ks:List α):(wY ks).length=ks.length:=by unfold wY;rw[Eb]
theorem zfF {ks:List α} {i j:Nat} (hi:i<ks.length) (hj:j<ks.length):(wY ks)[i]? =(wY ks)[j]? ↔ks[i]? =ks[j]? :=by
 obtain⟨a,a1,a2,_⟩:=Tn (DZ hi)
 obtain⟨b,b1,b2,_⟩:=Tn (DZ hj)
 rw[a1,b1,DZ hi,DZ hj,<-a2,<-b2]
 constructor
 ·intro h
  have:a=b:=by injection h with h;omega
  rw[this]
 ·intro h
  have ha:=(E8.1 a2).1
  have hb:=(E8.1 b2).1
  rw[DZ ha,DZ hb] at h
  injection h with h
  rw[(FE (yJ ks).1).1 h]
end
theorem Wv {α β:Type} [DecidableEq α] [DecidableEq β]:∀(n:Nat) {ks:List α} {ms:List β},ks.length=n->ms.length=n->(∀i j,i<n->j<n->(ks[i]? =ks[j]? ↔ms[i]? =ms[j]?))->wY ks=wY ms/\(fd ks).length=(fd ms).length/\∀(i:Nat) k m,ks[i]? =some k->ms[i]? =some m->ix (fd ks) k=ix (fd ms) m:=by
 intro n
 induction n with
 |zero=>
  intro ks ms h1 h2 _
  have:ks=[]:=Gv.1 h1
  have:ms=[]:=Gv.1 h2
  subst ks ms
  exact⟨rfl,rfl,λi k m h=>by simp at h⟩
 |succ n ih=>
  intro ks ms h1 h2 h
  obtain⟨ks',k,rfl⟩:∃l a,ks=l++[a]:=⟨ks.dropLast,ks.getLast (by intro z;subst z;simp at h1),(Hx _).symm⟩
  obtain⟨ms',m,rfl⟩:∃l a,ms=l++[a]:=⟨ms.dropLast,ms.getLast (by intro z;subst z;simp at h2),(Hx _).symm⟩
  have l1:ks'.length=n:=by simpa using h1
  have l2:ms'.length=n:=by simpa using h2
  have old:∀{γ:Type} {l:List γ} {a:γ} {i:Nat},i<l.length->(l++[a])[i]? =l[i]? :=λhi=>Ed hi
  have new:∀{γ:Type} {l:List γ} {a:γ},(l++[a])[l.length]? =some a:=by simp
  obtain⟨_,i2,i3⟩:=ih l1 l2 λi j hi hj=>by
   have:=h i j ⋯ ⋯
   rwa [old ⋯,old ⋯,old ⋯,old ⋯] at this
  have aw:k∈ks'↔m∈ms':=by
   constructor
   ·intro hk
    obtain⟨i,hi⟩:=Fj hk
    have hl:=(E8.1 hi).1
    have ef:i<ms'.length:=by omega
    have:=(h i n ⋯ ⋯).1 (by rw[old hl,<-l1,new,hi])
    rw[old ef,<-l2,new] at this
    exact Ei this
   ·intro hk
    obtain⟨i,hi⟩:=Fj hk
    have hl:=(E8.1 hi).1
    have ef:i<ks'.length:=by omega
    have:=(h i n ⋯ ⋯).2 (by rw[old hl,<-l2,new,hi])
    rw[old ef,<-l1,new] at this
    exact Ei this
  have jh:(k∈fd ks')↔(m∈fd ms'):=by rw[(yJ ks').2,(yJ ms').2];exact aw
  have hlen:(fd (ks'++[k])).length=(fd (ms'++[m])).length:=by
   rw[xu,xu]
   by_cases z:k∈fd ks'
   ·rw[if_pos z,if_pos (jh.1 z)];exact i2
   ·rw[if_neg z,if_neg λq=>z (jh.2 q),Ew,Ew,i2];rfl
  have j9:∀(i:Nat) a b,(ks'++[k])[i]? =some a->(ms'++[m])[i]? =some b->ix (fd (ks'++[k])) a=ix (fd (ms'++[m])) b:=by
   have jR:∀(i:Nat) a b,ks'[i]? =some a->ms'[i]? =some b->ix (fd (ks'++[k])) a=ix (fd (ms'++[m])) b:=λi a b ha hb=>by
    have e:=i3 i a b ha hb
    obtain⟨p,hp⟩:=VI (((yJ ks').2 a).2 (Ei ha))
    have hq:=e.symm.trans hp
    have e1:ix (fd (ks'++[k])) a=some p:=by
     rw[xu]
     split
     ·exact hp
     ·exact zcY hp
    have e2:ix (fd (ms'++[m])) b=some p:=by
     rw[xu]
     split
     ·exact hq
     ·exact zcY hq
    rw[e1,e2]
   intro i a b ha hb
   have hi:=(E8.1 ha).1
   rw[Ew,FN] at hi
   by_cases fc:i<n
   ·rw[old ⋯] at ha hb
    exact jR i a b ha hb
   ·have:i=n:=by omega
    subst this
    rw[<-l1,new] at ha
    rw[<-l2,new] at hb
    cases ha
    cases hb
    by_cases z:k∈ks'
    ·obtain⟨j,hj⟩:=Fj z
     have qk:=(E8.1 hj).1
     have dR:j<ms'.length:=by omega
     have:=(h j i ⋯ ⋯).1 (by rw[old qk,<-l1,new,hj])
     rw[old dR,<-l2,new] at this
     exact jR j k m hj this
    ·have z1:k∉fd ks':=λq=>z (((yJ ks').2 k).1 q)
     have z2:m∉fd ms':=λq=>z1 (jh.2 q)
     rw[xu,xu,if_neg z1,if_neg z2]
     have key:∀{γ:Type} [DecidableEq γ] {l:List γ} {a:γ},a∉l->ix (l++[a]) a=some l.length:=by
      intro γ _ l a
      induction l with
      |nil=>intro _;simp[ix]
      |cons c r AJ=>
       intro hn
       rw[Fy,ix,if_neg (λe:c=a=>hn (e ▸ Em ..)),AJ λq=>hn (Ej _ q)]
       rfl
     rw[key z1,key z2,i2]
  refine⟨?_,hlen,j9⟩
  refine FY λi=> ?_
  by_cases hi:i<n+1
  ·have ha:=DZ (l:=ks'++[k]) (i:=i) ⋯
   have hb:=DZ (l:=ms'++[m]) (i:=i) ⋯
   unfold wY
   rw[Ef,Ef,ha,hb]
   simp only[FI]
   rw[j9 i _ _ ha hb]
  ·rw[EY (by rw[Zo];omega),EY (by rw[Zo];omega)]
theorem Ur {α:Type} [DecidableEq α] (ks:List α):wY (wY ks)=wY ks/\(fd (wY ks)).length=(fd ks).length:=by
 obtain⟨h1,h2,_⟩:=Wv ks.length (ks:=wY ks) (ms:=ks) (Zo ks) rfl λi j hi hj=>zfF hi hj
 exact⟨h1,h2⟩
end
section
variable {fu:Nat} {S S' S2:Sto} {x y:Xv}
noncomputable def kk:NK->Key
 | .int i=> .inl i
 |_=> .inr ""
noncomputable def YH (j:Nat):List NK->List (Key×Xv)
 |[]=>[]
 |k::r=>(kk k,.int (j:Nat))::YH (j+1) r
noncomputable def WH (j:Nat):List NK->List (NK×Xv×Xv)
 |[]=>[]
 |k::r=>(k,unk k,.int (j:Nat))::WH (j+1) r
noncomputable def UL (b:Bool) (fs:List NK):Ce:=if b=true then .dk (YH 0 fs) else match fs with
 |[]=> .dk []
 |_::_=> .dn (WH 0 fs)
def KT (b:Bool) (k:NK):Prop:=if b=true then ∃i,k= .int i else ∃l,k= .tup l/\yi k<=8
theorem Vf:∀(j:Nat) (fs:List NK),(YH j fs).length=fs.length
 |_,[]=>rfl
 |j,k::r=>by rw[YH,EB,EB,Vf]
theorem Us:∀(j:Nat) (fs:List NK),(WH j fs).length=fs.length
 |_,[]=>rfl
 |j,k::r=>by rw[WH,EB,EB,Us]
theorem ziu:∀(j:Nat) {fs:List NK} {i:Int},(∀k∈fs,KT true k)->yV (YH j fs) (.inl i)=(ix fs (.int i)).map λt=>Xv.int ((j+t:Nat):Int)
 |_,[],_,_=>rfl
 |j,k::r,i,h=>by
  obtain⟨m,rfl⟩:=(show ∃m,k= .int m from h k (Em ..))
  have ih:=ziu (j+1) (fs:=r) (i:=i) λk hk=>h k (Ej _ hk)
  unfold yV at ih ⊢
  rw[YH,F1,ix]
  by_cases e:m=i
  ·subst e;simp[kk]
  ·have d1:decide (kk (.int m)=F6 i)=false:=decide_eq_false λz=>e (by injection z)
   rw[if_neg (λz:NK.int m=NK.int i=>e (by injection z))]
   dsimp only
   rw[d1]
   refine Eq.trans ih ?_
   rw[JA]
   congr 1
   funext t
   show Xv.int ((j+1+t:Nat):Int)=Xv.int ((j+(t+1):Nat):Int)
   congr 2
   omega
theorem ziv:∀(j:Nat) {fs:List NK} {k:NK},ZK (WH j fs) k=(ix fs k).map λt=>Xv.int ((j+t:Nat):Int)
 |_,[],_=>rfl
 |j,m::r,k=>by
  have ih:=ziv (j+1) (fs:=r) (k:=k)
  unfold ZK at ih ⊢
  rw[WH,F1,ix]
  by_cases e:m=k
  ·subst e;simp
  ·rw[if_neg e]
   dsimp only
   rw[decide_eq_false e]
   refine Eq.trans ih ?_
   rw[JA]
   congr 1
   funext t
   show Xv.int ((j+1+t:Nat):Int)=Xv.int ((j+(t+1):Nat):Int)
   congr 2
   omega
theorem UM:∀(j:Nat) (fs:List NK) (k:NK),YH j (fs++[k])=YH j fs++[(kk k,.int ((j+fs.length:Nat):Int))]
 |_,[],_=>rfl
 |j,m::r,k=>by
  rw[Fy,YH,YH,UM,Fy,EB]
  rw[show j+1+r.length=j+(r.length+1) by omega]
theorem za1:∀(j:Nat) (fs:List NK) (k:NK),WH j (fs++[k])=WH j fs++[(k,unk k,.int ((j+fs.length:Nat):Int))]
 |_,[],_=>rfl
 |j,m::r,k=>by
  rw[Fy,WH,WH,za1,Fy,EB]
  rw[show j+1+r.length=j+(r.length+1) by omega]
theorem VJ {l:List NK} (h:yi (.tup l)<=8):zbh (unk (.tup l))=some (.tup l):=by
 have:=zaG (.tup l)
 rw[unk] at this ⊢
 unfold zbh
 dsimp only
 rw[this,Ee,if_pos h]
theorem zmp {b:Bool} {fs:List NK} {k:NK} {n:Nat} (h:S[n]? =some (UL b fs)) (ha:∀k∈fs,KT b k) (hk:KT b k):WE S (.ref n) (unk k)=some ((ix fs k).map λt:Nat=>Xv.int (t:Int)):=by
 unfold WE
 dsimp only
 rw[h]
 unfold UL
 cases b with
 |true=>
  obtain⟨i,rfl⟩:=(show ∃i,k= .int i from hk)
  simp only[if_true]
  rw[unk]
  dsimp only[XM]
  rw[ziu 0 ha]
  simp only[Nat.zero_add]
 |false=>
  obtain⟨l,rfl,hd⟩:=(show ∃l,k= .tup l/\yi k<=8 from hk)
  simp only[FQ,if_false]
  cases fs with
  |nil=>
   have:XM (unk (.tup l))=none:=by rw[unk];rfl
   dsimp only
   rw[this]
   dsimp only
   rw[if_pos ⟨rfl,by rw[VJ hd];rfl⟩]
   rfl
  |cons p r=>
   dsimp only
   rw[VJ hd,FI,ziv 0]
   simp only[Nat.zero_add]
theorem zas {b:Bool} {fs:List NK} {k:NK} {n:Nat} (h:S[n]? =some (UL b fs)) (ha:∀k∈fs,KT b k) (hk:KT b k) (hn:k∉fs) (hl:fs.length<sizeLine):zaF S (.ref n) (unk k) (.int (fs.length:Nat))=some (S.set n (UL b (fs++[k]))):=by
 unfold zaF
 dsimp only
 rw[h]
 unfold UL
 cases b with
 |true=>
  obtain⟨i,rfl⟩:=(show ∃i,k= .int i from hk)
  simp only[if_true]
  rw[unk]
  dsimp only[XM]
  rw[if_pos (by rw[Vf];exact hl),UM]
  have hv:=ziu 0 (i:=i) ha
  rw[Tm hn] at hv
  unfold yV at hv
  unfold XC
  rw[zfC,hv,if_neg (by simp)]
  simp[kk]
 |false=>
  obtain⟨l,rfl,hd⟩:=(show ∃l,k= .tup l/\yi k<=8 from hk)
  simp only[FQ,if_false]
  cases fs with
  |nil=>
   have:XM (unk (.tup l))=none:=by rw[unk];rfl
   dsimp only
   rw[this]
   dsimp only
   rw[VJ hd]
   rfl
  |cons p r=>
   dsimp only
   rw[if_pos (by rw[Us];exact hl),VJ hd,FI]
   have hv:=ziv 0 (fs:=p::r) (k:= .tup l)
   rw[Tm hn] at hv
   unfold zdS
   rw[hv,if_neg (by simp),Fy]
   dsimp only
   rw[<-Fy,za1]
   simp
theorem zmA {b:Bool} {fs:List NK} {n:Nat} (h:S[n]? =some (UL b fs)):zdU [.ref n] S=some (.int (fs.length:Nat),S):=by
 unfold zdU
 dsimp only
 rw[h]
 unfold UL
 cases b with
 |true=>simp only[if_true];rw[Vf]
 |false=>
  simp only[FQ,if_false]
  cases fs with
  |nil=>rfl
  |cons p r=>dsimp only;rw[Us]
theorem za2 {b:Bool} {ks:List NK} {n:Nat} (ha:∀k∈ks,KT b k) (hl:ks.length<=999) (e:S[n]? =some (.lst (ks.map unk))):
  W (Ym fu [.ref n] S) λv S'=>∃m,v= .ref m/\S.length<=m/\S'[m]? =some (.lst ((wY ks).map Xv.int))/\Fz S S':=by
 have jh:∀i,∀k∈fd (ks.take i),KT b k:=λi k hk=>ha k (Hs (((yJ _).2 k).1 hk))
 have fq:∀i,(fd (ks.take i)).length<=999:=λi=>by
  have:=za0 (ks.take i)
  rw[Fc] at this
  omega
 walk_at "wr";unfold We
 nofun
 refine wk (vH ?_)
 nofun
 have f1:Fz S (S++[Ce.dk []]):=Fz.refl.app
 refine⟨_,zh (f1.lst e),_,zh (f1.lst e),?_⟩
 refine yY (xs:=ks.map unk) (λi ρ S2=>∃(a2:Option Xv),ρ=[some (.ref n),some (.ref S.length),a2]/\S2[S.length]? =some (UL b (fd (ks.take i)))/\Fz S S2) ?_ ?_ ?_ ?_
 ·rintro i ρ S2 _ ⟨_,_,_,k2⟩
  exact zh (k2.lst e)
 ·rintro i w ρ S2 hw ⟨a2,rfl,c2,k2⟩
  obtain⟨k,ek,rfl⟩:=wH hw
  have hk:=ha k (Ei ek)
  refine .of rfl ?_
  dsimp only[EW]
  refine wC (zdB (zjo ?_))
  nofun
  refine⟨_,zmp c2 (jh i) hk,?_⟩
  rw[Gm]
  by_cases hm:k∈fd (ks.take i)
  ·obtain⟨j,hj⟩:=VI hm
   rw[hj]
   refine⟨_,rfl,nofun,λ_=> ?_⟩
   nofun
   refine⟨?_,k2⟩
   rw[zL ek,xu,if_pos hm]
   exact c2
  ·rw[Tm hm]
   refine⟨_,rfl,λ_=> ?_,nofun⟩
   refine zh0 ?_
   nofun
   refine WO.of (zmA c2) ?_
   nofun
   refine⟨_,zas c2 (jh i) hk hm (zbV (fq i)),?_⟩
   refine⟨_,rfl,?_,k2.set (Ek _)⟩
   rw[Za c2,zL ek,xu,if_neg hm]
 ·refine⟨none,rfl,?_,f1⟩
  rw[yP]
  cases b<;>rfl
 ·rintro ρ S2 ⟨a2,rfl,c2,k2⟩
  rw[Eb,F0] at c2
  have hf:=jh ks.length
  rw[F0] at hf
  refine XO (xQ (vH ?_))
  nofun
  refine⟨_,zh (k2.lst e),_,zh (k2.lst e),?_⟩
  refine xc (xs:=ks.map unk) (by rw[Eb];exact EL (zbV hl)) (λi es S4=>S4=S2/\es=((wY ks).take i).map Xv.int) ?_ ?_ ⟨rfl,rfl⟩ ?_
  ·rintro i es _ _ ⟨rfl,_⟩
   exact zh (k2.lst e)
  ·rintro i w es _ hw ft ⟨rfl,rfl⟩
   obtain⟨k,ek,rfl⟩:=wH hw
   obtain⟨j,j1,j2,j3⟩:=Tn ek
   refine .of rfl ?_
   dsimp only[Ys,Ga,EW]
   nofun
   refine⟨rfl,?_⟩
   refine zhZ ?_
   nofun
   refine⟨.int (j:Int),by rw[zmp c2 hf (ha k (Ei ek)),j3];rfl,rfl,?_⟩
   rw[zL j1,EI]
   rfl
  ·rintro es _ _ ⟨rfl,rfl⟩
   rw[Eb,<-Zo ks,F0]
   exact⟨_,rfl,k2.1,yP,k2.app⟩
end
section
variable {fu:Nat} {S S' S2:Sto} {x y:Xv}
abbrev Net:=List (List Ch)
def wI (S:Sto) (x:Xv) (g:Net):Prop:=LAt (LAt xF) S x g
theorem wI.mono {g:Net} (p:Le S S') (h:wI S x g):wI S' x g:=LAt.mono (λ_ _ h=>ChsAt.mono p h) p h
structure VL (g:Net):Prop where
 len:g.length<=60
 few:∀chs∈g,chs.length<=4
 ok:∀chs∈g,∀c∈chs,zd6 g.length c
noncomputable def UN (cls:List Int) (i:Nat) (chs:List Ch):NK:= .tup [.int (cls.getD i 0),.tup (xY (chs.map (byK cls)))]
noncomputable def Wh (cls:List Int) (g:Net):List NK:=g.mapIdx λi chs=>UN cls i chs
noncomputable def yl (g:Net) (cls:List Int):List Int:=wY (Wh cls g)
theorem ZS {cls:List Int} {g:Net} {i:Nat} {chs:List Ch} (h:g[i]? =some chs):(Wh cls g)[i]? =some (UN cls i chs):=by
 unfold Wh
 rw[IL,h]
 rfl
theorem vq (cls:List Int) (g:Net):(Wh cls g).length=g.length:=by unfold Wh;rw[List.length_mapIdx]
theorem ziw {l:List NK} {m:Nat} (h:∀k∈l,yi k<=m):xU l<=m:=by
 induction l with
 |nil=>simp[xU]
 |cons a r ih=>
  rw[xU]
  have:=h a (Em ..)
  have:=ih λk hk=>h k (Ej _ hk)
  omega
theorem zix (cls:List Int) (i:Nat) (chs:List Ch):KT false (UN cls i chs):=by
 refine (show ∃l,_=NK.tup l/\_<=8 from ⟨_,rfl,?_⟩)
 obtain⟨k1,_⟩:=zeX cls chs
 have h:xU (xY (chs.map (byK cls)))<=4:=ziw λk hk=>by
  obtain⟨c,_,rfl⟩:=Eh.1 (((Xy k1).2 k).1 hk)
  have:=Uq (UJ (byC cls c.2))
  simp[byK,nq,yi,xU]
  omega
 unfold UN
 simp[yi,xU]
 omega
theorem ziy (bT:Big fu) {g:Net} {cls:List Int} {cn:Nat} (ok:VL g) (hl:cls.length=g.length) (e:wI S x g) (ec:L2.zu S (.ref cn)=some (cls.map Xv.int)):
  W (ZQ fu [x,.ref cn] S) λv S'=>∃m,v= .ref m/\S.length<=m/\S'[m]? =some (.lst ((yl g cls).map Xv.int))/\Fz S S':=by
 obtain⟨l,el,ll,hg⟩:=e
 have hlen:=ok.len
 walk_at "wr";unfold Um
 nofun
 have f1:Fz S (S++[Ce.lst []]):=Fz.refl.app
 have a1:(S++[Ce.lst []])[S.length]? =some (.lst []):=yP
 generalize S++[Ce.lst []]=S1 at f1 a1 ⊢
 refine wk (zcv ?_)
 nofun
 refine⟨_,f1.lstAt el,vF l,by dsimp only;rw[f1.lstAt el];rfl,?_⟩
 refine yY (xs:=vF l) (λi ρ S2=>∃a3 a4,ρ=[some x,some (.ref cn),some (.ref S.length),a3,a4]/\S2[S.length]? =some (.lst (((Wh cls g).take i).map unk))/\Fz S S2) ?_ ?_ ?_ ?_
 ·rintro i ρ S2 _ ⟨_,_,_,_,f2⟩
  show (L2.zu S2 x).map vF=_
  rw[f2.lstAt el]
  rfl
 ·rintro i w ρ S2 hw ⟨a3,a4,rfl,e2,f2⟩
  obtain⟨z,ez,rfl⟩:=XL hw
  have hi:i<g.length:=by rw[<-ll];exact (E8.1 ez).1
  have hc:=DZ hi
  have eh:=ok.few _ (Eo hi)
  have hok:=ok.ok _ (Eo hi)
  generalize g[i]=chs at hc eh hok
  obtain⟨z',e1,hz⟩:=hg i chs hc
  rw[ez] at e1
  cases e1
  refine .of rfl ?_
  dsimp only[EW]
  refine vi (ZH ?_)
  nofun
  refine⟨⟨_,zh e2⟩,?_⟩
  nofun
  refine yv (f2.lstAt ec) (wm (k:=(i:Int)) ⋯ (by rw[Fh,Ef,DZ (by omega:i<cls.length)];rfl)) ?_
  nofun
  refine (zd7 bT (λc cZ=>by rw[hl];exact hok c cZ) eh (ChsAt.mono f2.le hz) (f2.lstAt ec)).imp ?_
  rintro _ S3 ⟨m,rfl,hm,em,f3⟩
  nofun
  refine zbY (zh em) ?_
  nofun
  have e3:=f3.lst e2
  refine yS (xf e3) (Zb (by rw[Eb,Fc];omega)) ?_
  refine⟨_,_,rfl,?_,(f2.trans f3).set (Ek _)⟩
  rw[Za e3,zL (ZS (cls:=cls) hc),EI]
  congr 3
  show _=[unk (UN cls i chs)]
  unfold UN
  rw[Tl,Eg,Eg,GU,Tl,unk,Ec,DZ (by omega:i<cls.length)]
  rfl
 ·exact⟨_,_,rfl,a1,f1⟩
 ·rintro ρ S2 ⟨a3,a4,rfl,e2,f2⟩
  rw[Wn,ll,<-vq cls,F0] at e2
  nofun
  refine (za2 (b:=false) (λk hk=> ?_) (by rw[vq];omega) e2).imp ?_
  ·obtain⟨i,hi⟩:=Fj hk
   have cA:i<g.length:=by rw[<-vq cls];exact (E8.1 hi).1
   rw[ZS (DZ cA)] at hi
   cases hi
   exact zix ..
  rintro _ S3 ⟨m,rfl,hm,em,f3⟩
  exact⟨m,rfl,Ey f2.1 hm,em,f2.trans f3⟩
theorem Ut (g:Net) (cls:List Int):(yl g cls).length=g.length:=by unfold yl;rw[Zo,vq]
theorem za3 {g:Net} {cls:List Int} (hl:cls.length=g.length) {i j:Nat} (hi:i<g.length) (hj:j<g.length) (h:(yl g cls)[i]? =(yl g cls)[j]?):cls[i]? =cls[j]? :=by
 have:=(zfF (ks:=Wh cls g) (by rw[vq];exact hi) (by rw[vq];exact hj)).1 h
 rw[ZS (DZ hi),ZS (DZ hj)] at this
 injection this with this
 unfold UN at this
 injection this with this
 injection this with this _
 injection this with this
 rw[Ec,Ec,DZ (by omega:i<cls.length),DZ (by omega:j<cls.length)] at this
 rw[DZ (by omega:i<cls.length),DZ (by omega:j<cls.length)]
 exact congrArg some this
theorem zeY {g:Net} {cls:List Int} (hl:cls.length=g.length) (hc:wY cls=cls) (cq:yl g cls≠cls):(fd cls).length<(fd (yl g cls)).length:=by
 have fq:=Ut g cls
 have hp:∃i j:Nat,i<g.length/\j<g.length/\cls[i]? =cls[j]? /\(yl g cls)[i]? ≠(yl g cls)[j]? :=by
  apply FA
  intro iq
  apply cq
  have h1:wY (yl g cls)=yl g cls:=(Ur (Wh cls g)).1
  rw[<-h1]
  refine Eq.trans (Wv g.length fq hl λi j hi hj=>⟨za3 hl hi hj,λh=> ?_⟩).1 hc
  apply FA
  intro hn
  exact iq ⟨i,j,hi,hj,h,hn⟩
 obtain⟨i,j,hi,hj,h1,h2⟩:=hp
 have rep:∀c∈fd cls,∃p:Nat,p<g.length/\cls[p]? =some c:=λc hc=>by
  obtain⟨p,hp⟩:=Fj (((yJ cls).2 c).1 hc)
  exact⟨p,by rw[<-hl];exact (E8.1 hp).1,hp⟩
 obtain⟨ps,l1,l2,l3⟩:=Wf (fd cls) rep
 have Cj:∃c,cls[i]? =some c:=⟨cls[i]'⋯,DZ ⋯⟩
 obtain⟨c,jj⟩:=Cj
 have Cg:cls[j]? =some c:=h1.symm.trans jj
 obtain⟨q,hq⟩:=Fj (((yJ cls).2 c).2 (Ei jj))
 have tT:q<ps.length:=by rw[<-l1];exact (E8.1 hq).1
 obtain⟨r,hr,Cd,cq⟩:∃r:Nat,r<g.length/\cls[r]? =some c/\(yl g cls)[r]? ≠(yl g cls)[ps[q]]? :=by
  by_cases z:(yl g cls)[i]? =(yl g cls)[ps[q]]?
  ·exact⟨j,hj,Cg,λw=>h2 (z.trans w.symm)⟩
  ·exact⟨i,hi,jj,z⟩
 have jq:∀p:Nat,p<g.length->(yl g cls)[p]? =some ((yl g cls).getD p 0):=λp hp=>by
  rw[Ec,DZ (by omega:p<(yl g cls).length)]
  rfl
 have pat:∀(u:Nat) (hu:u<ps.length),ps[u]<g.length/\cls[ps[u]]? =some ((fd cls)[u]'⋯):=λu hu=>by
  obtain⟨z,e1,e2,e3⟩:=l2 u ps[u] (DZ hu)
  rw[DZ (by omega:u<(fd cls).length)] at e1
  injection e1 with e1
  rw[e1]
  exact⟨e2,e3⟩
 have nd:((ps++[r]).map λp=>(yl g cls).getD p 0).Nodup:=by
  rw[FW,EZ,List.pairwise_append]
  refine⟨?_,by simp,λa ha b hb=> ?_⟩
  ·rw[G6]
   intro u v hu hv DJ e
   obtain⟨a1,a2⟩:=pat u hu
   obtain⟨b1,b2⟩:=pat v hv
   have:=za3 hl a1 b1 (by rw[jq _ a1,jq _ b1,e])
   rw[a2,b2] at this
   injection this with this
   have:=(FE (yJ cls).1).1 this
   omega
  ·rw[EG] at hb
   subst hb
   intro e
   obtain⟨u,hu,rfl⟩:=Ge ha
   obtain⟨a1,a2⟩:=pat u hu
   have hk:=za3 hl a1 hr (by rw[jq _ a1,jq _ hr,e])
   rw[a2,Cd] at hk
   injection hk with hk
   obtain⟨DL,CT⟩:=E8.1 hq
   have:u=q:=(FE (yJ cls).1).1 (hk.trans CT.symm)
   subst this
   exact cq (by rw[jq _ hr,jq _ a1,e])
 have:=nd.length_le_of_subset (l₂:=fd (yl g cls)) λk hk=>by
  obtain⟨p,hp,rfl⟩:=Eh.1 hk
  refine ((yJ _).2 _).2 ?_
  have fQ:p<g.length:=by
   rcases F5.1 hp with hp|hp
   ·obtain⟨u,hu,rfl⟩:=Ge hp
    exact (pat u hu).1
   ·rw[EG] at hp
    omega
  exact Ei (jq p fQ)
 rw[Eb,Ew,FN] at this
 omega
end
section
variable {fu:Nat} {S S' S2:Sto} {x y:Xv}
theorem Wi {α:Type} {f:Xv->Option D} {t:α->D}:∀(as:List α) (l:List Xv),l.length=as.length->(∀(i:Nat) a,as[i]? =some a->∃z,l[i]? =some z/\f z=some (t a))->xW f l=some (as.map t)
 |[],[],_,_=>rfl
 |[],_::_,e,_=>by simp at e
 |_::_,[],e,_=>by simp at e
 |a::as,z::l,e,h=>by
  obtain⟨y,e1,e2⟩:=h 0 a rfl
  cases e1
  have:=Wi as l (by simpa using e) λi b hb=>by
   obtain⟨y,q1,q2⟩:=h (i+1) b (by simpa using hb)
   exact⟨y,by simpa using q1,q2⟩
  unfold xW
  rw[e2,this]
  rfl
theorem zcZ {α:Type} {R:Sto->Xv->α->Prop} {as:List α} {n:Nat} {t:α->D} (hR:∀z a,R S z a->yU S n z=some (t a)) (h:LAt R S x as):yU S (n+1) x=some (.lst (as.map t)):=by
 obtain⟨l,e,el,k⟩:=h
 have ht:=Wi (f:=yU S n) (t:=t) as l el λi a ha=>by obtain⟨z,e1,e2⟩:=k i a ha;exact⟨z,e1,hR z a e2⟩
 cases x<;>simp only[L2.zu,reduceCtorEq] at e
 rename_i m
 unfold yU
 dsimp only
 rw[show L2.zu S (.ref m)=some l from e,Ee,ht]
 rfl
theorem xD {n:Nat} {l:List Int} (h:L2.zu S x=some (l.map Xv.int)):yU S (n+2) x=some (.lst (l.map D.int)):=
 zcZ (n:=n+1) (R:=λ_ z (i:Int)=>z= .int i) (λz a e=>by cases e;rfl) ⟨_,h,by simp,λi a ha=>⟨.int a,by simp[ha],rfl⟩⟩
theorem za4 {l:List Xv} {a:Xv} (h:l[l.length-1]? =some a):atI l (-1)=some a:=by
 have hl:=(E8.1 h).1
 unfold atI ixN
 rw[if_neg ⋯,if_pos ⋯]
 simp only[Ee]
 rw[show ((-1:Int)+(l.length:Int)).toNat=l.length-1 by omega]
 exact h
structure Rds (g:Net) (ms:List Int) (ai:List (List Int)):Prop where
 fst:ai[0]? =some (wY ms)
 nxt:∀(i:Nat) a b,ai[i]? =some a->ai[i+1]? =some b->b=yl g a/\b≠a
 num:∀a∈ai,a.length=g.length/\wY a=a
theorem Rds.ne {g:Net} {ms:List Int} {ai:List (List Int)} (r:Rds g ms ai):0<ai.length:=(E8.1 r.fst).1
theorem Uu (l:List Int):(fd l).length<=l.length:=za0 l
def zbq (S S':Sto) (tn:Nat) (zs:List Xv):Prop:=∀z∈zs,∃n l,z= .ref n/\n≠tn/\S.length<=n/\S'[n]? =some (.lst l)
theorem zbq.mono {tn:Nat} {zs:List Xv} (h:zbq S S' tn zs) (p:Fz S' S2):zbq S S2 tn zs:=λz hz=>by
 obtain⟨n,l,e1,e2,e3,e4⟩:=h z hz
 exact⟨n,l,e1,e2,e3,p.lst e4⟩
theorem zbq.set {tn:Nat} {zs:List Xv} {c:Ce} (h:zbq S S' tn zs):zbq S (S'.set tn c) tn zs:=λz hz=>by
 obtain⟨n,l,e1,e2,e3,e4⟩:=h z hz
 exact⟨n,l,e1,e2,e3,wo e4 λq=>e2 q.symm⟩
def zmq (S S':Sto) (tn:Nat) (zs:List Xv) (ai:List (List Int)):Prop:=zbq S S' tn zs/\ai.length<=61
theorem zbZ (bT:Big fu) {g:Net} {ms:List Int} (ok:VL g) (hl:ms.length=g.length) (e:wI S x g) {mn:Nat} (em:S[mn]? =some (.lst (ms.map Xv.int))):
  W (YV fu [x,.ref mn] S) λv S'=>∃(tn:Nat) (zs:List Xv) (ai:List (List Int)) (last:List Int),v= .ref tn/\S.length<=tn/\Zl wT S' tn zs ai/\Rds g ms ai/\ai[ai.length-1]? =some last/\yl g last=last/\Fz S S'/\zmq S S' tn zs ai:=by
 have hlen:=ok.len
 walk_at "wr";unfold Uo
 nofun
 have CU:ms.map Xv.int=(ms.map NK.int).map unk:=by
  rw[F3]
  refine Fp λi _=> ?_
  show Xv.int i=unk (.int i)
  rw[unk]
 rw[CU] at em
 refine (za2 (b:=true) (λk hk=> ?_) (by rw[Eb];omega) em).imp ?_
 ·obtain⟨i,_,rfl⟩:=Eh.1 hk
  exact (show ∃j,NK.int i= .int j from ⟨i,rfl⟩)
 rintro _ S1 ⟨m1,rfl,jF,jw,f1⟩
 have enum:wY (ms.map NK.int)=wY ms:=(Wv ms.length (by rw[Eb]) rfl λi j hi hj=>by
  rw[Ef,Ef,DZ hi,DZ hj]
  simp).1
 rw[enum] at jw
 refine WX ?_
 have o2:Zl wT (S1++[.lst [.ref m1]]) S1.length [.ref m1] [wY ms]:=by
  refine⟨yP,rfl,λi a ha=> ?_⟩
  cases i with
  |zero=>
   cases ha
   refine⟨_,rfl,Tj (zh ?_) (by have:=(E8.1 jw).1;omega)⟩
   rw[Ed (E8.1 jw).1]
   exact jw
  |succ i=>simp at ha
 have f2:=f1.app (T:=[.lst [.ref m1]])
 have iW:zbq S (S1++[.lst [.ref m1]]) S1.length [.ref m1]:=λz hz=>by
  rw[EG] at hz
  have qa:=(E8.1 jw).1
  exact⟨m1,_,hz,⋯,jF,by rw[Ed qa];exact jw⟩
 have k7:S.length<=S1.length:=f1.1
 generalize S1.length=tn at o2 k7 iW ⊢
 generalize S1++[.lst [.ref m1]]=S2 at o2 f2 iW ⊢
 clear jw f1 jF
 have r2:Rds g ms [wY ms]:=⟨rfl,λi a b ha hb=>by simp at hb,λa ha=>by
  rw[EG] at ha
  subst ha
  exact⟨by rw[Zo];exact hl,(Ur ms).1⟩⟩
 have step:∀(S3:Sto) (zs:List Xv) (ai:List (List Int)) (last:List Int) (a3:Option Xv) (P:Xv->Sto->Prop),Zl wT S3 tn zs ai->Fz S S3->Rds g ms ai->ai[ai.length-1]? =some last->(∀m S4,Zl wT S4 tn zs ai->Fz S S4->S4[m]? =some (.lst ((yl g last).map Xv.int))->tn<m->Fz S3 S4->P (.ref m) S4)->
   W ((zC (ZQ fu) [(ze 0),(eOp xm (ze 2) (eUn Vo (eC (.int 1))))]) [some x,some (.ref mn),some (.ref tn),a3] S3) P:=by
  intro S3 zs ai last a3 P o3 f3 r3 b6 k
  have cq:=r3.ne
  obtain⟨z,ez,hz⟩:=o3.2.2 _ _ b6
  have tI:=Vd.1 _ _ hz
  obtain⟨cn,rfl⟩:∃cn,z= .ref cn:=by cases z<;>first|exact⟨_,rfl⟩|(simp only[L2.zu,reduceCtorEq] at tI)
  nofun
  refine yv (zh o3.1) (za4 (by rw[o3.2.1];exact ez)) ?_
  nofun
  refine (ziy bT ok (r3.num _ (Ei b6)).1 (wI.mono f3.le e) tI).imp ?_
  rintro _ S4 ⟨m,rfl,hm,em,f4⟩
  have:=(E8.1 o3.1).1
  exact k m S4 (zcU o3 f4) (f3.trans f4) em ⋯ f4
 refine yW (XN (step S2 _ _ _ _ _ o2 f2 r2 rfl λm S3 o3 f3 e3 hm jI=> ?_))
 dsimp only[EW]
 refine yW (zhj ?_)
 have loop:∀(q n:Nat) (S3:Sto) (zs:List Xv) (ai:List (List Int)) (last:List Int) (m:Nat),q<n->g.length+1<=q+(fd last).length->Zl wT S3 tn zs ai->Fz S S3->Rds g ms ai->ai[ai.length-1]? =some last->ai.length<=(fd last).length+1->zbq S S3 tn zs->S3[m]? =some (.lst ((yl g last).map Xv.int))->tn<m->
   WS (US (bE (eOp (Ug true) (ze 3) (eOp xm (ze 2) (eUn Vo (eC (.int 1)))))) (zF (vt (eMt yo (ze 2) [(ze 3)])) (yc (zC (ZQ fu) [(ze 0),(eOp xm (ze 2) (eUn Vo (eC (.int 1))))]) (gN 3))) n [some x,some (.ref mn),some (.ref tn),some (.ref m)] S3)
    (λρ S'=>∃a3 zs ai last,ρ=[some x,some (.ref mn),some (.ref tn),a3]/\Zl wT S' tn zs ai/\Rds g ms ai/\ai[ai.length-1]? =some last/\yl g last=last/\Fz S S'/\zmq S S' tn zs ai) (λ_ _=>False):=by
  intro q
  induction q with
  |zero=>
   intro n S3 zs ai last m hn hq o3 f3 r3 b6 _ _ _ _
   have h1:=(r3.num _ (Ei b6)).1
   have:=Uu last
   omega
  |succ q ih=>
   intro n S3 zs ai last m hn hq o3 f3 r3 b6 jC tZ e3 hm
   have cq:=r3.ne
   obtain⟨n,rfl⟩:∃k,n=k+1:=⟨n-1,⋯⟩
   obtain⟨z,ez,hz⟩:=o3.2.2 _ _ b6
   refine zcu ?_
   nofun
   refine yv (zh o3.1) (za4 (by rw[o3.2.1];exact ez)) ?_
   refine XW (xD (zh e3)) (xD (Vd.1 _ _ hz)) rfl (XX _ _) ?_
   refine⟨_,rfl,λhc=> ?_,λhc=> ?_⟩
   ·have kl:yl g last≠last:=by simpa using hc
    obtain⟨q1,q2⟩:=r3.num _ (Ei b6)
    have u5:=zeY q1 q2 kl
    have fq:=Uu (yl g last)
    rw[Ut] at fq
    refine yW (vi (ZH ?_))
    nofun
    refine⟨⟨_,zh o3.1⟩,?_⟩
    nofun
    refine yS (xf o3.1) (zbV (by rw[o3.2.1];omega)) ?_
    have o4:=o3.push (z:= .ref m) (a:=yl g last) (Tj (zh e3) ⋯)
    have f4:Fz S (S3.set tn (.lst (zs++[.ref m]))):=f3.set k7
    have r4:Rds g ms (ai++[yl g last]):=by
     refine⟨by rw[Ed cq];exact r3.fst,λi a b ha hb=> ?_,λa ha=> ?_⟩
     ·have hi:=(E8.1 hb).1
      rw[Ew,FN] at hi
      rw[Ed ⋯] at ha
      by_cases bS:i+1<ai.length
      ·rw[Ed bS] at hb
       exact r3.nxt i a b ha hb
      ·rw[Eu ⋯,show i+1-ai.length=0 by omega] at hb
       cases hb
       rw[show ai.length-1=i by omega,ha] at b6
       cases b6
       exact⟨rfl,kl⟩
     ·rcases F5.1 ha with ha|ha
      ·exact r3.num a ha
      ·rw[EG] at ha
       subst ha
       exact⟨Ut g last,(Ur _).1⟩
    have ua:(ai++[yl g last])[(ai++[yl g last]).length-1]? =some (yl g last):=by simp
    refine XN (step _ _ _ _ _ _ o4 f4 r4 ua λm5 S5 o5 f5 e5 Bw CG=> ?_)
    dsimp only[EW]
    exact ih n S5 _ _ _ m5 ⋯ ⋯ o5 f5 r4 ua (by simp;omega) (zbq.mono (λz hz=>by
     rcases F5.1 hz with hz|hz
     ·exact tZ.set z hz
     ·rw[EG] at hz
      exact⟨m,_,hz,⋯,⋯,wo e3 ⋯⟩) CG) e5 Bw
   ·have heq:yl g last=last:=by simpa using hc
    have hb:=Uu last
    rw[(r3.num _ (Ei b6)).1] at hb
    exact⟨_,zs,ai,last,rfl,o3,r3,b6,heq,f3,tZ,⋯⟩
 rcases loop (g.length+1) fu S3 _ _ _ m (by have:=bT.le;omega) ⋯ o3 f3 r2 rfl (by simp) (iW.mono jI) e3 hm with⟨ρ,S4,eq,a3,zs,ai,last,rfl,o4,r4,h1,h2,f4,gR⟩|⟨_,_,_,z⟩
 ·refine .nx eq ?_
  nofun
  exact⟨tn,zs,ai,last,rfl,k7,o4,r4,h1,h2,f4,gR⟩
 ·exact z.elim
theorem ziz (bT:Big fu) {g:Net} {ms:List Int} (ok:VL g) (hl:ms.length=g.length) (e:wI S x g) {mn:Nat} (em:S[mn]? =some (.lst (ms.map Xv.int))):
  W (YV fu [x,.ref mn] S) λv S'=>∃(tn:Nat) (zs:List Xv) (ai:List (List Int)) (last:List Int),v= .ref tn/\S.length<=tn/\Zl wT S' tn zs ai/\Rds g ms ai/\ai[ai.length-1]? =some last/\yl g last=last/\Fz S S':=(zbZ bT ok hl e em).imp λ_ _ ⟨tn,zs,ai,last,h1,h2,h3,h4,h5,h6,h7,_⟩=>⟨tn,zs,ai,last,h1,h2,h3,h4,h5,h6,h7⟩
end
section
variable {fu:Nat} {S S' S2:Sto} {x y:Xv} {ns:List Int}
theorem zjK:∀{l:List Int},(∀w∈l,0<=w)->∀w∈l,w<=l.sum:=by
 intro l
 induction l with
 |nil=>intro _ w hw;cases hw
 |cons a r ih=>
  intro hl w hw
  have ha:=hl a (by simp)
  have hr:0<=r.sum:=by
   cases r with
   |nil=>simp
   |cons b r2=>have h5:=ih (λw hw=>hl w (by simp[hw])) b (by simp);have:=hl b (by simp);omega
  rw[Fq]
  rcases Er.1 hw with rfl|hw
  ·omega
  ·have:=ih (λw hw=>hl w (by simp[hw])) w hw
   omega
theorem ziA {s:Int} (h0:0<s) (h9:s<=9):s∣2520:=by
 have:s=1\/s=2\/s=3\/s=4\/s=5\/s=6\/s=7\/s=8\/s=9:=by omega
 rcases this with rfl|rfl|rfl|rfl|rfl|rfl|rfl|rfl|rfl<;>decide
theorem Ups.sh {aq:List (List Int)} {whole:Int} {ws:List (Int×Int)} {ups:List (Int×Q2)} (hw:0<whole) (h:Ups aq whole ws ups) (eI:∀w∈ws,0<w.2/\w.2<=whole):∀p∈ups,SH (whole*2520) p.2:=by
 induction h with
 |nil=>intro p hp;cases hp
 | @snoc ws ups to wt hs sp _ h0 h1 h2 h3 h4 h5 ih=>
  intro p hp
  rcases F5.1 hp with hp|hp
  ·exact ih (λw hw=>eI w (GA _ hw)) p hp
  ·obtain⟨_,w,tK,pH,e⟩:=Up hp
   obtain⟨t1,t2⟩:=eI (to,wt) (by simp)
   have t1:0<wt:=t1
   have t2:wt<=whole:=t2
   have gE:=zaT h4
   have pG:=h4 w tK
   have iR:w<=sp.sum:=zjK (λw hw=>(h4 w hw).1) w tK
   have hb:0<whole*sp.sum:=GL hw h5
   rw[e]
   refine⟨zid hb ?_ ?_,?_⟩
   ·obtain⟨k,hk⟩:=ziA h5 ⋯
    refine⟨k*(wt*w),?_⟩
    rw[hk,Fi whole,Fi whole,Fi sp.sum]
   ·have h6:0<=wt*w:=Ha ⋯ ⋯
    have h7:wt*w<=whole*sp.sum:=HX (FL t2 ⋯) (Gc iR ⋯)
    omega
   ·rw[zfy hb,Hf]
    refine Rat.mul_pos (by exact_mod_cast GL t1 pH) ?_
    rw[Rat.inv_pos]
    exact_mod_cast hb
theorem Ups.empty {aq:List (List Int)} {whole:Int} {ws:List (Int×Int)} {ups:List (Int×Q2)} (h:Ups aq whole ws ups):ws=[]->ups=[]:=by
 cases h with
 |nil=>intro _;rfl
 |snoc=>intro z;simp at z
theorem vL.ok {c:Int} {aq:List (List Int)} {s:Wx} {ch:Ch} (ho:zgw ns c aq) (h0:0<=c) (h4:c<=4) (iM:zlo c s) (h:vL aq s ch):zd6 aq.flatten.length ch:=by
 obtain⟨_,u,hu,pu⟩:=h
 have lP:zeW c s.2.2:=⟨iM.nd,iM.wt⟩
 obtain⟨w1,w2,w3⟩:=zfB lP h0 h4
 have hlen:=hu.len
 have iR:=lP.len h0
 refine⟨?_,λp hp=> ?_,by rw[pu.length_eq];omega⟩
 ·by_cases hz:s.2.2=[]
  ·rw[hu.empty hz] at pu
   rw[pu.eq_nil]
   exact⟨1,∅,ww.mono (n:=1) (by unfold ww;decide) ∅,λp hp=>by cases hp⟩
  ·have eS:0<Ve s.2.2:=by
    cases hs:s.2.2 with
    |nil=>exact (hz hs).elim
    |cons w r=>
     have hm:w∈s.2.2:=by rw[hs];exact Em ..
     have:=w3 w hm
     have:=(iM.wt w hm).2
     rw[<-hs]
     omega
   have DU:(2:Nat)^22=4194304:=by decide
   have Ck:ww 22 (Ve s.2.2*2520):=by unfold ww;omega
   refine⟨Ve s.2.2*2520,⋯,Ck.mono ∅,λp hp=> ?_⟩
   exact hu.sh eS (λw hw=>⟨(iM.wt w hw).2.1,w3 w hw⟩) p (pu.mem_iff.1 hp)
 ·obtain⟨w,_,hs,_,e,hm⟩:=hu.from p (pu.mem_iff.1 hp)
  have hf:=ho.flat
  have aw:p.1∈aq.flatten:=Jp.2 ⟨hs,Ei e,hm⟩
  rw[hf] at aw
  obtain⟨k,hk,e2⟩:=Eh.1 aw
  have:=Fb.1 hk
  have:=YX (ns:=ns) (c:=(aq.flatten.length:Int)) (p:=(k:Int)) ⋯
  rw[e2] at this
  exact this
end
section
variable {fu:Nat} {S S' S2:Sto} {x y:Xv} {ns:List Int}
theorem zjL {ρ:Rho} {aq:List (List Int)} (hρ:ρ[2]? =some (some y)) (h:LAt wT S y aq) (hl:aq.length<=4) {P:Xv->Sto->Prop} (k:∀S',Fz S S'->P (.int aq.flatten.length) S'):
  W (eFn zae [(wu [none] (iL (ze 2)) (gN 0) wR (eFn WU [(ze 0)]))] ρ S) P:=by
 obtain⟨l,el,ll,hh⟩:=h
 refine zhf (vh (xQ (vH (Zw hρ ?_))))
 refine⟨_,el,_,el,?_⟩
 refine xc (by rw[ll];exact EL (Zb ⋯)) (λi es S1=>S=S1/\es=((aq.take i).map λh=>(h.length:Int)).map Xv.int) ?_ ?_ ⟨rfl,rfl⟩ ?_
 ·rintro i es _ _ ⟨rfl,_⟩
  exact el
 ·rintro i w es _ hw ft ⟨rfl,rfl⟩
  have hi:i<aq.length:=by rw[<-ll];exact (E8.1 hw).1
  obtain⟨z,e1,e2⟩:=hh i _ (DZ hi)
  rw[hw] at e1
  cases e1
  refine .of rfl ?_
  dsimp only[Ys,Ga,EW]
  nofun
  refine⟨rfl,?_⟩
  nofun
  refine Xi e2 ?_
  refine⟨rfl,?_⟩
  rw[zL (DZ hi),EI,EI,Eb]
  rfl
 ·rintro es _ ef ⟨rfl,rfl⟩
  rw[ll,F0]
  nofun
  refine VH yk ?_
  have:(aq.map λh=>(h.length:Int)).sum=aq.flatten.length:=by
   clear hh ll el hl ef k
   induction aq with
   |nil=>rfl
   |cons a r ih=>rw[Eg,Fq,ih,J9,Ew];omega
  rw[this]
  exact k _ Fz.refl.app
theorem Ze {S S':Sto} {z:Xv} {a:List Ch} (p:Le S S') (h:LAt xF S z a):LAt xF S' z a:=LAt.mono (λ_ _ h=>xF.mono p h) p h
theorem ziB {c:Int} {aq:List (List Int)} (ho:zgw ns c aq) {u:Int} (h:u∈aq.flatten):0<=u/\u<aq.flatten.length:=by
 have hf:=ho.flat
 rw[hf] at h
 obtain⟨k,hk,e⟩:=Eh.1 h
 have:=Fb.1 hk
 have:=YX (ns:=ns) (c:=(aq.flatten.length:Int)) (p:=(k:Int)) ⋯
 rw[e] at this
 exact this
end
section
variable {fu:Nat} {S S' S2:Sto} {x y:Xv} {ns:List Int}
def zmr (g:Net):Prop:=∀chs∈g,∀c∈chs,0<c.1.2
def Vg (k:Nat) (S:Sto) (n:Nat) (l:List Xv) (chs:List Ch):Prop:=S[n]? =some (.lst l)/\l.length=chs.length/\∀(j:Nat) c,chs[j]? =some c->∃z,l[j]? =some z/\xF (Zc S k) z c
theorem Vg.to {k n:Nat} {l:List Xv} {chs:List Ch} (h:Vg k S n l chs) (e:S'[n]? =some (.lst l)) (p:Le (Zc S k) (Zc S' k)):Vg k S' n l chs:=
 ⟨e,h.2.1,λj c hc=>by obtain⟨z,e1,e2⟩:=h.2.2 j c hc;exact⟨z,e1,e2.mono p⟩⟩
theorem Vg.push {k n:Nat} {l:List Xv} {chs:List Ch} {z:Xv} {c:Ch} (h:Vg k S n l chs) (hz:xF (Zc S k) z c) (hn:n<k):Vg k (S.set n (.lst (l++[z]))) n (l++[z]) (chs++[c]):=by
 have p:Le (Zc S k) (Zc (S.set n (.lst (l++[z]))) k):=Tk λm d hm e=> .inl (by rw[Yn,if_neg ⋯,Ex,if_neg ⋯];exact e)
 refine⟨Za h.1,by simp[h.2.1],λj b hb=> ?_⟩
 by_cases hj:j<chs.length
 ·rw[Ed hj] at hb
  obtain⟨y,e1,e2⟩:=h.2.2 j b hb
  exact⟨y,by rw[Ed (by rw[h.2.1];exact hj)];exact e1,e2.mono p⟩
 ·rw[Eu ⋯] at hb
  have:j-chs.length=0:=by
   have:=(E8.1 hb).1
   simpa using this
  rw[this] at hb
  cases hb
  exact⟨z,by rw[Eu (by rw[h.2.1];omega),h.2.1,this];rfl,hz.mono p⟩
theorem Vg.at {k n:Nat} {l:List Xv} {chs:List Ch} (h:Vg k S n l chs):LAt xF S (.ref n) chs:=⟨l,zh h.1,h.2.1,λi a ha=>by
 obtain⟨z,e1,e2⟩:=h.2.2 i a ha
 exact⟨z,e1,e2.mono Zm⟩⟩
structure Nd (b nn k:Nat) (S:Sto) (zs:List Xv) (g:Net):Prop where
 net:S[nn]? =some (.lst zs)
 lz:zs.length=g.length
 lo:b+g.length<=nn
 hi:nn<k
 nod:∀(i:Nat) chs,g[i]? =some chs->∃n l,zs[i]? =some (.ref n)/\(n=b+i\/k<=n)/\Vg k S n l chs
section
variable {b nn k:Nat} {zs:List Xv} {g:Net}
theorem Nd.mono (h:Nd b nn k S zs g) (p:Fz S S'):Nd b nn k S' zs g:=⟨p.lst h.net,h.lz,h.lo,h.hi,λi chs e=>by
 obtain⟨n,l,e1,e2,o⟩:=h.nod i chs e
 exact⟨n,l,e1,e2,o.to (p.lst o.1) (xB p (Ek _))⟩⟩
theorem Uv {n:Nat} {c:Ce} (hn:n<k):Le (Zc S k) (Zc (S.set n c) k):=Tk λm d hm e=> .inl (by rw[Yn,if_neg ⋯,Ex,if_neg ⋯];exact e)
theorem Nd.oth {n:Nat} {c:Ce} (h:Nd b nn k S zs g) (h1:nn<n) (h2:n<k):Nd b nn k (S.set n c) zs g:=⟨wo h.net ⋯,h.lz,h.lo,h.hi,λi chs e=>by
 obtain⟨m,l,e1,e2,o⟩:=h.nod i chs e
 have hi:=(E8.1 e).1
 have:=h.lo
 exact⟨m,l,e1,e2,o.to (wo o.1 ⋯) (Uv h2)⟩⟩
theorem Nd.push {u:Nat} {l:List Xv} {chs:List Ch} {z:Xv} {c:Ch} (h:Nd b nn k S zs g) (hu:zs[u]? =some (.ref (b+u))) (hg:g[u]? =some chs) (hl:S[b+u]? =some (.lst l)) (hz:xF (Zc S k) z c):Nd b nn k (S.set (b+u) (.lst (l++[z]))) zs (g.set u (chs++[c])):=by
 have fP:=(E8.1 hg).1
 have qd:=h.lo
 have qo:=h.hi
 refine⟨wo h.net ⋯,by rw[F9];exact h.lz,by rw[F9];exact h.lo,h.hi,λi chs' e=> ?_⟩
 rw[Ex] at e
 split at e
 ·rename_i q
  subst q
  have e:some (chs++[c])=some chs':=by first|exact e|(rw[if_pos fP] at e;exact e)
  cases e
  obtain⟨m,l',e1,e2,o⟩:=h.nod u chs hg
  rw[hu] at e1
  cases e1
  obtain⟨o1,o2,o3⟩:=o
  rw[hl] at o1
  cases o1
  exact⟨_,_,hu,.inl rfl,Vg.push ⟨hl,o2,o3⟩ hz ⋯⟩
 ·rename_i q
  obtain⟨m,l',e1,e2,o⟩:=h.nod i chs' e
  have hi:=(E8.1 e).1
  exact⟨m,l',e1,e2,o.to (wo o.1 ⋯) (Uv ⋯)⟩
theorem Nd.put {u m:Nat} {l:List Xv} {chs:List Ch} (h:Nd b nn k S zs g) (hu:u<g.length) (hm:k<=m) (o:Vg k S m l chs):Nd b nn k (S.set nn (.lst (zs.set u (.ref m)))) (zs.set u (.ref m)) (g.set u chs):=by
 have qd:=h.lo
 have qo:=h.hi
 refine⟨Za h.net,by rw[F9,F9];exact h.lz,by rw[F9];exact h.lo,h.hi,λi chs' e=> ?_⟩
 rw[Ex] at e ⊢
 split at e
 ·rename_i q
  subst q
  have e:some chs=some chs':=by first|exact e|(rw[if_pos hu] at e;exact e)
  cases e
  exact⟨m,l,by rw[if_pos rfl,if_pos (by rw[h.lz];exact hu)],.inr hm,o.to (wo o.1 ⋯) (Uv qo)⟩
 ·rename_i q
  obtain⟨m',l',e1,e2,o'⟩:=h.nod i chs' e
  have hi:=(E8.1 e).1
  exact⟨m',l',by rw[if_neg q];exact e1,e2,o'.to (wo o'.1 ⋯) (Uv qo)⟩
theorem Nd.at (h:Nd b nn k S zs g):wI S (.ref nn) g:=⟨zs,zh h.net,h.lz,λi chs e=>by
 obtain⟨n,l,e1,_,o⟩:=h.nod i chs e
 exact⟨_,e1,o.at⟩⟩
end
theorem zfG {ρ:Rho} {i:Nat} {N:Nat} {P:Xv->Sto->Prop} (hρ:ρ[i]? =some (some (.int N))) (hN:N<=60) (k:∀S' zs,Fz S S'->S'.length=S.length+N+1->(∀k',S.length+N<k'->Nd S.length (S.length+N) k' S' zs (F4 N []))->(∀i,i<N->zs[i]? =some (.ref (S.length+i)))->P (.ref (S.length+N)) S'):
  W (wu [none] (iR1 (ze i)) (gN 0) wR (Zr []) ρ S) P:=by
 refine xQ (XQ (Zw hρ ?_))
 refine⟨_,rfl,⟨⋯,⋯⟩,_,rfl,?_⟩
 refine xc (by rw[yu];exact EL (Zb ⋯)) (λi es S4=>S4=S++F4 i (.lst [])/\es=(F7 i).map λj=> .ref (S.length+j)) (λ_ _ _ _ _=>rfl) ?_ ⟨by simp,rfl⟩ ?_
 ·rintro i w es _ hw ft ⟨rfl,rfl⟩
  refine .of rfl ?_
  dsimp only[Ys,Ga,EW]
  walk_at "z"
  refine⟨rfl,?_⟩
  walk_at "z"
  refine⟨by rw[IM,Gn],?_⟩
  rw[Ip,EI,Ew,IC]
  rfl
 rintro es _ hl ⟨rfl,rfl⟩
 rw[yu,show (N:Int).toNat=N by omega]
 have hlen:(S++F4 N (Ce.lst [])).length=S.length+N:=by simp
 have dB:∀i,i<N->(((F7 N).map λj=>Xv.ref (S.length+j)))[i]? =some (.ref (S.length+i)):=λi hi=>by
  rw[Ef,Hu hi]
  rfl
 rw[hlen]
 refine k _ _ (Fz.refl.app.app) (by simp;omega) (λk' hk=>⟨?_,by simp,by simp,hk,λi chs e=> ?_⟩) dB
 ·rw[<-hlen];exact yP
 ·have hi:i<N:=by have:=(E8.1 e).1;simpa using this
  rw[FX,if_pos hi] at e
  cases e
  refine⟨S.length+i,[],dB i hi,.inl rfl,?_,rfl,λj c hc=>by simp at hc⟩
  rw[Ed ⋯,Eu ⋯,Ih,FX,if_pos hi]
end
section
variable {fu:Nat} {S S' S0:Sto} {x y:Xv} {ns:List Int}
theorem Nd.cell {b nn k u:Nat} {zs:List Xv} {g:Net} {chs:List Ch} (h:Nd b nn k S zs g) (hu:zs[u]? =some (.ref (b+u))) (hg:g[u]? =some chs):∃l,Vg k S (b+u) l chs:=by
 obtain⟨n,l,e1,_,o⟩:=h.nod u chs hg
 rw[hu] at e1
 cases e1
 exact⟨l,o⟩
theorem Vg.rev {k n:Nat} {l:List Xv} {chs:List Ch} (h:Vg k S n l chs) (hk:k<=S.length):Vg k (S++[.lst l.reverse]) S.length l.reverse chs.reverse:=by
 refine⟨yP,by rw[G1,G1];exact h.2.1,λi ch hc=> ?_⟩
 have hi:i<chs.length:=by
  have:=(E8.1 hc).1
  rwa [G1] at this
 rw[Hk hi] at hc
 obtain⟨z,r1,r2⟩:=h.2.2 _ _ hc
 refine⟨z,?_,r2.mono (xB Fz.refl.app (Ek _))⟩
 rw[Hk (by rw[h.2.1];exact hi),h.2.1]
 exact r1
theorem zlw (bT:Big fu) {c cl:Int} {tab:List (List Wx)} {aq:List (List Int)} {nn mn k i un:Nat} {u:Int} {zs:List Xv} {g:Net} {ms:List Int} {a1 a2:Xv} {a3 a8 fh fg fe:Option Xv} {N:Rho->Sto->Prop} {R:Xv->Sto->Prop}
  (hs:L2.zu S0 (.ref 0)=some (ns.map Xv.int)) (ht:LAt zaS S0 a1 tab) (hh:LAt wT S0 a2 aq) (ho:zgw ns c aq) (tok:∀b∈tab,zjz c b) (h0:0<=c) (h4:c<=4) (jC:(tab.length:Int)=c) (hi:i<tab.length)
  (f0:Fz S0 S) (d:Nd S0.length nn k S zs g) (em:S[mn]? =some (.lst (ms.map Xv.int))) (pW:nn<mn) (Bu:mn<k) (hk:k<=S.length) (lm:ms.length=g.length) (hu:u=(un:Int)) (fP:un<g.length) (hz:zs[un]? =some (.ref (S0.length+un))) (hg:g[un]? =some [])
  (kk:∀S' zs' chs mk fh fg fe,Nd S0.length nn k S' zs' (g.set un chs)->(∀j,j≠un->zs'[j]? =zs[j]?)->chs.length<=4->(∀ch∈chs,∃b∈tab,∃s∈b,vL aq s ch)->S'[mn]? =some (.lst ((ms.set un mk).map Xv.int))->Fz S0 S'->k<=S'.length->N [some (.ref 0),some a1,some a2,a3,some (.ref nn),some (.ref mn),some (.int cl),some (.int i),a8,some (.int u),fh,fg,fe] S'):
  WS (zF (yc (eOp xm (Zr [(eC (.int 0)),(eC (.int 7)),(eUn Vo (eOp Xe (ze 6) (eOp zes (eC (.int 10)) (eC (.int 60)))))]) (zC (zx fu) [(eOp vx (ze 6) (eOp ZG (ze 7) (ze 7))),(eC (.int 40009)),(eC (.int 3))])) (WQ (ze 5) (ze 9))) (zF (Yr (iL (eUn Ui (eOp xm (ze 1) (ze 7)))) (gN 10) (zF (yc (Vr (eOp xm (ze 1) (ze 7)) (ze 10)) (gL 2 (yh (gN 11) (yh (gN 12) vN)))) (zF (vt (eMt yo (eOp xm (ze 4) (ze 9)) [(vD [(ze 11),(zC (xq fu) [(ze 0),(ze 9),(ze 12),(ze 2)])])])) (sIf (bE (eOp zbe (zC (zx fu) [(eOp vx (ze 6) (ze 9)),(eC (.int 60013)),(eC (.int 3))]) (eC (.int 0)))) (vt (eMt yo (eOp xm (ze 4) (ze 9)) [(vD [(ze 11),(zC (xq fu) [(ze 0),(eOp vx (ze 9) (eC (.int 1))),(ze 12),(ze 2)])])])) xG)))) (sIf (bE (eOp zbe (zC (zx fu) [(eOp vx (ze 6) (ze 9)),(eC (.int 30011)),(eC (.int 2))]) (eC (.int 1)))) (yc (eUn YO (eOp xm (ze 4) (ze 9))) (WQ (ze 4) (ze 9))) xG))
   [some (.ref 0),some a1,some a2,a3,some (.ref nn),some (.ref mn),some (.int cl),some (.int i),a8,some (.int u),fh,fg,fe] S) N R:=by
 have qd:=d.lo
 have j9:∀{l:List Xv},l.length=g.length->ixN l.length u=some un:=λ{l} hl=>by
  unfold ixN
  rw[hl,if_pos ⋯,if_pos ⋯]
  congr 1
  omega
 have iQ:∀{zs:List Xv} {z:Xv},zs[un]? =some z->atI zs u=some z:=λ{zs z} h=>wm ⋯ (by rw[show u.toNat=un by omega];exact h)
 refine yW (zan ?_)
 walk_at "z"
 refine vj (VG ⋯ ⋯) ?_
 walk_at "z"
 obtain⟨m0,m1⟩:=ZN (n:=cl+(i:Int)*(i:Int)) (p:=40009) (q:=3) ∅
 obtain⟨mk,Bs⟩:∃mk,atI [Xv.int 0,.int 7,.int (-(cl % 10^FZ 60))] (wV (cl+(i:Int)*(i:Int)) 40009 3)=some (.int mk):=by
  have:(wV (cl+(i:Int)*(i:Int)) 40009 3).toNat=0\/(wV (cl+(i:Int)*(i:Int)) 40009 3).toNat=1\/(wV (cl+(i:Int)*(i:Int)) 40009 3).toNat=2:=by omega
  rcases this with h|h|h
  ·exact⟨_,wm m0 (by rw[h];rfl)⟩
  ·exact⟨_,wm m0 (by rw[h];rfl)⟩
  ·exact⟨_,wm m0 (by rw[h];rfl)⟩
 refine yv yk Bs ?_
 walk_at "z"
 have f1:Fz S (S++[Ce.lst [.int 0,.int 7,.int (-(cl % 10^FZ 60))]]):=Fz.refl.app
 generalize S++[Ce.lst [.int 0,.int 7,.int (-(cl % 10^FZ 60))]]=S1 at f1 ⊢
 refine⟨mn,_,u,un,xf (f1.lst em),rfl,j9 (by rw[Eb];exact lm),?_⟩
 have uG:(S1.set mn (.lst ((ms.map Xv.int).set un (.int mk))))[mn]? =some (.lst ((ms.set un mk).map Xv.int)):=by rw[Za (f1.lst em),JM]
 have d2:=(d.mono f1).oth (c:= .lst ((ms.map Xv.int).set un (.int mk))) pW Bu
 have f2:Fz S0 (S1.set mn (.lst ((ms.map Xv.int).set un (.int mk)))):=(f0.trans f1).set ⋯
 have ud:k<=(S1.set mn (.lst ((ms.map Xv.int).set un (.int mk)))).length:=by rw[F9];have:=f1.1;omega
 generalize S1.set mn (.lst ((ms.map Xv.int).set un (.int mk)))=S2 at uG d2 f2 ud ⊢
 clear f1 em d f0
 obtain⟨tl,kW,lU,pN⟩:=ht
 obtain⟨tz,CM,ur⟩:=pN i _ (DZ hi)
 have qB:=Eo hi
 have lN:=tok _ qB
 generalize tab[i]=b at qB lN ur
 have uE:atI tl (i:Int)=some tz:=wm (k:=(i:Int)) ⋯ (by rw[Fh];exact CM)
 have iE:b.length<=2:=by
  have:=zaR 2 (b.map (·.1)) lN.nd λx hx=>by
   obtain⟨s,hs,rfl⟩:=Eh.1 hx
   exact (lN.all s hs).key
  rwa [Eb] at this
 obtain⟨n,kvs,e1,e2,e3⟩:=ur
 have eT:kvs.map (·.1)=(b.map (·.1)).map F6:=zbX (f:=(·.1)) e2 λi s hs=>by obtain⟨kv,q1,q2⟩:=e3 i s hs;exact⟨kv,q1,q2.1⟩
 refine yW (wk (vH ?_))
 walk_at "z"
 refine yv (f2.lstAt kW) uE ?_
 walk_at "z"
 refine zia (f2.drAt e1) (zaV eT) (by rw[Eb];omega) ?_
 have gE:(yQ (b.map (·.1))).reverse.length=b.length:=by rw[G1,Wm,Eb]
 have tQ:∀q∈(yQ (b.map (·.1))).reverse,q∈b.map (·.1):=λq hq=>(vS _).mem_iff.1 (Jq.1 hq)
 generalize (yQ (b.map (·.1))).reverse=sl at gE tQ ⊢
 have f3:Fz S2 (S2++[Ce.lst (sl.map Xv.int)]):=Fz.refl.app
 have es:(S2++[Ce.lst (sl.map Xv.int)])[S2.length]? =some (.lst (sl.map Xv.int)):=yP
 have tP:k<=S2.length:=ud
 generalize S2.length=sn at es tP ⊢
 generalize S2++[Ce.lst (sl.map Xv.int)]=S3 at f3 es ⊢
 refine⟨_,zh es,_,zh es,?_⟩
 have BR:g.set un []=g:=by
  obtain⟨p1,p2⟩:=E8.1 hg
  rw[<-p2]
  exact Hl p1
 refine yY (xs:=sl.map Xv.int) (λj ρ S4=>∃fh fg fe chs,ρ=[some (.ref 0),some a1,some a2,a3,some (.ref nn),some (.ref mn),some (.int cl),some (.int i),a8,some (.int u),fh,fg,fe]/\Nd S0.length nn k S4 zs (g.set un chs)/\S4[mn]? =some (.lst ((ms.set un mk).map Xv.int))/\S4[sn]? =some (.lst (sl.map Xv.int))/\Fz S0 S4/\k<=S4.length/\(∀ch∈chs,∃s∈b,vL aq s ch)/\chs.length<=2*j) ?_ ?_ ?_ ?_
 ·rintro j ρ S4 _ ⟨_,_,_,_,_,_,_,e,_⟩
  exact zh e
 ·rintro j w ρ S4 hx ⟨fh,fg,fe,chs,rfl,d4,fT,mH,f4,jG,c1,c2⟩
  obtain⟨kq,ek,rfl⟩:=wH hx
  have hj:j<2:=by have:=(E8.1 ek).1;omega
  obtain⟨s,eJ,rfl⟩:=Eh.1 (tQ kq (Ei ek))
  have iM:=lN.all s eJ
  obtain⟨si,CO⟩:=Fj eJ
  obtain⟨kv,q1,q2,pn,wn,q3,q4,q5⟩:=e3 si s CO
  have hv:=ziq (zlt lN.nd eT) (Ei q1)
  rw[q2,q3] at hv
  refine .of rfl ?_
  dsimp only[EW]
  refine yW (zct (zal ?_))
  walk_at "z"
  refine yv (f4.lstAt kW) uE ?_
  walk_at "z"
  refine⟨n,kvs,.inl s.1,_,f4.drAt e1,rfl,hv,?_⟩
  refine zls (f4.lstAt q4) ?_
  dsimp only[EW]
  have lP:zeW c s.2.2:=⟨iM.nd,iM.wt⟩
  have one:∀(S4:Sto) (chs:List Ch) (nd:Int) (P:Xv->Sto->Prop),0<=nd->Nd S0.length nn k S4 zs (g.set un chs)->S4[mn]? =some (.lst ((ms.set un mk).map Xv.int))->S4[sn]? =some (.lst (sl.map Xv.int))->Fz S0 S4->k<=S4.length->chs.length<=60->
    (∀S5 ch,Nd S0.length nn k S5 zs (g.set un (chs++[ch]))->S5[mn]? =some (.lst ((ms.set un mk).map Xv.int))->S5[sn]? =some (.lst (sl.map Xv.int))->Fz S0 S5->k<=S5.length->vL aq s ch->P .non S5)->
    W (xq fu [.ref 0,.int nd,.ref wn,a2] S4) λd S5=>WO (yo (.ref (S0.length+un)) [.tup [qv s.2.1,d]] S5) P:=by
   intro S4 chs nd P fR d4 fT mH f4 jG l4 k5
   refine (zjE bT (f4.lstAt hs) (f4.drAt q5) lP (HmsAt.mono f4.le hh) ho h0 h4 fR).imp ?_
   rintro _ S5 ⟨m,ps,ups,rfl,hm,hZ,B9,hp,f5⟩
   have d5:=d4.mono f5
   have je:(g.set un chs)[un]? =some chs:=by rw[Ex,if_pos rfl,if_pos fP]
   obtain⟨l5,o5⟩:=d5.cell hz je
   refine yS (xf o5.1) (Zb (by rw[o5.2.1];omega)) ?_
   have d6:=d5.push (z:= .tup [qv s.2.1,.ref m]) (c:=(s.2.1,ps)) hz je o5.1 ⟨m,rfl,vK (zh hZ) ⋯⟩
   rw[J1] at d6
   refine k5 _ _ d6 (wo (f5.lst fT) ⋯) (wo (f5.lst mH) ⋯) ((f4.trans f5).set ⋯) (by rw[F9];have:=f5.1;omega) ⟨rfl,ups,B9,hp⟩
  refine yW (vi (ZH ?_))
  walk_at "z"
  refine yv (zh d4.net) (iQ hz) ?_
  obtain⟨l4,o4⟩:=d4.cell (chs:=chs) hz (by rw[Ex,if_pos rfl,if_pos fP])
  refine⟨⟨_,zh o4.1⟩,?_⟩
  walk_at "z"
  refine (one S4 chs u _ ⋯ d4 fT mH f4 jG ⋯ λS5 ch d5 hZ uF f5 iy p5=> ?_).imp λ_ _ hd=>WX (WX hd)
  have s5:∀c'∈chs++[ch],∃s∈b,vL aq s c':=λc' hc=>by
   rcases F5.1 hc with hc|hc
   ·exact c1 c' hc
   ·rw[EG] at hc
    exact⟨s,eJ,hc ▸ p5⟩
  refine wC ?_
  walk_at "z"
  refine Zz (λ_=> ?_) (λ_=> ?_)
  ·refine vi (ZH ?_)
   walk_at "z"
   refine yv (zh d5.net) (iQ hz) ?_
   obtain⟨l5,o5⟩:=d5.cell (chs:=chs++[ch]) hz (by rw[Ex,if_pos rfl,if_pos fP])
   refine⟨⟨_,zh o5.1⟩,?_⟩
   walk_at "z"
   refine (one S5 (chs++[ch]) (u+1) _ ⋯ d5 hZ uF f5 iy (by rw[Ew];simp;omega) λS6 DY d6 lj CP f6 me p6=> ?_).imp λ_ _ hd=>WX (WX hd)
   refine⟨_,_,_,_,rfl,d6,lj,CP,f6,me,λc' hc=> ?_,by simp;omega⟩
   rcases F5.1 hc with hc|hc
   ·exact s5 c' hc
   ·rw[EG] at hc
    exact⟨s,eJ,hc ▸ p6⟩
  ·walk_at "z"
   exact⟨_,_,_,_,rfl,d5,hZ,uF,f5,iy,s5,by simp;omega⟩
 ·exact⟨_,_,_,[],rfl,by rw[BR];exact d2.mono f3,f3.lst uG,es,f2.trans f3,by have:=f3.1;omega,by simp,by simp⟩
 ·rintro ρ S4 ⟨fh,fg,fe,chs,rfl,d4,fT,mH,f4,jG,c1,c2⟩
  rw[Eb,gE] at c2
  have c3:∀ch∈chs,∃b∈tab,∃s∈b,vL aq s ch:=λch hc=>⟨b,qB,c1 ch hc⟩
  refine wC ?_
  walk_at "z"
  refine Zz (λ_=> ?_) (λ_=> ?_)
  ·refine zan ?_
   walk_at "z"
   refine yv (zh d4.net) (iQ hz) ?_
   walk_at "z"
   obtain⟨l4,o4⟩:=d4.cell (chs:=chs) hz (by rw[Ex,if_pos rfl,if_pos fP])
   refine WO.of (show YO (.ref (S0.length+un)) S4=some (.ref S4.length,S4++[.lst l4.reverse]) from ?_) ?_
   ·unfold YO
    rw[zh o4.1]
    rfl
   have f5:Fz S4 (S4++[.lst l4.reverse]):=Fz.refl.app
   have d5:=(d4.mono f5).put (u:=un) (by rw[F9];exact fP) jG (o4.rev jG)
   rw[J1] at d5
   walk_at "z"
   refine⟨nn,zs,u,un,xf (f5.lst d4.net),rfl,j9 (by rw[d4.lz,F9]),?_⟩
   exact kk _ _ _ mk _ _ _ d5 (λj hj=>by rw[Ex,if_neg (λz=>hj z.symm)]) (by rw[G1];omega) (λch hc=>c3 ch (Jq.1 hc)) (wo (f5.lst fT) ⋯) ((f4.trans f5).set ⋯) (by rw[F9];have:=f5.1;omega)
  ·walk_at "z"
   exact kk _ _ _ mk _ _ _ d4 (λ_ _=>rfl) ⋯ c3 fT f4 jG
end
section
variable {fu:Nat} {S S' S0:Sto} {x y:Xv} {ns:List Int}
theorem zfH {ρ:Rho} {i N:Nat} {v:Int} {P:Xv->Sto->Prop} (hρ:ρ[i]? =some (some (.int N))) (hN:N<=60) (k:P (.ref S.length) (S++[.lst ((F4 N v).map Xv.int)])):
  W (wu [none] (iR1 (ze i)) (gN 0) wR (eC (.int v)) ρ S) P:=by
 refine xQ (XQ (Zw hρ ?_))
 refine⟨_,rfl,⟨⋯,⋯⟩,_,rfl,?_⟩
 refine xc (by rw[yu];exact EL (Zb ⋯)) (λi es S6=>S=S6/\es=(F4 i v).map Xv.int) (λ_ _ _ _ _=>rfl) ?_ ⟨rfl,rfl⟩ ?_
 ·rintro i w es _ hw ft ⟨rfl,rfl⟩
  refine .of rfl ?_
  dsimp only[Ys,Ga,EW]
  walk_at "z"
  refine⟨rfl,?_⟩
  walk_at "z"
  exact⟨rfl,by rw[IM,EI];rfl⟩
 rintro es _ _ ⟨rfl,rfl⟩
 rw[yu,show (N:Int).toNat=N by omega]
 exact k
def Toc (aq:List (List Int)) (i j:Nat) (u:Nat):Prop:=∃(i' j':Nat) (dw:List Int),aq[i']? =some dw/\dw[j']? =some (u:Int)/\(i<i'\/(i=i'/\j<=j'))
theorem zjM (bT:Big fu) {τ:List Kd} (hT:∀c,Ty c 2 0 τ S) (h0:τ[0]? =some (.frz (ns.map Xv.int))):W (YE fu [.ref 0] S) λv S'=>∃(nn mn:Nat) (g:Net) (ms:List Int),v= .tup [.ref nn,.ref mn]/\wI S' (.ref nn) g/\S'[mn]? =some (.lst (ms.map Xv.int))/\VL g/\zmr g/\ms.length=g.length/\0<g.length/\L2.zu S' (.ref 0)=some (ns.map Xv.int):=by
 walk_at "wr";unfold YD
 walk_at "z"
 refine (zij bT hT h0).imp ?_
 rintro a1 S1 ⟨c,tab,c0,c4,gD,jC,tok,fD⟩
 walk_at "z"
 obtain⟨tl,kW,lU,_⟩:=id gD
 refine Xi kW ?_
 walk_at "z"
 have eO:(tl.length:Int)=c:=by omega
 rw[eO]
 refine (zjB fD c0 c4).imp ?_
 rintro a2 S2 ⟨aq,qp,ho,f2⟩
 have g7:=f2.lstAt fD
 have iT:LAt zaS S2 a1 tab:=LAt.mono (λ_ _ h=>zaS.mono f2.le h) f2.le gD
 clear gD fD kW lU f2
 have eY:=ho.len
 have iS:=ho.tot
 refine yW (XN (zjL (y:=a2) rfl qp ⋯ λS3 f3=> ?_))
 dsimp only[EW]
 have pO:=f3.lstAt g7
 have Bc:LAt zaS S3 a1 tab:=LAt.mono (λ_ _ h=>zaS.mono f3.le h) f3.le iT
 have mo:=HmsAt.mono f3.le qp
 clear g7 iT qp f3
 have eS:0<aq.flatten.length:=by
  cases aq with
  |nil=>simp at eY;omega
  |cons h r=>have:=(ho.each h (by simp)).1;simp;omega
 have fR:=zcX (zd3 ho)
 have fj:∀{i:Nat} {hs:List Int} {u:Int},aq[i]? =some hs->u∈hs->0<=u/\u<aq.flatten.length:=λ{i hs u} e hu=>ziB ho (Jp.2 ⟨hs,Ei e,hu⟩)
 generalize hN:aq.flatten.length=N at iS eS fj ⊢
 refine yW (XN (zfG (i:=3) rfl ⋯ λS4 uU f4 l4 iX jY=> ?_))
 dsimp only[EW]
 refine yW (XN (zfH (i:=3) rfl ⋯ ?_))
 dsimp only[EW]
 have n5:=(iX (S4.length+1) ⋯).mono (Fz.refl.app (T:=[.lst ((F4 N (0:Int)).map Xv.int)]))
 have hZ:(S4++[.lst ((F4 N (0:Int)).map Xv.int)])[S4.length]? =some (.lst ((F4 N (0:Int)).map Xv.int)):=yP
 have f5:Fz S3 (S4++[.lst ((F4 N (0:Int)).map Xv.int)]):=f4.app
 have iy:S4.length+1<=(S4++[Ce.lst ((F4 N (0:Int)).map Xv.int)]).length:=by simp
 have Bo:S3.length+N<S4.length:=by omega
 clear iX f4
 generalize S4.length=mn at*
 clear l4
 generalize S4++[Ce.lst ((F4 N (0:Int)).map Xv.int)]=S5 at n5 hZ f5 iy ⊢
 walk_at "z"
 refine W.eqs (ZM ∅ (f5.lstAt pO)) ?_
 generalize xr ns (FZ 2)=cl
 obtain⟨ef,qX,Aq,BO⟩:=id mo
 refine yW (wk (zcv (Zw rfl ?_)))
 refine⟨_,f5.lstAt qX,vF ef,by dsimp only;rw[f5.lstAt qX];rfl,?_⟩
 refine yY (xs:=vF ef) (λi ρ S6=>∃a7 a8 a9 fh fg fe zs g,∃ms:List Int,ρ=[some (.ref 0),some a1,some a2,some (.int N),some (.ref (S3.length+N)),some (.ref mn),some (.int cl),a7,a8,a9,fh,fg,fe]/\Nd S3.length (S3.length+N) (mn+1) S6 zs g/\S6[mn]? =some (.lst (ms.map Xv.int))/\g.length=N/\ms.length=N/\Fz S3 S6/\mn+1<=S6.length/\(∀chs∈g,chs.length<=4/\∀ch∈chs,∃b∈tab,∃s∈b,vL aq s ch)/\∀u,Toc aq i 0 u->zs[u]? =some (.ref (S3.length+u))/\g[u]? =some []) ?_ ?_ ?_ ?_
 ·rintro i ρ S6 _ ⟨_,_,_,_,_,_,_,_,_,_,_,_,_,_,f6,_⟩
  show (L2.zu S6 a2).map vF=_
  rw[f6.lstAt qX]
  rfl
 ·rintro i w ρ S6 hw ⟨a7,a8,a9,fh,fg,fe,zs,g,ms,rfl,n6,lj,lg,lm,f6,me,gv,jM⟩
  obtain⟨z,ez,rfl⟩:=XL hw
  have hi:i<aq.length:=by rw[<-Aq];exact (E8.1 ez).1
  have gH:=DZ hi
  generalize aq[i]=hs at gH
  obtain⟨z',e1,hz⟩:=BO i hs gH
  rw[ez] at e1
  cases e1
  refine .of rfl ?_
  dsimp only[EW]
  refine wk (vH (Zw rfl ?_))
  refine⟨_,f6.lstAt hz,_,f6.lstAt hz,?_⟩
  refine yY (xs:=hs.map Xv.int) (λj ρ S6=>∃a9 fh fg fe zs g,∃ms:List Int,ρ=[some (.ref 0),some a1,some a2,some (.int N),some (.ref (S3.length+N)),some (.ref mn),some (.int cl),some (.int i),some z,a9,fh,fg,fe]/\Nd S3.length (S3.length+N) (mn+1) S6 zs g/\S6[mn]? =some (.lst (ms.map Xv.int))/\g.length=N/\ms.length=N/\Fz S3 S6/\mn+1<=S6.length/\(∀chs∈g,chs.length<=4/\∀ch∈chs,∃b∈tab,∃s∈b,vL aq s ch)/\∀u,Toc aq i j u->zs[u]? =some (.ref (S3.length+u))/\g[u]? =some []) ?_ ?_ ⟨_,_,_,_,_,_,_,rfl,n6,lj,lg,lm,f6,me,gv,jM⟩ ?_
  ·rintro j ρ S7 _ ⟨_,_,_,_,_,_,_,_,_,_,_,_,f7,_⟩
   exact f7.lstAt hz
  ·rintro j w ρ S7 pH ⟨a9,fh,fg,fe,zs,g,ms,rfl,n7,qT,lg,lm,f7,qh,jz,gK⟩
   obtain⟨u,eu,rfl⟩:=wH pH
   have tN:=Ei eu
   obtain⟨u0,u1⟩:=fj gH tN
   obtain⟨un,rfl⟩:∃un:Nat,u=un:=⟨u.toNat,⋯⟩
   obtain⟨t1,t2⟩:=gK un ⟨i,j,hs,gH,eu,.inr ⟨rfl,Ek _⟩⟩
   refine .of rfl ?_
   dsimp only[EW]
   refine zlw bT (u:=(un:Int)) (un:=un) pO Bc mo ho tok ⋯ c4 jC ⋯ f7 n7 qT Bo ⋯ qh (by rw[lg,lm]) rfl ⋯ t1 t2 λS8 zs' chs mk fh fg fe n8 AY uq kJ qS f8 BH=> ?_
   refine⟨_,_,_,_,zs',_,_,rfl,n8,qS,by rw[F9];exact lg,by rw[F9];exact lm,f8,BH,λc' cZ=> ?_,λv hv=> ?_⟩
   ·rcases GQ cZ with h|rfl
    ·exact jz c' h
    ·exact⟨uq,kJ⟩
   ·obtain⟨i',j',dw,q1,q2,q3⟩:=hv
    have cq:v≠un:=by
     intro q
     subst q
     have BL:=fR.2 _ _ _ _ _ q1 gH (Ei q2) tN
     subst BL
     rw[gH] at q1
     cases q1
     obtain⟨p1,p2⟩:=E8.1 q2
     obtain⟨r1,r2⟩:=E8.1 eu
     have:=(FE (fR.1 _ _ gH)).1 (p2.trans r2.symm)
     omega
    obtain⟨r1,r2⟩:=gK v ⟨i',j',dw,q1,q2,⋯⟩
    rw[AY v cq,Ex,if_neg (λz=>cq z.symm)]
    exact⟨r1,r2⟩
  ·rintro ρ S7 ⟨a9,fh,fg,fe,zs,g,ms,rfl,n7,qT,lg,lm,f7,qh,jz,gK⟩
   refine⟨_,_,_,_,_,_,zs,g,ms,rfl,n7,qT,lg,lm,f7,qh,jz,λu hu=>gK u ?_⟩
   obtain⟨i',j',dw,q1,q2,q3⟩:=hu
   exact⟨i',j',dw,q1,q2,.inl ⋯⟩
 ·refine⟨_,_,_,_,_,_,uU,F4 N [],F4 N 0,rfl,n5,hZ,by simp,by simp,f5,iy,λchs hc=> ?_,λu hu=> ?_⟩
  ·rw[Ic hc]
   simp
  ·obtain⟨i',j',dw,q1,q2,q3⟩:=hu
   have:=fj q1 (Ei q2)
   exact⟨jY u ⋯,by rw[FX,if_pos ⋯]⟩
 rintro ρ S6 ⟨a7,a8,a9,fh,fg,fe,zs,g,ms,rfl,n6,lj,lg,lm,f6,me,gv,jM⟩
 walk_at "z"
 refine⟨_,_,g,ms,rfl,n6.at,lj,⟨⋯,λchs hc=>(gv chs hc).1,λchs hc ch eD=> ?_⟩,λchs hc ch eD=> ?_,⋯,⋯,f6.lstAt pO⟩
 ·obtain⟨b,hb,s,hs,p⟩:=(gv chs hc).2 ch eD
  rw[lg,<-hN]
  exact p.ok ho ⋯ c4 ((tok b hb).all s hs)
 ·obtain⟨b,hb,s,hs,p⟩:=(gv chs hc).2 ch eD
  rw[p.1]
  exact ((tok b hb).all s hs).gp
end
section
variable {fu:Nat} {S S' S0:Sto} {x y:Xv} {ns:List Int}
theorem zlx:val (1,1)=1:=by
 show ((1:Int):Rat) / ((1:Int):Rat)=1
 rw[Hf]
 exact J2 _ (VF ∅)
theorem zly {N:Nat} {q:Q2} {m:Int} (h0:0<=m) (h1:m<N):zd6 N (q,[(m,(1,1))]):=by
 refine⟨⟨1,∅,ww.mono (n:=1) (by unfold ww;decide) ∅,λp hp=> ?_⟩,λp hp=> ?_,by simp⟩
 ·have hp:p=(m,(1,1)):=by simpa using hp
  subst hp
  exact show SH 1 (1,1) from ⟨⟨∅,∅,∅,∅⟩,by rw[zlx];decide⟩
 ·have hp:p=(m,(1,1)):=by simpa using hp
  subst hp
  exact⟨h0,h1⟩
theorem zmB {c:Bool} {A G X:Prop} (g:G) (a:G->X):(c=true->X)/\(c=false->(false=true->A)/\(false=false->G)):=⟨λ_=>a g,λ_=>⟨nofun,λ_=>g⟩⟩
theorem zlz {hs:L2.zu S (.ref 0)=some (ns.map Xv.int)}:W (Xt fu [.ref 0] S) λv S'=>∃(nn mn:Nat) (g:Net) (ms:List Int),v= .tup [.ref nn,.ref mn]/\wI S' (.ref nn) g/\S'[mn]? =some (.lst (ms.map Xv.int))/\VL g/\zmr g/\ms.length=g.length/\0<g.length/\Fz S S':=by
 walk_at "wr";unfold Xs
 walk_at "z"
 obtain⟨m0,m1⟩:=ZN (n:=xr ns (FZ 0)) (p:=80021) (q:=15) ∅
 obtain⟨l0,l1⟩:=ZN (n:=xr ns (FZ 0)) (p:=90001) (q:=15) ∅
 generalize wV (xr ns (FZ 0)) 80021 15=mf at m0 m1 ⊢
 generalize wV (xr ns (FZ 0)) 90001 15=mc at l0 l1 ⊢
 obtain⟨N,hN⟩:∃N:Nat,1+mf+1+mc=N:=⟨(1+mf+1+mc).toNat,⋯⟩
 rw[hN]
 have hc:(0:Int)<N:=by omega
 refine zfG (i:=2) (N:=N) rfl ⋯ λS4 zs f4 l4 iX jY=> ?_
 have n4:=iX (S.length+N+1) ⋯
 refine yW (wk (XQ (Zw rfl ?_)))
 refine⟨_,rfl,⟨⋯,⋯⟩,_,rfl,?_⟩
 refine yY (xs:=Zt 0 (N:Int).toNat) (λi ρ S5=>∃a4 a5 g,ρ=[some (.ref 0),some (.int (1+mf)),some (.int N),some (.ref (S.length+N)),a4,a5]/\Nd S.length (S.length+N) (S.length+N+1) S5 zs g/\g.length=N/\Fz S S5/\S.length+N+1<=S5.length/\(∀chs∈g,chs.length<=1/\∀ch∈chs,zd6 N ch/\0<ch.1.2)/\∀p:Nat,i<=p->p<N->g[(xZ ns N p).toNat]? =some []) (λ_ _ _ _ _=>rfl) ?_ ?_ ?_
 ·rintro i w ρ S5 hw ⟨a4,a5,g,rfl,n5,lg,f5,iy,fO,gM⟩
  obtain⟨hi,rfl⟩:=ZO hw
  have hi:i<N:=by omega
  refine .of rfl ?_
  dsimp only[EW]
  rw[J3]
  walk_at "z"
  refine W.eqs (zcQ hc (f5.lstAt hs)) ?_
  obtain⟨u0,u1⟩:=YX (ns:=ns) (c:=(N:Int)) (p:=(i:Int)) hc
  have je:=gM i (Ek _) hi
  have hinj:∀p:Nat,i+1<=p->p<N->(xZ ns N p).toNat≠(xZ ns N i).toNat:=λp hp kg q=>by
   have:=YX (ns:=ns) (c:=(N:Int)) (p:=(p:Int)) hc
   have:=zd0 (ns:=ns) (c:=(N:Int)) (p:=(p:Int)) (q:=(i:Int)) hc ⋯ ⋯ ⋯ ⋯ ⋯
   omega
  generalize xZ ns N i=u at u0 u1 je hinj ⊢
  obtain⟨un,rfl⟩:∃un:Nat,u=un:=⟨u.toNat,⋯⟩
  rw[Fh] at je hinj
  have fP:un<N:=by omega
  have iQ:=jY un fP
  have dB:atI zs (un:Int)=some (.ref (S.length+un)):=wm ⋯ (by rw[Fh];exact iQ)
  obtain⟨lu,ou⟩:=n5.cell iQ je
  have Bx:lu=[]:=Gv.1 (by rw[ou.2.1];rfl)
  subst Bx
  have one:∀(q:Q2) (m:Int) (P:Xv->Sto->Prop),0<q.2->0<=m->m<N->(∀S6 g,Nd S.length (S.length+N) (S.length+N+1) S6 zs g->g.length=N->Fz S S6->S.length+N+1<=S6.length->(∀chs∈g,chs.length<=1/\∀ch∈chs,zd6 N ch/\0<ch.1.2)->(∀p:Nat,i+1<=p->p<N->g[(xZ ns N p).toNat]? =some [])->P .non S6)->
    WO (yo (.ref (S.length+un)) [.tup [qv q,.ref S5.length]] (S5++[.lst [ptX (m,(1,1))]])) P:=by
   intro q m P pP qb jF k6
   have f6:Fz S5 (S5++[.lst [ptX (m,(1,1))]]):=Fz.refl.app
   refine yS (xf (f6.lst ou.1)) (Zb (by simp)) ?_
   have n6:=(n5.mono f6).push (z:= .tup [qv q,.ref S5.length]) (c:=(q,[(m,(1,1))])) iQ je (f6.lst ou.1) ⟨S5.length,rfl,vK yk ⋯⟩
   refine k6 _ _ n6 (by rw[F9];exact lg) ((f5.trans f6).set ⋯) (by rw[F9];have:=f6.1;omega) (λchs cZ=> ?_) λp hp kg=> ?_
   ·rcases GQ cZ with h|rfl
    ·exact fO chs h
    ·refine⟨by simp,λch eD=> ?_⟩
     have:ch=(q,[(m,(1,1))]):=by simpa using eD
     subst this
     exact⟨zly qb jF,pP⟩
   ·rw[Ex,if_neg (λz=>hinj p hp kg z.symm)]
    exact gM p ⋯ kg
  refine wC ?_
  refine zkU ?_
  walk_at "z"
  refine zmB ?_ λhg=> ?_
  ·refine wC ?_
   walk_at "z"
   refine W.eqs (ZM ∅ (f5.lstAt hs)) ?_
   walk_at "z"
   refine Zz (λ_=> ?_) (λ_=> ?_)
   ·refine vi (ZH ?_)
    walk_at "z"
    refine yv (zh n5.net) dB ?_
    refine⟨⟨_,zh ou.1⟩,?_⟩
    walk_at "z"
    refine W.eqs (ZM ∅ (f5.lstAt hs)) ?_
    walk_at "z"
    refine one (1+xr ns (FZ 2) % 10^FZ 9,1) un _ (show (0:Int)<1 by decide) ⋯ ⋯ λS6 g n6 l6 f6 h6 a6 t6=> ?_
    exact⟨_,_,g,rfl,n6,l6,f6,h6,a6,t6⟩
   ·walk_at "z"
    exact⟨_,_,g,rfl,n5,lg,f5,iy,fO,λp hp kg=>gM p ⋯ kg⟩
  ·walk_at "z"
   refine⟨λh2=> ?_,λ_=>hg⟩
   have h2:(i:Int)≠N-1:=by simpa using h2
   refine vi (ZH ?_)
   walk_at "z"
   refine yv (zh n5.net) dB ?_
   refine⟨⟨_,zh ou.1⟩,?_⟩
   walk_at "z"
   refine W.eqs (zcQ hc (f5.lstAt hs)) ?_
   walk_at "z"
   obtain⟨v0,v1⟩:=YX (ns:=ns) (c:=(N:Int)) (p:=(i:Int)+1) hc
   refine one (0,1) (xZ ns N (i+1)) _ ∅ v0 v1 λS6 g n6 l6 f6 h6 a6 t6=> ?_
   exact⟨_,_,g,rfl,n6,l6,f6,h6,a6,t6⟩
 ·refine⟨_,_,F4 N [],rfl,n4,by simp,f4,⋯,λchs cZ=> ?_,λp _ hp=> ?_⟩
  ·rw[Ic cZ]
   simp
  ·have:=YX (ns:=ns) (c:=(N:Int)) (p:=(p:Int)) hc
   rw[FX,if_pos ⋯]
 rintro ρ S5 ⟨a4,a5,g,rfl,n5,lg,f5,iy,fO,gM⟩
 refine XO (zey (vh (Zw rfl (vh (zfH (i:=2) rfl ⋯ (WX ?_))))))
 have f6:Fz S5 (S5++[.lst ((F4 N (4:Int)).map Xv.int)]):=Fz.refl.app
 refine⟨_,_,g,F4 N 4,rfl,(n5.mono f6).at,yP,⟨⋯,λchs cZ=>by have:=(fO chs cZ).1;omega,λchs cZ ch eD=>by rw[lg];exact ((fO chs cZ).2 ch eD).1⟩,λchs cZ ch eD=>((fO chs cZ).2 ch eD).2,by simp[lg],⋯,f5.app⟩
end
section
noncomputable def okD:Nat->D->Bool
 |0,d=>match d with
  | .tup _=>false
  | .lst _=>false
  | .ins _ _ _=>false
  |_=>true
 |n+1,d=>match d with
  | .tup l=>l.all (okD n)
  | .lst l=>l.all (okD n)
  | .ins _ _ _=>false
  |_=>true
theorem Uw {f:D->D->Option Bool}:∀(l:List D),(∀d∈l,f d d=some true)->vM f l l=some true
 |[],_=>rfl
 |d::l,h=>by
  unfold vM
  rw[h d (by simp),Ee,Uw l λe he=>h e (by simp[he])]
  rfl
theorem VM:∀(n:Nat) (d:D),okD n d=true->eqG n d d=some true
 |0,d,h=>by cases d<;>first|(simp[eqG];done)|(simp[okD] at h;done)
 |n+1,d,h=>by
  cases d with
  |tup l=>
   unfold okD at h
   unfold eqG
   dsimp only
   rw[Uw l λe he=>VM n e (Fx.1 h e he)]
   simp
  |lst l=>
   unfold okD at h
   unfold eqG
   dsimp only
   rw[if_pos rfl]
   exact Uw l λe he=>VM n e (Fx.1 h e he)
  |ins _ _ _=>simp[okD] at h
  |non=>simp[eqG]
  |bl b=>simp[eqG]
  |int i=>simp[eqG]
  |str s=>simp[eqG]
end
section
variable {fu:Nat} {S S' S0:Sto} {x y:Xv} {ns:List Int}
noncomputable def qD (q:Q2):D:= .tup [.int q.1,.int q.2]
noncomputable def ptD (p:Int×Q2):D:= .tup [.int p.1,qD p.2]
noncomputable def chD (c:Ch):D:= .tup [qD c.1,.lst (c.2.map ptD)]
noncomputable def zgD (chs:List Ch):D:= .lst (chs.map chD)
noncomputable def zlA (g:Net):D:= .lst (g.map zgD)
theorem zlB (n:Nat) (q:Q2):yU S (n+1) (qv q)=some (qD q):=by
 cases n<;>rfl
theorem zjN (n:Nat) (p:Int×Q2):yU S (n+2) (ptX p)=some (ptD p):=by
 cases n<;>rfl
theorem zb0 {α:Type} {f:Xv->Option D} {X:α->Xv} {t:α->D}:∀(as:List α),(∀a∈as,f (X a)=some (t a))->xW f (as.map X)=some (as.map t)
 |[],_=>rfl
 |a::as,h=>by
  rw[Eg,Eg]
  unfold xW
  rw[h a (Em ..),zb0 as λb hb=>h b (Ej _ hb)]
  rfl
theorem ziC {n m:Nat} {l:List Xv} {ds:List D} (h:L2.zu S (.ref m)=some l) (e:xW (yU S n) l=some ds):yU S (n+1) (.ref m)=some (.lst ds):=by
 unfold yU
 dsimp only
 rw[h,Ee,e]
 rfl
theorem ziD {n m:Nat} {ps:List (Int×Q2)} (h:L2.zu S (.ref m)=some (ps.map ptX)):yU S (n+3) (.ref m)=some (.lst (ps.map ptD)):=ziC (n:=n+2) h (zb0 ps λp _=>zjN n p)
theorem zc0 {n:Nat} {z:Xv} {c:Ch} (h:xF S z c):yU S (n+4) z=some (chD c):=by
 obtain⟨m,rfl,e⟩:=h
 unfold yU
 dsimp only
 have h2:xW (yU S (n+3)) [qv c.1,.ref m]=some [qD c.1,.lst (c.2.map ptD)]:=by
  unfold xW
  rw[zlB (n+2) c.1,Ee]
  unfold xW
  rw[ziD e,Ee]
  rfl
 rw[h2]
 rfl
theorem zd8 {n:Nat} {z:Xv} {chs:List Ch} (h:LAt xF S z chs):yU S (n+5) z=some (zgD chs):=zcZ (n:=n+4) (λz a h=>zc0 h) h
theorem zd9 {g:Net} (h:wI S x g):yU S 40 x=some (zlA g):=zcZ (n:=39) (λz a h=>zd8 (n:=34) h) h
theorem zlC (g:Net):okD 40 (zlA g)=true:=by
 unfold zlA okD
 dsimp only
 refine Fx.2 λd hd=> ?_
 obtain⟨cs,_,rfl⟩:=Eh.1 hd
 unfold zgD okD
 dsimp only
 refine Fx.2 λd hd=> ?_
 obtain⟨ch,_,rfl⟩:=Eh.1 hd
 unfold chD okD
 dsimp only
 refine Fx.2 λd hd=> ?_
 simp only[Er,Hi,or_false] at hd
 rcases hd with rfl|rfl
 ·rfl
 ·unfold okD
  dsimp only
  refine Fx.2 λd hd=> ?_
  obtain⟨p,_,rfl⟩:=Eh.1 hd
  rfl
theorem ziE {ρ:Rho} {i:Nat} {chs:List Ch} {P:Xv->Sto->Prop} (hρ:ρ[i]? =some (some x)) (h:LAt xF S x chs) (few:chs.length<=4) (k:∀m S',S.length<=m->LAt xF (Zc S' S.length) (.ref m) chs->Fz S S'->P (.ref m) S'):
  W (wu [none,none] (iL (ze i)) (gT 2 (yh (gN 0) (yh (gN 1) vN))) wR (vD [(ze 0),(eFn UA [(ze 1)])]) ρ S) P:=by
 obtain⟨l,el,ll,hl⟩:=h
 refine xQ (vH (Zw hρ ?_))
 refine⟨_,el,_,el,?_⟩
 refine xc (xs:=l) (EL (Zb ⋯)) (λi es S2=>Fz S S2/\∀(j:Nat) c,j<i->chs[j]? =some c->∃z,es[j]? =some z/\xF (Zc S2 S.length) z c) ?_ ?_ ⟨Fz.refl,λj c hj=>absurd hj ⋯⟩ ?_
 ·rintro i es _ _ ⟨f,_⟩
  exact f.lstAt el
 ·rintro i w es S2 hw ft ⟨f2,h2⟩
  have hi:i<chs.length:=by rw[<-ll];exact (E8.1 hw).1
  have hc:=DZ hi
  generalize chs[i]=c at hc
  obtain⟨z,e1,pn,e2,e3⟩:=hl i c hc
  rw[hw] at e1
  cases e1
  subst e2
  refine .of rfl ?_
  dsimp only[Ys,Ga,EW]
  walk_at "z"
  refine⟨rfl,?_⟩
  walk_at "z"
  refine zcw (f2.lstAt e3) ?_
  walk_at "z"
  refine⟨f2.app,λj c' hj cZ=> ?_⟩
  by_cases q:j<i
  ·obtain⟨z,r1,r2⟩:=h2 j c' q cZ
   exact⟨z,by rw[Ed ⋯];exact r1,r2.mono (xB Fz.refl.app (Ek _))⟩
  ·have:j=i:=by omega
   subst this
   rw[hc] at cZ
   cases cZ
   refine⟨_,by rw[<-ft];simp,S2.length,rfl,vK yk f2.1⟩
 rintro es S2 ef ⟨f2,h2⟩
 refine k S2.length _ f2.1 ⟨es,vK yk f2.1,⋯,λj c hc=> ?_⟩ f2.app
 obtain⟨z,r1,r2⟩:=h2 j c (by rw[ll];exact (E8.1 hc).1) hc
 exact⟨z,r1,r2.mono (xB Fz.refl.app (Ek _))⟩
theorem zlD {g:Net} (ok:VL g) (h:wI S x g):W (Xw fu [x] S) λv S'=>∃m,v= .ref m/\S.length<=m/\wI S' v g/\Fz S S':=by
 have hlen:=ok.len
 obtain⟨l,el,ll,hl⟩:=h
 walk_at "wr";unfold Xu
 walk_at "z"
 have f1:Fz S (S++[Ce.lst []]):=Fz.refl.app
 have o1:Zd (LAt xF) (S++[Ce.lst []]) S.length [] []:=Zd.nil
 generalize S++[Ce.lst []]=S1 at f1 o1 ⊢
 refine wk (vH ?_)
 walk_at "z"
 refine⟨_,f1.lstAt el,_,f1.lstAt el,?_⟩
 refine yY (xs:=l) (λi ρ S2=>∃a2 zs,ρ=[some x,some (.ref S.length),a2]/\Zd (LAt xF) S2 S.length zs (g.take i)/\Fz S S2) ?_ ?_ ?_ ?_
 ·rintro i ρ S2 _ ⟨_,_,_,_,f2⟩
  exact f2.lstAt el
 ·rintro i w ρ S2 hw ⟨a2,zs,rfl,o2,f2⟩
  have hi:i<g.length:=by rw[<-ll];exact (E8.1 hw).1
  have hc:=DZ hi
  have eh:=ok.few _ (Eo hi)
  generalize g[i]=chs at hc eh
  obtain⟨z,e1,hz⟩:=hl i chs hc
  rw[hw] at e1
  cases e1
  refine .of rfl ?_
  dsimp only[EW]
  refine vi (ZH ?_)
  walk_at "z"
  refine⟨⟨_,zh o2.1⟩,?_⟩
  refine vh (ziE (i:=2) rfl (Ze f2.le hz) eh λm S3 hm hr f3=> ?_)
  walk_at "z"
  have o3:=Zd.mono (R:=LAt xF) (λq h=>Ze q h) f3 o2
  have bS:=(E8.1 o2.1).1
  refine yS (xf o3.1) (Zb (by rw[o3.2.1,Fc];omega)) ?_
  refine⟨_,zs++[.ref m],rfl,?_,(f2.trans f3).set (Ek _)⟩
  rw[zL hc]
  exact o3.push (Ze (xB Fz.refl ⋯) hr)
 ·exact⟨_,_,rfl,by simpa using o1,f1⟩
 ·rintro ρ S2 ⟨a2,zs,rfl,o2,f2⟩
  rw[ll,F0] at o2
  walk_at "z"
  refine⟨Ek _,?_,f2⟩
  exact wI.mono Zm (Zd.at (R:=LAt xF) (k:=0) (λq h=>Ze q h) (FR _) o2)
end
section
variable {fu:Nat} {S S' S0:Sto} {x y:Xv} {ns:List Int} {dd:Int}
theorem ziF {q:Q2} (h:0<q.2) (hv:0<=val q):0<=q.1:=by
 apply FA
 intro hn
 have h1:(q.1:Rat)<0:=by exact_mod_cast (by omega:q.1<0)
 have h2:(0:Rat)<(q.2:Rat):=by exact_mod_cast h
 have h3:(0:Rat)<(q.2:Rat)⁻¹:=Rat.inv_pos.2 h2
 unfold val at hv
 rw[Hf] at hv
 have:=Rat.mul_lt_mul_of_pos_right h1 h3
 rw[Rat.zero_mul] at this
 exact absurd hv (Rat.not_le.2 this)
noncomputable def byR (cls:List Int) (c:Ch):Ch:=(c.1,UJ (byC cls c.2))
theorem zjO {ps:List (Int×Q2)} {i:Nat} {p:Int×Q2} (h:ps[i]? =some p):xC (ps.take (i+1))=zbp (xC (ps.take i)) p.1 (zcR ((YY (xC (ps.take i)) p.1).getD (0,1)) p.2):=by rw[zL h,ZR]
theorem zmC (bT:Big fu) {cls:List Int} {c:Ch} {z:Xv} {cn:Nat} (ok:zd6 cls.length c) (e:xF S z c) (ec:L2.zu S (.ref cn)=some (cls.map Xv.int)):
  W (Vc fu [z,.ref cn] S) λv S'=>xF (Zc S' S.length) v (byR cls c)/\Fz S S':=by
 obtain⟨dd,d0,d1,d2⟩:=ok.dd
 have hf:=ok.few
 obtain⟨pn,rfl,e⟩:=e
 have k9:∀p∈byC cls c.2,SH dd p.2:=λp hp=>by
  obtain⟨q,hq,rfl⟩:=Eh.1 hp
  exact d2 q hq
 have kC:∀i,(xC ((byC cls c.2).take i)).length<=c.2.length:=λi=>by
  have t:=Xz k9 i
  have:=t.nd.length_le_of_subset (l₂:=((byC cls c.2).take i).map (·.1)) λl hl=>(t.ks l).1 hl
  rw[Eb,Eb,Fc] at this
  unfold byC at this ⊢
  rw[Eb] at this
  omega
 walk_at "wr";unfold Vb
 walk_at "z"
 have f1:Fz S (S++[Ce.dk []]):=Fz.refl.app
 have a1:(S++[Ce.dk []])[S.length]? =some (.dk []):=yP
 generalize S++[Ce.dk []]=S1 at f1 a1 ⊢
 refine wk (vH ?_)
 walk_at "z"
 refine⟨_,f1.lstAt e,_,f1.lstAt e,?_⟩
 refine yY (xs:=c.2.map ptX) (λi ρ S2=>∃a3 a4 a5 a6,ρ=[some (.tup [qv c.1,.ref pn]),some (.ref cn),some (.ref S.length),a3,a4,a5,a6]/\S2[S.length]? =some (.dk (Zn (xC ((byC cls c.2).take i))))/\Fz S S2) ?_ ?_ ?_ ?_
 ·rintro i ρ S2 _ ⟨_,_,_,_,_,_,f2⟩
  exact f2.lstAt e
 ·rintro i w ρ S2 hw ⟨a3,a4,a5,a6,rfl,c2,f2⟩
  obtain⟨p,ep,rfl⟩:=wH hw
  have hi:i<c.2.length:=(E8.1 ep).1
  have hp:=d2 p (Ei ep)
  obtain⟨p0,p1⟩:=ok.rng p (Ei ep)
  have bS:p.1.toNat<cls.length:=by omega
  have eb:(byC cls c.2)[i]? =some (Xb cls p.1,p.2):=by unfold byC;rw[Ef,ep];rfl
  have eO:atI (cls.map Xv.int) p.1=some (.int (Xb cls p.1)):=by
   refine wm p0 ?_
   unfold Xb
   rw[Ef,Ec,DZ bS]
   rfl
  have t:=Xz k9 i
  obtain⟨g1,g2⟩:=t.get (Xb cls p.1)
  have DW:((((byC cls c.2).take i).length:Nat):Int)<64:=by rw[Fc];omega
  generalize hq:(YY (xC ((byC cls c.2).take i)) (Xb cls p.1)).getD (0,1)=q at g1 g2
  have q0:0<=q.1:=ziF g1.pos (by rw[g2];exact zfD (λr hr=>(k9 r (Hs hr)).vp) _)
  have r0:0<=p.2.1:=ziF hp.ok.pos (Rat.le_of_lt hp.vp)
  obtain⟨b1,b2⟩:=g1.bits d0 d1 ⋯ ⋯
  obtain⟨b3,b4⟩:=hp.ok.bits d0 d1 ∅ ∅
  have tT:=g1.pos
  have Bl:=hp.ok.pos
  refine .of rfl ?_
  dsimp only[EW]
  refine yW (zct (zam ?_))
  walk_at "z"
  refine⟨⟨_,yF c2⟩,?_⟩
  walk_at "z"
  refine yv (f2.lstAt ec) eO ?_
  walk_at "z"
  refine⟨_,_,.inl (Xb cls p.1),yF c2,rfl,?_⟩
  walk_at "z"
  have fL:(yV (Zn (xC ((byC cls c.2).take i))) (.inl (Xb cls p.1))).getD (.tup [.int 0,.int 1])=qv q:=by
   rw[YZ,<-hq]
   cases YY (xC ((byC cls c.2).take i)) (Xb cls p.1)<;>rfl
  rw[fL]
  refine .of rfl ?_
  dsimp only[EW]
  have l1:=b1.le
  have l2:=b2.le
  have l3:=b3.le
  have l4:=b4.le
  refine Td ?_
  walk_at "z"
  refine ZW (QX.qv _) UC ?_
  refine vj ⋯ ?_
  walk_at "z"
  refine ZW (QX.qv _) zbL ?_
  walk_at "z"
  refine vj ⋯ ?_
  walk_at "z"
  refine ZW (QX.qv _) UC ?_
  refine vj ⋯ ?_
  walk_at "z"
  refine W.eqs (zcS bT (Int.add_nonneg (Ha q0 ⋯) (Ha r0 ⋯)) (GL tT Bl) ((b2.mul b4).mono ∅)) ?_
  walk_at "z"
  refine yv (f2.lstAt ec) eO ?_
  walk_at "z"
  refine⟨S.length,Zn (xC ((byC cls c.2).take i)),.inl (Xb cls p.1),yF c2,rfl,?_,?_⟩
  ·unfold Zn
   rw[Eb]
   exact Zb (by have:=kC i;omega)
  refine⟨_,_,_,_,rfl,?_,f2.set (Ek _)⟩
  rw[Za c2,zjO eb,<-hq]
  show some (Ce.dk (XC _ _ (qv (zcR _ _))))=_
  rw[hq,zd4]
 ·exact⟨_,_,_,_,rfl,a1,f1⟩
 ·rintro ρ S2 ⟨a3,a4,a5,a6,rfl,c2,f2⟩
  have iE:(byC cls c.2).length=c.2.length:=by unfold byC;rw[Eb]
  rw[Eb,<-iE,F0] at c2
  have ef:=kC c.2.length
  rw[<-iE,F0,iE] at ef
  walk_at "z"
  refine zgo (yF c2) (UK _) (by rw[Eb];omega) ?_
  walk_at "z"
  refine⟨⟨S2.length,rfl,vK ?_ f2.1⟩,f2.app⟩
  rw[yk]
  unfold byR UJ
  dsimp only
  rw[F3]
  congr 1
  refine Fp λk hk=> ?_
  have aw:=(vS _).mem_iff.1 hk
  obtain⟨q,eq⟩:=Wg aw
  rw[YZ,eq]
  show _=ptX (zgC _ k)
  unfold zgC
  rw[eq]
  rfl
end
section
variable {fu:Nat} {S S' S0:Sto} {x y:Xv} {ns:List Int} {dd:Int}
theorem isl {l:List Xv} (h:L2.zu S x=some l):zew "list" S x=some true:=by
 obtain⟨m,rfl⟩:∃m,x= .ref m:=by cases x<;>first|exact⟨_,rfl⟩|(simp only[L2.zu,reduceCtorEq] at h)
 unfold zew
 simp[h]
end
section
variable {fu:Nat} {S S' S0:Sto} {x y:Xv} {ns:List Int} {dd:Int}
section
variable {α:Type} [DecidableEq α] {f:D->D->Option Bool} {t:α->D}
theorem zea (hf:∀a b,f (t a) (t b)=some (decide (a=b))):∀l m:List α,l.length=m.length->vM f (l.map t) (m.map t)=some (decide (l=m))
 |[],[],_=>by simp[vM]
 |[],_::_,h=>by simp at h
 |_::_,[],h=>by simp at h
 |a::l,b::m,h=>by
  rw[Eg,Eg,vM,hf a b,Ee,zea hf l m (by simpa using h),FI]
  by_cases h1:a=b
  ·subst h1;simp
  ·simp[h1]
theorem zfI {n:Nat} (hf:∀a b,eqG n (t a) (t b)=some (decide (a=b))) (l m:List α):eqG (n+1) (.lst (l.map t)) (.lst (m.map t))=some (decide (l=m)):=by
 unfold eqG
 dsimp only
 rw[Eb,Eb]
 by_cases h:l.length=m.length
 ·rw[if_pos h,zea hf l m h]
 ·rw[if_neg h,decide_eq_false λz=>h (by rw[z])]
theorem VN (hf:∀a b,eqG 39 (t a) (t b)=some (decide (a=b))) (d:α):∀l:List α,zdV (t d) (l.map t)=some (l.map λe=>decide (e=d))
 |[]=>rfl
 |a::l=>by
  rw[Eg]
  unfold zdV
  rw[hf a d,Ee,VN hf d l]
  rfl
theorem zfJ (d:α) (l:List α) [Decidable (d∈l)]:(l.map λe=>decide (e=d)).any id=decide (d∈l):=by
 rw[GO,decide_eq_true_iff,JL,Ia]
 constructor
 ·rintro⟨e,h1,h2⟩
  have h2:decide (e=d)=true:=h2
  exact of_decide_eq_true h2 ▸ h1
 ·intro h
  exact⟨d,h,show decide (d=d)=true from decide_eq_true rfl⟩
end
theorem To {n:Nat} {a b c d:D} {p q:Bool} (h1:eqG n a c=some p) (h2:eqG n b d=some q):eqG (n+1) (.tup [a,b]) (.tup [c,d])=some (p&&q):=by
 unfold eqG
 simp[vM,h1,h2]
theorem Tp (n:Nat) (a b:Int):eqG n (.int a) (.int b)=some (decide (a=b)):=by
 cases n<;>rfl
theorem ziG (n:Nat) (a b:Q2):eqG (n+1) (qD a) (qD b)=some (decide (a=b)):=by
 unfold qD
 rw[To (Tp n a.1 b.1) (Tp n a.2 b.2)]
 obtain⟨a1,a2⟩:=a
 obtain⟨b1,b2⟩:=b
 simp
theorem zjP (n:Nat) (a b:Int×Q2):eqG (n+2) (ptD a) (ptD b)=some (decide (a=b)):=by
 unfold ptD
 rw[To (Tp (n+1) a.1 b.1) (ziG n a.2 b.2)]
 obtain⟨a1,a2⟩:=a
 obtain⟨b1,b2⟩:=b
 simp
theorem zfK (n:Nat) (a b:Ch):eqG (n+4) (chD a) (chD b)=some (decide (a=b)):=by
 unfold chD
 rw[To (ziG (n+2) a.1 b.1) (zfI (zjP n) a.2 b.2)]
 obtain⟨a1,a2⟩:=a
 obtain⟨b1,b2⟩:=b
 simp
theorem zjQ {neg:Bool} {P:Xv->Sto->Prop} {l:List Xv} {cs:List Ch} {c:Ch} (h1:L2.zu S y=some l) (hl:l.length=cs.length) (h2:∀(i:Nat) a,cs[i]? =some a->∃z,l[i]? =some z/\xF S z a) (h3:xF S x c) (k:P (.bl (neg !=decide (c∈cs))) S):WO (zdW neg x y S) P:=by
 refine zh9 (ds:=cs.map chD) (d:=chD c) h1 (Wi cs l hl λi a ha=> ?_) (zc0 (n:=36) h3) (VN (λa b=>zfK 35 a b) c cs) ?_
 ·obtain⟨z,e1,e2⟩:=h2 i a ha
  exact⟨z,e1,zc0 (n:=36) e2⟩
 ·rw[zfJ]
  exact k
end
section
variable {fu:Nat} {S S' S0:Sto} {x y:Xv} {ns:List Int} {dd:Int}
noncomputable def chK (f:Ch):NK:= .tup [nq f.1,.tup (f.2.map ptK)]
theorem zfL (cls:List Int) (c:Ch):byK cls c=chK (byR cls c):=rfl
theorem Vh {α β:Type} {f:α->β} (h:∀a b,f a=f b->a=b):∀{l m:List α},l.map f=m.map f->l=m
 |[],[],_=>rfl
 |[],_::_,e=>by simp at e
 |_::_,[],e=>by simp at e
 |a::l,b::m,e=>by
  rw[Eg,Eg] at e
  injection e with e1 e2
  rw[h a b e1,Vh h e2]
theorem zlE {p q:Q2} (h:nq p=nq q):p=q:=by
 obtain⟨a,b⟩:=p
 obtain⟨c,d⟩:=q
 simp[nq] at h
 obtain⟨rfl,rfl⟩:=h
 rfl
theorem zc1 {a b:Ch} (h:chK a=chK b):a=b:=by
 unfold chK at h
 injection h with h
 injection h with h1 h
 injection h with h2 _
 injection h2 with h2
 exact JK (zlE h1) (Vh (λp q=>zcW) h2)
theorem zfM:∀(ks:List NK),(∀k∈ks,∃f,k=chK f)->∃fs:List Ch,ks=fs.map chK
 |[],_=>⟨[],rfl⟩
 |k::r,h=>by
  obtain⟨f,rfl⟩:=h k (Em ..)
  obtain⟨fs,rfl⟩:=zfM r λz hz=>h z (Ej _ hz)
  exact⟨f::fs,rfl⟩
end
section
variable {fu:Nat} {S S' S0:Sto} {x y:Xv} {ns:List Int}
section
variable {α:Type} [DecidableEq α] {t:α->D} {R:Sto->Xv->α->Prop}
theorem zfN (d:α):∀l:List α,(l.map λe=>decide (e=d)).findIdx? id=ix l d
 |[]=>rfl
 |a::l=>by
  rw[Eg,List.findIdx?_cons,ix,zfN d l]
  by_cases h:a=d
  ·rw[if_pos h];simp[h]
  ·rw[if_neg h];simp[h]
structure Kn2 (R:Sto->Xv->α->Prop) (t:α->D):Prop where
 mono:∀{S S':Sto} {z:Xv} {a:α},Le S S'->R S z a->R S' z a
 tel:∀{S:Sto} {z:Xv} {a:α},R S z a->yU S 40 z=some (t a)
 eq:∀a b,eqG 39 (t a) (t b)=some (decide (a=b))
theorem zlF {neg:Bool} {P:Xv->Sto->Prop} {l:List Xv} {cs:List α} {c:α} (kn:Kn2 R t) (h1:L2.zu S y=some l) (hl:l.length=cs.length) (h2:∀(i:Nat) a,cs[i]? =some a->∃z,l[i]? =some z/\R S z a) (h3:R S x c) (k:P (.bl (neg !=decide (c∈cs))) S):WO (zdW neg x y S) P:=by
 refine zh9 (ds:=cs.map t) (d:=t c) h1 (Wi cs l hl λi a ha=> ?_) (kn.tel h3) (VN kn.eq c cs) ?_
 ·obtain⟨z,e1,e2⟩:=h2 i a ha
  exact⟨z,e1,kn.tel e2⟩
 ·rw[zfJ]
  exact k
theorem zgE {P:Xv->Sto->Prop} {n:Nat} {l:List Xv} {cs:List α} {c:α} {j:Nat} (kn:Kn2 R t) (h1:UR S y=some (n,l)) (hl:l.length=cs.length) (h2:∀(i:Nat) a,cs[i]? =some a->∃z,l[i]? =some z/\R S z a) (h3:R S x c) (hj:ix cs c=some j) (k:P (.int (j:Int)) S):WO (VB y [x] S) P:= .of (by
 unfold VB
 have e1:xW (L2.yU S 40) l=some (cs.map t):=Wi cs l hl λi a ha=>by
  obtain⟨z,e1,e2⟩:=h2 i a ha
  exact⟨z,e1,kn.tel e2⟩
 rw[h1]
 dsimp only
 rw[e1,Ee,kn.tel h3,Ee,VN kn.eq c cs,Ee,zfN,hj]
 rfl) k
theorem ziH (kn:Kn2 R t) {ks:List α} (hl:ks.length<=60) (e:LAt R S x ks):
  W (wQ fu [x] S) λv S'=>∃m,v= .ref m/\S.length<=m/\S'[m]? =some (.lst ((wY ks).map Xv.int))/\Fz S S':=by
 obtain⟨l,el,ll,hk⟩:=e
 walk_at "wr";unfold vZ
 walk_at "z"
 have f1:Fz S (S++[Ce.lst []]++[Ce.lst []]):=Fz.refl.app.app
 have a1:(S++[Ce.lst []]++[Ce.lst []])[S.length]? =some (.lst []):=by rw[Ed (by simp)];exact yP
 have b1:(S++[Ce.lst []]++[Ce.lst []])[(S++[Ce.lst []]).length]? =some (.lst []):=yP
 have hb:S.length<(S++[Ce.lst []]).length:=by simp
 generalize (S++[Ce.lst []]).length=bn at b1 hb ⊢
 generalize S++[Ce.lst []]++[Ce.lst []]=S1 at f1 a1 b1 ⊢
 refine wk (vH ?_)
 walk_at "z"
 refine⟨_,f1.lstAt el,_,f1.lstAt el,?_⟩
 refine yY (xs:=l) (λi ρ S2=>∃a3 zs,ρ=[some x,some (.ref S.length),some (.ref bn),a3]/\S2[S.length]? =some (.lst zs)/\zs.length=(fd (ks.take i)).length/\(∀(j:Nat) a,(fd (ks.take i))[j]? =some a->∃z,zs[j]? =some z/\R S z a)/\S2[bn]? =some (.lst (((wY ks).take i).map Xv.int))/\Fz S S2) ?_ ?_ ?_ ?_
 ·rintro i ρ S2 _ ⟨_,_,_,_,_,_,_,f2⟩
  exact f2.lstAt el
 ·rintro i w ρ S2 hw ⟨a3,zs,rfl,ez,lz,hz,ec,f2⟩
  have hi:i<ks.length:=by rw[<-ll];exact (E8.1 hw).1
  have hc:=DZ hi
  generalize ks[i]=c at hc
  obtain⟨z,e1,pz⟩:=hk i c hc
  rw[hw] at e1
  cases e1
  have fq:=za0 (ks.take i)
  rw[Fc] at fq
  refine .of rfl ?_
  dsimp only[EW]
  refine yW (zez (λρ S3=>∃zs,ρ=[some x,some (.ref S.length),some (.ref bn),some w]/\S3[S.length]? =some (.lst zs)/\zs.length=(fd (ks.take (i+1))).length/\(∀(j:Nat) a,(fd (ks.take (i+1)))[j]? =some a->∃z,zs[j]? =some z/\R S z a)/\S3[bn]? =some (.lst (((wY ks).take i).map Xv.int))/\Fz S S3) (wC ?_) ?_)
  ·walk_at "z"
   refine zlF kn (zh ez) lz (λj a ha=> ?_) (kn.mono f2.le pz) ?_
   ·obtain⟨z,r1,r2⟩:=hz j a ha
    exact⟨z,r1,kn.mono f2.le r2⟩
   refine⟨_,rfl,λhn=> ?_,λhn=> ?_⟩
   ·have hn:c∉fd (ks.take i):=by simpa using hn
    refine vi (ZH ?_)
    walk_at "z"
    refine⟨⟨_,zh ez⟩,?_⟩
    walk_at "z"
    refine yS (xf ez) (Zb ⋯) ?_
    refine⟨zs++[w],rfl,Za ez,?_,λj a ha=> ?_,wo ec ⋯,f2.set (Ek _)⟩
    ·rw[zL hc,xu,if_neg hn,Ew,Ew,lz];rfl
    ·rw[zL hc,xu,if_neg hn] at ha
     by_cases hj:j<zs.length
     ·rw[Ed ⋯] at ha
      obtain⟨z,r1,r2⟩:=hz j a ha
      exact⟨z,by rw[Ed hj];exact r1,r2⟩
     ·have dR:=(E8.1 ha).1
      rw[Ew,FN] at dR
      have:j=zs.length:=by omega
      subst this
      rw[lz,Eu (Ek _),HY] at ha
      cases ha
      exact⟨w,by simp,pz⟩
   ·have hn:c∈fd (ks.take i):=by simpa using hn
    walk_at "z"
    refine⟨zs,rfl,ez,?_,λj a ha=> ?_,ec,f2⟩
    ·rw[zL hc,xu,if_pos hn];exact lz
    ·rw[zL hc,xu,if_pos hn] at ha;exact hz j a ha
  clear ez lz hz ec f2 fq
  rintro ρ S3 ⟨zs,rfl,ez,lz,hz,ec,f3⟩
  obtain⟨j,j1,j2,j3⟩:=Tn hc
  have kx:ix (fd (ks.take (i+1))) c=some j:=by
   obtain⟨p,hp⟩:=VI (((yJ (ks.take (i+1))).2 c).2 (by rw[zL hc];simp))
   obtain⟨tl,jC⟩:=zjJ ks (i+1)
   have:=zcY (m:=tl) hp
   rw[jC,j3] at this
   rw[hp,this]
  refine vi (ZH ?_)
  walk_at "z"
  refine⟨⟨_,zh ec⟩,?_⟩
  refine vh (ZH ?_)
  walk_at "z"
  refine⟨⟨_,zh ez⟩,?_⟩
  walk_at "z"
  refine zgE kn (xf ez) lz (λj a ha=> ?_) (kn.mono f3.le pz) kx ?_
  ·obtain⟨z,r1,r2⟩:=hz j a ha
   exact⟨z,r1,kn.mono f3.le r2⟩
  walk_at "z"
  refine yS (xf ec) (Zb (by rw[Eb,Fc];omega)) ?_
  refine⟨_,zs,rfl,wo ez ⋯,lz,hz,?_,f3.set ⋯⟩
  rw[Za ec,zL j1,EI]
  rfl
 ·exact⟨_,[],rfl,a1,rfl,(λj a ha=>by simp[fd] at ha),by simpa using b1,f1⟩
 ·rintro ρ S2 ⟨a3,zs,rfl,ez,lz,hz,ec,f2⟩
  rw[ll,<-Zo ks,F0] at ec
  walk_at "z"
  exact⟨⋯,ec,f2⟩
end
theorem zlG:Kn2 (λ_ z (i:Int)=>z= .int i) D.int:=⟨λ_ h=>h,λh=>by subst h;rfl,λa b=>rfl⟩
theorem ziI {l:List Int} {c:Int} (e:L2.zu S x=some (l.map Xv.int)) (hc:(l.length:Int)=c):W (Yg fu [x,.int c] S) λv S'=>v= .bl true/\S=S':=by
 walk_at "wr";unfold Yf
 refine yW (wC (zbK (zak ?_)))
 walk_at "z"
 refine zcx (v:=true) (isl e) ?_
 refine⟨_,rfl,nofun,λ_=> ?_⟩
 walk_at "z"
 refine Xi e ?_
 walk_at "z"
 rw[Eb,hc,decide_eq_true rfl]
 refine⟨nofun,λ_=> ?_⟩
 walk_at "z"
 refine wk (vH ?_)
 walk_at "z"
 refine⟨_,e,_,e,?_⟩
 refine yY (xs:=l.map Xv.int) (λ_ ρ S1=>S=S1/\∃a2,ρ=[some x,some (.int c),a2]) ?_ ?_ ⟨rfl,_,rfl⟩ ?_
 ·rintro _ _ _ _ ⟨rfl,_⟩
  exact e
 ·rintro i w ρ _ hw ⟨rfl,a2,rfl⟩
  obtain⟨k,_,rfl⟩:=wH hw
  refine .of rfl ?_
  dsimp only[EW]
  refine wC (zbK (zak ?_))
  walk_at "z"
  refine zcx (v:=true) rfl ?_
  refine⟨_,rfl,nofun,λ_=> ?_⟩
  walk_at "z"
  refine zcx (v:=false) rfl ?_
  refine⟨_,rfl,nofun,λ_=> ?_⟩
  walk_at "z"
  exact⟨rfl,_,rfl⟩
 rintro ρ _ ⟨rfl,a2,rfl⟩
 walk_at "z"
 exact⟨rfl,rfl⟩
end
section
variable {fu:Nat} {S S' S0:Sto} {x y:Xv} {ns:List Int}
def UV (S:Sto) (z:Xv) (k:Int×List Ch):Prop:=∃m,z= .tup [.int k.1,.ref m]/\LAt xF S (.ref m) k.2
noncomputable def kyD (k:Int×List Ch):D:= .tup [.int k.1,zgD k.2]
theorem UV.mono {S S':Sto} {z:Xv} {k:Int×List Ch} (p:Le S S') (h:UV S z k):UV S' z k:=by
 obtain⟨m,e1,e2⟩:=h
 exact⟨m,e1,Ze p e2⟩
theorem zlH:Kn2 UV kyD:=by
 refine⟨λp h=>UV.mono p h,λ{S z k} h=> ?_,λa b=> ?_⟩
 ·obtain⟨m,rfl,e⟩:=h
  unfold yU
  dsimp only
  have h2:xW (yU S 39) [.int k.1,.ref m]=some [.int k.1,zgD k.2]:=by
   unfold xW
   rw[show yU S 39 (.int k.1)=some (.int k.1) from rfl,Ee]
   unfold xW
   rw[zd8 (n:=34) e,Ee]
   rfl
  rw[h2]
  rfl
 ·unfold kyD zgD
  rw[To (Tp 38 a.1 b.1) (zfI (zfK 33) a.2 b.2)]
  obtain⟨a1,a2⟩:=a
  obtain⟨b1,b2⟩:=b
  simp
theorem ziJ {z:Xv} {c:Ch} (h:xF S z c):zbS S z=some (chK c):=by
 obtain⟨m,rfl,e⟩:=h
 unfold zbS
 have e1:YL (qv c.1)=some (nq c.1):=by rw[<-zil];exact zaG _
 have e2:YM (c.2.map ptX)=some (c.2.map ptK):=by
  have:c.2.map ptX=(c.2.map ptK).map unk:=by
   rw[F3]
   exact Fp λp _=>(zcV p).symm
  rw[this,<-ZY]
  exact YU _
 dsimp only
 rw[e1,e,Ee]
 unfold nq
 dsimp only
 rw[Ee,e2]
 rfl
theorem zb1:∀(cs:List Ch) (l:List Xv),l.length=cs.length->(∀(i:Nat) a,cs[i]? =some a->∃z,l[i]? =some z/\xF S z a)->zaI S l=some (cs.map chK)
 |[],[],_,_=>rfl
 |[],_::_,e,_=>by simp at e
 |_::_,[],e,_=>by simp at e
 |a::as,z::l,e,h=>by
  obtain⟨y,e1,e2⟩:=h 0 a rfl
  cases e1
  have:=zb1 as l (by simpa using e) λi b hb=>by
   obtain⟨y,q1,q2⟩:=h (i+1) b (by simpa using hb)
   exact⟨y,by simpa using q1,q2⟩
  unfold zaI
  rw[ziJ e2,this]
  rfl
theorem ziK {n:Nat} {zs:List Xv} {cls:List Int} {chs:List Ch} {P:Xv->Sto->Prop} (o:Zd xF S n zs (fd (chs.map (byR cls)))) (few:chs.length<=4)
  (k:∀l' fs,fs.map chK=xY (chs.map (byK cls))->LAt xF (Zc (S++[.lst l']) (n+1)) (.ref S.length) fs->P (.ref S.length) (S++[.lst l'])):WO (Ws [.ref n] S) P:=by
 obtain⟨d1,d2⟩:=yJ (chs.map (byR cls))
 have aw:∀q,q∈(fd (chs.map (byR cls))).map chK↔q∈chs.map (byK cls):=λq=>by
  constructor
  ·intro h
   obtain⟨f,hf,rfl⟩:=Eh.1 h
   obtain⟨c,hc,rfl⟩:=Eh.1 ((d2 f).1 hf)
   exact Eh.2 ⟨c,hc,zfL cls c⟩
  ·intro h
   obtain⟨c,hc,rfl⟩:=Eh.1 h
   exact Eh.2 ⟨_,(d2 _).2 (Eh.2 ⟨c,hc,rfl⟩),(zfL cls c).symm⟩
 obtain⟨k1,_⟩:=zeX cls chs
 have hk:KOk false ((fd (chs.map (byR cls))).map chK):=⟨λa ha b hb=>k1.cmp a ((aw a).1 ha) b ((aw b).1 hb),λa ha=>k1.dep a ((aw a).1 ha),λa ha=>k1.fst a ((aw a).1 ha)⟩
 have nd:((fd (chs.map (byR cls))).map chK).Nodup:=by
  rw[FW,EZ]
  exact d1.imp λh e=>h (zc1 e)
 have fq:=za0 (chs.map (byR cls))
 rw[Eb] at fq
 have bS:=(E8.1 o.1).1
 refine zgq (zh o.1) (zb1 _ _ o.2.1 λi a ha=> ?_) (by rw[Eb];omega) hk nd ?_
 ·obtain⟨z,e1,e2⟩:=o.2.2 i a ha
  exact⟨z,e1,e2.mono Zm⟩
 obtain⟨fs,iz⟩:=zfM (xY ((fd (chs.map (byR cls))).map chK)) λq hq=>by
  obtain⟨f,_,rfl⟩:=Eh.1 (((Xy hk).2 q).1 hq)
  exact⟨f,rfl⟩
 refine k _ fs (by rw[<-iz];exact zeJ aw) ⟨_,vK yk ⋯,by rw[iz,Eb,Eb],λi f hf=> ?_⟩
 have hm:chK f∈(fd (chs.map (byR cls))).map chK:=((Xy hk).2 _).1 (by rw[iz];exact Eh.2 ⟨f,Ei hf,rfl⟩)
 obtain⟨f',jH,e⟩:=Eh.1 hm
 have e:=zc1 e
 subst e
 obtain⟨p,hp⟩:=Fj jH
 obtain⟨z,e1,e2⟩:=o.2.2 p f' hp
 refine⟨z,?_,e2.mono (xB Fz.refl.app (Ek _))⟩
 rw[Ef,iz,Ef,hf]
 show some (zaJ _ zs (chK f'))=_
 rw[zdY nd (by rw[Ef,hp];rfl) e1]
theorem zjR (bT:Big fu) {g:Net} {cls:List Int} {cn:Nat} (ok:VL g) (hl:cls.length=g.length) (e:wI S x g) (ec:L2.zu S (.ref cn)=some (cls.map Xv.int)):
  W (YG fu [x,.ref cn] S) λv S'=>∃m,v= .ref m/\S.length<=m/\S'[m]? =some (.lst ((yl g cls).map Xv.int))/\Fz S S':=by
 obtain⟨l,el,ll,hg⟩:=e
 have hlen:=ok.len
 walk_at "wr";unfold YF
 walk_at "z"
 have f1:Fz S (S++[Ce.lst []]):=Fz.refl.app
 have o1:Zd UV (S++[Ce.lst []]) S.length [] []:=Zd.nil
 generalize S++[Ce.lst []]=S1 at f1 o1 ⊢
 refine wk (XQ ?_)
 walk_at "z"
 refine Xi (f1.lstAt el) ?_
 walk_at "z"
 refine⟨⟨⋯,⋯⟩,_,rfl,?_⟩
 refine yY (λi ρ S2=>∃a3 a4 a5 a6 zs eW,ρ=[some x,some (.ref cn),some (.ref S.length),a3,a4,a5,a6]/\Zd UV S2 S.length zs eW/\eW.length=i/\(∀(j:Nat) k,eW[j]? =some k->∃chs,g[j]? =some chs/\cls[j]? =some k.1/\k.2.map chK=xY (chs.map (byK cls)))/\Fz S S2) (λ_ _ _ _ _=>rfl) ?_ ?_ ?_
 ·rintro i w ρ S2 hw ⟨a3,a4,a5,a6,zs,eW,rfl,o2,gU,m9,f2⟩
  obtain⟨hi,rfl⟩:=ZO hw
  have hi:i<g.length:=by omega
  have kJ:=DZ hi
  have eh:=ok.few _ (Eo hi)
  have hok:=ok.ok _ (Eo hi)
  generalize g[i]=chs at kJ eh hok
  obtain⟨z,ez,lz,qU,sV,hz⟩:=hg i chs kJ
  have jj:=DZ (show i<cls.length by omega)
  generalize cls[i]=a at jj
  have gS:=(E8.1 o2.1).1
  refine .of rfl ?_
  dsimp only[EW]
  rw[J3]
  walk_at "z"
  have f3:Fz S2 (S2++[Ce.lst []]):=Fz.refl.app
  have o3:Zd xF (S2++[Ce.lst []]) S2.length [] []:=Zd.nil
  generalize uc:S2.length=kn at o3 gS ⊢
  generalize S2++[Ce.lst []]=S3 at f3 o3 ⊢
  refine wk (vH ?_)
  walk_at "z"
  refine yv ((f2.trans f3).lstAt el) (wm (k:=(i:Int)) ⋯ (by rw[Fh];exact ez)) ?_
  refine⟨_,(f2.trans f3).lstAt qU,_,(f2.trans f3).lstAt qU,?_⟩
  refine yY (xs:=lz) (λj ρ S4=>∃a5 a6 ws,ρ=[some x,some (.ref cn),some (.ref S.length),some (.int i),some (.ref kn),a5,a6]/\Zd xF S4 kn ws (fd ((chs.map (byR cls)).take j))/\Fz S2 S4) ?_ ?_ ?_ ?_
  ·rintro j ρ S4 _ ⟨_,_,_,_,_,f4⟩
   exact (f2.trans f4).lstAt qU
  ·rintro j w ρ S4 pG ⟨a5,a6,ws,rfl,o4,f4⟩
   have hj:j<chs.length:=by rw[<-sV];exact (E8.1 pG).1
   have hc:=DZ hj
   have kh:=hok _ (Eo hj)
   generalize chs[j]=c at hc kh
   obtain⟨z',e1,AZ⟩:=hz j c hc
   rw[pG] at e1
   cases e1
   have uo:(chs.map (byR cls))[j]? =some (byR cls c):=by rw[Ef,hc];rfl
   have jt:=f2.trans f4
   refine .of rfl ?_
   dsimp only[EW]
   walk_at "z"
   refine (zmC bT (by rw[hl];exact kh) (xF.mono jt.le AZ) (jt.lstAt ec)).imp ?_
   rintro v S5 ⟨hv,f5⟩
   have o5:=zjF o4 f5
   have bS:=(E8.1 o4.1).1
   walk_at "z"
   refine wC ?_
   walk_at "z"
   refine zjQ (zh o5.1) o5.2.1 (λq b hb=> ?_) (hv.mono Zm) ?_
   ·obtain⟨z,r1,r2⟩:=o5.2.2 q b hb
    exact⟨z,r1,r2.mono Zm⟩
   refine⟨_,rfl,λhn=> ?_,λhn=> ?_⟩
   ·have hn:byR cls c∉fd ((chs.map (byR cls)).take j):=by simpa using hn
    refine vi (ZH ?_)
    walk_at "z"
    refine⟨⟨_,zh o5.1⟩,?_⟩
    walk_at "z"
    have DN:ws.length<=60:=by
     rw[o5.2.1]
     have:=za0 ((chs.map (byR cls)).take j)
     rw[Fc] at this
     omega
    refine yS (xf o5.1) (Zb ⋯) ?_
    refine⟨_,_,ws++[v],rfl,?_,(f4.trans f5).set ⋯⟩
    rw[zL uo,xu,if_neg hn]
    exact o5.push (hv.mono (xB Fz.refl ⋯))
   ·have hn:byR cls c∈fd ((chs.map (byR cls)).take j):=by simpa using hn
    walk_at "z"
    refine⟨_,_,ws,rfl,?_,f4.trans f5⟩
    rw[zL uo,xu,if_pos hn]
    exact o5
  ·exact⟨_,_,[],rfl,by simpa [fd] using o3,f3⟩
  rintro ρ S4 ⟨a5,a6,ws,rfl,o4,f4⟩
  rw[sV,G2 (by rw[Eb];exact Ek _)] at o4
  have By:=(E8.1 o4.1).1
  refine vi (ZH ?_)
  walk_at "z"
  refine⟨⟨_,zh (f4.lst o2.1)⟩,?_⟩
  walk_at "z"
  refine yv ((f2.trans f4).lstAt ec) (wm (k:=(i:Int)) ⋯ (by rw[Fh,Ef,jj];rfl)) ?_
  walk_at "z"
  refine ziK o4 eh λl' fs iz BA=> ?_
  have f5:Fz S4 (S4++[.lst l']):=Fz.refl.app
  have o5:=Zd.mono (R:=UV) (λq h=>UV.mono q h) (f4.trans f5) o2
  walk_at "z"
  refine yS (xf o5.1) (Zb (by rw[o5.2.1];omega)) ?_
  refine⟨_,_,_,_,_,eW++[(a,fs)],rfl,o5.push ⟨S4.length,rfl,Ze (xB Fz.refl ⋯) BA⟩,by rw[Ew,gU];rfl,λj q hq=> ?_,((f2.trans f4).trans f5).set (Ek _)⟩
  by_cases hj:j<eW.length
  ·rw[Ed hj] at hq
   exact m9 j q hq
  ·have dR:=(E8.1 hq).1
   rw[Ew,FN] at dR
   have:j=eW.length:=by omega
   subst this
   rw[Eu (Ek _),HY] at hq
   cases hq
   rw[gU]
   exact⟨chs,kJ,jj,iz⟩
 ·exact⟨_,_,_,_,[],[],rfl,o1,rfl,(λj k hk=>by simp at hk),f1⟩
 ·rintro ρ S2 ⟨a3,a4,a5,a6,zs,eW,rfl,o2,gU,m9,f2⟩
  rw[yu] at gU
  have gU:eW.length=g.length:=by omega
  walk_at "z"
  refine (ziH zlH ⋯ (LAt.mono (λ_ _ h=>UV.mono Zm h) Zm (Zd.at (R:=UV) (k:=0) (λq h=>UV.mono q h) (FR _) o2))).imp ?_
  rintro _ S3 ⟨m,rfl,hm,em,f3⟩
  refine⟨m,rfl,Ey f2.1 hm,?_,f2.trans f3⟩
  have:wY eW=yl g cls:=by
   refine (Wv g.length gU (vq cls g) λi j hi hj=> ?_).1
   obtain⟨c1,g1,q1,r1⟩:=m9 i _ (DZ (show i<eW.length by omega))
   obtain⟨c2,g2,q2,r2⟩:=m9 j _ (DZ (show j<eW.length by omega))
   rw[ZS g1,ZS g2,DZ (show i<eW.length by omega),DZ (show j<eW.length by omega)]
   generalize eW[i]'⋯=k1 at q1 r1
   generalize eW[j]'⋯=k2 at q2 r2
   unfold UN
   rw[Ec,Ec,q1,q2,<-r1,<-r2]
   constructor
   ·intro h
    injection h with h
    rw[h]
   ·intro h
    injection h with h
    injection h with h
    injection h with h1 h
    injection h1 with h1
    injection h with h2 _
    injection h2 with h2
    exact congrArg some (JK h1 (Vh (λa b=>zc1) h2))
  rw[<-this]
  exact em
end
section
variable {fu:Nat} {S S' S0:Sto} {x y:Xv} {ns:List Int}
theorem ziL {g:Net} {ms last:List Int} {ai told':List (List Int)} (r:Rds g ms ai) (r':Rds g ms told') (hl:told'[told'.length-1]? =some last) (hs:yl g last=last) {i:Nat} {a b:List Int} (h1:ai[i]? =some a) (h2:told'[i]? =some a) (h3:ai[i+1]? =some b):told'[i+1]? =some b:=by
 obtain⟨e1,e2⟩:=r.nxt i a b h1 h3
 cases e:told'[i+1]? with
 |some b'=>rw[(r'.nxt i a b' h2 e).1,e1]
 |none=>
  have:=FK.1 e
  have hi:=(E8.1 h2).1
  rw[show told'.length-1=i by omega,h2] at hl
  cases hl
  exact (e2 (e1.trans hs)).elim
theorem zjS {g:Net} {ms last last':List Int} {ai told':List (List Int)} (r:Rds g ms ai) (r':Rds g ms told') (hl:ai[ai.length-1]? =some last) (hs:yl g last=last) (gf:told'[told'.length-1]? =some last') (dw:yl g last'=last'):ai=told':=by
 have key:∀i:Nat,ai[i]? =told'[i]? :=by
  intro i
  induction i with
  |zero=>rw[r.fst,r'.fst]
  |succ i ih=>
   cases e:ai[i+1]? with
   |some b=>
    have hi:i<ai.length:=by have:=(E8.1 e).1;omega
    have ha:=DZ hi
    exact (ziL r r' gf dw ha (ih ▸ ha) e).symm
   |none=>
    cases e':told'[i+1]? with
    |none=>rfl
    |some b=>
     have hi:i<told'.length:=by have:=(E8.1 e').1;omega
     have ha:=DZ hi
     rw[ziL r' r hl hs ha (ih.symm ▸ ha) e'] at e
     cases e
 exact FY key
noncomputable def ziM (g:Net) (ms:List Int) (ai:List (List Int)):Nat->List Int
 |0=>wY ms
 |i+1=>yl g (ai.getD i [])
theorem zlI {g:Net} {ms:List Int} {ai:List (List Int)} (r:Rds g ms ai) {i:Nat} {a:List Int} (h:ai[i]? =some a):ziM g ms ai i=a:=by
 cases i with
 |zero=>rw[r.fst] at h;cases h;rfl
 |succ i=>
  have hi:i<ai.length:=by have:=(E8.1 h).1;omega
  have ha:=DZ hi
  show yl g (ai.getD i [])=a
  rw[Ec,ha]
  exact (r.nxt i _ a ha h).1.symm
noncomputable def zeZ (ai:List (List Int)):D:= .lst (ai.map λl=> .lst (l.map D.int))
theorem zb2 {ai:List (List Int)} (h:LAt wT S x ai):yU S 40 x=some (zeZ ai):=zcZ (n:=39) (t:=λl:List Int=>D.lst (l.map D.int)) (λz a h=>xD (n:=37) h) h
theorem zjT (ai:List (List Int)):okD 40 (zeZ ai)=true:=by
 unfold zeZ okD
 dsimp only
 refine Fx.2 λd hd=> ?_
 obtain⟨l,_,rfl⟩:=Eh.1 hd
 unfold okD
 dsimp only
 refine Fx.2 λd hd=> ?_
 obtain⟨i,_,rfl⟩:=Eh.1 hd
 rfl
theorem zgF:VL []:=⟨∅,by simp,by simp⟩
theorem zlJ {ρ:Rho} {m n:TwE} {Q':(Sto->Option (List Xv))->Sto->Prop} (h:W (m ρ S) λx S1=>W (n ρ S1) λy S2=>∃i j:Int,x= .int i/\y= .int j/\(-(2^62)<=i/\i<2^62/\ -(2^62)<=j/\j<2^62)/\Q' (λ_=>some (Zt i (j-i).toNat)) S2):W (iR2 m n ρ S) Q':=W.bind (h.imp λx S1 h=>W.bind (h.imp λy S2 h=>by
 obtain⟨i,j,rfl,rfl,hk,q⟩:=h
 dsimp only
 rw[if_pos hk]
 exact .of rfl q))
theorem zjU (c:Int):Ty c 2 0 [.frz (ns.map Xv.int),.fix [],.fix [],.fix []] [Ce.frz (ns.map Xv.int),.lst [],.lst [],.lst []]:=by
 refine⟨rfl,λn kd cell e1 e2=> ?_⟩
 match n with
 |0=>simp at e1 e2;subst e1 e2;rfl
 |1=>simp at e1 e2;subst e1 e2;rfl
 |2=>simp at e1 e2;subst e1 e2;rfl
 |3=>simp at e1 e2;subst e1 e2;rfl
 |n+4=>simp at e1
theorem zms (bT:Big fu):W (zeS fu [.ref 0] [.frz (ns.map Xv.int)]) λv _=>v= .bl true:=by
 walk_at "wr";unfold zeR
 refine yW (zhi ?_)
 walk_at "z"
 refine⟨_,_,rfl,?_⟩
 dsimp only[EW,List.append_eq,Fy,List.nil_append,List.length]
 refine yW (zez (λρ S2=>∃(nn mn:Nat) (g:Net) (ms:List Int),ρ=[some (.ref 0),some (.ref nn),some (.ref mn),none,none,none,none,none,none]/\wI S2 (.ref nn) g/\S2[mn]? =some (.lst (ms.map Xv.int))/\VL g/\ms.length=g.length) (wC ?_) ?_)
 ·walk_at "z"
  refine zao (l:=ns.map Xv.int) rfl yk ?_
  refine⟨_,rfl,λhn=> ?_,λhn=> ?_⟩
  ·have cq:ns≠[]:=λz=>by subst z;simp at hn
   refine yW (zct (Vt ?_))
   walk_at "z"
   refine (zjM (S:=[.frz (ns.map Xv.int),.lst [],.lst [],.lst []]) bT zjU rfl).imp ?_
   rintro _ S1 ⟨nn,mn,g,ms,rfl,fm,em,ok,gg,lm,eS,fD⟩
   refine .of rfl ?_
   dsimp only[EW]
   refine wC ?_
   walk_at "z"
   obtain⟨n0,nr,rfl⟩:∃a r,ns=a::r:=by cases ns with
    |nil=>exact absurd rfl cq
    |cons a r=>exact⟨a,r,rfl⟩
   have h0:atI ((n0::nr).map Xv.int) 0=some (.int n0):=zbL
   refine yv fD h0 ?_
   walk_at "z"
   refine Zz (λ_=> ?_) (λ_=> ?_)
   ·refine zct (Vt ?_)
    walk_at "z"
    refine (zlz (hs:=fD)).imp ?_
    rintro _ S2 ⟨nn,mn,g,ms,rfl,fm,em,ok,gg,lm,eS,f2⟩
    refine .of rfl ?_
    exact⟨nn,mn,g,ms,rfl,fm,em,ok,lm⟩
   ·walk_at "z"
    exact⟨nn,mn,g,ms,rfl,fm,em,ok,lm⟩
  ·walk_at "z"
   exact⟨1,2,[],[],rfl,⟨[],rfl,rfl,λi a ha=>by simp at ha⟩,rfl,zgF,rfl⟩
 rintro ρ S2 ⟨nn,mn,g,ms,rfl,fm,em,ok,lm⟩
 have hlen:=ok.len
 walk_at "z"
 refine (zlD ok fm).imp ?_
 rintro _ S3 ⟨m3,rfl,_,u3,f3⟩
 walk_at "z"
 refine zcw (zh (f3.lst em)) ?_
 have f4:Fz S3 (S3++[.lst (ms.map Xv.int)]):=Fz.refl.app
 have fT:(S3++[Ce.lst (ms.map Xv.int)])[S3.length]? =some (.lst (ms.map Xv.int)):=yP
 have mm:=wI.mono f4.le u3
 have gR:=wI.mono (f3.trans f4).le fm
 have lh:=(f3.trans f4).lst em
 clear u3 fm em f3
 generalize S3.length=an at fT ⊢
 generalize S3++[.lst (ms.map Xv.int)]=S4 at f4 fT mm gR lh ⊢
 clear f4
 walk_at "z"
 refine (zbZ bT ok lm mm fT).imp ?_
 rintro _ S5 ⟨tn,zs,ai,last,rfl,k7,o5,r5,b6,eX,f5,pX,jC⟩
 have Bp:=r5.ne
 have BQ:=wI.mono f5.le mm
 have pZ:=wI.mono f5.le gR
 have hZ:=f5.lst fT
 have kZ:=f5.lst lh
 walk_at "z"
 refine wC (zbK (zak ?_))
 walk_at "z"
 refine zcx (v:=true) (isl (zh o5.1)) ?_
 refine⟨_,rfl,nofun,λ_=>zbK ?_⟩
 walk_at "z"
 refine XW (zd9 BQ) (zd9 pZ) rfl (VM 40 _ (zlC g)) ?_
 refine⟨_,rfl,nofun,λ_=> ?_⟩
 walk_at "z"
 refine XW (xD (zh hZ)) (xD (zh kZ)) rfl (XX ms ms) ?_
 rw[decide_eq_true rfl]
 refine⟨_,rfl,nofun,λ_=> ?_⟩
 walk_at "z"
 refine (ziH zlG (ks:=ms) ⋯ ⟨_,zh kZ,by simp,λi a ha=>⟨.int a,by simp[ha],rfl⟩⟩).imp ?_
 rintro _ S6 ⟨dn,rfl,_,uH,f6⟩
 walk_at "z"
 have iJ:∀{S':Sto} (f:Fz S5 S') {i:Nat} {a:List Int},ai[i]? =some a->∃n,zs[i]? =some (.ref n)/\n≠tn/\S4.length<=n/\S'[n]? =some (.lst (a.map Xv.int)):=λ{S'} f {i a} ha=>by
  obtain⟨z,e1,e2⟩:=o5.2.2 i a ha
  obtain⟨n,l,rfl,Bn,hn,hs⟩:=pX z (Ei e1)
  have e3:=Vd.1 _ _ e2
  rw[zh hs] at e3
  cases e3
  exact⟨n,e1,Bn,hn,f.lst hs⟩
 have jB:=o5.2.1
 refine wk (vH ?_)
 walk_at "z"
 refine⟨_,zh (f6.lst o5.1),_,zh (f6.lst o5.1),?_⟩
 refine yY (xs:=zs) (λi ρ S7=>∃dn a7,ρ=[some (.ref 0),some (.ref nn),some (.ref mn),some (.ref m3),some (.ref an),some (.ref tn),some (.ref dn),a7,none]/\S7[dn]? =some (.lst ((ziM g ms ai i).map Xv.int))/\Fz S5 S7) ?_ ?_ ⟨dn,_,rfl,uH,f6⟩ ?_
 ·rintro i ρ S7 _ ⟨_,_,_,_,f7⟩
  exact zh (f7.lst o5.1)
 ·rintro i w ρ S7 hw ⟨dn,a7,rfl,jK,f7⟩
  have hi:i<ai.length:=by rw[<-jB];exact (E8.1 hw).1
  have ig:=DZ hi
  have tO:=Eo hi
  generalize ai[i]=a at ig tO
  obtain⟨n,e1,_,_,e2⟩:=iJ f7 ig
  have e2:=zh e2
  rw[hw] at e1
  cases e1
  have qx:=zlI r5 ig
  rw[qx] at jK
  have fS:=(r5.num a tO).1
  obtain⟨ln,CV,Ap,_⟩:=wI.mono f7.le pZ
  refine .of rfl ?_
  dsimp only[EW]
  refine yW (wC (zbK (zak ?_)))
  walk_at "z"
  refine Xi CV ?_
  walk_at "z"
  refine W.eqs (ziI e2 (by rw[Ap,fS])) ?_
  refine⟨_,rfl,nofun,λ_=> ?_⟩
  walk_at "z"
  refine XW (xD e2) (xD (zh jK)) rfl (XX a a) ?_
  rw[decide_eq_true rfl]
  refine⟨_,rfl,nofun,λ_=> ?_⟩
  walk_at "z"
  refine (zjR bT ok fS (wI.mono f7.le pZ) e2).imp ?_
  rintro _ S8 ⟨m8,rfl,_,qS,f8⟩
  refine⟨m8,_,rfl,?_,f7.trans f8⟩
  show _=some (Ce.lst ((yl g (ai.getD i [])).map Xv.int))
  rw[Ec,ig]
  exact qS
 rintro ρ S7 ⟨dn,a7,rfl,jK,f7⟩
 have mq:ziM g ms ai zs.length=last:=by
  rw[jB]
  obtain⟨p,hp⟩:∃p,ai.length=p+1:=⟨ai.length-1,⋯⟩
  rw[hp] at b6 ⊢
  rw[IY] at b6
  show yl g (ai.getD p [])=last
  rw[Ec,b6]
  exact eX
 rw[mq] at jK
 obtain⟨nl,CI,_,_,mI⟩:=iJ f7 b6
 have mI:=zh mI
 have f8:Fz S7 (S7++[.lst []]):=Fz.refl.app
 refine yW (wC (zbK ?_))
 walk_at "z"
 refine zao (f8.lstAt (zh (f7.lst o5.1))) yk ?_
 rw[show zs.isEmpty=false by cases zs with
  |nil=>simp at jB;omega
  |cons a r=>rfl]
 refine⟨_,rfl,nofun,λ_=> ?_⟩
 have hW:=f7.trans f8
 have qY:=f8.lst jK
 have jv:=f8.lstAt mI
 generalize S7++[.lst []]=S8 at hW qY jv ⊢
 clear f7 f8 jK mI f6 uH
 walk_at "z"
 refine yv (zh (hW.lst o5.1)) (za4 (by rw[jB];exact CI)) ?_
 walk_at "z"
 refine XW (xD jv) (xD (zh qY)) rfl (XX last last) ?_
 rw[decide_eq_true rfl]
 refine⟨_,rfl,nofun,λ_=> ?_⟩
 walk_at "z"
 clear qY jv
 refine wC ?_
 refine zdB (UB (xQ (zlJ ?_)))
 walk_at "z"
 refine Xi (zh (hW.lst o5.1)) ?_
 refine⟨_,_,rfl,rfl,⟨∅,∅,⋯,⋯⟩,_,rfl,?_⟩
 refine zhV (by rw[yu];exact EL (zbV ⋯)) (λi es S9=>S8=S9/\es=[]) (λ_ _ _ _ _=>rfl) ?_ ⟨rfl,rfl⟩ ?_
 ·rintro i w es _ hw ft ⟨rfl,rfl⟩
  obtain⟨hi,rfl⟩:=ZO hw
  have fE:i+1<ai.length:=by omega
  have hb:=DZ fE
  have ha:=DZ (show i<ai.length by omega)
  have cq:=(r5.nxt i _ _ ha hb).2
  obtain⟨n1,e1,_,_,e2⟩:=iJ hW hb
  obtain⟨n2,g1,_,_,g2⟩:=iJ hW ha
  have e2:=zh e2
  have g2:=zh g2
  refine .of rfl ?_
  dsimp only[Ys,Ga,EW]
  walk_at "z"
  refine yv (zh (hW.lst o5.1)) (wm (k:=1+(i:Int)) ⋯ (by rw[show (1+(i:Int)).toNat=i+1 by omega];exact e1)) ?_
  walk_at "z"
  refine yv (zh (hW.lst o5.1)) (wm (k:=1+(i:Int)-1) ⋯ (by rw[show (1+(i:Int)-1).toNat=i by omega];exact g1)) ?_
  refine XW (xD e2) (xD g2) rfl (XX _ _) ?_
  rw[decide_eq_false cq]
  exact⟨_,rfl,nofun,λ_=>⟨rfl,rfl⟩⟩
 rintro es _ _ ⟨rfl,rfl⟩
 walk_at "z"
 refine zao (l:=[]) (Fz.refl.app.lstAt yk) yk ?_
 refine⟨_,rfl,nofun,λ_=> ?_⟩
 have jr:Fz S5 (S8++[.lst []]++[.lst []]):=hW.app.app
 generalize S8++[Ce.lst []]++[Ce.lst []]=S9 at jr ⊢
 clear hW
 walk_at "z"
 refine xQ (vH ?_)
 walk_at "z"
 refine⟨_,zh (jr.lst o5.1),_,zh (jr.lst o5.1),?_⟩
 refine xc (xs:=zs) (EL (zbV ⋯)) (λi es S10=>Fz S9 S10/\∀(q:Nat) a,q<i->ai[q]? =some a->∃z,es[q]? =some z/\wT (Zc S10 S9.length) z a) ?_ ?_ ⟨Fz.refl,λq a hq=>absurd hq ⋯⟩ ?_
 ·rintro i es S10 _ ⟨fG,_⟩
  exact zh ((jr.trans fG).lst o5.1)
 ·rintro i w es S10 hw ft ⟨fG,my⟩
  have hi:i<ai.length:=by rw[<-jB];exact (E8.1 hw).1
  have ig:=DZ hi
  generalize ai[i]=a at ig
  obtain⟨n,e1,_,_,e2⟩:=iJ (jr.trans fG) ig
  have e2:=zh e2
  rw[hw] at e1
  cases e1
  refine .of rfl ?_
  dsimp only[Ys,Ga,EW]
  walk_at "z"
  refine⟨rfl,?_⟩
  walk_at "z"
  refine zcw e2 ?_
  refine⟨fG.app,λq c hq qy=> ?_⟩
  by_cases Bk:q<i
  ·obtain⟨z,r1,r2⟩:=my q c Bk qy
   exact⟨z,by rw[Ed ⋯];exact r1,wT.mono (xB Fz.refl.app (Ek _)) r2⟩
  ·have:q=i:=by omega
   subst this
   rw[ig] at qy
   cases qy
   exact⟨_,by rw[<-ft];simp,vK yk fG.1⟩
 rintro es S10 BE ⟨fG,my⟩
 have gX:LAt wT (Zc (S10++[.lst es]) S9.length) (.ref S10.length) ai:=⟨es,vK yk fG.1,⋯,λq a ha=>by
  obtain⟨z,r1,r2⟩:=my q a (by rw[jB];exact (E8.1 ha).1) ha
  exact⟨z,r1,wT.mono (xB Fz.refl.app (Ek _)) r2⟩⟩
 have gn:Fz S5 (S10++[.lst es]):=jr.trans fG.app
 have h9:=jr.1
 generalize S10.length=kn at gX ⊢
 generalize S10++[Ce.lst es]=S11 at gX gn ⊢
 clear fG my
 obtain⟨n0,e0,iX,q8,mJ⟩:=iJ gn r5.fst
 have Bq:n0<S5.length:=by
  obtain⟨Dw,uI,_,_,qW⟩:=iJ Fz.refl r5.fst
  rw[e0] at uI
  cases uI
  exact (E8.1 qW).1
 have Bb:tn<S5.length:=(E8.1 o5.1).1
 have BF:((wY ms).map Xv.int).length<=60:=by rw[Eb,Zo];omega
 generalize (wY ms).map Xv.int=l0 at mJ BF
 walk_at "z"
 refine ZH ?_
 walk_at "z"
 refine yv (zh (gn.lst o5.1)) (by cases zs with
  |nil=>simp at e0
  |cons a r=>simp at e0;subst e0;exact zbL) ?_
 refine⟨⟨_,zh mJ⟩,?_⟩
 walk_at "z"
 refine yS (xf mJ) (Zb ⋯) ?_
 have qI:(S11.set n0 (.lst (l0++[.int (-1)])))[tn]? =some (.lst zs):=wo (gn.lst o5.1) iX
 have sZ:=HmsAt.mono (Uv (c:= .lst (l0++[.int (-1)])) (show n0<S9.length by omega)) gX
 have ju:Fz S4 (S11.set n0 (.lst (l0++[.int (-1)]))):=(f5.trans gn).set q8
 generalize S11.set n0 (.lst (l0++[.int (-1)]))=S12 at qI sZ ju ⊢
 clear gX gn mJ
 walk_at "z"
 refine ZH ?_
 walk_at "z"
 refine⟨⟨_,zh qI⟩,?_⟩
 walk_at "z"
 have iG:Fz S12 (S12++[.lst []]):=Fz.refl.app
 refine yS (xf (iG.lst qI)) (zbV ⋯) ?_
 have sY:=HmsAt.mono ((xB iG (Ek _)).trans (Uv (n:=tn) (c:=Ce.lst (zs++[Xv.ref S12.length])) (show tn<S9.length by omega))) sZ
 have iF:Fz S4 ((S12++[Ce.lst []]).set tn (Ce.lst (zs++[Xv.ref S12.length]))):=(ju.trans iG).set k7
 generalize (S12++[Ce.lst []]).set tn (Ce.lst (zs++[Xv.ref S12.length]))=S14 at sY iF ⊢
 walk_at "z"
 refine (ziz bT ok lm (wI.mono iF.le mm) (iF.lst fT)).imp ?_
 rintro _ S15 ⟨tn',zs',told',last',rfl,_,Ak,w5,j7,gP,jJ⟩
 have:=zjS r5 w5 b6 eX j7 gP
 subst this
 walk_at "z"
 refine XW (zb2 (zkm Ak)) (zb2 (HmsAt.mono (Zm.trans jJ.le) sY)) rfl (VM 40 _ (zjT ai)) ?_
 rfl
theorem zmt (bT:Big fu) (ns:List Int) (hl:ns.length<=63):∃S,zeS fu [.ref 0] [.frz (ns.map Xv.int)]=some (.ok (.bl true) S):=by
 obtain⟨v,S,e,rfl⟩:=zms bT (ns:=ns)
 exact⟨S,e⟩
end
end
noncomputable def zc2:Nat:=2^9000
theorem zeb:Big zc2:=by unfold Big zc2;exact Ek _
theorem zlK {P:Program} {w:World} {K:E9} {mg:Str->Option Value} {base:Heap} (T:Tx K mg):xE P w K mg base (CXE P w) 9 T.eV T.dS ["_law_script"] (zab K):=zkR (zjt (fu:=zc2) T) λns hl=>zmt zeb ns hl
theorem zlL {l:Ik} {w:World} {K:E9} {h:Heap} {mg:Str->Option Value} {fa:Addr} (X:K.In h) (G:h.Ns mainGlobals mg) (BX:mg "law"=some (.ref fa))
     {f0:Addr} {z8 Du:Option Addr} {w4:Array (Option Value)} {Aj AH D6 y4 uS Di:Value} {f1:Addr} {z7 Dt:Option Addr} {lR:Array (Option Value)} {Ai AG D5 y3 uR Dh:Value} {f2:Addr} {z6 Ds:Option Addr} {fV:Array (Option Value)} {Ah AF D4 y2 uQ Dg:Value} {f3:Addr} {z5 Dr:Option Addr} {v9:Array (Option Value)} {Ag AB D3 y0 uP Df:Value} {f4:Addr} {z4 Dq:Option Addr} {v8:Array (Option Value)} {Af AA D2 x9 uO De:Value} {f5:Addr} {z3 Dp:Option Addr} {v7:Array (Option Value)} {Ae Az D1 x8 uN Dd:Value} {f6:Addr} {z0 Dn:Option Addr} {v5:Array (Option Value)} {Ad Ay D0 x5 uM Dc:Value} {f7:Addr} {y9 Dm:Option Addr} {v3:Array (Option Value)} {Ac Ax CZ x4 uL D9:Value} {f8:Addr} {y8 Dl:Option Addr} {uZ:Array (Option Value)} {Ab Aw CY x3 uK D8:Value} {f9:Addr} {y7 Dk:Option Addr} {uY:Array (Option Value)} {Aa Av CW w6 uJ D7:Value} {fG:Addr} {oe sG:Option Addr} {nj:Array (Option Value)} {oF p7 rH nM lM rZ:Value} {gn:Addr} {o9 sF:Option Addr} {ni:Array (Option Value)} {oE oZ rG nL lL rY:Value} {ju:Addr} {o8 sE:Option Addr} {nh:Array (Option Value)} {oD oY rF nK lK rX:Value} {iG:Addr} {o7 sD:Option Addr} {ng:Array (Option Value)} {oC oX rE nJ lJ rW:Value} {iF:Addr} {o6 sC:Option Addr} {nc:Array (Option Value)} {oB oW rD nI lI rV:Value} {jJ:Addr} {nZ sA:Option Addr} {n9:Array (Option Value)} {oA oV rC nH lH rT:Value} {mG:Addr} {nY sy:Option Addr} {mZ:Array (Option Value)} {oz oU rB nG lG rS:Value} {mF:Addr} {nX sx:Option Addr} {mY:Array (Option Value)} {oy oT rA nF lF rR:Value} {mE:Addr} {nW sv:Option Addr} {mX:Array (Option Value)} {ot oS rq nE lE rQ:Value} {mD:Addr} {nV su:Option Addr} {mW:Array (Option Value)} {oq oR rp nD lD rP:Value} {mC:Addr} {nU sr:Option Addr} {mV:Array (Option Value)} {oo oQ rm nC lC rO:Value} {mB:Addr} {nT sq:Option Addr} {mU:Array (Option Value)} {om oP rl nB lB rN:Value} {mz:Addr} {nS sk:Option Addr} {mS:Array (Option Value)} {oj oO rj nA lA rM:Value} {jI:Addr} {nR sj:Option Addr} {mR:Array (Option Value)} {oi oN rh nz ly rL:Value} {jt:Addr} {nQ sg:Option Addr} {mQ:Array (Option Value)} {oh oM rg ny lx rK:Value} {qN:Addr} {nP sf:Option Addr} {mP:Array (Option Value)} {og oK ra nu ls rJ:Value} {dE:Addr} {fK:Option Addr} {fJ:Nat} {fI:Array (Option Value)} {eQ:Tok} {eP:Tok}
    (A0:Es K mainGlobals "common_part"=some (some (.ref f0))) (L0:K.lookup f0=some ⟨Aj,z8,.func (EF "common_part" "common_part" (zV xn) (zS xn) (zp xn) .none AH D6 y4 Du uS Di),w4⟩) (C0:ED K uS "common_part"=true) (K0:EA K (.ref f0)=true)
    (A1:Es K mainGlobals "lowest"=some (some (.ref f1))) (L1:K.lookup f1=some ⟨Ai,z7,.func (EF "lowest" "lowest" (zV ZZ) (zS ZZ) (zp ZZ) .none AG D5 y3 Dt uR Dh),lR⟩) (C1:ED K uR "lowest"=true) (K1:EA K (.ref f1)=true)
    (A2:Es K mainGlobals "plus"=some (some (.ref f2))) (L2:K.lookup f2=some ⟨Ah,z6,.func (EF "plus" "plus" (zV Va) (zS Va) (zp Va) .none AF D4 y2 Ds uQ Dg),fV⟩) (C2:ED K uQ "plus"=true) (K2:EA K (.ref f2)=true)
    (A3:Es K mainGlobals "gathered"=some (some (.ref f3))) (L3:K.lookup f3=some ⟨Ag,z5,.func (EF "gathered" "gathered" (zV wD) (zS wD) (zp wD) .none AB D3 y0 Dr uP Df),v9⟩) (C3:ED K uP "gathered"=true) (K3:EA K (.ref f3)=true)
    (A4:Es K mainGlobals "rounds"=some (some (.ref f4))) (L4:K.lookup f4=some ⟨Af,z4,.func (EF "rounds" "rounds" (zV Ya) (zS Ya) (zp Ya) .none AA D2 x9 Dq uO De),v8⟩) (C4:ED K uO "rounds"=true) (K4:EA K (.ref f4)=true)
    (A5:Es K mainGlobals "numbered"=some (some (.ref f5))) (L5:K.lookup f5=some ⟨Ae,z3,.func (EF "numbered" "numbered" (zV wE) (zS wE) (zp wE) .none Az D1 x8 Dp uN Dd),v7⟩) (C5:ED K uN "numbered"=true) (K5:EA K (.ref f5)=true)
    (A6:Es K mainGlobals "parted"=some (some (.ref f6))) (L6:K.lookup f6=some ⟨Ad,z0,.func (EF "parted" "parted" (zV Yb) (zS Yb) (zp Yb) .none Ay D0 x5 Dn uM Dc),v5⟩) (C6:ED K uM "parted"=true) (K6:EA K (.ref f6)=true)
    (A7:Es K mainGlobals "choices_by"=some (some (.ref f7))) (L7:K.lookup f7=some ⟨Ac,y9,.func (EF "choices_by" "choices_by" (zV xg) (zS xg) (zp xg) .none Ax CZ x4 Dm uL D9),v3⟩) (C7:ED K uL "choices_by"=true) (K7:EA K (.ref f7)=true)
    (A8:Es K mainGlobals "gathered_by"=some (some (.ref f8))) (L8:K.lookup f8=some ⟨Ab,y8,.func (EF "gathered_by" "gathered_by" (zV yR) (zS yR) (zp yR) .none Aw CY x3 Dl uK D8),uZ⟩) (C8:ED K uK "gathered_by"=true) (K8:EA K (.ref f8)=true)
    (A9:Es K mainGlobals "_law_cell_at"=some (some (.ref f9))) (L9:K.lookup f9=some ⟨Aa,y7,.func (EF "_law_cell_at" "_law_cell_at" (zV yX) (zS yX) (zp yX) .none Av CW w6 Dk uJ D7),uY⟩) (C9:ED K uJ "_law_cell_at"=true) (K9:EA K (.ref f9)=true)
    (A10:Es K mainGlobals "_law_mixed"=some (some (.ref fG))) (L10:K.lookup fG=some ⟨oF,oe,.func (EF "_law_mixed" "_law_mixed" (zV xR) (zS xR) (zp xR) .none p7 rH nM sG lM rZ),nj⟩) (C10:ED K lM "_law_mixed"=true) (K10:EA K (.ref fG)=true)
    (A11:Es K mainGlobals "_law_fraction"=some (some (.ref gn))) (L11:K.lookup gn=some ⟨oE,o9,.func (EF "_law_fraction" "_law_fraction" (zV yG) (zS yG) (zp yG) .none oZ rG nL sF lL rY),ni⟩) (C11:ED K lL "_law_fraction"=true) (K11:EA K (.ref gn)=true)
    (A12:Es K mainGlobals "_law_gain"=some (some (.ref ju))) (L12:K.lookup ju=some ⟨oD,o8,.func (EF "_law_gain" "_law_gain" (zV wF) (zS wF) (zp wF) .none oY rF nK sE lK rX),nh⟩) (C12:ED K lK "_law_gain"=true) (K12:EA K (.ref ju)=true)
    (A13:Es K mainGlobals "_law_name"=some (some (.ref iG))) (L13:K.lookup iG=some ⟨oC,o7,.func (EF "_law_name" "_law_name" (zV wG) (zS wG) (zp wG) .none oX rE nJ sD lJ rW),ng⟩) (C13:ED K lJ "_law_name"=true) (K13:EA K (.ref iG)=true)
    (A14:Es K mainGlobals "_law_rows"=some (some (.ref iF))) (L14:K.lookup iF=some ⟨oB,o6,.func (EF "_law_rows" "_law_rows" (zV xh) (zS xh) (zp xh) .none oW rD nI sC lI rV),nc⟩) (C14:ED K lI "_law_rows"=true) (K14:EA K (.ref iF)=true)
    (A15:Es K mainGlobals "_law_bases"=some (some (.ref jJ))) (L15:K.lookup jJ=some ⟨oA,nZ,.func (EF "_law_bases" "_law_bases" (zV xi) (zS xi) (zp xi) .none oV rC nH sA lH rT),n9⟩) (C15:ED K lH "_law_bases"=true) (K15:EA K (.ref jJ)=true)
    (A16:Es K mainGlobals "_law_split"=some (some (.ref mG))) (L16:K.lookup mG=some ⟨oz,nY,.func (EF "_law_split" "_law_split" (zV xj) (zS xj) (zp xj) .none oU rB nG sy lG rS),mZ⟩) (C16:ED K lG "_law_split"=true) (K16:EA K (.ref mG)=true)
    (A17:Es K mainGlobals "_law_parts"=some (some (.ref mF))) (L17:K.lookup mF=some ⟨oy,nX,.func (EF "_law_parts" "_law_parts" (zV xS) (zS xS) (zp xS) .none oT rA nF sx lF rR),mY⟩) (C17:ED K lF "_law_parts"=true) (K17:EA K (.ref mF)=true)
    (A18:Es K mainGlobals "_law_homes"=some (some (.ref mE))) (L18:K.lookup mE=some ⟨ot,nW,.func (EF "_law_homes" "_law_homes" (zV yB) (zS yB) (zp yB) .none oS rq nE sv lE rQ),mX⟩) (C18:ED K lE "_law_homes"=true) (K18:EA K (.ref mE)=true)
    (A19:Es K mainGlobals "_law_blown"=some (some (.ref mD))) (L19:K.lookup mD=some ⟨oq,nV,.func (EF "_law_blown" "_law_blown" (zV yC) (zS yC) (zp yC) .none oR rp nD su lD rP),mW⟩) (C19:ED K lD "_law_blown"=true) (K19:EA K (.ref mD)=true)
    (A20:Es K mainGlobals "_law_copy"=some (some (.ref mC))) (L20:K.lookup mC=some ⟨oo,nU,.func (EF "_law_copy" "_law_copy" (zV xJ) (zS xJ) (zp xJ) .none oQ rm nC sr lC rO),mV⟩) (C20:ED K lC "_law_copy"=true) (K20:EA K (.ref mC)=true)
    (A21:Es K mainGlobals "_law_numbered"=some (some (.ref mB))) (L21:K.lookup mB=some ⟨om,nT,.func (EF "_law_numbered" "_law_numbered" (zV yH) (zS yH) (zp yH) .none oP rl nB sq lB rN),mU⟩) (C21:ED K lB "_law_numbered"=true) (K21:EA K (.ref mB)=true)
    (A22:Es K mainGlobals "_law_by"=some (some (.ref mz))) (L22:K.lookup mz=some ⟨oj,nS,.func (EF "_law_by" "_law_by" (zV vU) (zS vU) (zp vU) .none oO rj nA sk lA rM),mS⟩) (C22:ED K lA "_law_by"=true) (K22:EA K (.ref mz)=true)
    (A23:Es K mainGlobals "_law_after"=some (some (.ref jI))) (L23:K.lookup jI=some ⟨oi,nR,.func (EF "_law_after" "_law_after" (zV xT) (zS xT) (zp xT) .none oN rh nz sj ly rL),mR⟩) (C23:ED K ly "_law_after"=true) (K23:EA K (.ref jI)=true)
    (A24:Es K mainGlobals "_law_wholes"=some (some (.ref jt))) (L24:K.lookup jt=some ⟨oh,nQ,.func (EF "_law_wholes" "_law_wholes" (zV xo) (zS xo) (zp xo) .none oM rg ny sg lx rK),mQ⟩) (C24:ED K lx "_law_wholes"=true) (K24:EA K (.ref jt)=true)
    (A25:Es K mainGlobals "law"=some (some (.ref qN))) (L25:K.lookup qN=some ⟨og,nP,.func (EF "law" "law" (zV VD) (zS VD) (zp VD) .none oK ra nu sf ls rJ),mP⟩) (C25:ED K ls "law"=true) (K25:EA K (.ref qN)=true)
    (gB:Es K mainGlobals "abs"=some none)
    (fy:Es K mainGlobals "bool"=some none)
    (cw:Es K mainGlobals "enumerate"=some none)
    (gA:Es K mainGlobals "int"=some none)
    (bZ:Es K mainGlobals "isinstance"=some none)
    (gy:Es K mainGlobals "len"=some none)
    (fx:Es K mainGlobals "list"=some none)
    (eN:Es K mainGlobals "range"=some none)
    (cR:Es K mainGlobals "reversed"=some none)
    (gx:Es K mainGlobals "set"=some none)
    (e7:Es K mainGlobals "sorted"=some none)
    (gw:Es K mainGlobals "sum"=some none)
    (eM:Es K mainGlobals "tuple"=some none)
    (aN:Es K mainGlobals "NOUGHT"=some (some (.ref dE)))
    (dP:K.lookup dE=some ⟨.type "tuple",fK,.seq #[.int 0 eQ,.int 1 eP] fJ,fI⟩):
    ∃fd:FuncData,(∀(s:Shared) (v:Value),BindsTo s fd ⟨[v],[]⟩ [("_law_script",v)])/\∀base:Heap,K.In base->base.Ns mainGlobals mg->xE l.prog w K mg base (CXE l.prog w) 9 fa fd ["_law_script"] (zab K):=by
  have e:=BX.symm.trans (EH X G A25)
  cases e
  let T:Tx K mg:={aY:=f0,aK:=_,bQ:=zD (st:=xn) L0 C0 K0,cH:=EH X G A0,cL:=(zD (st:=xn) L0 C0 K0).binds (ps:=["one","other"]) λ_ _ _ _ _ _ us hl=>match us,hl with|[_,_],_=>rfl,dg:=f1,cD:=_,e8:=zD (st:=ZZ) L1 C1 K1,eR:=EH X G A1,eU:=(zD (st:=ZZ) L1 C1 K1).binds (ps:=["top","bottom"]) λ_ _ _ _ _ _ us hl=>match us,hl with|[_,_],_=>rfl,eL:=f2,dD:=_,fA:=zD (st:=Va) L2 C2 K2,fZ:=EH X G A2,gu:=(zD (st:=Va) L2 C2 K2).binds (ps:=["one","other"]) λ_ _ _ _ _ _ us hl=>match us,hl with|[_,_],_=>rfl,bY:=f3,bI:=_,cS:=zD (st:=wD) L3 C3 K3,dM:=EH X G A3,dY:=(zD (st:=wD) L3 C3 K3).binds (ps:=["pairs"]) λ_ _ _ _ _ _ us hl=>match us,hl with|[_],_=>rfl,de:=f4,cB:=_,dh:=zD (st:=Ya) L4 C4 K4,dI:=EH X G A4,dW:=(zD (st:=Ya) L4 C4 K4).binds (ps:=["net","marks"]) λ_ _ _ _ _ _ us hl=>match us,hl with|[_,_],_=>rfl,bX:=f5,bH:=_,c7:=zD (st:=wE) L5 C5 K5,cP:=EH X G A5,cQ:=(zD (st:=wE) L5 C5 K5).binds (ps:=["keys"]) λ_ _ _ _ _ _ us hl=>match us,hl with|[_],_=>rfl,df:=f6,cC:=_,di:=zD (st:=Yb) L6 C6 K6,dJ:=EH X G A6,dX:=(zD (st:=Yb) L6 C6 K6).binds (ps:=["net","classes"]) λ_ _ _ _ _ _ us hl=>match us,hl with|[_,_],_=>rfl,bp:=f7,aP:=_,c9:=zD (st:=xg) L7 C7 K7,cT:=EH X G A7,d3:=(zD (st:=xg) L7 C7 K7).binds (ps:=["choices","classes"]) λ_ _ _ _ _ _ us hl=>match us,hl with|[_,_],_=>rfl,aX:=f8,aJ:=_,bP:=zD (st:=yR) L8 C8 K8,cG:=EH X G A8,cK:=(zD (st:=yR) L8 C8 K8).binds (ps:=["parts","classes"]) λ_ _ _ _ _ _ us hl=>match us,hl with|[_,_],_=>rfl,aM:=f9,aB:=_,aj:=zD (st:=yX) L9 C9 K9,ak:=EH X G A9,ao:=(zD (st:=yX) L9 C9 K9).binds (ps:=["_law_script","_law_k"]) λ_ _ _ _ _ _ us hl=>match us,hl with|[_,_],_=>rfl,bu:=fG,aS:=_,af:=zD (st:=xR) L10 C10 K10,ag:=EH X G A10,ah:=(zD (st:=xR) L10 C10 K10).binds (ps:=["_law_number","_law_prime","_law_many"]) λ_ _ _ _ _ _ us hl=>match us,hl with|[_,_,_],_=>rfl,aE:=gn,ay:=_,av:=zD (st:=yG) L11 C11 K11,aA:=EH X G A11,aC:=(zD (st:=yG) L11 C11 K11).binds (ps:=["_law_top","_law_bottom"]) λ_ _ _ _ _ _ us hl=>match us,hl with|[_,_],_=>rfl,bM:=ju,bh:=_,cy:=zD (st:=wF) L12 C12 K12,du:=EH X G A12,dz:=(zD (st:=wF) L12 C12 K12).binds (ps:=["_law_cell"]) λ_ _ _ _ _ _ us hl=>match us,hl with|[_],_=>rfl,bL:=iG,bg:=_,b7:=zD (st:=wG) L13 C13 K13,bG:=EH X G A13,bJ:=(zD (st:=wG) L13 C13 K13).binds (ps:=["_law_script","_law_count","_law_place"]) λ_ _ _ _ _ _ us hl=>match us,hl with|[_,_,_],_=>rfl,bK:=iF,bf:=_,cx:=zD (st:=xh) L14 C14 K14,dq:=EH X G A14,dy:=(zD (st:=xh) L14 C14 K14).binds (ps:=["_law_script"]) λ_ _ _ _ _ _ us hl=>match us,hl with|[_],_=>rfl,bz:=jJ,aV:=_,cj:=zD (st:=xi) L15 C15 K15,cX:=EH X G A15,da:=(zD (st:=xi) L15 C15 K15).binds (ps:=["_law_script"]) λ_ _ _ _ _ _ us hl=>match us,hl with|[_],_=>rfl,bq:=mG,aQ:=_,cb:=zD (st:=xj) L16 C16 K16,cU:=EH X G A16,d7:=(zD (st:=xj) L16 C16 K16).binds (ps:=["_law_script","_law_node","_law_to","_law_copies"]) λ_ _ _ _ _ _ us hl=>match us,hl with|[_,_,_,_],_=>rfl,bt:=mF,aR:=_,bB:=zD (st:=xS) L17 C17 K17,bU:=EH X G A17,bW:=(zD (st:=xS) L17 C17 K17).binds (ps:=["_law_script","_law_node","_law_weights","_law_homes_here"]) λ_ _ _ _ _ _ us hl=>match us,hl with|[_,_,_,_],_=>rfl,bw:=mE,aT:=_,cf:=zD (st:=yB) L18 C18 K18,cV:=EH X G A18,d8:=(zD (st:=yB) L18 C18 K18).binds (ps:=["_law_script","_law_count"]) λ_ _ _ _ _ _ us hl=>match us,hl with|[_,_],_=>rfl,bx:=mD,aU:=_,cg:=zD (st:=yC) L19 C19 K19,cW:=EH X G A19,d9:=(zD (st:=yC) L19 C19 K19).binds (ps:=["_law_script"]) λ_ _ _ _ _ _ us hl=>match us,hl with|[_],_=>rfl,bN:=mC,bj:=_,cz:=zD (st:=xJ) L20 C20 K20,dv:=EH X G A20,dA:=(zD (st:=xJ) L20 C20 K20).binds (ps:=["_law_net"]) λ_ _ _ _ _ _ us hl=>match us,hl with|[_],_=>rfl,aD:=mB,ax:=_,aF:=zD (st:=yH) L21 C21 K21,b8:=EH X G A21,b9:=(zD (st:=yH) L21 C21 K21).binds (ps:=["_law_keys"]) λ_ _ _ _ _ _ us hl=>match us,hl with|[_],_=>rfl,cE:=mz,bV:=_,dm:=zD (st:=vU) L22 C22 K22,eB:=EH X G A22,eE:=(zD (st:=vU) L22 C22 K22).binds (ps:=["_law_choice","_law_classes"]) λ_ _ _ _ _ _ us hl=>match us,hl with|[_,_],_=>rfl,bA:=jI,aW:=_,ck:=zD (st:=xT) L23 C23 K23,cY:=EH X G A23,dc:=(zD (st:=xT) L23 C23 K23).binds (ps:=["_law_net","_law_classes"]) λ_ _ _ _ _ _ us hl=>match us,hl with|[_,_],_=>rfl,aZ:=jt,aL:=_,bR:=zD (st:=xo) L24 C24 K24,cI:=EH X G A24,cM:=(zD (st:=xo) L24 C24 K24).binds (ps:=["_law_found","_law_count"]) λ_ _ _ _ _ _ us hl=>match us,hl with|[_,_],_=>rfl,eV:=fa,dS:=_,iI:=zD (st:=VD) L25 C25 K25,jX:=EH X G A25,lO:=(zD (st:=VD) L25 C25 K25).binds (ps:=["_law_script"]) λ_ _ _ _ _ _ us hl=>match us,hl with|[_],_=>rfl,fY:=Fd X G gB,fX:=Fd X G fy,b0:=Fd X G cw,ib:=Fd X G gA,aH:=Fd X G bZ,cu:=Fd X G gy,cO:=Fd X G fx,az:=Fd X G eN,dH:=Fd X G cR,ia:=Fd X G gx,bC:=Fd X G e7,dG:=Fd X G gw,eG:=Fd X G eM,aN:=dE,dO:=EH X G aN,dU:=λH=> .inr ⟨_,_,_,dP,rfl,rfl,by show 2<=sizeLine;decide,(.cons ⟨_,rfl⟩ (.cons ⟨_,rfl⟩ .nil))⟩}
  exact⟨_,λs v=> .of_eq rfl,λbase _ _=>zlK T⟩
theorem zmD {l:Ik} {q:Program} {loose:List Str} {XP:(Str->Option Value)->Heap->Prop} {YP:World->Heap->Prop} {d:DefRec} {K:Params->E9} (hn:l.most=some 63) (kF:d.params.defaults=[])
  (hY:∀(w:World) (h:Heap),YP w h->(K w.params).In h)
  (F:∀(w:World) (mg:Str->Option Value) (fa:Addr) (h:Heap),(K w.params).In h->h.Ns mainGlobals mg->mg d.name=some (.ref fa)->
   ∃fd:FuncData,(∀(s:Shared) (u:Value),BindsTo s fd ⟨[u],[]⟩ [("_law_script",u)])/\∀base:Heap,(K w.params).In base->base.Ns mainGlobals mg->xE l.prog w (K w.params) mg base (CXE l.prog w) 9 fa fd ["_law_script"] (zab (K w.params))):
  JC q loose XP YP l.row.toRowW d [] (λf vs=>Js f vs):=
 L2.ziY (n:=63) (k:=9) (x:="_law_script") (CX:=λw=>CXE l.prog w) (sp:=λw=>zab (K w.params)) hn ∅ kF ⟨rfl,∅,∅,rfl⟩ hY F (λ_ _ a ns hl hO hS=>⟨a,ns,rfl,hO,hS,hl,λ_=>rfl⟩) λ_ _ _ _ _ ⟨_,_,_,_,_,z⟩=>z
end Prf
open PySem PySem.W PyProof.Rows
set_option maxRecDepth 100000 in
set_option maxHeartbeats 0 in
theorem PySem.Challenge.cw_lots_k71_rounds_walked_holds : PySem.Challenge.rw_lots_k71_rounds_walked.Holds := by
 w_on;o_law;k_head;(case hw=>w_witness2)
 k_fill
 refine Prf.zmD (l:=PySem.Challenge.rw_lots_k71_rounds_walked) rfl rfl (λw h Y=>Jy Y) ?F
 case F=>
  intro w mg fa h KX G iY
  refine' Prf.zlL KX G iY ?A0 ?L0 ?C0 ?K0 ?A1 ?L1 ?C1 ?K1 ?A2 ?L2 ?C2 ?K2 ?A3 ?L3 ?C3 ?K3 ?A4 ?L4 ?C4 ?K4 ?A5 ?L5 ?C5 ?K5 ?A6 ?L6 ?C6 ?K6 ?A7 ?L7 ?C7 ?K7 ?A8 ?L8 ?C8 ?K8 ?A9 ?L9 ?C9 ?K9 ?A10 ?L10 ?C10 ?K10 ?A11 ?L11 ?C11 ?K11 ?A12 ?L12 ?C12 ?K12 ?A13 ?L13 ?C13 ?K13 ?A14 ?L14 ?C14 ?K14 ?A15 ?L15 ?C15 ?K15 ?A16 ?L16 ?C16 ?K16 ?A17 ?L17 ?C17 ?K17 ?A18 ?L18 ?C18 ?K18 ?A19 ?L19 ?C19 ?K19 ?A20 ?L20 ?C20 ?K20 ?A21 ?L21 ?C21 ?K21 ?A22 ?L22 ?C22 ?K22 ?A23 ?L23 ?C23 ?K23 ?A24 ?L24 ?C24 ?K24 ?A25 ?L25 ?C25 ?K25 ?gB ?fy ?cw ?gA ?bZ ?gy ?fx ?eN ?cR ?gx ?e7 ?gw ?eM ?aN ?dP
  (case A0=>k_is);(case L0=>k_is);(case C0=>k_is);(case K0=>k_is);(case A1=>k_is);(case L1=>k_is)
  (case C1=>k_is);(case K1=>k_is);(case A2=>k_is);(case L2=>k_is);(case C2=>k_is);(case K2=>k_is)
  (case A3=>k_is);(case L3=>k_is);(case C3=>k_is);(case K3=>k_is);(case A4=>k_is);(case L4=>k_is)
  (case C4=>k_is);(case K4=>k_is);(case A5=>k_is);(case L5=>k_is);(case C5=>k_is);(case K5=>k_is)
  (case A6=>k_is);(case L6=>k_is);(case C6=>k_is);(case K6=>k_is);(case A7=>k_is);(case L7=>k_is)
  (case C7=>k_is);(case K7=>k_is);(case A8=>k_is);(case L8=>k_is);(case C8=>k_is);(case K8=>k_is)
  (case A9=>k_is);(case L9=>k_is);(case C9=>k_is);(case K9=>k_is);(case A10=>k_is);(case L10=>k_is)
  (case C10=>k_is);(case K10=>k_is);(case A11=>k_is);(case L11=>k_is);(case C11=>k_is);(case K11=>k_is)
  (case A12=>k_is);(case L12=>k_is);(case C12=>k_is);(case K12=>k_is);(case A13=>k_is);(case L13=>k_is)
  (case C13=>k_is);(case K13=>k_is);(case A14=>k_is);(case L14=>k_is);(case C14=>k_is);(case K14=>k_is)
  (case A15=>k_is);(case L15=>k_is);(case C15=>k_is);(case K15=>k_is);(case A16=>k_is);(case L16=>k_is)
  (case C16=>k_is);(case K16=>k_is);(case A17=>k_is);(case L17=>k_is);(case C17=>k_is);(case K17=>k_is)
  (case A18=>k_is);(case L18=>k_is);(case C18=>k_is);(case K18=>k_is);(case A19=>k_is);(case L19=>k_is)
  (case C19=>k_is);(case K19=>k_is);(case A20=>k_is);(case L20=>k_is);(case C20=>k_is);(case K20=>k_is)
  (case A21=>k_is);(case L21=>k_is);(case C21=>k_is);(case K21=>k_is);(case A22=>k_is);(case L22=>k_is)
  (case C22=>k_is);(case K22=>k_is);(case A23=>k_is);(case L23=>k_is);(case C23=>k_is);(case K23=>k_is)
  (case A24=>k_is);(case L24=>k_is);(case C24=>k_is);(case K24=>k_is);(case A25=>k_is);(case L25=>k_is)
  (case C25=>k_is);(case K25=>k_is);(case gB=>k_is);(case fy=>k_is);(case cw=>k_is);(case gA=>k_is)
  (case bZ=>k_is);(case gy=>k_is);(case fx=>k_is);(case eN=>k_is);(case cR=>k_is);(case gx=>k_is)
  (case e7=>k_is);(case gw=>k_is);(case eM=>k_is);(case aN=>k_is);(case dP=>k_is)
