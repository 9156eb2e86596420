import PyProof.Rows.All
import Wide.All
import OpenK.AllK
import Wide.FinOn
import Lean
import PyProof.EqAt
import PyProof.EqKinds
import PyProof.TupleCall
import PySem.Challenge.RW_lots_k73_laid_together
set_option Elab.async false
set_option linter.all false
set_option maxRecDepth 100000
local macro_rules | `(tactic| omega) => `(tactic| first | with_reducible assumption | lia | omega +splitDisjunctions)
open List renaming getElem?_eq_getElem->Er,getElem?_eq_some_iff->Es,length_map->Eu,getD_eq_getElem?_getD->Ew,getElem?_append_left->Ex,map_cons->Ey,mem_map->Ez,mem_of_getElem?->EA,getElem?_map->EB,mem_cons_of_mem->ED,mem_cons_self->EG,mem_cons->EJ,getElem_mem->EK,getElem?_append_right->EL,length_append->ER,getElem?_set->EV,mem_singleton->EZ,size_toArray->F1,length_cons->F5,set->F7,take_length->F9,map_append->Fd,getElem?_eq_none->Fe,mem_append->Ff,find?_cons->Fg,pairwise_map->Fh,map_map->Fj,replicate->Fp,length_set->Fq,getElem?_of_mem->Fu,range->Fv,mem_range->Fx,length_take->FD,mem_append_right->FH,sum_cons->FK,map_congr_left->FL,nodup_cons->FO,toArray->FR,getElem_inj->FW,cons_append->FX,prefix_refl->FY,length_singleton->G1,lookup_cons->G3,all_eq_true->G4,getElem?_replicate->Ga,length_reverse->Gd,take_of_length_le->Ge,Nodup->Gf,zip_cons_cons->Gh,pairwise_iff_getElem->Gi,getElem?_eq_none_iff->Gj,mem_filter->Gm,map->Gp,ext_getElem?->Gr,getElem_of_mem->Gv,append_nil->Gz,of_mem_zip->GA,append_assoc->GD,length_eq_zero_iff->GO,nodup_append->GU,map_nil->GV,mem_append_left->GW,any_cons->Hb,filterMap_cons->He,mem_or_eq_of_mem_set->Hg,find?_eq_none->Hk,reverse_cons->Hq,length_range->Hr,nodup_range->Hu,not_mem_nil->Hv,take_succ_eq_append_getElem->Hw,getElem?_reverse->Hy,set_getElem_self->Hz,getElem?_set_ne->HA,length_nil->HC,map_eq_cons_iff->HE,mem_of_mem_take->HG,getElem?_range->HI,dropLast_concat_getLast->HL,prefix_append->HR,foldl_append->Ie,mem_of_find?_eq_some->Ii,any_eq_true->Ir,eq_of_mem_replicate->Iu,pairwise_mergeSort->Iw,sum_append->IE,range_succ->IH,getElem?_set_self->IK,length_replicate->IW,nodup_nil->J0,length_filter_le->J1,getElem?_mapIdx->J4,replicate_succ'->J5,mergeSort_perm->J8,mem_filterMap->J9,zip_nil_right->Jd,set_set->Jf,zip_nil_left->Jk,flatten_cons->Jn,lookup->Jo,countP_cons->Jw,getElem_map->Jx,ext_getElem->Jy,isEmpty_iff->Jz,mem_flatten->JC,mem_reverse->JD,foldl_cons->JI,find?_some->JK,length_zip->JL,any_map->JW,map_set->JX
open PySem.W renaming Frag->Et,nsIn->EI,keepIn->EY,codeIn->F0,fnOf->F3,mg_of->F4,mg_none_of->Fy,kitOne->FE,findIn->G7,kitMeta->GB,mroIn->Ha,KdlSrc->Hl,KdlKeysView->HH,InstAt->HJ,subIn->HU,methodObj->HX,specialIn->HY,kitx_list->HZ,instObj->IA,OpenLaw->IB,findObj->IC,cellsFrom_some->IL,lookIn->IV,kitCls->IX,looks_findIn->J2,clsIn->J7,kitx_tuple->Jb,kitx_dict->Ji,plainGet->Js,ksm_same->Jv,takesIn->JE,kIn_of->JM,WalkO->JQ,isFn->JU,KitX->JV
open Option renaming bind_some->EC,map_eq_some_iff->F8,bind_eq_some_iff->Fb,map_some->FZ,isSome_iff_exists->G2,isSome_map->GC,getD_none->Il,map_eq_none_iff->IQ,bind->Jp,getD_some->Ju,map_map->JO,map->JY
open Nat renaming le_refl->EE,ne_of_lt->EH,le_trans->EW,lt_of_lt_of_le->F6,le_of_lt->Fc,lt_of_le_of_lt->FA,lt_succ_of_lt->FI,lt_irrefl->FJ,lt_succ_self->G5,zero_le->Gk,gcd->Gw,pow_le_pow_right->GH,le_succ->GK,le_of_eq->GL,le_add_right->GY,ne_of_gt->Hi,gcd_comm->HF,lt_trichotomy->Ic,mod_lt->Ih,gcd_pos_of_pos_right->Iq,add_sub_cancel_left->Iy,lt_trans->Ja,pow_pos->Jr,succ_ne_self->Jt,not_lt->JG,add_assoc->JS
open Or renaming inl->EF,inr->Im
open Option.some renaming inj->Fi,injEq->FN
open PySem.F renaming slot_list_append->Fk,type_list_append->Fo,plainAttrs_list->Fs,plainAttrs_dict->Gu,plain_list_iadd->GN,slot_dict_keys->Hs,slot_dict_get->Hx,plain_proto_collect->HP,slot_dict_getitem->Ig,slot_dict_values->Io,args_dict_get_3->Iv,slot_dict_items->Iz,entry_dict_get->IM,type_dict_keys->IT
open Sum renaming inl->Ft,inr->Ij
open Int renaming toNat_natCast->Fw,mul_assoc->FG,gcd->FV,mul_le_mul_of_nonneg_right->G0,toNat->Gb,emod_nonneg->Gn,mul_comm->Gq,mul_le_mul_of_nonneg_left->Gs,emod_lt_of_pos->Gx,ediv_eq_of_eq_mul_right->Gy,natAbs_of_nonneg->GJ,mul_pos->Hd,natAbs_mul->Hn,mul_nonneg->Ho,gcd_pos_of_ne_zero_right->HK,fdiv_eq_ediv_of_nonneg->HW,le_trans->Ip,natCast_mul->II,natCast_add->IJ,le_refl->IP,natAbs_dvd_natAbs->IZ,zero_add->Jh,lt_trichotomy->Jl,gcd_dvd_right->Jm,mul_add->Jq,gcd_dvd_left->JA,natCast_emod->JB
open Array renaming length_toList->FC,getElem?_toList->FQ,size_map->G9,getElem?_eq_getElem->GF,toList_map->GZ,forIn_toList->Hj,getD->Hm,append_assoc->HM,getD_eq_getD_getElem?->HQ,getElem?_eq_some_iff->HS,toList->Ik,getElem_toList->J3,getElem?_map->Jc,map_extract->Jj
open Classical renaming byContradiction->FP,choose_spec->IY
open List.Pairwise renaming imp_of_mem->FT,filter->JZ,nil->Ka,and->Kb
open PyProof.Rows renaming callWith_type1->FU,callWith_builtin1->HB
open Bool renaming false_eq_true->G6,and_eq_true->Gg,or_false->Hc,eq_iff_iff->HD,false_ne_true->HN,beq_eq_decide_eq->IU,false_or->JP,true_bne->JR
open True renaming intro->G8
open PySem renaming mem_of_lookup->Gc,intBits_le_iff->GX,frameOf->J6,call->JF,Within->JT
open Ne renaming symm->GP
open False renaming elim->GQ
open ForInStep renaming yield->GR
open Rat renaming intCast_mul->Hf,div_def->Ht,mul_inv_cancel->Jg
open Function renaming comp->HV
open Array.Perm renaming toList->Ia,refl->JH
open List.cons renaming injEq->IG
open Exists renaming intro->Je
open List.Perm renaming swap->JN
local macro_rules|`(∅)=>`(by decide)
local macro_rules|`(⋯)=>`(by omega)
local macro_rules|`(nofun)=>`(fun z=>by cases z)
local macro_rules|`(*...*)=>`(by decide+kernel)
inductive PySem.W.Fast:Prop|tw10007987587315954984|tw10044652651956365355|tw10226733256398191205|tw10375709156706116683|tw10390523395684777993|tw10456878045441609748|tw10497223438447629825|tw10570940330728888196|tw10577881414796925546|tw10620116195508268009|tw10782692710108525079|tw10891857149558975731|tw10916955671451229313|tw11064585695461778039|tw11095913098073744659|tw11240999657895040894|tw11332844199847859266|tw11511668313944146141|tw11544382710255681214|tw11607003084797604272|tw11658395266736312964|tw11726983226750709240|tw1197505538336032372|tw12060718515482168316|tw1209877358631622193|tw12121238238284616203|tw12256212089267887239|tw12359396595369942029|tw12391255736431492554|tw12435821612770124648|tw12473037091575272611|tw12495488279967361998|tw12538010357674787041|tw12553641083337605101|tw1269979291388102403|tw1283725180523155652|tw12880033352905470545|tw13096511045453415629|tw13121518429542470446|tw13278927293727012645|tw13354901603751783792|tw13674369299494482315|tw13835322501606216013|tw13843953612206910979|tw13882992987630850283|tw13926493796249861871|tw14238099371644967224|tw14401066576080293412|tw14404366947430259254|tw14620704787406183366|tw14653594494866598610|tw14934437070720759927|tw1493787893645231896|tw15268464705303264847|tw15343413743067740944|tw15406572963681103064|tw15485110260651045245|tw15550110986767517101|tw15694327008720113974|tw15734305924349089513|tw15810270129288902037|tw15826033096587362803|tw15843070293666263141|tw15950202388127022821|tw16046005403489521333|tw16062986468721742103|tw16079679130212002104|tw16156107008562044193|tw16208005563753577966|tw16240991717931706088|tw16282355328899911501|tw16354419617697519316|tw16678162037269668590|tw16682169457199250741|tw16696581262873304452|tw17036496177088204204|tw17254385618639705473|tw17380364247878282549|tw17526197078826697923|tw1762892659852293310|tw17688606588307484933|tw17777483538311459390|tw17978288543065319036|tw17996964798872340965|tw18019320121965854229|tw18257455667815808882|tw1842361244803380803|tw18435768668519464191|tw1907059022146842312|tw1950246411211408770|tw1955640435426958150|tw1972721422278327990|tw2339183385031829757|tw2544940628974113709|tw2611810532523205820|tw2612143394368269280|tw2710743442807324619|tw2804756493016283272|tw2871629534111730751|tw2975972568599528766|tw30093827958523314|tw3041630702745360546|tw3060662665988538403|tw3107016379560754066|tw3182242345521090606|tw318475677434829003|tw3434986461923675342|tw3443330466234299215|tw345618052786727334|tw3520154622495743505|tw3816959219805441026|tw3974485694461782407|tw4444529784353471594|tw4835955216668995182|tw5025780462699660620|tw5119461647145725152|tw5342909468797430320|tw5597114621838326088|tw5698408028034322384|tw5787206020194985856|tw5842835261302740259|tw5980813643741422461|tw6011842742918411980|tw6028466579799728210|tw6089925562703178232|tw6134152109136849778|tw6168364685867732957|tw6234016332792027512|tw6257106744046659079|tw6420030992212146841|tw6785069532273197786|tw68147309366129620|tw6930872328437348846|tw7038794834654942279|tw7227861012399417982|tw7279286254764831520|tw7298609244024252662|tw7485780176823558739|tw7510413441269177333|tw7635407684510278570|tw7807694919905975869|tw7965901889646895410|tw8427933695928545815|tw8615944395369783612|tw8917069148872260006|tw8997710904618420315|tw911831550425243300|tw9139161772235319473|tw9140427970995606673|tw9161775799346433018|tw9260951988840373115|tw9275847197496451326|tw9278437565504814881|tw9311821815884387468|tw9494454530813627230|tw9629531123035145253|tw9711912160028915848|tw9902641574785420544|tw9982814973069135648
namespace L2
open PySem PySem.Spec PyProof.Rows
abbrev Key:=Sum Int Str
noncomputable def WL:Key->Value->Bool
 | .inl k,v=>Value.isInt k v
 | .inr x,v=>Value.isStrOf x v
noncomputable def zd1 (w:World):Key->Int
 | .inl k=>hashInt k
 | .inr x=>hashStr w x
theorem yw:∀{k:Key} {v:Value},WL k v=true->(∃i t,k=Ft i/\v=Value.int i t)\/(∃x t,k=Ij x/\v=Value.str x t)
 | .inl i,v,h=>by
  obtain⟨t,e⟩:=Value.isInt_shape (k:=i) (v:=v) h
  exact .inl ⟨i,t,rfl,e⟩
 | .inr x,v,h=>by
  obtain⟨t,e⟩:=Value.isStrOf_shape (x:=x) (v:=v) h
  exact .inr ⟨x,t,rfl,e⟩
theorem zfH (i:Int) (t:Tok):WL (.inl i) (.int i t)=true:=by simp[WL,Value.isInt]
theorem zfI (x:Str) (t:Tok):WL (.inr x) (.str x t)=true:=by simp[WL,Value.isStrOf]
theorem zkc (a b:Int):decide ((Ft a:Key)=Ft b)=(a==b):=by
 by_cases e:a=b
 ·subst e;simp
 ·have h:¬(Ft a:Key)=Ft b:=λq=>e (Sum.inl.inj q)
  rw[decide_eq_false h]
  exact (beq_eq_false_iff_ne.mpr e).symm
theorem zkd (a b:Str):decide ((Ij a:Key)=Ij b)=decide (a=b):=by
 by_cases e:a=b
 ·subst e;simp
 ·have h:¬(Ij a:Key)=Ij b:=λq=>e (Sum.inr.inj q)
  rw[decide_eq_false h,decide_eq_false e]
theorem zke (a:Int) (b:Str):decide ((Ft a:Key)=Ij b)=false:=decide_eq_false (λq=>nomatch q)
theorem zkf (a:Str) (b:Int):decide ((Ij a:Key)=Ft b)=false:=decide_eq_false (λq=>nomatch q)
noncomputable def zT (prog:Program) (w:World):PySem.KeyKind prog w Key where
 is:=WL
 hash:=zd1 w
 inj:=λv a b ha hb=>by
  rcases yw ha with⟨i,t,rfl,rfl⟩|⟨x,t,rfl,rfl⟩
  ·rcases yw hb with⟨j,u,rfl,e⟩|⟨y,u,rfl,e⟩
   ·injection e with e1 _;rw[e1]
   ·exact nomatch e
  ·rcases yw hb with⟨j,u,rfl,e⟩|⟨y,u,rfl,e⟩
   ·exact nomatch e
   ·injection e with e1 _;rw[e1]
 byValue:=λk v h=>by
  rcases yw h with⟨i,t,rfl,rfl⟩|⟨x,t,rfl,rfl⟩<;>rfl
 pyHash:=λhv h=>by
  rcases yw hv with⟨i,t,rfl,rfl⟩|⟨x,t,rfl,rfl⟩
  ·exact wpAny_pyHash_int h
  ·exact wpAny_pyHash_str h
 eqBool:=λhu hv h=>by
  rcases yw hu with⟨i,t,rfl,rfl⟩|⟨x,t,rfl,rfl⟩
  ·rcases yw hv with⟨j,u,rfl,rfl⟩|⟨y,u,rfl,rfl⟩
   ·rw[zkc] at h;exact wpAny_eqBool_int h
   ·rw[zke] at h;exact SeqAt.EqAt.int_str i t y u _ _ _ _ h
  ·rcases yw hv with⟨j,u,rfl,rfl⟩|⟨y,u,rfl,rfl⟩
   ·rw[zkf] at h;exact SeqAt.EqAt.str_int x t j u _ _ _ _ h
   ·rw[zkd] at h;exact wpAny_eqBool_str h
 «strs» :=λk x t v h=>by
  rcases yw h with⟨i,u,rfl,e⟩|⟨y,u,rfl,e⟩
  ·exact nomatch e
  ·injection e with e1 _
   subst e1
   cases v<;>rfl
theorem zcX (prog:Program) (w:World) (i:Int) (t:Tok):(zT prog w).is (.inl i) (.int i t)=true:=zfH i t
theorem zcY (prog:Program) (w:World) (x:Str) (t:Tok):(zT prog w).is (.inr x) (.str x t)=true:=zfI x t
inductive V where
 |non|bl (b:Bool)|int (i:Int)|str (x:Str)|byt (b:Array UInt8)|flt (b:UInt64)|ref (a:Addr)|ty (n:String)
 deriving DecidableEq
def zP:V->Value->Prop
 | .non,u=>u=Value.none
 | .bl b,u=>u=Value.bool b
 | .int i,u=>∃t,u=Value.int i t
 | .str x,u=>∃t,u=Value.str x t
 | .byt b,u=>∃t,u=Value.bytes b t
 | .flt b,u=>∃t,u=Value.float b t
 | .ref a,u=>u=Value.ref a
 | .ty n,u=>u=Value.type n
noncomputable abbrev zY:List V->List Value->Prop:=Paired zP
theorem zY.length {xs:List V} {us:List Value} (r:zY xs us):xs.length=us.length:=Paired.length r
theorem zY.get:∀{xs:List V} {us:List Value} {i:Nat} {x:V},zY xs us->xs[i]? =some x->∃u,us[i]? =some u/\zP x u
 |_,_,_,_,.nil,e=>by simp at e
 |_,_,0,_,.cons r _,e=>by simp at e;subst e;exact⟨_,rfl,r⟩
 |_,_,i+1,x,.cons _ t,e=>by
  obtain⟨u,h1,h2⟩:=zY.get (i:=i) (x:=x) t (by simpa using e)
  exact⟨u,by simpa using h1,h2⟩
theorem zY.set {x:V} {u:Value} (r:zP x u):∀{xs:List V} {us:List Value} (i:Nat),zY xs us->zY (xs.set i x) (us.set i u)
 |_,_,_,.nil=> .nil
 |_,_,0,.cons _ t=> .cons r t
 |_,_,i+1,.cons q t=> .cons q (zY.set r i t)
theorem zY.append:∀{xs ys:List V} {us ws:List Value},zY xs us->zY ys ws->zY (xs++ys) (us++ws)
 |_,_,_,_,.nil,s=>s
 |_,_,_,_,.cons r t,s=> .cons r (zY.append t s)
theorem zY.take:∀{xs:List V} {us:List Value} (n:Nat),zY xs us->zY (xs.take n) (us.take n)
 |_,_,0,_=> .nil
 |_,_,_+1,.nil=> .nil
 |_,_,n+1,.cons r t=> .cons r (zY.take n t)
theorem zY.drop:∀{xs:List V} {us:List Value} (n:Nat),zY xs us->zY (xs.drop n) (us.drop n)
 |_,_,0,r=>r
 |_,_,_+1,.nil=> .nil
 |_,_,n+1,.cons _ t=>zY.drop n t
def WG:Option V->Option Value->Prop
 |some v,some u=>zP v u
 |none,none=>True
 |_,_=>False
def KV {κ:Type}:List (κ×V)->List (κ×Value)->Prop:=Paired λ(p:κ×V) (q:κ×Value)=>p.1=q.1/\zP p.2 q.2
noncomputable def kV:Key->V
 | .inl i=> .int i
 | .inr x=> .str x
inductive NK where
 |int (i:Int)|str (x:Str)|tup (l:List NK)
noncomputable instance:DecidableEq NK:=λa b=>Classical.propDecidable (a=b)
mutual
noncomputable def yg (w:World):NK->Int
 | .int i=>zd1 w (.inl i)
 | .str x=>zd1 w (.inr x)
 | .tup l=>reduceHash (Builtin.Tuple.tupleHashOf (Yv w l))
noncomputable def Yv (w:World):List NK->List Int
 |[]=>[]
 |k::r=>yg w k::Yv w r
end
mutual
noncomputable def yv:NK->Nat
 | .int _=>0
 | .str _=>0
 | .tup l=>wB l+1
noncomputable def wB:List NK->Nat
 |[]=>0
 |k::r=>max (yv k) (wB r)
end
noncomputable def zkg (w:World) (x:NK×Addr×Value):DictEntry:={hash:=yg w x.1,key:= .ref x.2.1,val:=x.2.2}
inductive HO where
 |lst (xs:List V)
 |tup (xs:List V)
 |dK (kvs:List (Key×V))|dT (kvs:List (List Key×V))
 |dN (ks:List (NK×Addr×V))
 |set (S:Int->Bool) (n:Nat)
 |ins (C dx:Addr) (fs:List (Str×V))
 |own (x:Addr)
 |xd (fs:List (Str×V))
 |met (f x:Addr)
 |rng (lo hi:Int)
 |frz (o:Obj) (u:HO)
 |tbl (ps:Array Value)
 |ext (φ:Heap->Prop)
abbrev Hp:=Addr->Option HO
noncomputable def upd (H:Hp) (a:Addr) (o:HO):Hp:=λb=>if b=a then some o else H b
theorem yl {H:Hp} {a:Addr} {o:HO}:upd H a o a=some o:=by unfold upd;rw[if_pos rfl]
theorem yj {H:Hp} {a b:Addr} {o:HO} (h:b≠a):upd H a o b=H b:=by unfold upd;rw[if_neg h]
theorem zlA {H:Hp} {a b:Addr} {o u:HO} (h:H a=some o) (h':H b=some u) (d:o≠u):a≠b:=by
 intro e;subst e;rw[h] at h';exact d (Fi h')
theorem xT {H:Hp} {a b:Addr} {o:HO} (h:H a=some o) (h':H b=none):a≠b:=by
 intro e;subst e;rw[h] at h';cases h'
section
variable (P:Program) (w:World)
def yr (H:Hp) (h:Heap) (a:Addr):HO->Prop
 | .lst xs=>xs.length<=sizeLine/\∃(ae:List Value) (n:Nat),zY xs ae/\h.get? a=some {cls:= .type "list",data:= .seq ae.toArray n}
 | .tup xs=>xs.length<=sizeLine/\∃ae:List Value,zY xs ae/\IsTup h a ae.toArray
 | .dK kvs=>kvs.length<=sizeLine/\(a==sysModules)=false/\∃vs,KV kvs vs/\h.DictOf (zT P w) a vs
 | .dT kvs=>kvs.length<=sizeLine/\(a==sysModules)=false/\∃xs:List (List Key×Addr×Value),
   Paired (λ(p:List Key×V) (q:List Key×Addr×Value)=>p.1=q.1/\H q.2.1=some (.tup (p.1.map kV))/\zP p.2 q.2.2) kvs xs/\
   ∃o es ep,h.get? a=some o/\o.ExactDict/\o.data= .dict es ep/\es.toList=xs.map (entryOfKey (tupleKind (zT P w)))/\(xs.map (·.1)).Nodup
 | .dN ks=>ks.length<=sizeLine/\(a==sysModules)=false/\∃xs:List (NK×Addr×Value),Paired (λ(p:NK×Addr×V) (q:NK×Addr×Value)=>p.1=q.1/\p.2.1=q.2.1/\zP p.2.2 q.2.2) ks xs/\
   ∃o es ep,h.get? a=some o/\o.ExactDict/\o.data= .dict es ep/\es.toList=xs.map (zkg w)/\(xs.map (·.1)).Nodup
 | .set S n=>h.SetOf (intKind P w) a S n
 | .ins C dx fs=>H dx=some (.own a)/\fs.length<=1000/\dx≠a/\h.get? a=some (IA C dx)/\
   ∃mA,h.Ns1 dx mA/\(∀f,WG (fs.lookup f) (mA f))/\JT mA (fs.map (·.1))
 | .own _=>∃o,h.get? a=some o
 | .xd fs=>∃mA,h.Ns1 a mA/\∀f,WG (fs.lookup f) (mA f)
 | .rng lo hi=>∃t u v,h.get? a=some {cls:= .type "range",data:= .fields #[.int lo t,.int hi u,.int 1 v]}
 | .frz o u=>h.get? a=some o/\yr H h a u
 | .tbl ps=>h.get? a=some {cls:= .none,data:= .fields ps}
 | .met f x=>h.get? a=some (HX (.ref f) (.ref x))
 | .ext φ=>φ h/\(∃o,h.get? a=some o)/\∀h1 h2:Heap,φ h1->(∀o,h1.get? a=some o->h2.get? a=some o)->φ h2
def HOk (H:Hp) (h:Heap):Prop:=∀a o,H a=some o->yr P w H h a o
end
section
variable {P:Program} {w:World} {H H':Hp} {h h':Heap} {a:Addr} {o:HO}
theorem yr.lt (x:yr P w H h a o):a<h.objs.size:=by
 cases o with
 |lst xs=>obtain⟨_,_,_,_,e⟩:=x;exact Heap.lt_size e
 |tup xs=>obtain⟨_,_,_,p⟩:=x;exact p.lt
 |dK kvs=>obtain⟨_,_,_,_,o,_,_,e,_⟩:=x;exact Heap.lt_size e
 |dT kvs=>obtain⟨_,_,_,_,o,_,_,e,_⟩:=x;exact Heap.lt_size e
 |dN ks=>obtain⟨_,_,_,_,o,_,_,e,_⟩:=x;exact Heap.lt_size e
 |set S n=>obtain⟨o,_,_,_,e,_⟩:=x;exact Heap.lt_size e
 |ins C dx fs=>obtain⟨_,_,_,e,_⟩:=x;exact Heap.lt_size e
 |own y=>obtain⟨_,e⟩:=x;exact Heap.lt_size e
 |xd fs=>obtain⟨_,⟨_,_,_,e,_⟩,_⟩:=x;exact Heap.lt_size e
 |rng lo hi=>obtain⟨_,_,_,e⟩:=x;exact Heap.lt_size e
 |frz ob u=>obtain⟨e,_⟩:=x;exact Heap.lt_size e
 |tbl ps=>exact Heap.lt_size (show h.get? a=some _ from x)
 |met f y=>exact Heap.lt_size (show h.get? a=some _ from x)
 |ext φ=>obtain⟨_,⟨_,e⟩,_⟩:=x;exact Heap.lt_size e
theorem Paired.mapP {α β:Type} {F G:α->β->Prop}:∀{l₁:List α} {l₂:List β},Paired F l₁ l₂->(∀a b,F a b->G a b)->Paired G l₁ l₂
 |_,_,.nil,_=> .nil
 |_,_,.cons r t,f=> .cons (f _ _ r) (Paired.mapP t f)
theorem yr.stay (x:yr P w H h a o) (k:∀b u,(b=a\/H b=some (.own a))->h.get? b=some u->h'.get? b=some u)
  (ho:∀b,H b=some (.own a)->H' b=some (.own a)) (ht:∀b xs,H b=some (.tup xs)->H' b=some (.tup xs)):yr P w H' h' a o:=by
 induction o with
 |lst xs=>obtain⟨z,ae,n,r,e⟩:=x;exact⟨z,ae,n,r,k _ _ (.inl rfl) e⟩
 |tup xs=>obtain⟨z,ae,r,ob,e,c⟩:=x;exact⟨z,ae,r,ob,k _ _ (.inl rfl) e,c⟩
 |dK kvs=>obtain⟨z,y,vs,r,ob,es,ep,e,c⟩:=x;exact⟨z,y,vs,r,ob,es,ep,k _ _ (.inl rfl) e,c⟩
 |dT kvs=>
  obtain⟨z,y,xs,r,ob,es,ep,e,c⟩:=x
  exact⟨z,y,xs,Paired.mapP r λp q z=>⟨z.1,ht _ _ z.2.1,z.2.2⟩,ob,es,ep,k _ _ (.inl rfl) e,c⟩
 |dN ks=>obtain⟨z,y,xs,r,ob,es,ep,e,c⟩:=x;exact⟨z,y,xs,r,ob,es,ep,k _ _ (.inl rfl) e,c⟩
 |set S n=>obtain⟨ob,es,ep,t,e,c⟩:=x;exact⟨ob,es,ep,t,k _ _ (.inl rfl) e,c⟩
 |ins C dx fs=>
  obtain⟨d,z,ne,e,mA,⟨od,es,ep,e2,c⟩,r⟩:=x
  exact⟨ho _ d,z,ne,k _ _ (.inl rfl) e,mA,⟨od,es,ep,k _ _ (.inr d) e2,c⟩,r⟩
 |own y=>obtain⟨ob,e⟩:=x;exact⟨ob,k _ _ (.inl rfl) e⟩
 |xd fs=>obtain⟨mA,⟨od,es,ep,e,c⟩,r⟩:=x;exact⟨mA,⟨od,es,ep,k _ _ (.inl rfl) e,c⟩,r⟩
 |rng lo hi=>obtain⟨t,u,v,e⟩:=x;exact⟨t,u,v,k _ _ (.inl rfl) e⟩
 |frz ob u ih=>obtain⟨e,q⟩:=x;exact⟨k _ _ (.inl rfl) e,ih q⟩
 |tbl ps=>
  have e:h.get? a=some {cls:= .none,data:= .fields ps}:=x
  show h'.get? a=some {cls:= .none,data:= .fields ps}
  exact k a _ (.inl rfl) e
 |met f y=>
  have e:h.get? a=some (HX (.ref f) (.ref y)):=x
  show h'.get? a=some (HX (.ref f) (.ref y))
  exact k a _ (.inl rfl) e
 |ext φ=>obtain⟨p,⟨o,e⟩,st⟩:=x;exact⟨st _ _ p λo q=>k _ _ (.inl rfl) q,⟨o,k _ _ (.inl rfl) e⟩,st⟩
theorem HOk.lt (x:HOk P w H h) (e:H a=some o):a<h.objs.size:=(x a o e).lt
theorem HOk.fresh (x:HOk P w H h) (e:h.objs.size<=a):H a=none:=by
 cases q:H a with
 |none=>rfl
 |some u=>exact absurd (F6 (x.lt q) e) (FJ _)
theorem HOk.kept (x:HOk P w H h) (k:∀b u,h.get? b=some u->h'.get? b=some u):HOk P w H h':=λa o e=>
 (x a o e).stay (λb u _ q=>k b u q) (λ_ q=>q) λ_ _ q=>q
theorem HOk.laid (x:HOk P w H h) (k:∀b u,h.get? b=some u->h'.get? b=some u) (hp:h.objs.size<=a) (new:yr P w (upd H a o) h' a o):HOk P w (upd H a o) h':=λb u e=>by
 have hn:=x.fresh hp
 by_cases hb:b=a
 ·subst hb;rw[yl] at e;cases e;exact new
 ·rw[yj hb] at e
  exact (x b u e).stay (λc v _ q=>k c v q) (λc q=>by rw[yj (xT q hn)];exact q) λc xs q=>by rw[yj (xT q hn)];exact q
end
def Rd (H:Hp) (a:Addr) (u:HO):Prop:=H a=some u\/∃o,H a=some (.frz o u)
theorem Rd.ok {P:Program} {w:World} {H:Hp} {h:Heap} {a:Addr} {u:HO} (r:Rd H a u) (x:HOk P w H h):yr P w H h a u:=by
 rcases r with r|⟨o,r⟩
 ·exact x a u r
 ·obtain⟨_,q⟩:=x a _ r
  exact q
def Mut:Option HO->Prop
 |some (.lst _)=>True
 |some (.dK _)=>True
 |some (.dT _)=>True
 |some (.dN _)=>True
 |some (.set _ _)=>True
 |some (.ins _ _ _)=>True
 |some (.ext _)=>True
 |_=>False
section
variable {P:Program} {w:World} {H:Hp} {h h':Heap} {x e:Addr} {o':HO}
theorem HOk.write (ok:HOk P w H h) (mu:Mut (H x)) (he:e=x\/H e=some (.own x)) (k:∀b u,b≠e->h.get? b=some u->h'.get? b=some u) (iH:∃u,h'.get? e=some u)
  (new:yr P w (upd H x o') h' x o'):HOk P w (upd H x o') h':=λb u q=>by
 have jV:∀c y,H c=some (.own y)->c≠x:=λc y r z=>by subst z;rw[r] at mu;exact mu
 have oQ:∀c xs,H c=some (.tup xs)->c≠x:=λc xs r z=>by subst z;rw[r] at mu;exact mu
 by_cases hb:b=x
 ·subst hb;rw[yl] at q;cases q;exact new
 ·rw[yj hb] at q
  by_cases jq:b=e
  ·have q':H b=some (.own x):=by
    rcases he with z|z
    ·exact absurd (jq.trans z) hb
    ·rw[jq];exact z
   rw[q] at q';cases q'
   obtain⟨v,hv⟩:=iH
   exact⟨v,by rw[jq];exact hv⟩
  ·refine (ok b u q).stay (λc v hc r=>k c v ?_ r) (λc r=>by rw[yj (jV c b r)];exact r) λc xs r=>by rw[yj (oQ c xs r)];exact r
   rcases hc with rfl|hc
   ·exact jq
   ·rintro rfl
    rcases he with z|z
    ·exact jV c b hc z
    ·rw[hc] at z;cases z;exact hb rfl
end
structure Un (fs ex:List Addr) (H H':Hp) (h h':Heap):Prop where
 keep:∀b o,h.get? b=some o->H b=none->b∉fs->b∉ex->h'.get? b=some o
 slot:∀b o,h.get? b=some o->H b=none->b∈fs->b∉ex->∃sl,h'.get? b=some {o with slots:=sl}
 free:∀b o,h.get? b=some o->H b=none->b∉ex->H' b=none
 there:∀b o,h.get? b=some o->b∉ex->∃o',h'.get? b=some o'
 tups:∀b xs,H b=some (.tup xs)->H' b=some (.tup xs)
 frzs:∀b o u,H b=some (.frz o u)->H' b=some (.frz o u)
 tbls:∀b ps,H b=some (.tbl ps)->∃more,H' b=some (.tbl (ps++more))
section
variable {fs fs' ex ex':List Addr} {H H1 H2:Hp} {h h1 h2 h':Heap} {a x e:Addr} {o:HO}
theorem Un.any (u:Un fs ex H H1 h h1) {b:Addr} {ob:Obj} (q:h.get? b=some ob) (n:H b=none) (hx:b∉ex):∃sl,h1.get? b=some {ob with slots:=sl}:=by
 by_cases hb:b∈fs
 ·exact u.slot b ob q n hb hx
 ·exact⟨ob.slots,u.keep b ob q n hb hx⟩
theorem Un.trans (a:Un fs ex H H1 h h1) (b:Un fs ex H1 H2 h1 h2):Un fs ex H H2 h h2 where
 keep:=λc ob q n hc hx=>b.keep c ob (a.keep c ob q n hc hx) (a.free c ob q n hx) hc hx
 slot:=λc ob q n hc hx=>by
  obtain⟨sl,e1⟩:=a.slot c ob q n hc hx
  obtain⟨sl',e2⟩:=b.slot c _ e1 (a.free c ob q n hx) hc hx
  exact⟨sl',e2⟩
 free:=λc ob q n hx=>by
  obtain⟨o',e1⟩:=a.there c ob q hx
  exact b.free c o' e1 (a.free c ob q n hx) hx
 there:=λc ob q hx=>by
  obtain⟨o',e1⟩:=a.there c ob q hx
  exact b.there c o' e1 hx
 tups:=λc xs q=>b.tups c xs (a.tups c xs q)
 frzs:=λc ob xs q=>b.frzs c ob xs (a.frzs c ob xs q)
 tbls:=λc ps q=>by
  obtain⟨m1,e1⟩:=a.tbls c ps q
  obtain⟨m2,e2⟩:=b.tbls c _ e1
  exact⟨m1++m2,by rw[e2,HM]⟩
theorem Un.kept (k:∀b u,h.get? b=some u->h'.get? b=some u):Un fs ex H H h h':=
 ⟨λb ob q _ _ _=>k b ob q,λb ob q _ _ _=>⟨ob.slots,k b ob q⟩,λ_ _ _ n _=>n,λb ob q _=>⟨ob,k b ob q⟩,λ_ _ q=>q,λ_ _ _ q=>q,λ_ ps q=>⟨#[],by rw[q];simp⟩⟩
theorem Un.refl:Un fs ex H H h h:=Un.kept λ_ _ q=>q
theorem Un.laid (k:∀b u,h.get? b=some u->h'.get? b=some u) (hp:h.objs.size<=a) (hn:H a=none):Un fs ex H (upd H a o) h h' where
 keep:=λb u q _ _ _=>k b u q
 slot:=λb u q _ _ _=>⟨u.slots,k b u q⟩
 free:=λb u q n _=>by rw[yj (EH (F6 (Heap.lt_size q) hp))];exact n
 there:=λb u q _=>⟨u,k b u q⟩
 tups:=λb xs q=>by rw[yj (xT q hn)];exact q
 frzs:=λb u xs q=>by rw[yj (xT q hn)];exact q
 tbls:=λb ps q=>⟨#[],by rw[yj (xT q hn),q];simp⟩
theorem Un.write (mu:Mut (H x)) (he:e=x\/H e=some (.own x)) (k:∀b u,b≠e->h.get? b=some u->h'.get? b=some u) (iH:∃u,h'.get? e=some u):Un fs ex H (upd H x o) h h':=by
 have hx:∀b,H b=none->b≠x:=λb n z=>by subst z;rw[n] at mu;exact mu
 have hb:∀b,H b=none->b≠e:=λb n z=>by
  subst z
  rcases he with r|r
  ·exact hx b n r
  ·rw[n] at r;cases r
 have hm:∀b u,H b=some u->¬Mut (some u)->b≠x:=λb u q nm z=>by subst z;rw[q] at mu;exact nm mu
 refine⟨λb u q n _ _=>k b u (hb b n) q,λb u q n _ _=>⟨u.slots,k b u (hb b n) q⟩,λb u q n _=>by rw[yj (hx b n)];exact n,λb u q _=> ?_,
  λb xs q=>by rw[yj (hm b _ q λz=>z)];exact q,λb u xs q=>by rw[yj (hm b _ q λz=>z)];exact q,λb ps q=>⟨#[],by rw[yj (hm b _ q λz=>z),q];simp⟩⟩
 by_cases jq:b=e
 ·subst jq;exact iH
 ·exact⟨u,k b u jq q⟩
end
noncomputable def trk (h:Heap) (H:Hp):List Addr:=(Fv h.objs.size).filter λa=>(H a).isSome
noncomputable def zbY (h:Heap) (H:Hp):Heap:=PySem.W.hideAll h (trk h H)
theorem zfJ (h:Heap) (H:Hp):(zbY h H).objs.size=h.objs.size:=PySem.W.hideAll_size _ _
theorem zgu {h:Heap} {H:Hp} {b:Addr} {o:Obj} (e:h.get? b=some o) (n:H b=none):(zbY h H).get? b=some o:=
 PySem.W.hideAll_get _ e λhm=>by
  have q:(H b).isSome=true:=(Gm.mp hm).2
  rw[n] at q;simp at q
theorem zix {h:Heap} {H:Hp} {b:Addr} {o:Obj} (e:(zbY h H).get? b=some o):h.get? b=some o/\H b=none:=by
 have e':h.get? b=some o:=PySem.W.of_hideAll (trk h H) e
 refine⟨e',?_⟩
 cases q:H b with
 |none=>rfl
 |some x=>
  have hm:b∈trk h H:=Gm.mpr ⟨Fx.mpr (Heap.lt_size e'),by simp[q]⟩
  have z:(zbY h H).get? b=none:=PySem.W.hideAll_none (trk h H) hm
  rw[z] at e;cases e
structure Mod (K:Et) (mg:Str->Option Value) (base:Heap):Prop where
 kin:K.In base
 glob:base.Ns mainGlobals mg
 blt:∃mb,base.Ns builtinsNs mb/\∀x:Str,x≠"__name__"->mb x=bootBuiltins x
 nolimit:base.NoLimit
structure Cx where
 prog:Program
 w:World
 K:Et
 mg:Str->Option Value
 base:Heap
 A:Around
 N:List Str
 s₀:Shared
 H₀:Hp
 env:Env
 outer:List Env
 stack:List Env
 ex:List Addr
 fn:Str->Bool
 calm:Bool
 pn:List (Addr×Obj)
 xe:Value->Shared->Prop
noncomputable def frs (l:List Env):List Addr:=l.filterMap (·.frame)
noncomputable abbrev Cx.fs (X:Cx):List Addr:=frs X.outer
def Vis (sc:Scope) (x:Str):Prop:=sc.names.lookup x=some .local\/sc.names.lookup x=some .cell\/sc.names.lookup x=some .free
def Loc (sc:Scope) (x:Str):Prop:=sc.names.lookup x=some .local\/sc.names.lookup x=some .cell
def zmm (env:Env) (h:Heap) (m:Str->Option Value) (x:Str) (u:Value):Prop:=
 (env.kindOf x=some .local/\m x=some u)\/((env.kindOf x=some .cell\/env.kindOf x=some .free)/\∃c,env.cells.lookup x=some c/\h.IsCell c (some u))
structure Cx.Ok (X:Cx):Prop where
 mod:Mod X.K X.mg X.base
 kind:X.env.scope.kind= .function
 glob:X.env.globals=mainGlobals
 blt:X.env.builtins=builtinsNs
 above:X.s₀.heap.objs.size<=X.env.locals
 inj:∀x y c,X.env.cells.lookup x=some c->X.env.cells.lookup y=some c->x=y
 has:∀x,(X.env.kindOf x=some .cell\/X.env.kindOf x=some .free)->∃c,X.env.cells.lookup x=some c
 cab:∀x c,X.fn x=true->X.env.cells.lookup x=some c->X.s₀.heap.objs.size<=c
 hd:X.calm=true->X.A.handled=none
 frames:X.A.frames=some X.stack
 stk:X.stack=X.outer\/(X.stack=X.env::X.outer/\X.env.frame=some X.env.locals)
 exf:∀b∈X.ex,b≠X.env.locals/\∀x c,X.env.cells.lookup x=some c->c≠b
 bs:∀b o,X.base.get? b=some o->X.s₀.heap.get? b=some o/\X.H₀ b=none
 bsz:X.base.objs.size<=X.s₀.heap.objs.size
 noex:∀b o,X.base.get? b=some o->b∉X.ex
 exfs:∀b∈X.ex,b∉X.fs
 funs:X.s₀.heap.FunFrames X.base X.outer
 frf:∀b∈X.fs,X.H₀ b=none
structure Inv (X:Cx) (pins:List (Addr×Obj)) (σ:List (Option V)) (H:Hp) (s:Shared):Prop where
 ok:X.Ok
 os:s.os=X.s₀.os
 bare:AllBare s.gens
 base:Un X.fs X.ex X.H₀ H X.s₀.heap s.heap
 loc:∃m,s.heap.Ns X.env.locals m/\∀(i:Nat) (x:Str) (v:V),X.N[i]? =some x->σ[i]? =some (some v)->Vis X.env.scope x->∃u,zP v u/\zmm X.env s.heap m x u
 cell:∀x c,X.env.cells.lookup x=some c->∃v,s.heap.IsCell c v
 free:H X.env.locals=none
 freeC:∀x c,X.env.cells.lookup x=some c->H c=none
 pin:∀p∈X.pn++pins,s.heap.get? p.1=some p.2/\H p.1=none/\p.1≠X.env.locals/\p.1∉X.fs/\∀v,p.2.data≠ .cell v
 hok:HOk X.prog X.w H s.heap
 len:σ.length=X.N.length
section
variable {X:Cx} {pins:List (Addr×Obj)} {σ:List (Option V)} {H H':Hp} {s:Shared} {h':Heap}
theorem Cx.Ok.nofr (ok:X.Ok) {b:Addr} {o:Obj} (e:X.base.get? b=some o):b∉X.fs:=λhb=>by
 have:=(ok.funs.mem hb).1
 rw[e] at this;cases this
theorem Inv.bs (I:Inv X pins σ H s):∀b o,X.base.get? b=some o->s.heap.get? b=some o/\H b=none:=λb o e=>
 ⟨I.base.keep b o (I.ok.bs b o e).1 (I.ok.bs b o e).2 (I.ok.nofr e) (I.ok.noex b o e),I.base.free b o (I.ok.bs b o e).1 (I.ok.bs b o e).2 (I.ok.noex b o e)⟩
theorem Inv.bk (I:Inv X pins σ H s):∀b o,X.base.get? b=some o->s.heap.get? b=some o:=λb o e=>(I.bs b o e).1
theorem Inv.mod (I:Inv X pins σ H s):Mod X.K X.mg X.base:=I.ok.mod
theorem Inv.kIn (I:Inv X pins σ H s):X.K.In s.heap:=I.ok.mod.kin.keeps I.bk
theorem Inv.lt (I:Inv X pins σ H s):X.env.locals<s.heap.objs.size:=let ⟨_,hn,_⟩:=I.loc;hn.lt
theorem Inv.sz (I:Inv X pins σ H s):X.s₀.heap.objs.size<=s.heap.objs.size:=EW I.ok.above (Fc I.lt)
theorem Inv.nofs (I:Inv X pins σ H s) {a:Addr} (h:s.heap.objs.size<=a):a∉X.fs:=λhb=>by
 obtain⟨_,o,ho,_⟩:=I.ok.funs.mem hb
 exact absurd (F6 (Heap.lt_size ho) (EW I.sz h)) (FJ _)
theorem Inv.cne (I:Inv X pins σ H s):∀x c,X.env.cells.lookup x=some c->c≠X.env.locals:=λx c e z=>by
 obtain⟨v,o,ho,hd⟩:=I.cell x c e
 obtain⟨m,⟨o',es,ep,dz,gj,_⟩,_⟩:=I.loc
 rw[z,dz] at ho;cases ho;rw[gj] at hd;cases hd
theorem Inv.funs (I:Inv X pins σ H s):s.heap.FunFrames X.base X.outer:=by
 have all:∀(l:List Env),(∀b∈frs l,b∈X.fs)->X.s₀.heap.FunFrames X.base l->s.heap.FunFrames X.base l:=by
  intro l
  induction l with
  |nil=>intro _ _;trivial
  |cons env r ih=>
   intro hs hl
   obtain⟨hk,⟨L,o,hf,hn,ho,hd⟩,hr⟩:=hl
   have hL:L∈X.fs:=hs L (by unfold frs;rw[He,hf];exact EG)
   obtain⟨sl,e⟩:=I.base.slot L o ho (I.ok.frf L hL) hL λz=>I.ok.exfs L z hL
   exact⟨hk,⟨L,_,hf,hn,e,hd⟩,ih (λb hb=>hs b (by unfold frs;rw[He,hf];exact ED _ hb)) hr⟩
 exact all X.outer (λ_ hb=>hb) I.ok.funs
theorem Inv.stack (I:Inv X pins σ H s):s.heap.FunFrames X.base X.stack:=by
 rcases I.ok.stk with e|⟨e,hf⟩
 ·rw[e];exact I.funs
 ·rw[e]
  obtain⟨m,hn,_⟩:=I.loc
  refine .cons (by rw[I.ok.kind];decide) hf hn ?_ I.funs
  exact Heap.get?_none_of_le (EW I.ok.bsz I.ok.above)
theorem Inv.stkSub (I:Inv X pins σ H s):∀b∈frs X.stack,b∈X.env.locals::X.fs:=λb hb=>by
 rcases I.ok.stk with e|⟨e,hf⟩
 ·rw[e] at hb;exact ED _ hb
 ·rw[e] at hb
  unfold frs at hb
  rw[He,hf] at hb
  exact hb
theorem Inv.stkFree (I:Inv X pins σ H s):∀b∈frs X.stack,H b=none:=λb hb=>by
 rcases EJ.mp (I.stkSub b hb) with e|hb
 ·rw[e];exact I.free
 ·obtain⟨_,o,ho,_⟩:=I.ok.funs.mem hb
  exact I.base.free b o ho (I.ok.frf b hb) λz=>I.ok.exfs b z hb
theorem Inv.step {g':Array GenState} {t':Nat} {d':Drawn} {ch:List Addr} (I:Inv X pins σ H s)
  (eJ:∀b∈ch,(b∈X.ex\/X.s₀.heap.objs.size<=b)/\b≠X.env.locals/\(∀x c,X.env.cells.lookup x=some c->c≠b)/\∀p∈X.pn++pins,p.1≠b)
  (keep:∀b o,b≠X.env.locals->b∉X.fs->b∉ch->s.heap.get? b=some o->H b=none->h'.get? b=some o)
  (slot:∀b o,b≠X.env.locals->b∈X.fs->b∉ch->s.heap.get? b=some o->H b=none->∃sl,h'.get? b=some {o with slots:=sl}) (free:∀b o,b∉ch->s.heap.get? b=some o->H b=none->H' b=none)
  (there:∀b o,b∉ch->s.heap.get? b=some o->∃o',h'.get? b=some o')
  (tups:∀b xs,H b=some (.tup xs)->H' b=some (.tup xs)) (frzs:∀b o u,H b=some (.frz o u)->H' b=some (.frz o u)) (tbls:∀b ps,H b=some (.tbl ps)->∃more,H' b=some (.tbl (ps++more)))
  (ns:∀m,s.heap.Ns X.env.locals m->h'.Ns X.env.locals m) (hok:HOk X.prog X.w H' h') (hg:AllBare g'):
  Inv X pins σ H' {s with heap:=h',gens:=g',drawn:=d',toks:=t'}:=by
 have t7:∀b o,X.s₀.heap.get? b=some o->b≠X.env.locals:=λb o e=>EH (F6 (Heap.lt_size e) I.ok.above)
 have lW:∀b o,X.s₀.heap.get? b=some o->b∉X.ex->b∉ch:=λb o e hx hb=>by
  rcases (eJ b hb).1 with z|z
  ·exact hx z
  ·exact absurd (F6 (Heap.lt_size e) z) (FJ _)
 have cellK:∀x c,X.env.cells.lookup x=some c->∀v,s.heap.IsCell c v->h'.IsCell c v:=λx c e v ⟨o,ho,hd⟩=>by
  have jY:c∉ch:=λz=>(eJ c z).2.2.1 x c e rfl
  by_cases hc:c∈X.fs
  ·obtain⟨sl,q⟩:=slot c o (I.cne x c e) hc jY ho (I.freeC x c e)
   exact⟨_,q,hd⟩
  ·exact⟨o,keep c o (I.cne x c e) hc jY ho (I.freeC x c e),hd⟩
 refine⟨I.ok,I.os,hg,⟨λb o e n hb hx=> ?_,λb o e n hb hx=> ?_,λb o e n hx=> ?_,λb o e hx=> ?_,λb xs e=>tups b xs (I.base.tups b xs e),λb o xs e=>frzs b o xs (I.base.frzs b o xs e),λb ps e=> ?_⟩,?_,λx c e=> ?_,?_,λx c e=> ?_,λp hp=> ?_,hok,I.len⟩
 ·exact keep b o (t7 b o e) hb (lW b o e hx) (I.base.keep b o e n hb hx) (I.base.free b o e n hx)
 ·obtain⟨sl,e1⟩:=I.base.slot b o e n hb hx
  obtain⟨sl',e2⟩:=slot b _ (t7 b o e) hb (lW b o e hx) e1 (I.base.free b o e n hx)
  exact⟨sl',e2⟩
 ·obtain⟨o',e1⟩:=I.base.there b o e hx
  exact free b o' (lW b o e hx) e1 (I.base.free b o e n hx)
 ·obtain⟨o',e1⟩:=I.base.there b o e hx
  exact there b o' (lW b o e hx) e1
 ·obtain⟨m1,e1⟩:=I.base.tbls b ps e
  obtain⟨m2,e2⟩:=tbls b _ e1
  exact⟨m1++m2,by rw[e2,HM]⟩
 ·obtain⟨m,hn,hl⟩:=I.loc
  refine⟨m,ns m hn,λi x v e1 e2 e3=> ?_⟩
  obtain⟨u,r,l⟩:=hl i x v e1 e2 e3
  refine⟨u,r,?_⟩
  rcases l with l|⟨k,c,e,z⟩
  ·exact .inl l
  ·exact .inr ⟨k,c,e,cellK x c e _ z⟩
 ·obtain⟨v,z⟩:=I.cell x c e
  exact⟨v,cellK x c e v z⟩
 ·obtain⟨m,⟨o,_,_,ho,_⟩,_⟩:=I.loc
  exact free _ o (λz=>(eJ _ z).2.1 rfl) ho I.free
 ·obtain⟨v,o,ho,hd⟩:=I.cell x c e
  exact free c o (λz=>(eJ c z).2.2.1 x c e rfl) ho (I.freeC x c e)
 ·obtain⟨e,n,ne,nf,d⟩:=I.pin p hp
  have jY:p.1∉ch:=λz=>(eJ p.1 z).2.2.2 p hp rfl
  exact⟨keep p.1 p.2 ne nf jY e n,free p.1 p.2 jY e n,ne,nf,d⟩
theorem Inv.un {t':Nat} (I:Inv X pins σ H s) (u:Un X.fs [] H H' s.heap h') (hok:HOk X.prog X.w H' h'):Inv X pins σ H' {s with heap:=h',toks:=t'}:=by
 obtain⟨m,⟨o,es,ep,ho,r⟩,_⟩:=id I.loc
 obtain⟨sl,hL⟩:=u.any ho I.free (by simp)
 exact I.step (g':=s.gens) (d':=s.drawn) (ch:=[]) (λ_ z=>nomatch z) (λb o _ hb _ e n=>u.keep b o e n hb (by simp)) (λb o _ hb _ e n=>u.slot b o e n hb (by simp)) (λb o _ e n=>u.free b o e n (by simp)) (λb o _ e=>u.there b o e (by simp)) u.tups u.frzs u.tbls (λm' hm=>by
  obtain⟨o',es',ep',dz,r'⟩:=hm
  rw[ho] at dz;cases dz
  exact⟨_,es',ep',hL,r'⟩) hok I.bare
theorem Inv.call {g':Array GenState} {t':Nat} {d':Drawn} {ch:List Addr} (I:Inv X pins σ H s) (u:Un (frs X.stack) ch H H' s.heap h') (hok:HOk X.prog X.w H' h') (hg:AllBare g')
  (eJ:∀b∈ch,(b∈X.ex\/X.s₀.heap.objs.size<=b)/\b≠X.env.locals/\(∀x c,X.env.cells.lookup x=some c->c≠b)/\∀p∈X.pn++pins,p.1≠b):
  Inv X pins σ H' {s with heap:=h',gens:=g',drawn:=d',toks:=t'}:=by
 obtain⟨m,⟨o,es,ep,ho,r⟩,_⟩:=id I.loc
 obtain⟨sl,hL⟩:=u.any ho I.free λz=>(eJ _ z).2.1 rfl
 exact I.step (ch:=ch) eJ (λb o hL hb hc e n=>u.keep b o e n (λz=>(EJ.mp (I.stkSub b z)).elim hL hb) hc) (λb o _ _ hc e n=>u.any e n hc) (λb o hc e n=>u.free b o e n hc) (λb o hc e=>u.there b o e hc) u.tups u.frzs u.tbls (λm' hm=>by
  obtain⟨o',es',ep',dz,r'⟩:=hm
  rw[ho] at dz;cases dz
  exact⟨_,es',ep',hL,r'⟩) hok hg
theorem Inv.turned {t':Nat} {it:Addr} (I:Inv X pins σ H s) (k:∀b o,b≠it->s.heap.get? b=some o->h'.get? b=some o) (hn:H it=none) (hL:it≠X.env.locals)
  (h1:it∈X.ex\/X.s₀.heap.objs.size<=it) (h2:∀x c,X.env.cells.lookup x=some c->c≠it) (h3:∀p∈X.pn++pins,p.1≠it):Inv X pins σ H {s with heap:=h',toks:=t'}:=by
 have jX:∀b u,H b=some u->b≠it:=λb u e z=>by rw[z,hn] at e;cases e
 refine I.step (g':=s.gens) (d':=s.drawn) (ch:=[it]) (λb hb=> ?_) (λb o _ _ hc e _=>k b o (λz=>hc (by simp[z])) e) (λb o _ _ hc e _=>⟨o.slots,k b o (λz=>hc (by simp[z])) e⟩) (λ_ _ _ _ n=>n)
  (λb o hc e=>⟨o,k b o (λz=>hc (by simp[z])) e⟩) (λ_ _ e=>e) (λ_ _ _ e=>e) (λb ps e=>⟨#[],by rw[e];simp⟩) (λm hm=> ?_) (λb u e=> ?_) I.bare
 ·have e:b=it:=by simpa using hb
  subst e
  exact⟨h1,hL,h2,h3⟩
 ·obtain⟨o,es,ep,ho,r⟩:=hm
  exact⟨o,es,ep,k _ o (GP hL) ho,r⟩
 ·refine (I.hok b u e).stay (λc v hc q=>k c v ?_ q) (λ_ q=>q) λ_ _ q=>q
  rcases hc with z|z
  ·rw[z];exact jX b u e
  ·exact jX c _ z
theorem Inv.tok (I:Inv X pins σ H s) (t:Nat):Inv X pins σ H {s with toks:=t}:=I.un (h':=s.heap) (t':=t) Un.refl I.hok
theorem Inv.kept {t':Nat} (I:Inv X pins σ H s) (k:∀b u,s.heap.get? b=some u->h'.get? b=some u):Inv X pins σ H {s with heap:=h',toks:=t'}:=I.un (Un.kept k) (I.hok.kept k)
theorem Inv.laid {a:Addr} {o:HO} {t':Nat} (I:Inv X pins σ H s) (k:∀b u,s.heap.get? b=some u->h'.get? b=some u) (hp:s.heap.objs.size<=a) (new:yr X.prog X.w (upd H a o) h' a o):
  Inv X pins σ (upd H a o) {s with heap:=h',toks:=t'}:=I.un (Un.laid k hp (I.hok.fresh hp)) (I.hok.laid k hp new)
theorem Inv.write {x e:Addr} {o:HO} {t':Nat} (I:Inv X pins σ H s) (mu:Mut (H x)) (he:e=x\/H e=some (.own x)) (k:∀b u,b≠e->s.heap.get? b=some u->h'.get? b=some u) (iH:∃u,h'.get? e=some u)
  (new:yr X.prog X.w (upd H x o) h' x o):Inv X pins σ (upd H x o) {s with heap:=h',toks:=t'}:=I.un (Un.write mu he k iH) (I.hok.write mu he k iH new)
theorem Inv.weak {σ':List (Option V)} (I:Inv X pins σ H s) (hl:σ'.length=σ.length) (w:∀(i:Nat) v,σ'[i]? =some (some v)->σ[i]? =some (some v)):Inv X pins σ' H s:=
 ⟨I.ok,I.os,I.bare,I.base,let ⟨m,hn,h8⟩:=I.loc;⟨m,hn,λi x v e1 e2 e3=>h8 i x v e1 (w i v e2) e3⟩,I.cell,I.free,I.freeC,I.pin,I.hok,hl.trans I.len⟩
theorem Inv.pins_of {pins':List (Addr×Obj)} (I:Inv X pins σ H s) (h:∀p∈pins',s.heap.get? p.1=some p.2/\H p.1=none/\p.1≠X.env.locals/\p.1∉X.fs/\∀v,p.2.data≠ .cell v):Inv X pins' σ H s:=
 ⟨I.ok,I.os,I.bare,I.base,I.loc,I.cell,I.free,I.freeC,λp hp=>(Ff.mp hp).elim (λz=>I.pin p (GW _ z)) (h p),I.hok,I.len⟩
theorem zcZ {N:List Str} (hN:N.Nodup) {i j:Nat} {x:Str} (a:N[i]? =some x) (b:N[j]? =some x):i=j:=by
 obtain⟨h1,e1⟩:=Es.mp a
 obtain⟨h2,e2⟩:=Es.mp b
 exact (FW hN).mp (e1.trans e2.symm)
theorem zbs {M:Model} {A:Around} {E:Value->Shared->Prop} {i:Nat} {x:Str} {v:V} {u:Value} {Q:Unit->Shared->Prop} (I:Inv X pins σ H s) (hN:X.N.Nodup) (hi:X.N[i]? =some x) (hx:Loc X.env.scope x) (r:zP v u)
  (h:∀s',Inv X pins (σ.set i (some v)) H s'->(∃a,Heap.SameBut a s.heap s'.heap/\(a=X.env.locals\/X.env.cells.lookup x=some a))->Q () s') (hf:X.fn x=true\/X.env.scope.names.lookup x=some .local:=by first|exact .inl rfl|exact .inr rfl|assumption):wpAny M A (storeName X.env x u) Q E s:=by
 obtain⟨m,hn,hl⟩:=id I.loc
 have qM:(X.env.scope.kind== .class||(X.env.scope.kind== .module&&X.env.locals !=X.env.globals))=false:=by rw[I.ok.kind];rfl
 have hiσ:i<σ.length:=by rw[I.len];exact (Es.mp hi).1
 have cne:=I.cne
 have tracked:∀{a:Addr} {h':Heap},(∃o,s.heap.get? a=some o/\H a=none)->Heap.SameBut a s.heap h'->HOk X.prog X.w H h':=λ{a h'} ha hs b ob e=>by
  obtain⟨_,_,iG⟩:=ha
  refine (I.hok b ob e).stay (λc w' hc q=>(hs.2 c ?_).trans q) (λ_ q=>q) λ_ _ q=>q
  rintro rfl
  rcases hc with rfl|hc
  ·rw[iG] at e;cases e
  ·rw[iG] at hc;cases hc
 rcases hx with hk|hk
 ·refine wpAny_storeName_local hk hn (λh' Bz hs=> ?_) qM
  obtain⟨oL,_,_,kh,_⟩:=id hn
  refine h _ ⟨I.ok,I.os,I.bare,⟨λb o e n hb hx=> ?_,λb o e n hb hx=> ?_,I.base.free,λb o e hx=> ?_,I.base.tups,I.base.frzs,I.base.tbls⟩,⟨_,Bz,λj y v' e1 e2 e3=> ?_⟩,λy c e=> ?_,I.free,I.freeC,λp hp=> ?_,tracked ⟨oL,kh,I.free⟩ hs,by simpa using I.len⟩ ⟨_,hs,.inl rfl⟩
  ·exact (hs.2 b (EH (F6 (Heap.lt_size e) I.ok.above))).trans (I.base.keep b o e n hb hx)
  ·obtain⟨sl,e1⟩:=I.base.slot b o e n hb hx
   exact⟨sl,(hs.2 b (EH (F6 (Heap.lt_size e) I.ok.above))).trans e1⟩
  ·obtain⟨o',e1⟩:=I.base.there b o e hx
   exact⟨o',(hs.2 b (EH (F6 (Heap.lt_size e) I.ok.above))).trans e1⟩
  ·by_cases hj:j=i
   ·subst hj
    rw[hi] at e1;cases e1
    rw[IK hiσ] at e2
    cases e2
    exact⟨u,r,.inl ⟨hk,by simp⟩⟩
   ·rw[HA (GP hj)] at e2
    obtain⟨u',r',q⟩:=hl j y v' e1 e2 e3
    refine⟨u',r',?_⟩
    rcases q with⟨k,e⟩|⟨k,c,e,z⟩
    ·refine .inl ⟨k,?_⟩
     have:y≠x:=λe=>hj (zcZ hN e1 (e ▸ hi))
     simp[this,e]
    ·exact .inr ⟨k,c,e,z.sameBut hs (cne y c e)⟩
  ·obtain⟨w',z⟩:=I.cell y c e
   exact⟨w',z.sameBut hs (cne y c e)⟩
  ·obtain⟨e,n,ne,nf,d⟩:=I.pin p hp
   exact⟨(hs.2 p.1 ne).trans e,n,ne,nf,d⟩
 ·have qH:X.fn x=true:=by
   rcases hf with z|z
   ·exact z
   ·rw[z] at hk;cases hk
  obtain⟨c,hc⟩:=I.ok.has x (.inl hk)
  obtain⟨w',z⟩:=I.cell x c hc
  refine wpAny_storeName_cell I.ok.kind hk hc z (λh' cI hs=> ?_)
  obtain⟨oc,ud,qe⟩:=id z
  refine h {s with heap:=h'} ⟨I.ok,I.os,I.bare,⟨λb o e n hb hx=> ?_,λb o e n hb hx=> ?_,I.base.free,λb o e hx=> ?_,I.base.tups,I.base.frzs,I.base.tbls⟩,⟨m,hn.sameBut hs (GP (cne x c hc)),λj y v' e1 e2 e3=> ?_⟩,λy c' e=> ?_,I.free,I.freeC,λp hp=> ?_,tracked ⟨oc,ud,I.freeC x c hc⟩ hs,by simpa using I.len⟩ ⟨c,hs,.inr hc⟩
  ·exact (hs.2 b (EH (F6 (Heap.lt_size e) (I.ok.cab x c qH hc)))).trans (I.base.keep b o e n hb hx)
  ·obtain⟨sl,e1⟩:=I.base.slot b o e n hb hx
   exact⟨sl,(hs.2 b (EH (F6 (Heap.lt_size e) (I.ok.cab x c qH hc)))).trans e1⟩
  ·obtain⟨o',e1⟩:=I.base.there b o e hx
   exact⟨o',(hs.2 b (EH (F6 (Heap.lt_size e) (I.ok.cab x c qH hc)))).trans e1⟩
  ·by_cases hj:j=i
   ·subst hj
    rw[hi] at e1;cases e1
    rw[IK hiσ] at e2
    cases e2
    exact⟨u,r,.inr ⟨.inl hk,c,hc,cI⟩⟩
   ·rw[HA (GP hj)] at e2
    obtain⟨u',r',q⟩:=hl j y v' e1 e2 e3
    refine⟨u',r',?_⟩
    rcases q with q|⟨k,c',e,z'⟩
    ·exact .inl q
    ·refine .inr ⟨k,c',e,z'.sameBut hs ?_⟩
     rintro rfl
     exact hj (zcZ hN e1 (I.ok.inj _ _ _ e hc ▸ hi))
  ·by_cases hZ:c'=c
   ·subst hZ;exact⟨_,cI⟩
   ·obtain⟨w2,z2⟩:=I.cell y c' e
    exact⟨w2,z2.sameBut hs hZ⟩
  ·obtain⟨e,n,ne,nf,d⟩:=I.pin p hp
   refine⟨(hs.2 p.1 ?_).trans e,n,ne,nf,d⟩
   intro q
   rw[q,ud] at e
   have q':oc=p.2:=Fi e
   exact d w' (by rw[<-q'];exact qe)
theorem Vv {M:Model} {A:Around} {E:Value->Shared->Prop} {i:Nat} {x:Str} {v:V} {u:Value} {Q:Unit->Shared->Prop} (I:Inv X pins σ H s) (hN:X.N.Nodup) (hi:X.N[i]? =some x) (hx:Loc X.env.scope x) (r:zP v u)
  (h:∀s',Inv X pins (σ.set i (some v)) H s'->Q () s') (hf:X.fn x=true\/X.env.scope.names.lookup x=some .local:=by first|exact .inl rfl|exact .inr rfl|assumption):wpAny M A (storeName X.env x u) Q E s:=
 zbs I hN hi hx r (λs' I' _=>h s' I') hf
theorem Inv.call' {s':Shared} {ch:List Addr} (I:Inv X pins σ H s) (ho:s'.os=s.os) (u:Un (frs X.stack) ch H H' s.heap s'.heap) (hok:HOk X.prog X.w H' s'.heap) (hg:AllBare s'.gens)
  (eJ:∀b∈ch,(b∈X.ex\/X.s₀.heap.objs.size<=b)/\b≠X.env.locals/\(∀x c,X.env.cells.lookup x=some c->c≠b)/\∀p∈X.pn++pins,p.1≠b):Inv X pins σ H' s':=by
 obtain⟨h',g',d',t',o'⟩:=s'
 have e:o'=s.os:=ho
 subst e
 exact I.call (g':=g') (t':=t') (d':=d') u hok hg eJ
end
abbrev XK:=Value->Option Addr->Hp->Prop
abbrev St:=List (Option V)
abbrev VK:=V->Hp->Prop
abbrev TE:=St->Hp->VK->Prop
abbrev TT:=St->Hp->(Bool->Hp->Prop)->Prop
abbrev TA:=St->Hp->(List V->Hp->Prop)->Prop
structure Uf where
 nx:St->Hp->Prop
 rt:VK
 bk:St->Hp->Prop:=λ_ _=>False
 ct:St->Hp->Prop:=λ_ _=>False
abbrev TS:=Uf->St->Hp->Prop
def EP (X:Cx) (pins:List (Addr×Obj)) (σ:St) (Q:VK) (u:Value) (s':Shared):Prop:=∃v H',Inv X pins σ H' s'/\zP v u/\Q v H'
def TP (X:Cx) (pins:List (Addr×Obj)) (σ:St) (Q:Bool->Hp->Prop) (b:Bool) (s':Shared):Prop:=∃H',Inv X pins σ H' s'/\Q b H'
def AP (X:Cx) (pins:List (Addr×Obj)) (σ:St) (Q:List V->Hp->Prop) (us:List Value) (s':Shared):Prop:=∃vs H',Inv X pins σ H' s'/\zY vs us/\Q vs H'
def SP (X:Cx) (pins:List (Addr×Obj)) (D:Uf) (f:Flow) (s':Shared):Prop:=
 match f with
 | .next=>∃σ' H',Inv X pins σ' H' s'/\D.nx σ' H'
 | .brk=>∃σ' H',Inv X pins σ' H' s'/\D.bk σ' H'
 | .cont=>∃σ' H',Inv X pins σ' H' s'/\D.ct σ' H'
 | .ret u=>∃v σ' H',Inv X pins σ' H' s'/\zP v u/\D.rt v H'
def PE (X:Cx) (e:Expr) (t:TE):Prop:=
 ∀(pins:List (Addr×Obj)) (s:Shared) (σ:St) (H:Hp) (Q:VK),Inv X pins σ H s->t σ H Q->wpAny (model X.prog X.w) X.A (eval e X.env) (EP X pins σ Q) X.xe s
def PT (X:Cx) (e:Expr) (t:TT):Prop:=
 ∀(pins:List (Addr×Obj)) (s:Shared) (σ:St) (H:Hp) (Q:Bool->Hp->Prop),Inv X pins σ H s->t σ H Q->wpAny (model X.prog X.w) X.A (isTrue e X.env (eval e X.env)) (TP X pins σ Q) X.xe s
def PW (X:Cx) (e:Expr) (t:TT):Prop:=
 ∀(whole:Sem Value) (pins:List (Addr×Obj)) (s:Shared) (σ:St) (H:Hp) (Q:Bool->Hp->Prop),Inv X pins σ H s->t σ H Q->wpAny (model X.prog X.w) X.A (isTrue e X.env whole) (TP X pins σ Q) X.xe s
theorem PW.pt {X:Cx} {e:Expr} {t:TT} (h:PW X e t):PT X e t:=h _
def PA (X:Cx) (es:List Expr) (t:TA):Prop:=
 ∀(pos:Pos) (pins:List (Addr×Obj)) (s:Shared) (σ:St) (H:Hp) (Q:List V->Hp->Prop),Inv X pins σ H s->t σ H Q->wpAny (model X.prog X.w) X.A (spliced (backTo pos (starEach es X.env))) (AP X pins σ Q) X.xe s
def PS (X:Cx) (st:Stmt) (t:TS):Prop:=
 ∀(pins:List (Addr×Obj)) (s:Shared) (σ:St) (H:Hp) (D:Uf),Inv X pins σ H s->t D σ H->wpAny (model X.prog X.w) X.A (exec st X.env) (SP X pins D) X.xe s
def PSs (X:Cx) (st:List Stmt) (t:TS):Prop:=
 ∀(pins:List (Addr×Obj)) (s:Shared) (σ:St) (H:Hp) (D:Uf),Inv X pins σ H s->t D σ H->wpAny (model X.prog X.w) X.A (execs st X.env) (SP X pins D) X.xe s
theorem thn {α:Type} {t:Sem α} {Q Q':α->Shared->Prop} {M:Model} {A:Around} {E:Value->Shared->Prop} {s:Shared} (h:wpAny M A t Q E s) (hQ:∀a s,Q a s->Q' a s):wpAny M A t Q' E s:=wpAny_mono h hQ λ_ _ x=>x
section
variable {X:Cx}
theorem bin {a b:Expr} {ta tb:TE} (ha:PE X a ta) (hb:PE X b tb) {pins:List (Addr×Obj)} {s:Shared} {σ:St} {H:Hp} {R:V->V->Hp->Prop} (I:Inv X pins σ H s) (h:ta σ H λx H1=>tb σ H1 λy H2=>R x y H2)
  {α:Type} {Q:α->Shared->Prop} {f:Value->Value->Sem α}
  (hf:∀v u s2 x y H2,Inv X pins σ H2 s2->zP x v->zP y u->R x y H2->wpAny (model X.prog X.w) X.A (f v u) Q X.xe s2):
  wpAny (model X.prog X.w) X.A (eval a X.env) (λv s₁=>wpAny (model X.prog X.w) X.A (eval b X.env) (λu s₂=>wpAny (model X.prog X.w) X.A (f v u) Q X.xe s₂) X.xe s₁) X.xe s:=by
 refine thn (ha pins s σ H _ I h) λv s1 ⟨x,H1,I1,r1,q1⟩=> ?_
 refine thn (hb pins s1 σ H1 _ I1 q1) λu s2 ⟨y,H2,I2,r2,q2⟩=> ?_
 exact hf v u s2 x y H2 I2 r1 r2 q2
def zkh (i:Nat):TE:=λσ H Q=>∃v,σ[i]? =some (some v)/\Q v H
def tC (v:V):TE:=λ_ H Q=>Q v H
theorem zki {i:Nat} {x:Str} {pos:Pos} (hN:X.N[i]? =some x) (hv:Vis X.env.scope x) (hd:(x==("__debug__":Str))=false:=by decide) (eF:(x==("__classdict__":Str))=false:=by decide):PE X (.Name x pos) (zkh i):=by
 intro pins s σ H Q I h
 obtain⟨v,e,h⟩:=h
 obtain⟨m,hn,hl⟩:=I.loc
 obtain⟨u,r,l⟩:=hl i x v hN e hv
 have fin:EP X pins σ Q u s:=⟨v,H,I,r,h⟩
 rcases l with⟨hk,hm⟩|⟨hk,c,hc,iJ⟩
 ·exact wpAny_Name (wpAny_loadName_local I.ok.kind hk hn hm fin) hd
 ·rcases hk with hk|hk
  ·exact wpAny_Name (wpAny_loadName_cell I.ok.kind hk hc iJ fin) hd
  ·exact wpAny_Name (wpAny_loadName_free I.ok.kind hk hc iJ fin eF) hd
theorem zm {i j pos}:PE X (.Constant (.int i) j pos) (tC (.int i)):=λ_ _ _ H _ I h=>wpAny_Constant_int ⟨.int i,H,I.tok _,⟨_,rfl⟩,h⟩
theorem XG {b j pos}:PE X (.Constant (.bool b) j pos) (tC (.bl b)):=λ_ _ _ H _ I h=>Constant_bool ⟨.bl b,H,I,rfl,h⟩
def Gl (X:Cx) (x:Str):Prop:=X.env.kindOf x=some .globalImplicit
theorem zeT {E:Value->Shared->Prop} {pins:List (Addr×Obj)} {s:Shared} {σ:St} {H:Hp} {x:Str} {u:Value} {pos:Pos} {Q:Value->Shared->Prop} (I:Inv X pins σ H s) (hg:Gl X x) (hm:X.mg x=some u) (h:Q u s)
  (hd:(x==("__debug__":Str))=false:=by decide):wpAny (model X.prog X.w) X.A (eval (.Name x pos) X.env) Q E s:=
 Calls.Name_function_global I.ok.kind hg (Calls.loadGlobal_global (by rw[I.ok.glob];exact I.mod.glob.keeps I.bk) hm h) hd
theorem Yw {E:Value->Shared->Prop} {pins:List (Addr×Obj)} {s:Shared} {σ:St} {H:Hp} {x:Str} {u:Value} {pos:Pos} {Q:Value->Shared->Prop} (I:Inv X pins σ H s) (hg:Gl X x) (hm:X.mg x=none) (hv:bootBuiltins x=some u) (h:Q u s)
  (hn:x≠"__name__":=by decide) (hd:(x==("__debug__":Str))=false:=by decide):wpAny (model X.prog X.w) X.A (eval (.Name x pos) X.env) Q E s:=by
 obtain⟨mb,h1,h2⟩:=I.mod.blt
 exact Calls.Name_function_global I.ok.kind hg (Calls.loadGlobal_builtin (by rw[I.ok.glob];exact I.mod.glob.keeps I.bk) hm (by rw[I.ok.blt];exact h1.keeps I.bk) ((h2 x hn).trans hv) h) hd
theorem zeU {x:Str} {v:V} {u:Value} {pos:Pos} (hg:Gl X x) (hm:X.mg x=some u) (r:zP v u) (hd:(x==("__debug__":Str))=false:=by decide):PE X (.Name x pos) (tC v):=
 λ_ _ _ H _ I h=>zeT I hg hm ⟨v,H,I,r,h⟩ hd
theorem Zn {x:Str} {v:V} {u:Value} {pos:Pos} (hg:Gl X x) (hm:X.mg x=none) (hv:bootBuiltins x=some u) (r:zP v u) (hn:x≠"__name__":=by decide) (hd:(x==("__debug__":Str))=false:=by decide):PE X (.Name x pos) (tC v):=
 λ_ _ _ H _ I h=>Yw I hg hm hv ⟨v,H,I,r,h⟩ hn hd
def t2I (ta tb:TE) (k:Int->Int->Hp->Prop):St->Hp->Prop:=λσ H=>ta σ H λx H1=>tb σ H1 λy H2=>∃i j,x= .int i/\y= .int j/\k i j H2
variable {a b:Expr} {ta tb:TE} {pos:Pos}
def PC (X:Cx) (op:CmpOp) (a b:Expr) (t:TE):Prop:=
 ∀(pins:List (Addr×Obj)) (s:Shared) (σ:St) (H:Hp) (Q:VK),Inv X pins σ H s->t σ H Q->
  wpAny (model X.prog X.w) X.A (eval a X.env) (λv s₁=>wpAny (model X.prog X.w) X.A (eval b X.env) (λu s₂=>wpAny (model X.prog X.w) X.A (compareOp op v u) (EP X pins σ Q) X.xe s₂) X.xe s₁) X.xe s
theorem zc0 (b:Expr) {op:CmpOp} (h:op≠ .In) (h2:op≠ .NotIn):behindInMarks op b=false:=by
 have e1:(op==CmpOp.In)=false:=by cases op<;>first|rfl|exact absurd rfl h
 have e2:(op==CmpOp.NotIn)=false:=by cases op<;>first|rfl|exact absurd rfl h2
 cases b<;>simp[behindInMarks,e1,e2]
def zc1 (p:Int->Int->Bool) (ta tb:TE):TE:=λσ H Q=>t2I ta tb (λi j H2=>Q (.bl (p i j)) H2) σ H
noncomputable abbrev tLt:TE->TE->TE:=zc1 λi j=>decide (i<j)
noncomputable abbrev tLe:TE->TE->TE:=zc1 λi j=>decide (i<=j)
noncomputable abbrev tGt:TE->TE->TE:=zc1 λi j=>decide (j<i)
noncomputable abbrev tGe:TE->TE->TE:=zc1 λi j=>decide (j<=i)
noncomputable abbrev zlB:TE->TE->TE:=zc1 λi j=>decide (i=j)
noncomputable abbrev zlC:TE->TE->TE:=zc1 λi j=> !decide (i=j)
theorem zbZ {op:CmpOp} {p:Int->Int->Bool} (ha:PE X a ta) (hb:PE X b tb)
  (rule:∀(i j:Int) (t u:Tok) (Q:Value->Shared->Prop) (s:Shared),Q (.bool (p i j)) s->wpAny (model X.prog X.w) X.A (compareOp op (.int i t) (.int j u)) Q X.xe s):PC X op a b (zc1 p ta tb):=by
 intro pins s σ H Q I h
 refine bin ha hb I h λv u s2 x y H2 I2 rx ry q=> ?_
 obtain⟨i,j,rfl,rfl,q⟩:=q
 obtain⟨t,rfl⟩:=rx
 obtain⟨t',rfl⟩:=ry
 exact rule i j t t' _ s2 ⟨.bl _,H2,I2,rfl,q⟩
theorem zjK (ha:PE X a ta) (hb:PE X b tb):PC X .Lt a b (tLt ta tb):=zbZ ha hb λ_ _ _ _ _ _ h=>lt_int h
theorem zc2 (ha:PE X a ta) (hb:PE X b tb):PC X .Gt a b (tGt ta tb):=zbZ ha hb λ_ _ _ _ _ _ h=>gt_int h
theorem Va (ha:PE X a ta) (hb:PE X b tb):PC X .Eq a b (zlB ta tb):=zbZ ha hb λ_ _ _ _ _ _ h=>eq_int (by rw[IU];exact h)
theorem XO (ha:PE X a ta) (hb:PE X b tb):PC X .NotEq a b (zlC ta tb):=zbZ ha hb λ_ _ _ _ _ _ h=>ne_int (by rw[bne,IU];exact h)
def tB (t:TE):TT:=λσ H Q=>t σ H λx H1=>∃c,x= .bl c/\Q c H1
theorem zkj {op:CmpOp} {t:TE} (h:PC X op a b t) (h1:behindInMarks op b=false:=by first|exact zc0 _ ∅ ∅|rfl):PE X (.Compare a [op] [b] pos) t:=λpins s σ H Q I hw=>wpAny_Compare1 (h pins s σ H Q I hw) h1
theorem xb {op:CmpOp} {t:TE} (h:PC X op a b t) (h1:behindInMarks op b=false:=by first|exact zc0 _ ∅ ∅|rfl):PT X (.Compare a [op] [b] pos) (tB t):=by
 intro pins s σ H Q I hw
 refine wpAny_isTrue_Compare1 (thn (h pins s σ H _ I hw) λv s1 h1=>thn h1 λu s2 h2=>thn h2 λc s3 ⟨x,H1,I1,r1,q1⟩=> ?_) h1
 obtain⟨d,rfl,q⟩:=q1
 cases r1
 exact wpAny_truthy_bool ⟨H1,I1,q⟩
theorem vo {e:Expr} {t:TE} (h:PE X e t) (he:∀whole,isTrue e X.env whole=(do let v <-whole;standAt e.pos;holding [v] (truthy v)):=by intro _;rfl):PT X e (tB t):=by
 intro pins s σ H Q I hw
 refine isTrue_plain (thn (h pins s σ H _ I hw) λv s1 ⟨x,H1,I1,r1,q1⟩=> ?_) (he _)
 obtain⟨d,rfl,q⟩:=q1
 cases r1
 exact wpAny_truthy_bool ⟨H1,I1,q⟩
variable {tA tB':TT} {rest:List Expr}
def zlD (t u:TT):TT:=λσ H Q=>t σ H λc H1=>if c=true then u σ H1 Q else Q false H1
def tOr (t u:TT):TT:=λσ H Q=>t σ H λc H1=>if c=true then Q true H1 else u σ H1 Q
def zlE (t:TT):TT:=λσ H Q=>t σ H λc H1=>Q (!c) H1
theorem ziy (ha:PT X a tA):PW X (.BoolOp .And [a] pos) tA:=by
 intro wh pins s σ H Q I h
 refine isTrue_and (thn (ha pins s σ H Q I h) λc s1 e=> ?_)
 cases c with
 |true=>exact isTrue_and_nil e
 |false=>exact e
theorem Vb (ha:PT X a tA):PW X (.BoolOp .Or [a] pos) tA:=by
 intro wh pins s σ H Q I h
 refine isTrue_or (thn (ha pins s σ H Q I h) λc s1 e=> ?_)
 cases c with
 |false=>exact isTrue_or_nil e
 |true=>exact e
theorem zkk (ha:PT X a tA) (hb:PW X (.BoolOp .And (b::rest) pos) tB'):PW X (.BoolOp .And (a::b::rest) pos) (zlD tA tB'):=by
 intro wh pins s σ H Q I h
 refine isTrue_and (thn (ha pins s σ H _ I h) λc s1 ⟨H1,I1,q1⟩=> ?_)
 cases c with
 |true=>exact hb wh pins s1 σ H1 Q I1 q1
 |false=>exact⟨H1,I1,q1⟩
theorem XQ (ha:PT X a tA) (hb:PW X (.BoolOp .Or (b::rest) pos) tB'):PW X (.BoolOp .Or (a::b::rest) pos) (tOr tA tB'):=by
 intro wh pins s σ H Q I h
 refine isTrue_or (thn (ha pins s σ H _ I h) λc s1 ⟨H1,I1,q1⟩=> ?_)
 cases c with
 |true=>exact⟨H1,I1,q1⟩
 |false=>exact hb wh pins s1 σ H1 Q I1 q1
theorem vZ (ha:PT X a tA):PT X (.UnaryOp .Not a pos) (zlE tA):=by
 intro pins s σ H Q I h
 exact isTrue_not (ha pins s σ H (λc H1=>Q (!c) H1) I h)
end
def SqL (K:Et) (H:Hp) (a:Addr) (xs:List V):Prop:=
 Rd H a (.lst xs)\/
  ∃(o:Obj) (ae:Array Value) (n:Nat),K.lookup a=some o/\o.cls= .type "list"/\o.dict=none/\o.data= .seq ae n/\ae.size<=sizeLine/\zY xs ae.toList
def SqT (K:Et) (H:Hp) (a:Addr) (xs:List V):Prop:=
 Rd H a (.tup xs)\/
  ∃(o:Obj) (ae:Array Value) (n:Nat),K.lookup a=some o/\o.cls= .type "tuple"/\o.data= .seq ae n/\ae.size<=sizeLine/\zY xs ae.toList
def SqX (K:Et) (H:Hp) (a:Addr) (xs:List V):Prop:=
 Rd H a (.lst xs)\/∃(ae:Array Value) (n:Nat),K.lookup a=some {cls:= .type "list",data:= .seq ae n}/\ae.size<=sizeLine/\zY xs ae.toList
theorem SqX.sql {K:Et} {H:Hp} {a:Addr} {xs:List V} (h:SqX K H a xs):SqL K H a xs:=by
 rcases h with h|⟨ae,n,hk,hz,r⟩
 ·exact .inl h
 ·exact .inr ⟨_,ae,n,hk,rfl,rfl,rfl,hz,r⟩
theorem SqX.of {K:Et} {H:Hp} {a:Addr} {xs:List V} (h:H a=some (.lst xs)):SqX K H a xs:= .inl (.inl h)
noncomputable def zmn:Value->Option V
 | .none=>some .non
 | .bool b=>some (.bl b)
 | .int i _=>some (.int i)
 | .str x _=>some (.str x)
 | .bytes b _=>some (.byt b)
 | .float b _=>some (.flt b)
 | .ref a=>some (.ref a)
 | .type n=>some (.ty n)
 |_=>none
theorem zP.abs {x:V} {u:Value} (r:zP x u):zmn u=some x:=by
 cases x with
 |non=>cases r;rfl
 |bl _=>cases r;rfl
 |int _=>obtain⟨t,rfl⟩:=r;rfl
 |str _=>obtain⟨t,rfl⟩:=r;rfl
 |byt _=>obtain⟨t,rfl⟩:=r;rfl
 |flt _=>obtain⟨t,rfl⟩:=r;rfl
 |ref _=>cases r;rfl
 |ty _=>cases r;rfl
theorem zP.inj {x y:V} {u:Value} (r:zP x u) (q:zP y u):x=y:=Fi (r.abs.symm.trans q.abs)
theorem zY.inj:∀{xs ys:List V} {us:List Value},zY xs us->zY ys us->xs=ys
 |_,_,_,.nil,.nil=>rfl
 |_,_,_,.cons r t,.cons r' t'=>by rw[r.inj r',zY.inj t t']
section
variable {X:Cx} {pins:List (Addr×Obj)} {σ:St} {H:Hp} {s:Shared} {a:Addr} {xs ys:List V}
theorem SqT.of {K:Et} (h:H a=some (.tup xs)):SqT K H a xs:= .inl (.inl h)
theorem Inv.list (I:Inv X pins σ H s) (h:SqL X.K H a xs):∃ae:List Value,zY xs ae/\PlainL s.heap a ae.toArray/\xs.length<=sizeLine:=by
 rcases h with h|⟨o,ae,n,hk,hc,hd,hs,hz,r⟩
 ·obtain⟨z,ae,n,r,e⟩:=h.ok I.hok
  exact⟨ae,r,⟨_,n,e,rfl,rfl,rfl⟩,z⟩
 ·refine⟨ae.toList,r,⟨o,n,I.kIn a o hk,hc,hd,by simpa using hs⟩,?_⟩
  have e:=r.length
  simp only[FC] at e
  omega
theorem Inv.tuple (I:Inv X pins σ H s) (h:SqT X.K H a xs):∃ae:List Value,zY xs ae/\IsTup s.heap a ae.toArray/\xs.length<=sizeLine:=by
 rcases h with h|⟨o,ae,n,hk,hc,hs,hz,r⟩
 ·obtain⟨z,ae,r,p⟩:=h.ok I.hok
  exact⟨ae,r,p,z⟩
 ·refine⟨ae.toList,r,⟨o,I.kIn a o hk,hc,n,by simpa using hs⟩,?_⟩
  have e:=r.length
  simp only[FC] at e
  omega
theorem Inv.list_inj (I:Inv X pins σ H s) (h:SqL X.K H a xs) (h':SqL X.K H a ys):xs=ys:=by
 obtain⟨ae,r,⟨o,n,e,_,_,d⟩,_⟩:=I.list h
 obtain⟨its',r',⟨o',n',e',_,_,d'⟩,_⟩:=I.list h'
 rw[e] at e';cases e'
 rw[d] at d'
 injection d' with d1 _
 have:ae=its':=by simpa using congrArg Ik d1
 subst this
 exact r.inj r'
theorem Inv.tuple_inj (I:Inv X pins σ H s) (h:SqT X.K H a xs) (h':SqT X.K H a ys):xs=ys:=by
 obtain⟨ae,r,⟨o,e,_,n,d⟩,_⟩:=I.tuple h
 obtain⟨its',r',⟨o',e',_,n',d'⟩,_⟩:=I.tuple h'
 rw[e] at e';cases e'
 rw[d] at d'
 injection d' with d1 _
 have:ae=its':=by simpa using congrArg Ik d1
 subst this
 exact r.inj r'
end
noncomputable abbrev Cx.wish (X:Cx) (E:Value->Shared->Prop):Cx:={X with xe:=E}
noncomputable abbrev Cx.nox (X:Cx):Cx:=X.wish λ_ _=>False
section
variable {X:Cx} {pins:List (Addr×Obj)} {σ:St} {H:Hp} {s:Shared} {E:Value->Shared->Prop}
end
section
variable {X:Cx} {st:Stmt} {rest:List Stmt} {t u:TS} {e:Expr} {te:TE} {pos:Pos}
def zjL:TS:=λD σ H=>D.nx σ H
def zlF (t u:TS):TS:=λD σ H=>t {D with nx:=u D} σ H
theorem ym:PSs X [] zjL:=λ_ _ σ H _ I h=>wpAny_execs_nil ⟨σ,H,I,h⟩
theorem zk (h1:PS X st t) (h2:PSs X rest u):PSs X (st::rest) (zlF t u):=by
 intro pins s σ H D I h
 refine wpAny_execs_cons (thn (h1 pins s σ H {D with nx:=u D} I h) λf s1 q=> ?_)
 cases f with
 |next=>
  obtain⟨σ',H',I',q⟩:=q
  exact h2 pins s1 σ' H' D I' q
 |ret v=>exact q
 |brk=>exact q
 |cont=>exact q
theorem zr (h1:PS X st t):PSs X [st] t:=by
 intro pins s σ H D I h
 refine wpAny_execs_cons (thn (h1 pins s σ H D I h) λf s1 q=> ?_)
 cases f with
 |next=>exact wpAny_execs_nil q
 |ret v=>exact q
 |brk=>exact q
 |cont=>exact q
theorem Inv.quiet {pins:List (Addr×Obj)} {σ:St} {H:Hp} {s:Shared} (I:Inv X pins σ H s):interactive X.env=false:=by simp[interactive,I.ok.kind]
def zjM (te:TE):TS:=λD σ H=>te σ H λ_ H1=>D.nx σ H1
theorem wO (he:PE X e te) (hs:swapsWith e none pos.line X.env=pure false:=by rfl):PS X (.Expr e pos) (zjM te):=by
 intro pins s σ H D I h
 exact wpAny_Expr_any (thn (he pins s σ H _ I h) λv s1 ⟨x,H1,I1,r1,q1⟩=>⟨σ,H1,I1,q1⟩) I.quiet hs
def zlG (te:TE):TS:=λD σ H=>te σ H D.rt
theorem zR (he:PE X e te):PS X (.Return (some e) pos) (zlG te):=by
 intro pins s σ H D I h
 exact wpAny_Return_some (thn (he pins s σ H _ I h) λv s1 ⟨x,H1,I1,r1,q1⟩=>⟨x,σ,H1,I1,r1,q1⟩)
def zlH (c:TT) (t u:TS):TS:=λD σ H=>c σ H λb H1=>if b=true then t D σ H1 else u D σ H1
theorem xG {c:Expr} {a b:List Stmt} {tc:TT} (hc:PT X c tc) (ha:PSs X a t) (hb:PSs X b u):PS X (.If c a b pos) (zlH tc t u):=by
 intro pins s σ H D I h
 refine wpAny_If (thn (hc pins s σ H _ I h) λd s1 ⟨H1,I1,q1⟩=> ?_)
 cases d with
 |true=>exact ha pins s1 σ H1 D I1 q1
 |false=>exact hb pins s1 σ H1 D I1 q1
end
abbrev TG:=V->St->Hp->(St->Hp->Prop)->Prop
abbrev TGs:=List V->St->Hp->(St->Hp->Prop)->Prop
def PG (X:Cx) (target:Expr) (t:TG):Prop:=
 ∀(pins:List (Addr×Obj)) (s:Shared) (σ:St) (H:Hp) (v:V) (u:Value) (Q:St->Hp->Prop),Inv X pins σ H s->zP v u->t v σ H Q->
  wpAny (model X.prog X.w) X.A (assign target X.env u) (λ_ s'=>∃σ' H',Inv X pins σ' H' s'/\Q σ' H') X.xe s
def PGs (X:Cx) (ts:List Expr) (t:TGs):Prop:=
 ∀(pins:List (Addr×Obj)) (s:Shared) (σ:St) (H:Hp) (vs:List V) (us:List Value) (Q:St->Hp->Prop),Inv X pins σ H s->zY vs us->t vs σ H Q->
  wpAny (model X.prog X.w) X.A (assignInOrder ((assignEach ts X.env).map (·.2)) us) (λ_ s'=>∃σ' H',Inv X pins σ' H' s'/\Q σ' H') X.xe s
abbrev zkl:=V->V->V->Hp->(Hp->Prop)->Prop
def zlI (X:Cx) (t:zkl):Prop:=
 ∀(pins:List (Addr×Obj)) (s:Shared) (σ:St) (H:Hp) (o i v:V) (ov iv u:Value) (Q:Hp->Prop),Inv X pins σ H s->zP o ov->zP i iv->zP v u->t o i v H Q->
  wpAny (model X.prog X.w) X.A (setItem ov iv u) (λ_ s'=>∃H',Inv X pins σ H' s'/\Q H') X.xe s
abbrev TIp:=V->V->Hp->VK->Prop
section
variable {X:Cx} {pos:Pos}
def zbt (i:Nat):TG:=λv σ H Q=>Q (σ.set i (some v)) H
theorem zy {i:Nat} {x:Str} (hN:X.N.Nodup) (hi:X.N[i]? =some x) (hx:Loc X.env.scope x) (hf:X.fn x=true\/X.env.scope.names.lookup x=some .local:=by first|exact .inl rfl|exact .inr rfl|assumption):PG X (.Name x pos) (zbt i):=by
 intro pins s σ H v u Q I r h
 exact wpAny_assign_Name (Vv I hN hi hx r (λs' I'=>⟨_,H,I',h⟩) hf)
def zkm:TGs:=λvs σ H Q=>vs=[]/\Q σ H
def zgv (t:TG) (u:TGs):TGs:=λvs σ H Q=>∃v r,vs=v::r/\t v σ H λσ' H'=>u r σ' H' Q
theorem xU:PGs X [] zkm:=by
 intro pins s σ H vs us Q I r h
 obtain⟨e,h⟩:=h
 subst e
 cases r
 exact assignInOrder_nil ⟨σ,H,I,h⟩
theorem zL {e:Expr} {es:List Expr} {t:TG} {u:TGs} (h1:PG X e t) (h2:PGs X es u)
  (hs:(assignEach (e::es) X.env).map (·.2)=assign e X.env::(assignEach es X.env).map (·.2):=by rfl):PGs X (e::es) (zgv t u):=by
 intro pins s σ H vs us Q I r h
 obtain⟨v,vr,e1,h⟩:=h
 subst e1
 cases r with
 |cons r rr=>
  rw[hs]
  refine assignInOrder_cons (thn (h1 pins s σ H _ _ _ I r h) λ_ s1 ⟨σ1,H1,I1,q1⟩=> ?_)
  exact h2 pins s1 σ1 H1 _ _ Q I1 rr q1
def ziz (K:Et) (n:Nat) (t:TGs):TG:=λv σ H Q=>∃a xs,v= .ref a/\SqT K H a xs/\xs.length=n/\t xs σ H Q
theorem zkn {es:List Expr} {k:Nat} {t:TGs} {n:Nat} (hc:X.calm=true) (h:PGs X es t)
  (hn:(assignEach es X.env).length=n:=by rfl) (eI:(assignEach es X.env).findIdx? (·.1)=none:=by rfl):PG X (.Tuple es k pos) (ziz X.K n t):=by
 intro pins s σ H v u Q I r hw
 obtain⟨a,xs,e1,hq,hl,hw⟩:=hw
 subst e1
 cases r
 obtain⟨ae,rv,ht,hz⟩:=I.tuple hq
 refine assign_Tuple_tuple (I.ok.hd hc) ht (by simp[hn,<-hl,rv.length]) eI λh' hx=> ?_
 have I1:Inv X pins σ H {s with heap:=h'}:=I.kept (t':=s.toks) λb o e=>hx b o (EH (Heap.lt_size e)) e
 exact h pins _ σ H xs _ Q I1 (by simpa using rv) hw
def zlJ (to ti:TE) (t:zkl):TG:=λv σ H Q=>to σ H λo H1=>ti σ H1 λi H2=>t o i v H2 λH3=>Q σ H3
theorem zd2 {o i:Expr} {to ti:TE} {t:zkl} (ho:PE X o to) (hi:PE X i ti) (hs:zlI X t)
  (ha:∀v,assign (.Subscript o i pos) X.env v=(do
   let ov <-holding [v] (eval o X.env)
   let iv <-holding [v,ov] (eval i X.env)
   standAt pos
   holding [v,ov,iv] (setItem ov iv v)
   release [v,ov,iv] []):=by intro _;rfl):PG X (.Subscript o i pos) (zlJ to ti t):=by
 intro pins s σ H v u Q I r h
 rw[ha]
 refine wpAny_bind (wpAny_holding (thn (ho pins s σ H _ I h) λov s1 ⟨x,H1,I1,r1,q1⟩=> ?_))
 refine wpAny_bind (wpAny_holding (thn (hi pins s1 σ H1 _ I1 q1) λiv s2 ⟨y,H2,I2,r2,q2⟩=> ?_))
 refine wpAny_bind (wpAny_standAt (wpAny_bind (wpAny_holding (thn (hs pins s2 σ H2 x y v ov iv u _ I2 r1 r2 r q2) λ_ s3 ⟨H3,I3,q3⟩=> ?_))))
 exact wpAny_release ⟨σ,H3,I3,q3⟩
def zko (te:TE) (g:TG):TS:=λD σ H=>te σ H λx H1=>g x σ H1 D.nx
theorem Vc {tg e:Expr} {te:TE} {g:TG} (he:PE X e te) (hg:PG X tg g) (hs:swapsWithSole [tg] e pos.line X.env=pure false:=by rfl) (hw:swappedStores [tg] e X.env=pure none:=by rfl)
  (h1:(assignEach [tg] X.env).map (·.2)=[assign tg X.env]:=by rfl):PS X (.Assign [tg] e pos) (zko te g):=by
 intro pins s σ H D I h
 refine wpAny_Assign_stores (thn (he pins s σ H _ I h) λv s1 ⟨x,H1,I1,r1,q1⟩=> ?_) hs hw
 rw[h1]
 exact thn (hg pins s1 σ H1 x v _ I1 r1 q1) λ_ s2 q=>q
theorem zO {i:Nat} {x:Str} {e:Expr} {te:TE} {pos':Pos} (hN:X.N.Nodup) (hi:X.N[i]? =some x) (hx:Loc X.env.scope x) (he:PE X e te) (hs:swapsWith e (some (.Name x pos')) pos.line X.env=pure false:=by rfl) (hf:X.fn x=true\/X.env.scope.names.lookup x=some .local:=by first|exact .inl rfl|exact .inr rfl|assumption):
  PS X (.Assign [.Name x pos'] e pos) (zko te (zbt i)):=by
 intro pins s σ H D I h
 refine wpAny_Assign_Name (thn (he pins s σ H _ I h) λv s1 ⟨y,H1,I1,r1,q1⟩=> ?_) hs
 exact Vv I1 hN hi hx r1 (λs2 I2=>⟨_,H1,I2,q1⟩) hf
def zlK (i j:Nat) (ta:TA):TS:=λD σ H=>ta σ H λvs H1=>∃v w,vs=[v,w]/\D.nx ((σ.set i (some v)).set j (some w)) H1
theorem zkp {i j:Nat} {x y:Str} {a b:Expr} {ta:TA} {px py pt:Pos} {kt k2 nC} (hc:X.calm=true) (hN:X.N.Nodup) (hi:X.N[i]? =some x) (hj:X.N[j]? =some y) (er:i≠j)
  (hx:X.env.scope.names.lookup x=some .local) (hy:X.env.scope.names.lookup y=some .local) (ha:PA X [a,b] ta)
  (hw:swappedStores [.Tuple [.Name x px,.Name y py] kt pt] (.Tuple [a,b] k2 nC) X.env=pure (some [x,y]))
  (hs:swapsWithSole [.Tuple [.Name x px,.Name y py] kt pt] (.Tuple [a,b] k2 nC) pos.line X.env=pure false:=by rfl):
  PS X (.Assign [.Tuple [.Name x px,.Name y py] kt pt] (.Tuple [a,b] k2 nC) pos) (zlK i j ta):=by
 intro pins s σ H D I h
 rw[exec_Assign_arm]
 refine wpAny_bind (wpAny_standAt ?_)
 rw[hs]
 refine wpAny_bind (wpAny_pure ?_)
 rw[if_neg ∅]
 refine wpAny_bind (Tuple_ (thn (ha _ pins s σ H _ I h) λus s1 ⟨vs,H1,I1,r1,q1⟩=> ?_))
 obtain⟨v,w,e1,q1⟩:=q1
 subst e1
 obtain⟨u1,u2,rfl,rv,rw'⟩:∃u1 u2,us=[u1,u2]/\zP v u1/\zP w u2:=by
  cases r1 with
  |cons p q=>
   cases q with
   |cons p' q'=>
    cases q'
    exact⟨_,_,rfl,p,p'⟩
 refine wpAny_newObj_type ?_ (by show 2<=sizeLine;decide)
 have I2:Inv X pins σ H1 {s1 with heap:=s1.heap.push {cls:= .type "tuple",data:= .seq [u1,u2].toArray}}:=I1.kept (t':=s1.toks) λb o e=>Heap.get?_push_of_some _ e
 rw[hw]
 refine wpAny_bind (wpAny_pure ?_)
 show wpAny (model X.prog X.w) X.A (do rule "assign.swapped-stores";let items <-unpackItems (.ref s1.heap.objs.size) 2 none;assignInOrder [λv=>bindName X.env y v,λv=>bindName X.env x v] items.reverse;pure Flow.next) _ _ _
 refine wpAny_bind (wpAny_rule (wpAny_bind (unpackItems_tuple (items:= #[u1,u2]) (I.ok.hd hc) (IsTup.new s1.heap _) λh' Bh=> ?_)))
 have I3:=I2.kept (h':=h') (t':=s1.toks) λb o e=>Bh b o (EH (Heap.lt_size e)) e
 show wpAny _ _ (assignInOrder [λv=>bindName X.env y v,λv=>bindName X.env x v] [u2,u1]>>=λ_=>pure Flow.next) _ _ _
 refine wpAny_bind (assignInOrder_cons (wpAny_bindName (Vv I3 hN hj (.inl hy) rw' (λs2 I4=> ?_) (.inr hy))))
 refine assignInOrder_cons (wpAny_bindName (Vv I4 hN hi (.inl hx) rv (λs3 I5=>assignInOrder_nil (wpAny_pure ?_)) (.inr hx)))
 rw[List.set_comm _ _ (GP er)] at I5
 exact⟨_,H1,I5,q1⟩
end
section
variable {X:Cx} {pos:Pos}
def zgw (c:TT) (tb:TS):TS:=λD σ H=>∃W:Nat->St->Hp->Prop,(∃m,W m σ H)/\∀m σ H,W m σ H->
 c σ H λb H1=>if b=true then ∃N:St->Hp->Prop,(∀σ' H',N σ' H'->∃m',m'<m/\W m' σ' H')/\tb {D with nx:=N,ct:=N,bk:=D.nx} σ H1 else D.nx σ H1
theorem TJ {c:Expr} {body:List Stmt} {tc:TT} {tb:TS} (hp:PassesOwn (model X.prog X.w) X.A X.env X.xe) (hc:PT X c tc) (hb:PSs X body tb):PS X (.While c body [] pos) (zgw tc tb):=by
 intro pins s σ H D I h
 obtain⟨W,⟨m0,w0⟩,turn⟩:=h
 refine wpAny_While (codeAny_whileLoop (λn s'=>∃σ' H',Inv X pins σ' H' s'/\W n σ' H') ?_ m0 ⟨σ,H,I,w0⟩)
 rintro n s1 ⟨σ1,H1,I1,w1⟩
 refine wpAny_passesOwn hp (thn (hc pins s1 σ1 H1 _ I1 (turn n σ1 H1 w1)) λb s2 ⟨H2,I2,q2⟩=> ?_)
 cases b with
 |true=>
  obtain⟨N,hN,q2⟩:=q2
  rw[if_pos rfl]
  refine wpAny_passesOwn hp (thn (hb pins s2 σ1 H2 _ I2 q2) λf s3 q3=> ?_)
  cases f with
  |next=>
   obtain⟨σ3,H3,I3,n3⟩:=q3
   obtain⟨m',hm,w3⟩:=hN σ3 H3 n3
   exact⟨m',hm,σ3,H3,I3,w3⟩
  |cont=>
   obtain⟨σ3,H3,I3,n3⟩:=q3
   obtain⟨m',hm,w3⟩:=hN σ3 H3 n3
   exact⟨m',hm,σ3,H3,I3,w3⟩
  |brk=>exact q3
  |ret v=>exact q3
 |false=>
  rw[if_neg HN]
  exact wpAny_execs_nil ⟨σ1,H2,I2,q2⟩
end
structure It where
 go:Nat->Hp->Prop
 yld:Nat->Hp->V->Hp->Prop
 stop:Nat->Hp->Prop
def za6 (X:Cx) (pins:List (Addr×Obj)) (H:Hp) (b:Addr):Prop:=
 H b=none/\b≠X.env.locals/\b∉X.fs/\(b∈X.ex\/X.s₀.heap.objs.size<=b)/\(∀x c,X.env.cells.lookup x=some c->c≠b)/\∀p∈X.pn++pins,p.1≠b
theorem Inv.fpOk {X:Cx} {pins:List (Addr×Obj)} {σ:St} {H H':Hp} {s:Shared} {b:Addr} (I:Inv X pins σ H s) (hb:s.heap.objs.size<=b) (hn:H' b=none):za6 X pins H' b:=by
 refine⟨hn,Hi (F6 I.lt hb),I.nofs hb,.inr (EW I.sz hb),λx c e z=> ?_,λp hp z=> ?_⟩
 ·obtain⟨v,q⟩:=I.cell x c e
  exact absurd (F6 q.lt (by rw[z];exact hb)) (FJ _)
 ·exact absurd (F6 (Heap.lt_size (I.pin p hp).1) (by rw[z];exact hb)) (FJ _)
structure zfK (P:Program) (w:World) (K:Et) (tg:Expr) (J:It) (fp:List Addr) (it:Addr) (tn:Nat->Heap->Prop):Prop where
 mem:it∈fp
 obj:∀i h,tn i h->∀b∈fp,∃o,h.get? b=some o/\∀v,o.data≠ .cell v
 keep:∀i h h',tn i h->(∀b∈fp,∀o,h.get? b=some o->h'.get? b=some o)->tn i h'
 item:∀(X:Cx),X.prog=P->X.w=w->X.K=K->X.calm=true->∀(i:Nat) (pins:List (Addr×Obj)) (s:Shared) (σ:St) (H:Hp) (E:Value->Shared->Prop),Inv X pins σ H s->(∀b∈fp,za6 X pins H b)->tn i s.heap->J.go i H->
  wpAny (model P w) X.A (pyNext (.ref it)) (λr s1=>∃u,r=some u/\
   wpAny (model P w) X.A (letOwnedTupleGo tg (.ref it) u) (λ_ s2=>∃x H',Inv X pins σ H' s2/\zP x u/\J.yld i H x H'/\tn (i+1) s2.heap/\∀b∈fp,H' b=none) E s1) E s
 done:∀(X:Cx),X.prog=P->X.w=w->X.K=K->X.calm=true->∀(i:Nat) (pins:List (Addr×Obj)) (s:Shared) (σ:St) (H:Hp) (E:Value->Shared->Prop),Inv X pins σ H s->(∀b∈fp,za6 X pins H b)->tn i s.heap->J.stop i H->
  wpAny (model P w) X.A (pyNext (.ref it)) (λr s1=>r=none/\Inv X pins σ H s1) E s
 self:∀(A:Around) (i:Nat) (s:Shared) (Q:Value->Shared->Prop) (E:Value->Shared->Prop),tn i s.heap->Q (.ref it) s->wpAny (model P w) A (pyIter (.ref it)) Q E s
abbrev TI:=St->Hp->(It->Hp->Prop)->Prop
def PIE (X:Cx) (pins:List (Addr×Obj)) (σ:St) (tg:Expr) (R:It->Hp->Prop) (pA:Value) (s2:Shared):Prop:=
 ∃(it:Addr) (fp:List Addr) (tn:Nat->Heap->Prop) (J:It) (H':Hp),pA= .ref it/\Inv X pins σ H' s2/\zfK X.prog X.w X.K tg J fp it tn/\tn 0 s2.heap/\(∀b∈fp,za6 X pins H' b)/\R J H'
def PI (X:Cx) (tg iter:Expr) (wi:TI):Prop:=
 ∀(pins:List (Addr×Obj)) (s:Shared) (σ:St) (H:Hp) (R:It->Hp->Prop),Inv X pins σ H s->wi σ H R->
  wpAny (model X.prog X.w) X.A (eval iter X.env) (λv s1=>wpAny (model X.prog X.w) X.A (pyIter v) (PIE X pins σ tg R) X.xe s1) X.xe s
theorem zgx {M:Model} {A:Around} {E:Value->Shared->Prop} {s:Shared} {tg:Expr} {it:Addr} {u:Value} {o:Obj} {n:String} {vs:Array Value} {Q:Unit->Shared->Prop} (ho:s.heap.get? it=some o) (hc:o.cls= .type n) (hd:o.data= .fields vs)
    (hn:["enumerate","zip","dict_itemiterator","dict_reverseitemiterator","odict_iterator","itertools.zip_longest","itertools.pairwise"].contains n=false) (hQ:Q () s):wpAny M A (letOwnedTupleGo tg (.ref it) u) Q E s:=by
  unfold letOwnedTupleGo
  cases tg<;>first
    |exact wpAny_pure hQ
    | (cases u <;> first
        |exact wpAny_pure hQ
        | (refine wpAny_bind (wpAny_load ho ?_)
           rw[hc,hd]
           show wpAny M A (if (["enumerate","zip","dict_itemiterator","dict_reverseitemiterator","odict_iterator","itertools.zip_longest","itertools.pairwise"].contains n&&vs[0]? ==some (rawInt _))=true then _ else _) Q E s
           rw[if_neg (by intro h;rw[hn,Bool.false_and] at h;cases h)]
           exact wpAny_pure hQ))
noncomputable def Itl (K:Et) (a:Addr):It:=
 ⟨λi H=>∃xs x,SqL K H a xs/\xs[i]? =some x,λi H x H'=>H'=H/\∀xs,SqL K H a xs->xs[i]? =some x,λi H=>∃xs,SqL K H a xs/\xs.length<=i⟩
noncomputable def Itt (K:Et) (a:Addr):It:=
 ⟨λi H=>∃xs x,SqT K H a xs/\xs[i]? =some x,λi H x H'=>H'=H/\∀xs,SqT K H a xs->xs[i]? =some x,λi H=>∃xs,SqT K H a xs/\xs.length<=i⟩
noncomputable def Itr (lo:Int) (n:Nat):It:=⟨λi _=>i<n,λi H x H'=>H'=H/\x= .int (lo+i),λi _=>n<=i⟩
theorem zfL {P:Program} {w:World} {K:Et} {tg:Expr} (a it:Addr):zfK P w K tg (Itl K a) [it] it (λi h=>h.IsListIter it a i) where
 mem:=by simp
 obj:=λi h st b hb=>by
  have e:b=it:=by simpa using hb
  subst e
  obtain⟨o,e,c,d⟩:=st
  exact⟨o,e,λv z=>by rw[d] at z;cases z⟩
 keep:=λi h h' st k=>st.at λo e=>k it (by simp) o e
 item:=by
  intro X hP hw hK hc i pins s σ H E I hf st hg
  subst hP hw hK
  obtain⟨xs,x,hq,hx⟩:=hg
  obtain⟨ae,rv,p,hz⟩:=I.list hq
  obtain⟨u,hu,ru⟩:=rv.get hx
  obtain⟨f0,f1,f2,f3,f4,f5⟩:=hf it (by simp)
  refine wpAny_pyNext_list_item st p.isList (x:=u) (by simpa using hu) λh' st' sb=> ?_
  have I1:Inv X pins σ H {s with heap:=h'}:=I.turned (t':=s.toks) (λb o hb e=>(sb.2 b hb).trans e) f0 f1 f3 f4 f5
  obtain⟨o,e,c,d⟩:=id st'
  exact⟨u,rfl,zgx (s:={s with heap:=h'}) e c d ∅ ⟨x,H,I1,ru,⟨rfl,λys hy=>by rw[I.list_inj hy hq];exact hx⟩,st',λb hb=>(hf b hb).1⟩⟩
 done:=by
  intro X hP hw hK hc i pins s σ H E I hf st hg
  subst hP hw hK
  obtain⟨xs,hq,hx⟩:=hg
  obtain⟨ae,rv,p,hz⟩:=I.list hq
  obtain⟨f0,f1,f2,f3,f4,f5⟩:=hf it (by simp)
  have hl:=rv.length
  exact wpAny_pyNext_list_end (I.ok.hd hc) st p.isList (by simp;omega) λh' eb=>⟨rfl,I.turned (t':=s.toks) (λb o hb e=>eb b o hb e) f0 f1 f3 f4 f5⟩
 self:=λ_ _ _ _ _ st h=>wpAny_pyIter_listiter st h
theorem zd3 {P:Program} {w:World} {K:Et} {tg:Expr} (a it:Addr):zfK P w K tg (Itt K a) [it] it (λi h=>h.IsTupleIter it a i) where
 mem:=by simp
 obj:=λi h st b hb=>by
  have e:b=it:=by simpa using hb
  subst e
  obtain⟨o,e,c,d⟩:=st
  exact⟨o,e,λv z=>by rw[d] at z;cases z⟩
 keep:=λi h h' st k=>st.at λo e=>k it (by simp) o e
 item:=by
  intro X hP hw hK hc i pins s σ H E I hf st hg
  subst hP hw hK
  obtain⟨xs,x,hq,hx⟩:=hg
  obtain⟨ae,rv,p,hz⟩:=I.tuple hq
  obtain⟨u,hu,ru⟩:=rv.get hx
  obtain⟨f0,f1,f2,f3,f4,f5⟩:=hf it (by simp)
  refine wpAny_pyNext_tuple_item st (show s.heap.IsTuple a ae.toArray from p) (x:=u) (by simpa using hu) λh' st' sb=> ?_
  have I1:Inv X pins σ H {s with heap:=h'}:=I.turned (t':=s.toks) (λb o hb e=>(sb.2 b hb).trans e) f0 f1 f3 f4 f5
  obtain⟨o,e,c,d⟩:=id st'
  exact⟨u,rfl,zgx (s:={s with heap:=h'}) e c d ∅ ⟨x,H,I1,ru,⟨rfl,λys hy=>by rw[I.tuple_inj hy hq];exact hx⟩,st',λb hb=>(hf b hb).1⟩⟩
 done:=by
  intro X hP hw hK hc i pins s σ H E I hf st hg
  subst hP hw hK
  obtain⟨xs,hq,hx⟩:=hg
  obtain⟨ae,rv,p,hz⟩:=I.tuple hq
  obtain⟨f0,f1,f2,f3,f4,f5⟩:=hf it (by simp)
  have hl:=rv.length
  exact wpAny_pyNext_tuple_end (I.ok.hd hc) st (show s.heap.IsTuple a ae.toArray from p) (by simp;omega) λh' eb=>⟨rfl,I.turned (t':=s.toks) (λb o hb e=>eb b o hb e) f0 f1 f3 f4 f5⟩
 self:=λ_ _ _ _ _ st h=>wpAny_pyIter_tupleiter st h
theorem zd4 {P:Program} {w:World} {K:Et} {tg:Expr} (it:Addr) (lo:Int) (n:Nat):zfK P w K tg (Itr lo n) [it] it (λi h=>IsRangeIter h it (lo+(i:Nat)*1) ((n:Int)-(i:Nat)) 1) where
 mem:=by simp
 obj:=λi h st b hb=>by
  have e:b=it:=by simpa using hb
  subst e
  exact⟨_,st,λv z=>by
   have z':Data.fields _=Data.cell v:=z
   cases z'⟩
 keep:=λi h h' st k=>k it (by simp) _ st
 item:=by
  intro X hP hw hK hc i pins s σ H E I hf st hg
  subst hP hw hK
  obtain⟨f0,f1,f2,f3,f4,f5⟩:=hf it (by simp)
  have W:=Walks.range (prog:=X.prog) (w:=X.w) (I.ok.hd hc) it lo 1 n
  refine W.item i s _ _ hg st λv h' tk hv st' kk=> ?_
  obtain⟨t,rfl⟩:=hv
  have I1:Inv X pins σ H {s with heap:=h',toks:=tk}:=I.turned (λb o hb e=>kk b o (by simpa using hb) e) f0 f1 f3 f4 f5
  refine⟨_,rfl,zgx (s:={s with heap:=h',toks:=tk}) (n:="range_iterator") st' rfl rfl ∅ ⟨.int (lo+i),H,I1,⟨t,?_⟩,⟨rfl,rfl⟩,st',λb hb=>(hf b hb).1⟩⟩
  rw[Int.mul_one]
 done:=by
  intro X hP hw hK hc i pins s σ H E I hf st hg
  subst hP hw hK
  obtain⟨f0,f1,f2,f3,f4,f5⟩:=hf it (by simp)
  exact wpAny_pyNext_range_end (I.ok.hd hc) st (by have:n<=i:=hg;omega) λh' eb=>⟨rfl,I.turned (t':=s.toks) (λb o hb e=>eb b o hb e) f0 f1 f3 f4 f5⟩
 self:=λ_ _ _ _ _ st h=>wpAny_pyIter_rangeiter st h
section
variable {X:Cx} {tg:Expr}
def zgy (K:Et) (tl:TE):TI:=λσ H R=>tl σ H λx H1=>∃a,x= .ref a/\(∃xs,SqL K H1 a xs)/\R (Itl K a) H1
def zkq (K:Et) (tl:TE):TI:=λσ H R=>tl σ H λx H1=>∃a,x= .ref a/\(∃xs,SqT K H1 a xs)/\R (Itt K a) H1
theorem ziA {l:Expr} {tl:TE} (hl:PE X l tl):PI X tg l (zgy X.K tl):=by
 intro pins s σ H R I h
 refine thn (hl pins s σ H _ I h) λv s1 ⟨x,H1,I1,r1,q1⟩=> ?_
 obtain⟨a,e,⟨xs,hq⟩,q⟩:=q1
 subst e
 cases r1
 obtain⟨ae,rv,p,hz⟩:=I1.list hq
 refine wpAny_pyIter_list p.isList ?_
 refine⟨s1.heap.objs.size,[s1.heap.objs.size],_,_,H1,rfl,I1.kept (t':=s1.toks) λb o e=>Heap.get?_push_of_some _ e,zfL a _,⟨_,Heap.get?_push_size _ rfl,rfl,rfl⟩,λb hb=> ?_,q⟩
 have e:b=s1.heap.objs.size:=by simpa using hb
 subst e
 exact I1.fpOk (EE _) (I1.hok.fresh (EE _))
theorem zkr {l:Expr} {tl:TE} (hl:PE X l tl):PI X tg l (zkq X.K tl):=by
 intro pins s σ H R I h
 refine thn (hl pins s σ H _ I h) λv s1 ⟨x,H1,I1,r1,q1⟩=> ?_
 obtain⟨a,e,⟨xs,hq⟩,q⟩:=q1
 subst e
 cases r1
 obtain⟨ae,rv,p,hz⟩:=I1.tuple hq
 refine wpAny_pyIter_tuple (show s1.heap.IsTuple a ae.toArray from p) ?_
 refine⟨s1.heap.objs.size,[s1.heap.objs.size],_,_,H1,rfl,I1.kept (t':=s1.toks) λb o e=>Heap.get?_push_of_some _ e,zd3 a _,⟨_,Heap.get?_push_size _ rfl,rfl,rfl⟩,λb hb=> ?_,q⟩
 have e:b=s1.heap.objs.size:=by simpa using hb
 subst e
 exact I1.fpOk (EE _) (I1.hok.fresh (EE _))
theorem zgz {pins:List (Addr×Obj)} {σ:St} {H:Hp} {s:Shared} {R:It->Hp->Prop} {E:Value->Shared->Prop} {lo hi:Int} {t u v:Tok} {tk:Nat} (I:Inv X pins σ H s) (h1: -(2^62)<=lo) (h2:lo<2^62) (h3: -(2^62)<=hi) (h4:hi<2^62)
  (q:R (Itr lo (hi-lo).toNat) H):wpAny (model X.prog X.w) X.A (pyIter (.ref s.heap.objs.size)) (PIE X pins σ tg R) E {s with heap:=s.heap.push {cls:= .type "range",data:= .fields #[.int lo t,.int hi u,.int 1 v]},toks:=tk}:=by
 refine wpAny_pyIter_range (IsRange.new ..) (small_one h1 h2 h3 h4) ?_
 have I1:Inv X pins σ H {s with heap:=s.heap.push {cls:= .type "range",data:= .fields #[.int lo t,.int hi u,.int 1 v]},toks:=tk}:=I.kept λb o e=>Heap.get?_push_of_some _ e
 refine⟨(s.heap.push {cls:= .type "range",data:= .fields #[.int lo t,.int hi u,.int 1 v]}).objs.size,[(s.heap.push {cls:= .type "range",data:= .fields #[.int lo t,.int hi u,.int 1 v]}).objs.size],_,_,H,rfl,
  I1.kept (t':=tk) λb o e=>Heap.get?_push_of_some _ e,zd4 _ lo (hi-lo).toNat,?_,λb hb=> ?_,q⟩
 ·have e1:lo+((0:Nat):Int)*1=lo:=by simp
  have e2:(((hi-lo).toNat:Nat):Int)-((0:Nat):Int)=Builtin.Range.rangeSize lo hi 1:=by rw[rangeSize_one];split<;>omega
  show IsRangeIter _ _ (lo+((0:Nat):Int)*1) ((((hi-lo).toNat:Nat):Int)-((0:Nat):Int)) 1
  rw[e1,e2]
  exact Heap.get?_push_size _ rfl
 ·have e:b=(s.heap.push {cls:= .type "range",data:= .fields #[.int lo t,.int hi u,.int 1 v]}).objs.size:=by simpa using hb
  subst e
  exact I1.fpOk (EE _) (I1.hok.fresh (EE _))
def zjN (ta:TA):TI:=λσ H R=>ta σ H λvs H1=>∃j:Int,vs=[.int j]/\ -(2^62)<=j/\j<2^62/\R (Itr 0 j.toNat) H1
theorem xH {a:Expr} {ta:TA} {p pos:Pos} (hg:Gl X "range") (hm:X.mg "range"=none) (ha:PA X [a] ta) (hs:starEach [a] X.env=[(false,eval a X.env)]:=by rfl):PI X tg (.Call (.Name "range" p) [a] [] pos) (zjN ta):=by
 intro pins s σ H R I h
 refine Call_ (Yw I hg hm boot_range (FU (thn (ha pos pins s σ H _ I h) λus s1 ⟨vs,H1,I1,r1,q1⟩=> ?_) hs rfl))
 obtain⟨j,e,q1,q2,q⟩:=q1
 subst e
 cases r1 with
 |cons r rr=>
  cases rr
  obtain⟨t,rfl⟩:=r
  exact call_range_1 (zgz I1 ⋯ ⋯ q1 q2 (by simpa using q))
def zlL (wi:TI) (g:TG) (tb:TS):TS:=λD σ H=>wi σ H λJ H1=>∃W:Nat->Nat->St->Hp->Prop,(∃m,W 0 m σ H1)/\∀i m σ H,W i m σ H->
 (J.stop i H/\D.nx σ H)\/(J.go i H/\∃N:St->Hp->Prop,(∀σ' H',N σ' H'->∃m',m'<m/\W (i+1) m' σ' H')/\∀x H',J.yld i H x H'->g x σ H' λσ2 H2=>tb {D with nx:=N,ct:=N,bk:=D.nx} σ2 H2)
noncomputable def TK (fp:List Addr) (h:Heap):List (Addr×Obj):=fp.filterMap λb=>(h.get? b).map λo=>(b,o)
theorem Xm {fp:List Addr} {h:Heap} {b:Addr} {o:Obj} (hb:b∈fp) (e:h.get? b=some o):(b,o)∈TK fp h:=J9.mpr ⟨b,hb,by rw[e];rfl⟩
theorem zfM {fp:List Addr} {h:Heap} {p:Addr×Obj} (hp:p∈TK fp h):p.1∈fp/\h.get? p.1=some p.2:=by
 obtain⟨b,hb,e⟩:=J9.mp hp
 cases q:h.get? b with
 |none=>rw[q] at e;cases e
 |some o=>
  rw[q] at e
  have e':(b,o)=p:=Fi e
  subst e'
  exact⟨hb,q⟩
theorem Inv.pinned {pins:List (Addr×Obj)} {σ:St} {H:Hp} {s:Shared} {fp:List Addr} (I:Inv X pins σ H s) (hf:∀b∈fp,za6 X pins H b) (ho:∀b∈fp,∃o,s.heap.get? b=some o/\∀v,o.data≠ .cell v):Inv X (pins++TK fp s.heap) σ H s:=
 I.pins_of λp hp=>(Ff.mp hp).elim (λz=>I.pin p (FH _ z)) λz=>by
  obtain⟨hb,e⟩:=zfM z
  obtain⟨f0,f1,f2,_⟩:=hf p.1 hb
  obtain⟨o,e',d⟩:=ho p.1 hb
  rw[e] at e';cases e'
  exact⟨e,f0,f1,f2,d⟩
theorem Inv.unpinned {pins pl:List (Addr×Obj)} {σ:St} {H:Hp} {s:Shared} (I:Inv X (pins++pl) σ H s):Inv X pins σ H s:=I.pins_of λp hp=>I.pin p (FH _ (GW _ hp))
theorem xl {iter:Expr} {body:List Stmt} {wi:TI} {g:TG} {tb:TS} {pos:Pos} (hp:PassesOwn (model X.prog X.w) X.A X.env X.xe) (hc:X.calm=true) (hi:PI X tg iter wi) (hg:PG X tg g) (hb:PSs X body tb)
  (hs:∀x,foldedSetIterable iter X.env x=pure x:=by intro _;rfl):PS X (.For tg iter body [] pos) (zlL wi g tb):=by
 intro pins s σ H D I h
 refine wpAny_For (thn (hi pins s σ H _ I h) λv s1 h1=>thn h1 λpA s2 h2=> ?_) hs
 obtain⟨it,fp,tn,J,H2,e,I2,T,jR,f2,W,⟨m0,w0⟩,turn⟩:=h2
 subst e
 have stat:∀{H':Hp},(∀b∈fp,H' b=none)->∀b∈fp,za6 X pins H' b:=λhn b hb=>⟨hn b hb,(f2 b hb).2⟩
 refine codeAny_forLoop_any (λn s'=>∃i σ' H',Inv X pins σ' H' s'/\tn i s'.heap/\(∀b∈fp,H' b=none)/\W i n σ' H') ?_ m0 ⟨0,σ,H2,I2,jR,λb hb=>(f2 b hb).1,w0⟩
 rintro n s3 ⟨i,σ3,H3,I3,jQ,kW,w3⟩
 rcases turn i n σ3 H3 w3 with⟨stop,qn⟩|⟨go,N,hN,step⟩
 ·refine wpAny_passesOwn hp (thn (T.done X rfl rfl rfl hc i pins s3 σ3 H3 X.xe I3 (stat kW) jQ stop) λr s4 ⟨hr,I4⟩=> ?_)
  subst hr
  exact wpAny_execs_nil ⟨σ3,H3,I4,qn⟩
 ·refine wpAny_passesOwn hp (thn (T.item X rfl rfl rfl hc i pins s3 σ3 H3 X.xe I3 (stat kW) jQ go) λr s4 ⟨u,hr,h4⟩=> ?_)
  subst hr
  refine wpAny_passesOwn hp (thn h4 λ_ s5 ⟨x,H5,I5,r5,y5,iO,qY⟩=> ?_)
  have I5':=I5.pinned (stat qY) (T.obj _ _ iO)
  refine wpAny_passesOwn hp (thn (hg _ s5 σ3 H5 x u _ I5' r5 (step x H5 y5)) λ_ s6 ⟨σ6,H6,I6,q6⟩=> ?_)
  refine wpAny_passesOwn hp (thn (hb _ s6 σ6 H6 _ I6 q6) λf s7 q7=> ?_)
  have again:∀{σ7:St} {H7:Hp},Inv X (pins++TK fp s5.heap) σ7 H7 s7->N σ7 H7->∃m,m<n/\∃i σ' H',Inv X pins σ' H' s7/\tn i s7.heap/\(∀b∈fp,H' b=none)/\W i m σ' H':=λ{σ7 H7} I7 n7=>by
   obtain⟨m',hm,w7⟩:=hN σ7 H7 n7
   refine⟨m',hm,i+1,σ7,H7,I7.unpinned,T.keep _ _ _ iO λb hb o e=>(I7.pin (b,o) (FH _ (FH _ (Xm hb e)))).1,λb hb=> ?_,w7⟩
   obtain⟨o,e,d⟩:=T.obj _ _ iO b hb
   exact (I7.pin (b,o) (FH _ (FH _ (Xm hb e)))).2.1
  cases f with
  |next=>obtain⟨σ7,H7,I7,n7⟩:=q7;exact again I7 n7
  |cont=>obtain⟨σ7,H7,I7,n7⟩:=q7;exact again I7 n7
  |brk=>obtain⟨σ7,H7,I7,q7⟩:=q7;exact⟨σ7,H7,I7.unpinned,q7⟩
  |ret v=>obtain⟨x7,σ7,H7,I7,r7,q7⟩:=q7;exact⟨x7,σ7,H7,I7.unpinned,r7,q7⟩
end
abbrev R2:=V->V->Hp->VK->Prop
def OpR (X:Cx) (f:Value->Value->Sem Value) (r:R2):Prop:=
 ∀(pins:List (Addr×Obj)) (s:Shared) (σ:St) (H:Hp) (x y:V) (v u:Value) (Q:VK),Inv X pins σ H s->zP x v->zP y u->r x y H Q->
  wpAny (model X.prog X.w) X.A (f v u) (EP X pins σ Q) X.xe s
def UnR (X:Cx) (f:Value->Sem Value) (r:V->Hp->VK->Prop):Prop:=
 ∀(pins:List (Addr×Obj)) (s:Shared) (σ:St) (H:Hp) (x:V) (v:Value) (Q:VK),Inv X pins σ H s->zP x v->r x H Q->
  wpAny (model X.prog X.w) X.A (f v) (EP X pins σ Q) X.xe s
def vF (X:Cx) (f:Value) (r:List V->Hp->VK->Prop):Prop:=
 ∀(pins:List (Addr×Obj)) (s:Shared) (σ:St) (H:Hp) (xs:List V) (us:List Value) (Q:VK),Inv X pins σ H s->zY xs us->r xs H Q->
  wpAny (model X.prog X.w) X.A (call f us) (EP X pins σ Q) X.xe s
def tOp (r:R2) (ta tb:TE):TE:=λσ H Q=>ta σ H λx H1=>tb σ H1 λy H2=>r x y H2 Q
def tUn (r:V->Hp->VK->Prop) (ta:TE):TE:=λσ H Q=>ta σ H λx H1=>r x H1 Q
def rI (C:Int->Int->Prop) (g:Int->Int->V):R2:=λx y H Q=>∃i j,x= .int i/\y= .int j/\C i j/\Q (g i j) H
def rI0 (g:Int->Int->V):R2:=λx y H Q=>∃i j,x= .int i/\y= .int j/\Q (g i j) H
def rU (g:Int->V):V->Hp->VK->Prop:=λx H Q=>∃i,x= .int i/\Q (g i) H
section
variable {X:Cx} {a b c:Expr} {ta tb tc:TE} {pos:Pos}
theorem zks (ha:PE X a ta) (hb:PE X b tb) {pins:List (Addr×Obj)} {s:Shared} {σ:St} {H:Hp} {R:V->V->Hp->Prop} (I:Inv X pins σ H s)
  (h:ta σ H λx H1=>tb σ H1 λy H2=>R x y H2) {Q:Value->Shared->Prop} {f:Value->Value->Sem Value}
  (hf:∀v u s2 x y H2,Inv X pins σ H2 s2->zP x v->zP y u->R x y H2->wpAny (model X.prog X.w) X.A (f v u) Q X.xe s2):
  wpAny (model X.prog X.w) X.A (eval a X.env) (λv s₁=>wpAny (model X.prog X.w) X.A (eval b X.env) (λu s₂=>wpAny (model X.prog X.w) X.A (f v u) Q X.xe s₂) X.xe s₁) X.xe s:=by
 refine thn (ha pins s σ H _ I h) λv s1 ⟨x,H1,I1,r1,q1⟩=> ?_
 refine thn (hb pins s1 σ H1 _ I1 q1) λu s2 ⟨y,H2,I2,r2,q2⟩=> ?_
 exact hf v u s2 x y H2 I2 r1 r2 q2
theorem zJ {op:Operator} {r:R2} (ho:OpR X (binaryOp op) r) (ha:PE X a ta) (hb:PE X b tb):PE X (.BinOp a op b pos) (tOp r ta tb):=by
 intro pins s σ H Q I h
 exact wpAny_BinOp (zks ha hb I h λv u s2 x y H2 I2 rx ry q=>ho pins s2 σ H2 x y v u Q I2 rx ry q)
theorem zbu {op:UnaryOp} {r:V->Hp->VK->Prop} (ho:UnR X (unaryOp op) r) (ha:PE X a ta):PE X (.UnaryOp op a pos) (tUn r ta):=by
 intro pins s σ H Q I h
 exact UnaryOp_ (thn (ha pins s σ H _ I h) λv s1 ⟨x,H1,I1,r1,q1⟩=>ho pins s1 σ H1 x v Q I1 r1 q1)
theorem opI {f:Value->Value->Sem Value} {C:Int->Int->Prop} {g:Int->Int->Int}
  (rule:∀(i j:Int) (t u:Tok) (s:Shared) (Q:Value->Shared->Prop) (E:Value->Shared->Prop),C i j->Q (.int (g i j) s.toks) {s with toks:=s.toks+1}->wpAny (model X.prog X.w) X.A (f (.int i t) (.int j u)) Q E s):
  OpR X f (rI C λi j=> .int (g i j)):=by
 intro pins s σ H x y v u Q I rx ry h
 obtain⟨i,j,rfl,rfl,hc,q⟩:=h
 obtain⟨t,rfl⟩:=rx
 obtain⟨t',rfl⟩:=ry
 exact rule i j t t' s _ _ hc ⟨.int (g i j),H,I.tok _,⟨_,rfl⟩,q⟩
theorem zlM {f:Value->Value->Sem Value} {g:Int->Int->Int}
  (rule:∀(i j:Int) (t u:Tok) (s:Shared) (Q:Value->Shared->Prop) (E:Value->Shared->Prop),Q (.int (g i j) s.toks) {s with toks:=s.toks+1}->wpAny (model X.prog X.w) X.A (f (.int i t) (.int j u)) Q E s):
  OpR X f (rI0 λi j=> .int (g i j)):=by
 intro pins s σ H x y v u Q I rx ry h
 obtain⟨i,j,rfl,rfl,q⟩:=h
 obtain⟨t,rfl⟩:=rx
 obtain⟨t',rfl⟩:=ry
 exact rule i j t t' s _ _ ⟨.int (g i j),H,I.tok _,⟨_,rfl⟩,q⟩
def zkt (i j:Int):Prop:=0<=j/\j<=1000000/\i.natAbs<2^64
def zgA (i j:Int):Prop:=(-(2^64)<i/\i<2^64)\/(-(2^64)<j/\j<2^64)
theorem zgA.ok {i j:Int} (h:zgA i j):IntMulOk i j:=by
 rcases h with⟨h1,h2⟩|⟨h1,h2⟩
 ·exact .of_left (intBits_le_64 h1 h2)
 ·exact .of_right (intBits_le_64 h1 h2)
theorem yM:OpR X (binaryOp .Add) (rI0 λi j=> .int (i+j)):=zlM λ_ _ _ _ _ _ _ q=>add_int q
theorem zb0:OpR X (binaryOp .Sub) (rI0 λi j=> .int (i-j)):=zlM λ_ _ _ _ _ _ _ q=>sub_int q
theorem zd5:OpR X (binaryOp .Mult) (rI zgA λi j=> .int (i*j)):=opI λ_ _ _ _ _ _ _ hc q=>mul_int q hc.ok
theorem ZC:OpR X (binaryOp .Mod) (rI (λ_ j=>0<j) λi j=> .int (i % j)):=opI λi j _ _ _ _ _ hc q=>by
 have h1:(0:Int)<j:=hc
 exact mod_int' ⋯ (by rw[Int.fmod_eq_emod_of_nonneg i ⋯];exact q)
theorem zd6:OpR X (binaryOp .Pow) (rI zkt λi j=> .int (i^j.toNat)):=opI λ_ _ _ _ _ _ _ hc q=>pow_int_small hc.1 hc.2.1 hc.2.2 q
theorem unI {f:Value->Sem Value} {g:Int->Int}
  (rule:∀(i:Int) (t:Tok) (s:Shared) (Q:Value->Shared->Prop) (E:Value->Shared->Prop),Q (.int (g i) s.toks) {s with toks:=s.toks+1}->wpAny (model X.prog X.w) X.A (f (.int i t)) Q E s):
  UnR X f (rU λi=> .int (g i)):=by
 intro pins s σ H x v Q I rx h
 obtain⟨i,rfl,q⟩:=h
 obtain⟨t,rfl⟩:=rx
 exact rule i t s _ _ ⟨.int (g i),H,I.tok _,⟨_,rfl⟩,q⟩
theorem Ug:UnR X (unaryOp .USub) (rU λi=> .int (-i)):=unI λ_ _ _ _ _ q=>neg_int q
end
section
variable {X:Cx} {a b c:Expr} {ta tb tc:TE} {pos:Pos}
theorem zeV {op:CmpOp} {r:R2} (ho:OpR X (compareOp op) r) (ha:PE X a ta) (hb:PE X b tb) (hm:behindInMarks op b=false):PE X (.Compare a [op] [b] pos) (tOp r ta tb):=by
 intro pins s σ H Q I h
 exact wpAny_Compare1 (zks ha hb I h λv u s2 x y H2 I2 rx ry q=>ho pins s2 σ H2 x y v u Q I2 rx ry q) hm
def zjO (t:TE):TT:=λσ H Q=>t σ H λx H'=>∃k,x= .bl k/\Q k H'
theorem Wt {op:CmpOp} {r:R2} (ho:OpR X (compareOp op) r) (ha:PE X a ta) (hb:PE X b tb) (hm:behindInMarks op b=false):PT X (.Compare a [op] [b] pos) (zjO (tOp r ta tb)):=by
 intro pins s σ H Q I h
 refine wpAny_isTrue_Compare1 (thn (ha pins s σ H _ I h) λv s1 ⟨x,H1,I1,r1,q1⟩=>thn (hb pins s1 σ H1 _ I1 q1) λu s2 ⟨y,H2,I2,r2,q2⟩=>
  thn (ho pins s2 σ H2 x y v u _ I2 r1 r2 q2) λc s3 ⟨z,H3,I3,r3,k,e,q3⟩=> ?_) hm
 subst e
 cases r3
 exact wpAny_truthy_bool ⟨H3,I3,q3⟩
theorem zb1:(sizeLine:Nat)<2^63:=by rw[sizeLine_eq];decide
theorem ZZ {x:V} {us:List Value} (r:zY [x] us):∃u,us=[u]/\zP x u:=by
 cases r with
 |cons r1 r2=>cases r2;exact⟨_,rfl,r1⟩
theorem zlN {x y:V} {us:List Value} (r:zY [x,y] us):∃u w',us=[u,w']/\zP x u/\zP y w':=by
 cases r with
 |cons r1 r2=>
  cases r2 with
  |cons r3 r4=>cases r4;exact⟨_,_,rfl,r1,r3⟩
theorem zc3:vF X (.builtin "abs") (λxs H Q=>∃i,xs=[.int i]/\Q (.int (if i<0 then -i else i)) H):=by
 intro pins s σ H xs us Q I r h
 obtain⟨i,rfl,q⟩:=h
 obtain⟨u,rfl,t,rfl⟩:=ZZ r
 exact call_abs_int λu tk=>⟨.int (if i<0 then -i else i),H,I.tok _,⟨_,rfl⟩,q⟩
end
structure zku (h:Heap) (x dx C:Addr) (mA:Str->Option Value):Prop where
 obj:h.get? x=some (IA C dx)
 ns:h.Ns1 dx mA
 ne:dx≠x
theorem zfN {h:Heap} {dx:Addr} {mA:Str->Option Value} (n:h.Ns1 dx mA):∃od,h.get? dx=some od/\∀name,IV name od=some (mA name):=by
 obtain⟨o,es,ep,ho,hd,hk,_,hm⟩:=n
 refine⟨o,ho,λname=> ?_⟩
 have e:=hm name
 unfold nsFind findBy at e
 rw[<-Array.find?_toList] at e
 unfold IV
 rw[hd]
 dsimp only
 split
 ·rename_i y q
  rw[q] at e
  exact congrArg some e
 ·rename_i q
  rw[q] at e
  have a:es.toList.any (·.refKey)=false:=by
   rw[List.any_eq_false]
   intro y hy
   obtain⟨z,t,jc⟩:=hk y (Array.mem_toList_iff.mp hy)
   simp[DictEntry.refKey,jc]
  have a':¬es.toList.any (·.refKey)=true:=by rw[a];exact HN
  rw[if_neg a']
  exact congrArg some e
theorem zku.look {h:Heap} {x dx C:Addr} {mA:Str->Option Value} (I:zku h x dx C mA):∃od,HJ h x (IA C dx) C (some od)/\∀name,IV name od=some (mA name):=
 let ⟨od,ho,hl⟩:=zfN I.ns
 ⟨od,⟨I.obj,rfl,rfl,ho⟩,hl⟩
section
variable {prog:Program} {w:World} {A:Around} {E:Value->Shared->Prop} {s:Shared} {K:Et} {x dx C f:Addr} {mA:Str->Option Value} {name:Str} {v:Value}
end
theorem WG.some_of {v:V} {o:Option Value} (r:WG (some v) o):∃u,o=some u/\zP v u:=by
 cases o with
 |none=>exact (show False from r).elim
 |some u=>exact⟨u,rfl,r⟩
section
variable {P:Program} {w:World} {H H':Hp} {h h':Heap} {a C dx:Addr} {fs fs':List (Str×V)}
theorem ziB (hok:HOk P w H h) (e:H a=some (.ins C dx fs)):∃mA,zku h a dx C mA/\(∀f,WG (fs.lookup f) (mA f))/\JT mA (fs.map (·.1))/\fs.length<=1000/\H dx=some (.own a):=by
 obtain⟨d,z,ne,ob,mA,n,r,q⟩:=(show yr P w H h a (.ins C dx fs) from hok a _ e)
 exact⟨mA,⟨ob,n,ne⟩,r,q,z,d⟩
end
structure Cls (K:Et) (C:Addr):Prop where
 pg:Js K C Str.empty=true
 hd:PySem.W.hasDictIn K C=true
 po:PySem.W.plainOver K C=true
 sa:G7 K (.ref C) "__setattr__"=some (some (.builtin "object.__setattr__"))
theorem Cls.get {K:Et} {C:Addr} (c:Cls K C) (f:Str):Js K C f=true:=c.pg
structure Con (K:Et) (C:Addr) (f:Str) (v:V) (u:Value):Prop where
 at_:G7 K (.ref C) f=some (some u)
 rel:zP v u
 get:HY K u "__get__"=some none
 cp:PySem.W.copiedNames.contains f=false
structure zmy (K:Et) (C:Addr) (m:Str) (f:Addr):Prop where
 at_:G7 K (.ref C) m=some (some (.ref f))
 fn:JU K (.ref f)=true
 kp:EY K (.ref f)=true
section
variable {X:Cx} {pins:List (Addr×Obj)} {σ:St} {H:Hp} {s:Shared} {a C dx:Addr} {fs:List (Str×V)} {f:Str} {v:V} {A:Around} {E:Value->Shared->Prop}
end
section
variable {X:Cx} {o e value:Expr} {f:Str} {pos pos' jN:Pos} {ta tv:TE}
end
section
variable {X:Cx} {pins:List (Addr×Obj)} {σ:St} {H:Hp} {s:Shared} {A:Around} {E:Value->Shared->Prop} {Q:Value->Shared->Prop} {c:Value} {b:Bool}
inductive Te (K:Et) (H:Hp):V->Value->Prop where
 |non:Te K H .non (.type "NoneType")
 |bl (x:Bool):Te K H (.bl x) (.type "bool")
 |int (i:Int):Te K H (.int i) (.type "int")
 |str (x:Str):Te K H (.str x) (.type "str")
 |flt (x:UInt64):Te K H (.flt x) (.type "float")
 |lst {a:Addr} {xs:List V} (e:H a=some (.lst xs)):Te K H (.ref a) (.type "list")
 |frz {a:Addr} {o:Obj} {xs:List V} (e:H a=some (.frz o (.lst xs))):Te K H (.ref a) (.type "list")
 |tup {a:Addr} {xs:List V} (e:H a=some (.tup xs)):Te K H (.ref a) (.type "tuple")
 |dK {a:Addr} {kvs:List (Key×V)} (e:H a=some (.dK kvs)):Te K H (.ref a) (.type "dict")
 |dT {a:Addr} {kvs:List (List Key×V)} (e:H a=some (.dT kvs)):Te K H (.ref a) (.type "dict")
 |ins {a C dx:Addr} {fs:List (Str×V)} (e:H a=some (.ins C dx fs)) (cl:Cls K C) (ha:G7 K (.ref C) "__class__"=some (some (.builtin "object.__class__")))
   (hn:HY K (.builtin "object.__class__") "__get__"=some (some (.builtin "getset_descriptor.__get__"))) (htk:JE K (.builtin "object.__class__")=some true)
   (hm:Ha K C (.type "object")=some true):Te K H (.ref a) (.ref C)
end
structure vV (k:Nat) (A:Around):Prop where
 hd:A.handled=none
 dp:A.depth+3*k+5<recursionLimit
 un:A.units+16*k+200<cLine
 gd:A.guards=some []
theorem vV.mono {j k:Nat} {A:Around} (r:vV k A) (h:j<=k):vV j A:=⟨r.hd,by have:=r.dp;omega,by have:=r.un;omega,r.gd⟩
theorem vV.deeper {k:Nat} {A:Around} (r:vV (k+1) A) (env:Env):vV k (A.deeper env):=
 ⟨r.hd,by have:=r.dp;show A.depth+1+3*k+5<_;omega,by have:=r.un;show A.units+3+16*k+200<_;omega,r.gd⟩
theorem vV.depth {k:Nat} {A:Around} (r:vV k A):A.depth<recursionLimit:=by have:=r.dp;omega
theorem vV.units {k:Nat} {A:Around} (r:vV k A):A.units+64<cLine:=by have:=r.un;omega
def zd7:TA:=λ_ H Q=>Q [] H
def UO (ta:TE) (tr:TA):TA:=λσ H Q=>ta σ H λx H1=>tr σ H1 λxs H2=>Q (x::xs) H2
section
variable {X:Cx} {e:Expr} {es:List Expr} {te:TE} {t:TA} {pos:Pos}
theorem zg:PA X [] zd7:=λ_ _ _ _ H Q I h=>Calls.spliced_nil ⟨[],H,I,.nil,h⟩
theorem za (ha:PE X e te) (hr:PA X es t) (hs:starEach (e::es) X.env=(false,eval e X.env)::starEach es X.env:=by rfl):PA X (e::es) (UO te t):=by
 intro pos pins s σ H Q I h
 rw[hs]
 show wpAny _ _ (spliced ((false,eval e X.env)::backTo pos (starEach es X.env))) _ _ s
 refine Calls.spliced_cons (thn (ha pins s σ H _ I h) λu s1 ⟨x,H1,I1,r1,q1⟩=> ?_)
 exact thn (hr pos pins s1 σ H1 _ I1 q1) λus s2 ⟨xs,H2,I2,r2,q2⟩=>⟨x::xs,H2,I2,.cons r1 r2,q2⟩
def zlO (t:TA):TE:=λσ H Q=>t σ H λxs H1=>xs.length<=sizeLine/\∀p,H1 p=none->Q (.ref p) (upd H1 p (.tup xs))
def zlP (t:TA):TE:=λσ H Q=>t σ H λxs H1=>xs.length<=sizeLine/\∀p,H1 p=none->Q (.ref p) (upd H1 p (.lst xs))
theorem yz {x1} (h:PA X es t):PE X (.Tuple es x1 pos) (zlO t):=by
 intro pins s σ H Q I hq
 refine wpAny_Tuple_spliced (thn (h pos pins s σ H _ I hq) λus s1 ⟨xs,H1,I1,r,z,q⟩=>⟨by rw[<-r.length];exact z,?_⟩)
 have hf:H1 s1.heap.objs.size=none:=I1.hok.fresh (EE _)
 refine⟨.ref s1.heap.objs.size,upd H1 s1.heap.objs.size (.tup xs),I1.laid (t':=s1.toks) (λb u e=>Heap.get?_push_of_some _ e) (EE _) ?_,rfl,q _ hf⟩
 exact⟨z,us,r,⟨_,Heap.get?_push_size _ rfl,rfl,_,rfl⟩⟩
theorem vq (h:PA X es t):PE X (.List es pos) (zlP t):=by
 intro pins s σ H Q I hq
 refine wpAny_List_spliced (thn (h pos pins s σ H _ I hq) λus s1 ⟨xs,H1,I1,r,z,q⟩=>⟨by rw[<-r.length];exact z,?_⟩)
 have hf:H1 s1.heap.objs.size=none:=I1.hok.fresh (EE _)
 refine⟨.ref s1.heap.objs.size,upd H1 s1.heap.objs.size (.lst xs),I1.laid (t':=s1.toks) (λb u e=>Heap.get?_push_of_some _ e) (EE _) ?_,rfl,q _ hf⟩
 exact⟨z,us,0,r,Heap.get?_push_size _ rfl⟩
end
abbrev Sp:=List V->Hp->VK->XK->Prop
abbrev CXT:=List Env->Hp->Shared->XK->Value->Shared->Prop
structure ziC (P:Program) (w:World) (K:Et) (mg:Str->Option Value) (base:Heap) (A:Around) (outer:List Env) (s:Shared) (H:Hp):Prop where
 frames:A.frames=some outer
 mod:Mod K mg base
 bs:∀b o,base.get? b=some o->s.heap.get? b=some o/\H b=none
 bsz:base.objs.size<=s.heap.objs.size
 funs:s.heap.FunFrames base outer
 frf:∀b∈frs outer,H b=none
 hok:HOk P w H s.heap
 bare:AllBare s.gens
def CE (outer:List Env) (P:Program) (w:World) (H:Hp) (s:Shared) (Q:VK) (u:Value) (s':Shared):Prop:=
 ∃v H',s'.os=s.os/\AllBare s'.gens/\Un (frs outer) [] H H' s.heap s'.heap/\HOk P w H' s'.heap/\zP v u/\Q v H'
def CR (CX:CXT) (outer:List Env) (P:Program) (w:World) (H:Hp) (s:Shared) (Q:VK) (E:XK) (r:Result) (s':Shared):Prop:=
 match r with
 | .ok (.ret u)=>CE outer P w H s Q u s'
 | .ok _=>False
 | .error e=>CX outer H s E e s'
structure xJ (P:Program) (w:World) (K:Et) (mg:Str->Option Value) (base:Heap) (CX:CXT) (k:Nat) (f:Addr) (fd:FuncData) (ps:List Str) (sp:Sp):Prop where
 len:∀vs H Q E,sp vs H Q E->vs.length=ps.length
 run:∀(A:Around) (outer:List Env) (s:Shared) (H:Hp) (args:Args) (us:List Value) (vs:List V) (Q:VK) (E:XK),vV k A->ziC P w K mg base A outer s H->BindsTo s fd args (ps.zip us)->zY vs us->sp vs H Q E->
  codeAny (model P w) A (.call (.ref f) args) (CR CX outer P w H s Q E) s
theorem xJ.imp {P:Program} {w:World} {K:Et} {mg:Str->Option Value} {base:Heap} {CX:CXT} {k:Nat} {f:Addr} {fd:FuncData} {ps:List Str} {sp sp':Sp} (F:xJ P w K mg base CX k f fd ps sp)
  (h:∀vs H Q E,sp' vs H Q E->sp vs H Q E):xJ P w K mg base CX k f fd ps sp':=
 ⟨λvs H Q E q=>F.len vs H Q E (h _ _ _ _ q),λA outer s H args us vs Q E hr he hb hv hs=>F.run A outer s H args us vs Q E hr he hb hv (h _ _ _ _ hs)⟩
section
variable {X:Cx} {pins:List (Addr×Obj)} {σ:St} {H:Hp} {s s':Shared}
theorem Inv.env0 (I:Inv X pins σ H s):ziC X.prog X.w X.K X.mg X.base X.A X.stack s H:=
 ⟨I.ok.frames,I.ok.mod,I.bs,EW I.ok.bsz I.sz,I.stack,I.stkFree,I.hok,I.bare⟩
theorem Inv.after {Q:VK} {u:Value} (I:Inv X pins σ H s) (h:CE X.stack X.prog X.w H s Q u s'):EP X pins σ Q u s':=by
 obtain⟨v,H',os,bare,un,hok,r,q⟩:=h
 obtain⟨hh,g,d,t,os'⟩:=s'
 obtain rfl:os'=s.os:=os
 exact⟨v,H',I.call (h':=hh) (g':=g) (d':=d) (t':=t) (ch:=[]) un hok bare (λb z=>absurd z (by simp)),r,q⟩
end
def zjP (sp:Sp) (iM:List V) (E:XK) (t:TA):TE:=λσ H Q=>t σ H λvs H1=>sp (vs++iM) H1 Q E
def yW (K:Et) (fd:FuncData) (ps:List Str) (ds:List Value):Prop:=
 ∀(s:Shared) (us:List Value),K.In s.heap->(us++ds).length=ps.length->BindsTo s fd ⟨us,[]⟩ (ps.zip (us++ds))
theorem yW.all {K:Et} {fd:FuncData} {ps:List Str} (h:∀us:List Value,us.length=ps.length->bindArgs fd ⟨us,[]⟩=pure (ps.zip us)):yW K fd ps []:=λs us _ hl=>by
 rw[Gz] at hl ⊢
 exact .of_eq (h us hl)
def zb2 (CX:CXT) (X:Cx) (E:XK):Prop:=∀(pins:List (Addr×Obj)) (σ:St) (H:Hp) (s:Shared) (e:Value) (s':Shared),Inv X pins σ H s->CX X.stack H s E e s'->X.xe e s'
section
variable {X:Cx} {CX:CXT} {k:Nat} {f C:Addr} {fd:FuncData} {ps:List Str} {sp:Sp} {iM:List V} {ds:List Value} {E:XK} {x m:Str} {p pos apos:Pos} {e o:Expr} {es:List Expr} {ta:TE} {t:TA}
theorem zkv {pins:List (Addr×Obj)} {σ:St} {H:Hp} {s:Shared} {Q:VK} {us:List Value} {vs:List V} (F:xJ X.prog X.w X.K X.mg X.base CX k f fd ps sp) (hr:vV k X.A) (hb:yW X.K fd ps ds) (hd:zY iM ds) (hx:zb2 CX X E)
  (I:Inv X pins σ H s) (r:zY vs us) (h:sp (vs++iM) H Q E):wpAny (model X.prog X.w) X.A (call (.ref f) us) (EP X pins σ Q) X.xe s:=by
 have r2:zY (vs++iM) (us++ds):=r.append hd
 have hl:(us++ds).length=ps.length:=by rw[<-r2.length];exact F.len _ _ _ _ h
 refine wpAny_call (codeAny_mono (F.run X.A X.stack s H ⟨us,[]⟩ (us++ds) (vs++iM) Q E hr I.env0 (hb s us I.kIn hl) r2 h) λr s' hq=> ?_)
 cases r with
 |error e=>exact hx pins σ H s e s' I hq
 |ok fl=>
  cases fl with
  |ret u=>exact I.after hq
  |next=>exact GQ hq
  |brk=>exact GQ hq
  |cont=>exact GQ hq
theorem zw (F:xJ X.prog X.w X.K X.mg X.base CX k f fd ps sp) (hr:vV k X.A) (hg:Gl X x) (hm:X.mg x=some (.ref f)) (hk:EY X.K (.ref f)=true) (hb:yW X.K fd ps ds) (hd:zY iM ds) (hx:zb2 CX X E)
  (ha:PA X (e::es) t) (kJ:(x==("__debug__":Str))=false:=by decide) (he:starEach (e::es) X.env=(false,eval e X.env)::starEach es X.env:=by rfl) (fU:(backTo pos (starEach es X.env)).any (·.1)=false:=by rfl):
  PE X (.Call (.Name x p) (e::es) [] pos) (zjP sp iM E t):=by
 intro pins s σ H Q I h
 refine wpAny_Call_Name_kw (zeT I hg hm ?_ kJ)
 refine PySem.W.callWith_K (h₀:=X.base) I.ok.mod.kin hk (thn (ha pos pins s σ H _ I h) λus s1 ⟨vs,H1,I1,r,q⟩=>⟨I1.kIn,?_⟩) he fU
 exact zkv F hr hb hd hx I1 r q
structure Mk (K:Et) (C f:Addr):Prop where
 makes:PySem.W.makesIn K C=true
 init:G7 K (.ref C) "__init__"=some (some (.ref f))
 fn:JU K (.ref f)=true
 kp:EY K (.ref C)=true
end
section
variable {X:Cx} {CX:CXT} {k:Nat} {f C:Addr} {fd:FuncData} {ps ks:List Str} {sp:Sp} {E:XK} {x m:Str} {p pos apos AO:Pos} {e o:Expr} {es:List Expr} {DN:List Keyword} {te ta:TE} {t tk:TA} {nm:Option Str}
structure zmo (K:Et) (fd:FuncData) (ps ks:List Str) (g:List Value->List Value->List Value) (gV:List V->List V->List V):Prop where
 to:∀(s:Shared) (us ws:List Value),K.In s.heap->(g us ws).length=ps.length->BindsTo s fd ⟨us,ks.zip ws⟩ (ps.zip (g us ws))
 rel:∀{vs:List V} {us:List Value} {zs:List V} {ws:List Value},zY vs us->zY zs ws->zY (gV vs zs) (g us ws)
variable {g:List Value->List Value->List Value} {gV:List V->List V->List V}
end
structure yb (N P:List Str) (sc:Scope):Prop where
 kind:sc.kind= .function
 co:sc.isCoroutine=false
 gen:sc.isGenerator=false
 nd:N.Nodup
 pre:N.take P.length=P
 par:∀x∈P,sc.names.lookup x=some .local\/sc.names.lookup x=some .cell
 nofree:∀y∈sc.names,y.2≠ .free
theorem zbv {kindOf:Str->Option NameKind} {x:Str}:∀{binds:List (Str×Value)} {m:Str->Option Value},(∀v,(x,v)∉binds)->bindL kindOf binds m x=m x
 |[],_,_=>rfl
 |(n,v)::r,m,h=>by
  unfold bindL
  rw[zbv λw hw=>h w (ED _ hw)]
  split
  ·have:x≠n:=by rintro rfl;exact h v EG
   simp[this]
  ·rfl
theorem zbw {kindOf:Str->Option NameKind} {x:Str}:∀{binds:List (Str×Value)} {m:Str->Option Value},(∀v,(x,v)∉binds)->bindC kindOf binds m x=m x
 |[],_,_=>rfl
 |(n,v)::r,m,h=>by
  unfold bindC
  rw[zbw λw hw=>h w (ED _ hw)]
  split
  ·rfl
  ·have:x≠n:=by rintro rfl;exact h v EG
   simp[this]
theorem zbx {kindOf:Str->Option NameKind} {x:Str} {v:Value}:∀{P:List Str} {vs:List Value} {i:Nat} {m:Str->Option Value},P.Nodup->P[i]? =some x->vs[i]? =some v->kindOf x=some .local->
  bindL kindOf (P.zip vs) m x=some v
 |[],_,_,_,_,h,_,_=>by simp at h
 |_::_,[],_,_,_,_,h,_=>by simp at h
 |p::P,w::vs,0,m,nd,h1,h2,hk=>by
  simp at h1 h2;subst h1;subst h2
  show bindL kindOf ((p,w)::P.zip vs) m p=_
  unfold bindL
  rw[zbv λv hv=>(FO.mp nd).1 (GA hv).1,if_pos hk]
  simp
 |p::P,w::vs,i+1,m,nd,h1,h2,hk=>by
  show bindL kindOf ((p,w)::P.zip vs) m x=_
  unfold bindL
  exact zbx (i:=i) (FO.mp nd).2 (by simpa using h1) (by simpa using h2) hk
theorem zby {kindOf:Str->Option NameKind} {x:Str} {v:Value}:∀{P:List Str} {vs:List Value} {i:Nat} {m:Str->Option Value},P.Nodup->P[i]? =some x->vs[i]? =some v->kindOf x≠some .local->
  bindC kindOf (P.zip vs) m x=some v
 |[],_,_,_,_,h,_,_=>by simp at h
 |_::_,[],_,_,_,_,h,_=>by simp at h
 |p::P,w::vs,0,m,nd,h1,h2,hk=>by
  simp at h1 h2;subst h1;subst h2
  show bindC kindOf ((p,w)::P.zip vs) m p=_
  unfold bindC
  rw[zbw λv hv=>(FO.mp nd).1 (GA hv).1,if_neg hk]
  simp
 |p::P,w::vs,i+1,m,nd,h1,h2,hk=>by
  show bindC kindOf ((p,w)::P.zip vs) m x=_
  unfold bindC
  exact zby (i:=i) (FO.mp nd).2 (by simpa using h1) (by simpa using h2) hk
noncomputable def XR (N:List Str) (vs:List V):St:=vs.map some++Fp (N.length-vs.length) none
noncomputable def zc4 (CX:CXT) (P:Program) (w:World) (K:Et) (mg:Str->Option Value) (base:Heap) (N:List Str) (qual:Str) (scope:Scope) (f:Addr) (cd:Value) (A:Around) (outer:List Env) (s:Shared) (H:Hp) (E:XK):Cx where
 prog:=P
 w:=w
 K:=K
 mg:=mg
 base:=base
 A:=A.deeper (envOfC qual scope s.heap.objs.size f cd)
 N:=N
 s₀:=s
 H₀:=H
 env:=envOfC qual scope s.heap.objs.size f cd
 outer:=outer
 stack:=envOfC qual scope s.heap.objs.size f cd::outer
 ex:=[]
 calm:=true
 fn:=λ_=>true
 pn:=[]
 xe:=λe s'=>wpAny (model P w) (A.deeper (envOfC qual scope s.heap.objs.size f cd)) (leaving (envOfC qual scope s.heap.objs.size f cd) e) (λ_ s''=>CX outer H s E e s'') (λe' s''=>CX outer H s E e' s'') s'
theorem zc5 {sc:Scope} {n:Nat} {x:Str} (h:sc.names.lookup x=some .cell):∃c,(cellsFrom n sc.names []).lookup x=some c:=by
 have q:=IL sc.names n [] (.inl h)
 exact G2.mp q
theorem zfO {CX:CXT} {P:Program} {w:World} {K:Et} {mg:Str->Option Value} {base:Heap} {N ps:List Str} {qual:Str} {scope:Scope} {f:Addr} {cd:Value} {A:Around} {outer:List Env} {s s1:Shared} {H:Hp} {E:XK} {us:List Value} {vs:List V}
  (S:yb N ps scope) (hd:A.handled=none) (e0:ziC P w K mg base A outer s H) (hl:vs.length=ps.length) (r:zY vs us)
  (x:InCallC s s.heap.objs.size (bindL (envOfC qual scope s.heap.objs.size f cd).kindOf (ps.zip us) λ_=>none) (cellsFrom (s.heap.objs.size+1) scope.names []) (bindC (envOfC qual scope s.heap.objs.size f cd).kindOf (ps.zip us) λ_=>none) s1):
  Inv (zc4 CX P w K mg base N qual scope f cd A outer s H E) [] (XR N vs) H s1:=by
 have fU:ps.length<=N.length:=by have:=congrArg List.length S.pre;rw[FD] at this;omega
 obtain⟨h1,tk,rfl,hk⟩:=x.done
 have jW:∀b:Addr,b∉(zc4 CX P w K mg base N qual scope f cd A outer s H E).ex:=λb z=>absurd (show b∈([]:List Addr) from z) (by simp)
 refine⟨⟨e0.mod,S.kind,rfl,rfl,EE _,λy z c h1 h2=> ?_,λy hy=> ?_,λy c _ h=> ?_,λ_=>hd,Around.frames_deeper e0.frames,.inr ⟨rfl,rfl⟩,λb z=>absurd z (jW b),e0.bs,e0.bsz,λb _ _=>jW b,λb z=>absurd z (jW b),e0.funs,e0.frf⟩,
  rfl,e0.bare,Un.kept hk,⟨_,x.toInCall.ns,λi y v h1 h2 h3=> ?_⟩,λy c h=>⟨_,x.cell y c h⟩,e0.hok.fresh (EE _),λy c h=> ?_,λp hp=>absurd (show p∈([]:List (Addr×Obj)) from hp) (by simp),e0.hok.kept hk,?_⟩
 ·exact name_of_addr x.apart (Gc h1) (Gc h2)
 ·have hy:scope.names.lookup y=some .cell\/scope.names.lookup y=some .free:=hy
  rcases hy with hy|hy
  ·exact zc5 hy
  ·exact absurd rfl (S.nofree _ (Gc hy))
 ·exact Fc (x.above y c (Gc h))
 ·have hi:i<vs.length:=by
   unfold XR at h2
   by_cases hi:i<vs.length
   ·exact hi
   ·rw[EL (by simpa using hi)] at h2
    rw[Ga] at h2
    split at h2<;>cases h2
  have ha:vs[i]? =some v:=by
   unfold XR at h2
   rw[Ex (by simpa using hi),EB] at h2
   cases e:vs[i]? with
   |none=>rw[e] at h2;cases h2
   |some a=>rw[e] at h2;cases h2;rfl
  obtain⟨u,hu,rv⟩:=r.get ha
  have hp:ps[i]? =some y:=by
   rw[<-S.pre,List.getElem?_take_of_lt ⋯];exact h1
  have t9:ps.Nodup:=by rw[<-S.pre];exact S.nd.sublist (List.take_sublist _ _)
  refine⟨u,rv,?_⟩
  rcases S.par y (EA hp) with k|k
  ·exact .inl ⟨k,zbx t9 hp hu k⟩
  ·obtain⟨c,e⟩:=zc5 (n:=s.heap.objs.size+1) k
   refine .inr ⟨.inl k,c,e,?_⟩
   have q:=x.cell y c e
   rw[zby t9 hp hu (by show scope.names.lookup y≠_;rw[k];decide)] at q
   exact q
 ·exact e0.hok.fresh (Fc (x.above y c (Gc h)))
 ·unfold XR
  show _=N.length
  rw[ER,Eu,IW]
  omega
theorem zlQ {CX:CXT} {P:Program} {w:World} {K:Et} {mg:Str->Option Value} {base:Heap} {k:Nat} {f:Addr} {name qual:Str} {params:Arguments} {body:List Stmt} {scope:Scope} {dV kV doc pm aO ct oc:Value} {an od:Option Addr}
  {ik:Array (Option Value)} {N ps:List Str} {sp:Sp} (lk:K.lookup f=some ⟨oc,od,.func (F3 name qual params body scope dV kV doc pm an aO ct),ik⟩) (eF:F0 K aO qual=true) (S:yb N ps scope)
  (len:∀vs H Q E,sp vs H Q E->vs.length=ps.length)
  (gk:∀(A:Around) (outer:List Env) (s:Shared) (H:Hp) (vs:List V) (Q:VK) (E:XK),vV k (A.deeper (envOfC qual scope s.heap.objs.size f aO))->sp vs H Q E->
   ∃t,PSs (zc4 CX P w K mg base N qual scope f aO A outer s H E) body t/\t {nx:=λ_ H'=>Q .non H',rt:=Q} (XR N vs) H):
  xJ P w K mg base CX (k+1) f (F3 name qual params body scope dV kV doc pm an aO ct) ps sp:=by
 refine⟨len,λA outer s H args us vs Q E hr e0 hb r iz=> ?_⟩
 have hl:=len _ _ _ _ iz
 have KX:K.In s.heap:=e0.mod.kin.keeps λb o e=>(e0.bs b o e).1
 have lim:s.heap.NoLimit:=e0.mod.nolimit.keeps λb o e=>(e0.bs b o e).1
 have kz:∀y∈ps.zip us,scope.names.lookup y.1=some .local\/(scope.names.lookup y.1=some .cell/\((cellsFrom (s.heap.objs.size+1) scope.names []).lookup y.1).isSome=true):=λ⟨n,v⟩ hy=>by
  rcases S.par n (GA hy).1 with q|q
  ·exact .inl q
  ·exact .inr ⟨q,IL _ _ _ (.inl q)⟩
 refine codeAny_call_function hr.depth (KX _ _ lk) rfl S.co S.gen rfl (PySem.W.codeRec_of KX eF) (hb _ _ _ _ ?_)
 refine wpAny_newFunctionEnv_cells S.kind kz λenv he s1 x=> ?_
 subst he
 refine⟨lim.keeps x.toInCall.keep,codeAny_func ?_⟩
 obtain⟨t,ht,hq⟩:=gk A outer s H vs Q E (hr.deeper _) iz
 have I:Inv (zc4 CX P w K mg base N qual scope f aO A outer s H E) [] (XR N vs) H s1:=zfO S hr.hd e0 hl r x
 refine wpAny_mono (ht [] s1 (XR N vs) H _ I hq) (λfl s' hs=> ?_) λe s' hs=>hs
 have fin:∀{σ':St} {H':Hp} {v:V} {u:Value},Inv (zc4 CX P w K mg base N qual scope f aO A outer s H E) [] σ' H' s'->zP v u->Q v H'->CE outer P w H s Q u s':=
  λ{σ' H' v u} J rv q=>⟨v,H',J.os,J.bare,J.base,J.hok,rv,q⟩
 cases fl with
 |ret u=>
  obtain⟨v,σ',H',J,rv,q⟩:=hs
  exact fin J rv q
 |next=>
  obtain⟨σ',H',J,q⟩:=hs
  exact fin (v:=V.non) (u:=Value.none) J rfl q
 |brk=>
  obtain⟨_,_,_,q⟩:=hs
  exact GQ q
 |cont=>
  obtain⟨_,_,_,q⟩:=hs
  exact GQ q
section
variable {X:Cx} {x:Str} {p pos:Pos} {e:Expr} {es:List Expr} {t:TA} {id T:String} {r:List V->Hp->VK->Prop}
def tCB (r:List V->Hp->VK->Prop) (t:TA):TE:=λσ H Q=>t σ H λvs H1=>r vs H1 Q
theorem zD (hc:vF X (.builtin id) r) (hg:Gl X x) (hm:X.mg x=none) (hv:bootBuiltins x=some (.builtin id)) (ha:PA X (e::es) t) (hn:x≠"__name__":=by decide) (kJ:(x==("__debug__":Str))=false:=by decide)
  (he:starEach (e::es) X.env=(false,eval e X.env)::starEach es X.env:=by rfl) (fU:(backTo pos (starEach es X.env)).any (·.1)=false:=by rfl):PE X (.Call (.Name x p) (e::es) [] pos) (tCB r t):=by
 intro pins s σ H Q I h
 refine wpAny_Call_Name_kw (Yw I hg hm hv ?_ hn kJ)
 exact HB (thn (ha pos pins s σ H _ I h) λus s1 ⟨vs,H1,I1,r1,q1⟩=>hc pins s1 σ H1 vs us Q I1 r1 q1) he fU
theorem ZU (hc:vF X (.type T) r) (hg:Gl X x) (hm:X.mg x=none) (hv:bootBuiltins x=some (.type T)) (ha:PA X (e::es) t) (hn:x≠"__name__":=by decide) (kJ:(x==("__debug__":Str))=false:=by decide)
  (he:starEach (e::es) X.env=(false,eval e X.env)::starEach es X.env:=by rfl) (fU:(backTo pos (starEach es X.env)).any (·.1)=false:=by rfl):PE X (.Call (.Name x p) (e::es) [] pos) (tCB r t):=by
 intro pins s σ H Q I h
 refine wpAny_Call_Name_kw (Yw I hg hm hv ?_ hn kJ)
 exact FU (thn (ha pos pins s σ H _ I h) λus s1 ⟨vs,H1,I1,r1,q1⟩=>hc pins s1 σ H1 vs us Q I1 r1 q1) he fU
end
end L2
namespace HT
open PySem PyProof.Rows
theorem zc6 (A:Around) (s:Shared) (a:Int) (t:Tok) (c:Int) (u:Tok) (prog:Program) (w:World) (E:Value->Shared->Prop) (Q:Value->Shared->Prop) (h:Q (.bool (decide (a<c))) s):
  wpAny (model prog w) A (richCompare .Lt (.int a t) (.int c u)) Q E s:=
 (PyProof.Rows.lt_int h:wpAny (model prog w) A (compareOp .Lt (.int a t) (.int c u)) Q E s)
section
open PySem.SeqAt
open PySem.AutoSeq1 (wpAny_loadPart')
open PySem.MeetsSeq PySem.MeetsSeq2 PySem.MeetsSeq3
end
section
variable {prog:Program} {w:World} {A:Around} {E:Value->Shared->Prop} {s:Shared}
noncomputable def sIx (n d:Nat):Option Int->Nat
 |none=>d
 |some v=>if v<0 then (v+(n:Int)).toNat else min v.toNat n
end
end HT
namespace L2
open PySem PySem.Spec PyProof.Rows
abbrev TO:=St->Hp->(Option Int->Hp->Prop)->Prop
def PO (X:Cx) (e:Option Expr) (t:TO):Prop:=
 ∀(pins:List (Addr×Obj)) (s:Shared) (σ:St) (H:Hp) (Q:Option Int->Hp->Prop),Inv X pins σ H s->t σ H Q->
  wpAny (model X.prog X.w) X.A (evalPart e X.env) (λu s'=>∃o H',Inv X pins σ H' s'/\IsPart u o/\Q o H') X.xe s
def zjQ (t:TE):TO:=λσ H Q=>t σ H λx H1=>∃i,x= .int i/\Q (some i) H1
section
variable {X:Cx} {e:Expr} {te:TE} {lo hi:Option Expr} {tl th:TO} {pos p2:Pos}
theorem zeW (h:PE X e te):PO X (some e) (zjQ te):=by
 intro pins s σ H Q I hw
 rw[evalPart_some]
 refine thn (h pins s σ H _ I hw) λu s1 ⟨x,H1,I1,r1,q1⟩=> ?_
 obtain⟨i,rfl,q⟩:=q1
 obtain⟨t,rfl⟩:=r1
 exact⟨some i,H1,I1,.int i t,q⟩
def SlR (X:Cx) (r:V->Option Int->Option Int->Hp->VK->Prop):Prop:=
 ∀(pins:List (Addr×Obj)) (s:Shared) (σ:St) (H:Hp) (x:V) (v vl vu:Value) (lo hi:Option Int) (sl:Addr) (Q:VK),Inv X pins σ H s->zP x v->s.heap.IsSliceOf sl vl vu .none->IsPart vl lo->IsPart vu hi->r x lo hi H Q->
  ∃T id,typeLookup (.type T) "__getitem__"=pure (some (.builtin id))/\s.TypeIs v T/\wpAny (model X.prog X.w) X.A (getItem v (.ref sl)) (EP X pins σ Q) X.xe s
def tSl (r:V->Option Int->Option Int->Hp->VK->Prop) (te:TE) (tl th:TO):TE:=λσ H Q=>te σ H λx H1=>tl σ H1 λl H2=>th σ H2 λu H3=>r x l u H3 Q
theorem zgB {r:V->Option Int->Option Int->Hp->VK->Prop} (hr:SlR X r) (he:PE X e te) (hl:PO X lo tl) (hu:PO X hi th):PE X (.Subscript e (.Slice lo hi none p2) pos) (tSl r te tl th):=by
 intro pins s σ H Q I h
 refine Subscript_ (thn (he pins s σ H _ I h) λv s1 ⟨x,H1,I1,r1,q1⟩=> ?_)
 refine wpAny_Slice (thn (hl pins s1 σ H1 _ I1 q1) λvl s2 ⟨l,H2,I2,pl,q2⟩=>thn (hu pins s2 σ H2 _ I2 q2) λvu s3 ⟨u,H3,I3,pu,q3⟩=> ?_)
 rw[evalPart_none]
 refine wpAny_pure ?_
 have I4:Inv X pins σ H3 {s3 with heap:=s3.heap.push {cls:= .type "slice",data:= .fields #[vl,vu,.none]}}:=I3.kept (t':=s3.toks) λb ob q=>Heap.get?_push_of_some _ q
 obtain⟨T,id,hT,ht,hg⟩:=hr pins {s3 with heap:=s3.heap.push {cls:= .type "slice",data:= .fields #[vl,vu,.none]}} σ H3 x v vl vu l u s3.heap.objs.size Q I4 r1 (Heap.IsSliceOf.new ..) pl pu q3
 show wpAny (model X.prog X.w) X.A (subscriptTail e (.Slice lo hi none p2) v (.ref s3.heap.objs.size)) (EP X pins σ Q) X.xe {s3 with heap:=s3.heap.push {cls:= .type "slice",data:= .fields #[vl,vu,.none]}}
 exact tail_any (ops:=[.ref s3.heap.objs.size,v]) ht hT hg (by with_unfolding_all rfl)
noncomputable def zfP (xs:List V) (lo hi:Option Int):List V:=(xs.drop (HT.sIx xs.length 0 lo)).take (HT.sIx xs.length xs.length hi-HT.sIx xs.length 0 lo)
theorem zc7 (xs:List V) (lo hi:Option Int):(zfP xs lo hi).length<=xs.length:=by
 unfold zfP
 rw[FD,List.length_drop]
 omega
end
noncomputable def ixN (n:Nat) (i:Int):Option Nat:=if 0<=i then (if i<n then some i.toNat else none) else if -(n:Int)<=i then some (i+n).toNat else none
noncomputable def atI {α:Type} (xs:List α) (i:Int):Option α:=(ixN xs.length i).bind λj=>xs[j]?
theorem zeX {n:Nat} {i:Int} {j:Nat} (h:ixN n i=some j):seqIndex? i n=some j/\j<n/\ -(n:Int)<=i/\i<n:=by
 unfold ixN at h
 by_cases h0:0<=i
 ·rw[if_pos h0] at h
  by_cases h1:i<n
  ·rw[if_pos h1] at h
   have e:i.toNat=j:=Fi h
   exact⟨by rw[seqIndex_of h0 h1,e],⋯,⋯,h1⟩
  ·rw[if_neg h1] at h;cases h
 ·rw[if_neg h0] at h
  by_cases h1: -(n:Int)<=i
  ·rw[if_pos h1] at h
   have e:(i+n).toNat=j:=Fi h
   exact⟨by rw[seqIndex_neg ⋯ h1,e],⋯,h1,⋯⟩
  ·rw[if_neg h1] at h;cases h
theorem zeY {α:Type} {xs:List α} {i:Int} {v:α} (h:atI xs i=some v):∃j,seqIndex? i xs.length=some j/\xs[j]? =some v/\j<xs.length/\ -(xs.length:Int)<=i/\i<xs.length:=by
 unfold atI at h
 cases e:ixN xs.length i with
 |none=>rw[e] at h;cases h
 |some j=>
  rw[e] at h
  obtain⟨h1,h2,h3,h4⟩:=zeX e
  exact⟨j,h1,h,h2,h3,h4⟩
def ziD (b:Expr):Prop:=∀o i,subscripted b false o i=operate [o,i] (getItem o i)
def IxR (X:Cx) (r:R2):Prop:=
 ∀(value slice:Expr) (pins:List (Addr×Obj)) (s:Shared) (σ:St) (H:Hp) (x y:V) (v u:Value) (Q:VK),Inv X pins σ H s->zP x v->zP y u->r x y H Q->
  subscripted slice false v u=operate [v,u] (getItem v u)->wpAny (model X.prog X.w) X.A (subscriptTail value slice v u) (EP X pins σ Q) X.xe s
def MtR (X:Cx) (id:String) (r:V->List V->Hp->VK->Prop):Prop:=
 ∀(pins:List (Addr×Obj)) (s:Shared) (σ:St) (H:Hp) (x:V) (xs:List V) (v:Value) (us:List Value) (Q:VK),Inv X pins σ H s->zP x v->zY xs us->r x xs H Q->
  wpAny (model X.prog X.w) X.A (call (.builtin id) (v::us)) (EP X pins σ Q) X.xe s
section
variable {X:Cx} {a b:Expr} {ta tb:TE} {pos:Pos}
theorem yh {r:R2} (hr:IxR X r) (ha:PE X a ta) (hb:PE X b tb) (hs:ziD b):PE X (.Subscript a b pos) (tOp r ta tb):=by
 intro pins s σ H Q I h
 exact Subscript_ (zks ha hb I h λv u s2 x y H2 I2 rx ry q=>hr a b pins s2 σ H2 x y v u Q I2 rx ry q (hs _ _))
def zkw (K:Et):R2:=λx y H Q=>∃p xs i v,x= .ref p/\y= .int i/\SqL K H p xs/\atI xs i=some v/\Q v H
def zkx (K:Et):R2:=λx y H Q=>∃p xs i v,x= .ref p/\y= .int i/\SqT K H p xs/\atI xs i=some v/\Q v H
theorem ziE:IxR X (zkw X.K):=by
 intro value slice pins s σ H x y v u Q I rx ry h hs
 obtain⟨p,xs,i,z,rfl,rfl,hq,he,q⟩:=h
 cases rx
 obtain⟨t,rfl⟩:=ry
 obtain⟨ae,r,pl,hz⟩:=I.list hq
 obtain⟨j,h1,h2,h3,h4,h5⟩:=zeY he
 obtain⟨w,ew,rw'⟩:=r.get h2
 have hl:=r.length
 have hn:=zb1
 have fin:EP X pins σ Q w s:=⟨z,H,I,rw',q⟩
 by_cases h0:0<=i
 ·have hj:i.toNat=j:=by
   rw[seqIndex_of h0 h5] at h1
   exact Fi h1
  exact item_listR pl.isList h0 ⋯ (by rw[hj];simpa using ew) fin hs
 ·have hj:(i+(ae.toArray.size:Int)).toNat=j:=by
   rw[seqIndex_neg ⋯ h4] at h1
   rw[F1,<-hl]
   exact Fi h1
  exact subscriptTail_builtinR (x:=w) pl.isList.typeIs slot_list_getitem.lookup
   (wpAny_getItem_list_neg (Q:=λr s'=>r=w/\EP X pins σ Q r s') pl.isList ⋯ (by rw[F1]<;>omega) ⋯ (by rw[hj];simpa using ew) ⟨rfl,fin⟩) hs
theorem zky:IxR X (zkx X.K):=by
 intro value slice pins s σ H x y v u Q I rx ry h hs
 obtain⟨p,xs,i,z,rfl,rfl,hq,he,q⟩:=h
 cases rx
 obtain⟨t,rfl⟩:=ry
 obtain⟨ae,r,pl,hz⟩:=I.tuple hq
 obtain⟨j,h1,h2,h3,h4,h5⟩:=zeY he
 obtain⟨w,ew,rw'⟩:=r.get h2
 have hl:=r.length
 have hn:=zb1
 have fin:EP X pins σ Q w s:=⟨z,H,I,rw',q⟩
 exact subscriptTail_builtinR (x:=w) pl.typeIs slot_tuple_getitem.lookup
  (getItem_tuple (j:=j) (Q:=λr s'=>r=w/\EP X pins σ Q r s') pl ⋯ ⋯ (by rw[F1,<-hl];exact h1) (by simpa using ew) ⟨rfl,fin⟩) hs
theorem zd8 (ae:List Value) (n j:Nat) (u:Value):Obj.mapSeq (·.setIfInBounds j u) {cls:= .type "list",data:= .seq ae.toArray n}={cls:= .type "list",data:= .seq (ae.set j u).toArray n}:=by
 simp[Obj.mapSeq]
theorem Inv.lst {pins:List (Addr×Obj)} {σ:St} {H:Hp} {s:Shared} {p:Addr} {xs:List V} (I:Inv X pins σ H s) (h:H p=some (.lst xs)):
  ∃(ae:List Value) (n:Nat),zY xs ae/\s.heap.get? p=some {cls:= .type "list",data:= .seq ae.toArray n}/\xs.length<=sizeLine:=by
 obtain⟨z,ae,n,r,e⟩:=I.hok p _ h
 exact⟨ae,n,r,e,z⟩
theorem Inv.lstUpd {pins:List (Addr×Obj)} {σ:St} {H:Hp} {s:Shared} {p:Addr} {xs ys:List V} {ae its':List Value} {n n':Nat} {f:Obj->Obj} (I:Inv X pins σ H s) (h:H p=some (.lst xs))
  (ho:s.heap.get? p=some {cls:= .type "list",data:= .seq ae.toArray n}) (hf:f {cls:= .type "list",data:= .seq ae.toArray n}={cls:= .type "list",data:= .seq its'.toArray n'}) (r:zY ys its') (hz:ys.length<=sizeLine) (t:Nat):
  Inv X pins σ (upd H p (.lst ys)) {s with heap:=s.heap.update p f,toks:=t}:=by
 have e:(s.heap.update p f).get? p=some {cls:= .type "list",data:= .seq its'.toArray n'}:=by
  rw[Heap.get?_update_self f ho (by rw[hf]<;>rfl),hf]
 refine I.write (x:=p) (e:=p) (by rw[h];trivial) (.inl rfl) (λb u hb q=>(Heap.get?_update_other _ _ (GP hb)).trans q) ⟨_,e⟩ ?_
 exact⟨hz,its',n',r,e⟩
def zjR:V->V->V->Hp->(Hp->Prop)->Prop:=λo i v H Q=>∃p xs k j,o= .ref p/\i= .int k/\H p=some (.lst xs)/\ixN xs.length k=some j/\Q (upd H p (.lst (xs.set j v)))
theorem TL:zlI X zjR:=by
 intro pins s σ H o i v ov iv u Q I ro ri rv h
 obtain⟨p,xs,k,j,rfl,rfl,hp,hj,q⟩:=h
 cases ro
 obtain⟨t,rfl⟩:=ri
 obtain⟨ae,n,r,ho,hz⟩:=I.lst hp
 obtain⟨h1,h2,h3,h4⟩:=zeX hj
 have hl:=r.length
 have hn:=zb1
 have I':Inv X pins σ (upd H p (.lst (xs.set j v))) {s with heap:=s.heap.update p (Obj.mapSeq (·.setIfInBounds j u))}:=
  I.lstUpd hp ho (zd8 ae n j u) (r.set rv j) (by rw[Fq];exact hz) s.toks
 by_cases h0:0<=k
 ·have hk:k.toNat=j:=by
   rw[seqIndex_of h0 h4] at h1
   exact Fi h1
  exact PySem.W.ki_setAt ho h0 ⋯ (by rw[F1,<-hl];exact h4) (by rw[hk];exact⟨_,I',q⟩)
 ·have hk:(k+(ae.toArray.size:Int)).toNat=j:=by
   rw[seqIndex_neg ⋯ h3] at h1
   rw[F1,<-hl]
   exact Fi h1
  exact PySem.W.ki_setBack ho ⋯ (by rw[F1,<-hl];exact h3) ⋯ (by rw[hk];exact⟨_,I',q⟩)
theorem zb3 (lo hi:Option Int) (n:Nat):(sliceBounds lo hi none n).1=((HT.sIx n 0 lo:Nat):Int)/\(sliceBounds lo hi none n).2.1=((HT.sIx n n hi:Nat):Int)/\(sliceBounds lo hi none n).2.2=1:=by
 refine⟨?_,?_,rfl⟩
 ·cases lo with
  |none=>simp[sliceBounds,HT.sIx]
  |some i=>
   simp only[sliceBounds,HT.sIx,Il,show (1:Int)>0 by decide,if_true]
   by_cases h:i<0
   ·simp only[h,if_true]<;>omega
   ·simp only[h,if_false]<;>omega
 ·cases hi with
  |none=>simp[sliceBounds,HT.sIx]
  |some i=>
   simp only[sliceBounds,HT.sIx,Il,show (1:Int)>0 by decide,if_true]
   by_cases h:i<0
   ·simp only[h,if_true]<;>omega
   ·simp only[h,if_false]<;>omega
theorem za7 (ae:List Value) (lo hi:Option Int):slicePick ae.toArray lo hi none=((ae.drop (HT.sIx ae.length 0 lo)).take (HT.sIx ae.length ae.length hi-HT.sIx ae.length 0 lo)).toArray:=by
 obtain⟨h1,h2,h3⟩:=zb3 lo hi ae.toArray.size
 unfold slicePick
 rw[h1,h2,h3]
 simp only[sliceRange_one,pick_run,F1]<;>rfl
def zgC (K:Et):V->Option Int->Option Int->Hp->VK->Prop:=λx lo hi H Q=>∃a xs,x= .ref a/\SqL K H a xs/\∀p,H p=none->Q (.ref p) (upd H p (.lst (zfP xs lo hi)))
theorem ziF:SlR X (zgC X.K):=by
 intro pins s σ H x v vl vu lo hi sl Q I rx hs pl pu h
 obtain⟨a,xs,rfl,hx,q⟩:=h
 cases rx
 obtain⟨ae,r,ht,hz⟩:=I.list hx
 have hlen:=r.length
 refine⟨"list",_,slot_list_getitem.lookup,ht.isList.typeIs,?_⟩
 refine wpAny_getItem_list_slice ht.isList hs pl pu .none (by simp) ?_ (by rw[F1]<;>omega)
 rw[za7,<-hlen]
 refine⟨.ref s.heap.objs.size,_,I.laid (t':=s.toks) (o:= .lst (zfP xs lo hi)) (λb ob q=>Heap.get?_push_of_some _ q) (EE _) ?_,rfl,q _ (I.hok.fresh (EE _))⟩
 exact⟨EW (zc7 xs lo hi) hz,_,0,(r.drop (HT.sIx xs.length 0 lo)).take (HT.sIx xs.length xs.length hi-HT.sIx xs.length 0 lo),Heap.get?_push_size _ rfl⟩
theorem zb4:vF X (.builtin "len") (λxs H Q=>∃p ys,xs=[.ref p]/\(SqL X.K H p ys\/SqT X.K H p ys)/\Q (.int ys.length) H):=by
 intro pins s σ H xs us Q I r h
 obtain⟨p,ys,rfl,hq,q⟩:=h
 obtain⟨u,rfl,rx⟩:=ZZ r
 cases rx
 have hn:=zb1
 rcases hq with hq|hq
 ·obtain⟨ae,r',pl,hz⟩:=I.list hq
  have hlen:=r'.length
  exact Calls.call_len_list pl.isList (by simp only[F1]<;>omega) ⟨.int ys.length,H,I.tok _,⟨s.toks+1,by rw[F1,hlen]⟩,q⟩
 ·obtain⟨ae,r',pl,hz⟩:=I.tuple hq
  have hlen:=r'.length
  exact len_tuple pl (by simp only[F1]<;>omega) ⟨.int ys.length,H,I.tok _,⟨s.toks+1,by rw[F1,hlen]⟩,q⟩
theorem zb5:vF X (.type "list") (λxs H Q=>∃p ys,xs=[.ref p]/\(SqL X.K H p ys\/SqT X.K H p ys)/\∀l,H l=none->Q (.ref l) (upd H l (.lst ys))):=by
 intro pins s σ H xs us Q I r h
 obtain⟨p,ys,rfl,hq,q⟩:=h
 obtain⟨u,rfl,rx⟩:=ZZ r
 cases rx
 have fin:∀(ae:List Value),zY ys ae->ys.length<=sizeLine->∀(h':Heap) (c':Nat),(∀b o',s.heap.get? b=some o'->h'.get? b=some o')->
   h'.get? s.heap.objs.size=some {cls:= .type "list",dict:=none,data:= .seq ae.toArray c',slots:= #[]}->EP X pins σ Q (.ref s.heap.objs.size) {s with heap:=h'}:=λae r' hz h' c' kp e=>
  ⟨.ref s.heap.objs.size,_,I.laid (t':=s.toks) kp (EE _) (show yr X.prog X.w _ h' _ (.lst ys) from ⟨hz,ae,c',r',e⟩),rfl,q _ (I.hok.fresh (EE _))⟩
 rcases hq with hq|hq
 ·obtain⟨ae,r',pl,hz⟩:=I.list hq
  have hlen:=r'.length
  obtain⟨o,ho,hc,n,hd⟩:=pl.isList
  exact call_list_seq p (.inl rfl) ho hc hd (λh' c' kp e=>fin ae r' hz h' c' kp e) (by simp only[F1]<;>omega)
 ·obtain⟨ae,r',pl,hz⟩:=I.tuple hq
  have hlen:=r'.length
  obtain⟨o,ho,hc,n,hd⟩:=pl
  exact call_list_seq p (.inr rfl) ho hc hd (λh' c' kp e=>fin ae r' hz h' c' kp e) (by simp only[F1]<;>omega)
theorem za8:vF X (.type "tuple") (λxs H Q=>∃p ys,xs=[.ref p]/\((SqL X.K H p ys/\∀l,H l=none->Q (.ref l) (upd H l (.tup ys)))\/(SqT X.K H p ys/\Q (.ref p) H))):=by
 intro pins s σ H xs us Q I r h
 obtain⟨p,ys,rfl,h⟩:=h
 obtain⟨u,rfl,rx⟩:=ZZ r
 cases rx
 rcases h with⟨hq,q⟩|⟨hq,q⟩
 ·obtain⟨ae,r',pl,hz⟩:=I.list hq
  have hlen:=r'.length
  refine call_tuple_list pl.isList (λh' kp=> ?_) (by simp only[F1]<;>omega)
  have I1:Inv X pins σ H {s with heap:=h'}:=I.kept (t':=s.toks) kp
  have I2:Inv X pins σ (upd H h'.objs.size (.tup ys)) {s with heap:=h'.push {cls:= .type "tuple",data:= .seq ae.toArray}}:=
   I1.laid (t':=s.toks) (λb o e=>Heap.get?_push_of_some _ e) (EE _) (show yr X.prog X.w _ _ _ (.tup ys) from ⟨hz,ae,r',IsTup.new _ _⟩)
  exact⟨.ref h'.objs.size,_,I2,rfl,q _ (I1.hok.fresh (EE _))⟩
 ·obtain⟨ae,r',pl,hz⟩:=I.tuple hq
  exact call_tuple_same pl ⟨.ref p,H,I,rfl,q⟩
def tyV (K:Et) (T:String) (x:V) (H:Hp):Prop:=match x with
 | .str _=>T="str"
 | .int _=>T="int"
 | .ref p=>(T="list"/\∃xs,SqL K H p xs)\/(T="tuple"/\∃o,K.lookup p=some o/\o.cls= .type "tuple"/\o.dict=none)\/
   (T="dict"/\((∃kvs,Rd H p (.dK kvs))\/∃kvs,H p=some (.dT kvs)))\/(T="set"/\∃S n,H p=some (.set S n))
 |_=>False
theorem zgD {pins:List (Addr×Obj)} {σ:St} {H:Hp} {s:Shared} {T:String} {x:V} {v:Value} (I:Inv X pins σ H s) (r:zP x v) (ty:tyV X.K T x H):
  s.TypeIs v T/\∀a,v= .ref a->∃ob,s.heap.get? a=some ob/\ob.dict=none:=by
 cases x with
 |str z=>
  obtain⟨t,rfl⟩:=r
  cases (show T="str" from ty)
  exact⟨typeIs_str s z t,λ_ e=>nomatch e⟩
 |int i=>
  obtain⟨t,rfl⟩:=r
  cases (show T="int" from ty)
  exact⟨typeIs_int s i t,λ_ e=>nomatch e⟩
 |ref p=>
  cases r
  rcases ty with⟨rfl,xs,hq⟩|⟨rfl,o,hk,hc,hd⟩|⟨rfl,hk⟩|⟨rfl,S,n,hk⟩
  ·obtain⟨ae,_,pl,_⟩:=I.list hq
   refine⟨pl.isList.typeIs,λa e=> ?_⟩
   cases e
   obtain⟨o,n,e,c,hd,_⟩:=pl
   exact⟨o,e,hd⟩
  ·refine⟨⟨o,I.kIn p o hk,hc⟩,λa e=> ?_⟩
   cases e
   exact⟨o,I.kIn _ o hk,hd⟩
  ·have z:∃o,s.heap.get? p=some o/\o.ExactDict:=by
    rcases hk with⟨kvs,hk⟩|⟨kvs,hk⟩
    ·obtain⟨_,_,_,_,o,_,_,e,ex,_⟩:=hk.ok I.hok
     exact⟨o,e,ex⟩
    ·obtain⟨_,_,_,_,o,_,_,e,ex,_⟩:=I.hok p _ hk
     exact⟨o,e,ex⟩
   obtain⟨o,e,ex⟩:=z
   refine⟨⟨o,e,ex.1⟩,λa e2=> ?_⟩
   cases e2
   exact⟨o,e,ex.2.1⟩
  ·obtain⟨o,_,_,_,e,ex,_⟩:=I.hok p _ hk
   refine⟨⟨o,e,ex.1⟩,λa e2=> ?_⟩
   cases e2
   exact⟨o,e,ex.2.1⟩
 |_=>exact GQ ty
def zc8 (K:Et) (T:String) (r:V->List V->Hp->VK->Prop) (to:TE):TE:=λσ H Q=>to σ H λx H1=>tyV K T x H1/\r x [] H1 Q
def tBM (K:Et) (T:String) (r:V->List V->Hp->VK->Prop) (to:TE) (t:TA):TE:=λσ H Q=>to σ H λx H1=>tyV K T x H1/\t σ H1 λxs H2=>r x xs H2 Q
variable {o e:Expr} {es:List Expr} {to:TE} {t:TA} {name:Str} {apos bj:Pos} {T id:String} {r:V->List V->Hp->VK->Prop}
theorem zb6 (pa:PlainAttrs T) (slot:Slot T name id) (pU:typeOf (.builtin id)=pure (.type "method_descriptor")) (hm:MtR X id r) (ho:PE X o to)
  (gm:attributeBase o name X.env (eval o X.env)=eval o X.env:=by rfl) (hline:(apos.endLine==bj.line)=true:=by rfl):PE X (.Call (.Attribute o name apos) [] [] bj) (zc8 X.K T r to):=by
 intro pins s σ H Q I h
 refine wpAny_Call_method0_late gm hline (thn (ho pins s σ H _ I h) λv s1 ⟨x,H1,I1,r1,ty,q1⟩=> ?_)
 obtain⟨h1,h2⟩:=zgD I1 r1 ty
 exact⟨T,id,pa,slot,pU,h1,h2,Calls.callWith_builtin rfl (PySem.evalArgs_none (hm pins s1 σ H1 x [] v [] Q I1 r1 .nil q1))⟩
theorem YQ (pa:PlainAttrs T) (slot:Slot T name id) (pU:typeOf (.builtin id)=pure (.type "method_descriptor")) (hm:MtR X id r) (ho:PE X o to) (ha:PA X (e::es) t)
  (gm:attributeBase o name X.env (eval o X.env)=eval o X.env:=by rfl)
  (du:((backTo bj (starEach (e::es) X.env)).all (λx=> !x.1)&&(backToKw bj (keywordEach [] X.env)).all (λx=>x.1.isSome)
   &&decide ((e::es).length+([]:List Keyword).length+(if ([]:List Keyword).isEmpty then 0 else 1)<30))=true:=by rfl)
  (hline:(apos.endLine==bj.line)=true:=by rfl) (hs:starEach (e::es) X.env=(false,eval e X.env)::starEach es X.env:=by rfl) (iZ:(backTo bj (starEach es X.env)).any (·.1)=false:=by rfl):
  PE X (.Call (.Attribute o name apos) (e::es) [] bj) (tBM X.K T r to t):=by
 intro pins s σ H Q I h
 refine wpAny_Call_method_late gm du hline rfl (thn (ho pins s σ H _ I h) λv s1 ⟨x,H1,I1,r1,ty,q1⟩=> ?_)
 obtain⟨h1,h2⟩:=zgD I1 r1 ty
 refine⟨T,id,pa,slot,pU,h1,h2,?_⟩
 have hA:=ha bj pins s1 σ H1 _ I1 q1
 rw[hs] at hA ⊢
 refine Calls.callWith_builtin (by show (false||(backTo bj (starEach es X.env)).any (·.1))=false;rw[iZ]<;>rfl) (Calls.evalArgs_plain ?_)
 exact thn hA λus s2 ⟨vs,H2,I2,r2,q2⟩=>hm pins s2 σ H2 x vs v us Q I2 r1 r2 q2
/- xs.append(e), list.index on a module's tuple .. are MtR facts of 06m -/
end
def MtM (X:Cx) (id:String) (r:V->List V->Hp->VK->Prop):Prop:=
 ∀(pins:List (Addr×Obj)) (s:Shared) (σ:St) (H:Hp) (x:V) (xs:List V) (v:Value) (us:List Value) (Q:VK),Inv X pins σ H s->zP x v->zY xs us->r x xs H Q->
  wpAny (model X.prog X.w) X.A (call (.builtin id) (v::us)) (EP X pins σ Q) X.xe s
theorem zY.one:∀{x:V} {us:List Value},zY [x] us->∃u,us=[u]/\zP x u
 |_,_,.cons r .nil=>⟨_,rfl,r⟩
theorem zY.reverse {xs:List V} {us:List Value} (h:zY xs us):zY xs.reverse us.reverse:=by
 induction h with
 |nil=>exact .nil
 |cons r t ih=>rw[Hq,Hq];exact zY.append ih (.cons r .nil)
section
variable {X:Cx} {pins:List (Addr×Obj)} {σ:St} {H:Hp} {s:Shared} {l b:Addr} {xs ys zs:List V}
theorem Inv.lset {ae its':List Value} {n:Nat} {f:Array Value->Array Value} {t':Nat} (I:Inv X pins σ H s) (hH:H l=some (.lst xs))
  (e:s.heap.get? l=some {cls:= .type "list",data:= .seq ae.toArray n}) (hf:f ae.toArray=its'.toArray) (hv:zY ys its') (hz:ys.length<=sizeLine):
  Inv X pins σ (upd H l (.lst ys)) {s with heap:=s.heap.update l (Obj.mapSeq f),toks:=t'}:=by
 have q:=PySem.IsL.update e f
 rw[hf] at q
 refine I.write (x:=l) (e:=l) (by rw[hH];exact trivial) (.inl rfl) (λb' u hb hu=>(Heap.get?_update_other s.heap (Obj.mapSeq f) (GP hb)).trans hu) ⟨_,q⟩ ?_
 exact⟨hz,its',_,hv,q⟩
theorem Inv.fresh (I:Inv X pins σ H s):H s.heap.objs.size=none:=I.hok.fresh (EE _)
theorem Inv.lstM (I:Inv X pins σ H s) (hH:H l=some (.lst xs)):xs.length<=sizeLine/\∃(ae:List Value) (n:Nat),zY xs ae/\xs.length=ae.length/\s.heap.get? l=some {cls:= .type "list",data:= .seq ae.toArray n}:=by
 obtain⟨z,ae,n,r,e⟩:=I.hok l _ hH
 exact⟨z,ae,n,r,r.length,e⟩
end
section
variable {X:Cx}
def zeZ:V->List V->Hp->VK->Prop:=λx vs H Q=>∃l xs y,x= .ref l/\vs=[y]/\H l=some (.lst xs)/\xs.length<sizeLine/\Q .non (upd H l (.lst (xs++[y])))
theorem yJ:MtM X "list.append" zeZ:=by
 intro pins s σ H x vs v us Q I rx rv h
 obtain⟨l,xs,y,rfl,rfl,hH,hz,q⟩:=h
 cases rx
 obtain⟨u,rfl,ru⟩:=rv.one
 obtain⟨z,ae,n,r,hl,e⟩:=I.lstM hH
 refine call_meets F.slot_list_append ⟨_,e,rfl⟩ F.entry_list_append (F.args_list_append_2 _ _) (PySem.list_append l ae.toArray n u (by rw[F1];omega)) ⟨e,?_⟩
 refine⟨.non,_,I.lset (its':=ae++[u]) hH e (by simp) (r.append (.cons ru .nil)) ?_,rfl,q⟩
 rw[ER,G1]
 omega
end
section
variable {prog:Program} {w:World} {A:Around} {E:Value->Shared->Prop} {s:Shared}
end
section
variable {X:Cx}
end
section
variable {κ:Type} [DecidableEq κ]
noncomputable def ZD (kvs:List (κ×V)) (k:κ):Option V:=(kvs.find? λkv=>decide (kv.1=k)).map (·.2)
noncomputable def Uh (kvs:List (κ×V)) (k:κ) (v:V):List (κ×V):=
 if (kvs.any λkv=>decide (kv.1=k))=true then kvs.map (λkv=>if kv.1=k then (kv.1,v) else kv) else kvs++[(k,v)]
theorem TM {p:κ×V} {r:List (κ×V)} {k:κ} (e:p.1=k):ZD (p::r) k=some p.2:=by simp[ZD,Fg,e]
theorem TN {p:κ×V} {r:List (κ×V)} {k:κ} (e:¬p.1=k):ZD (p::r) k=ZD r k:=by simp[ZD,Fg,e]
theorem zc9 (k:κ):∀kvs:List (κ×V),(kvs.any λkv=>decide (kv.1=k))=(ZD kvs k).isSome
 |[]=>rfl
 |p::r=>by
  rw[Hb]
  by_cases e:p.1=k
  ·simp only[TM e,decide_eq_true e,Bool.true_or,Option.isSome_some]
  ·rw[TN e,decide_eq_false e,JP];exact zc9 k r
theorem UP (kvs:List (κ×V)) (k:κ) (v:V):(Uh kvs k v).length<=kvs.length+1:=by
 unfold Uh
 split
 ·rw[Eu];omega
 ·rw[ER,F5,HC];omega
theorem WG.isSome_eq {o:Option V} {u:Option Value} (r:WG o u):o.isSome=u.isSome:=by
 cases o with
 |none=>cases u with
  |none=>rfl
  |some _=>exact (show False from r).elim
 |some _=>cases u with
  |none=>exact (show False from r).elim
  |some _=>rfl
theorem WG.getD {o:Option V} {u:Option Value} {d:V} {d':Value} (r:WG o u) (rd:zP d d'):zP (o.getD d) (u.getD d'):=by
 cases o with
 |none=>cases u with
  |none=>exact rd
  |some _=>exact (show False from r).elim
 |some _=>cases u with
  |none=>exact (show False from r).elim
  |some _=>exact r
theorem KV.val {kvs:List (κ×V)} {vs:List (κ×Value)} (r:KV kvs vs) (k:κ):WG (ZD kvs k) (valueAt vs k):=by
 unfold KV at r
 induction r with
 |nil=>exact G8
 | @cons p q ps qs h t ih=>
  obtain⟨h1,h2⟩:=h
  by_cases e:p.1=k
  ·have e':q.1=k:=h1.symm.trans e
   have b:valueAt (q::qs) k=some q.2:=by simp[valueAt,Fg,e']
   rw[TM e,b];exact h2
  ·have e':¬q.1=k:=λz=>e (h1.trans z)
   have b:valueAt (q::qs) k=valueAt qs k:=by simp[valueAt,Fg,e']
   rw[TN e,b];exact ih
theorem KV.any {kvs:List (κ×V)} {vs:List (κ×Value)} (r:KV kvs vs) (k:κ):(kvs.any λkv=>decide (kv.1=k))=vs.any λkv=>decide (kv.1=k):=by
 unfold KV at r
 induction r with
 |nil=>rfl
 |cons h t ih=>rw[Hb,Hb,ih,h.1]
theorem KV.repl {kvs:List (κ×V)} {vs:List (κ×Value)} (r:KV kvs vs) (k:κ) {y:V} {u:Value} (ry:zP y u):
  KV (kvs.map λkv=>if kv.1=k then (kv.1,y) else kv) (vs.map λkv=>if kv.1=k then (kv.1,u) else kv):=by
 unfold KV at r ⊢
 induction r with
 |nil=>exact .nil
 | @cons p q ps qs h t ih=>
  rw[Ey,Ey]
  refine .cons ?_ ih
  obtain⟨h1,h2⟩:=h
  by_cases e:p.1=k
  ·rw[if_pos e,if_pos (h1.symm.trans e)];exact⟨h1,ry⟩
  ·rw[if_neg e,if_neg (λz=>e (h1.trans z))];exact⟨h1,h2⟩
theorem KV.put {kvs:List (κ×V)} {vs:List (κ×Value)} (r:KV kvs vs) (k:κ) {y:V} {u:Value} (ry:zP y u):KV (Uh kvs k y) (stored vs k u):=by
 unfold Uh stored
 rw[r.any k]
 by_cases e:(vs.any λkv=>decide (kv.1=k))=true
 ·rw[if_pos e,if_pos e];exact r.repl k ry
 ·rw[if_neg e,if_neg e];exact Paired.snoc r ⟨rfl,ry⟩
theorem KV.keys {kvs:List (κ×V)} {vs:List (κ×Value)} (r:KV kvs vs):kvs.map (·.1)=vs.map (·.1):=by
 unfold KV at r
 induction r with
 |nil=>rfl
 |cons h t ih=>rw[Ey,Ey,ih,h.1]
theorem KV.length {kvs:List (κ×V)} {vs:List (κ×Value)} (r:KV kvs vs):kvs.length=vs.length:=Paired.length r
end
theorem zda {P:Program} {w:World} {k:Key} {u:Value} (r:zP (kV k) u):(zT P w).is k u=true:=by
 cases k with
 |inl i=>obtain⟨t,e⟩:=(show ∃t,u=Value.int i t from r);subst e;exact zcX P w i t
 |inr x=>obtain⟨t,e⟩:=(show ∃t,u=Value.str x t from r);subst e;exact zcY P w x t
theorem zbz {P:Program} {w:World}:∀{ks:List Key} {us:List Value},zY (ks.map kV) us->ItemsAre (zT P w) ks us
 |[],_,r=>by rw[GV] at r;cases r;exact .nil
 |k::ks,_,r=>by
  rw[Ey] at r
  cases r with
  |cons h t=>exact .cons (zda h) (zbz t)
noncomputable abbrev KT (H:Hp):List (List Key×V)->List (List Key×Addr×Value)->Prop:=Paired λp q=>p.1=q.1/\H q.2.1=some (.tup (p.1.map kV))/\zP p.2 q.2.2
theorem KT.val {H:Hp} {kvs:List (List Key×V)} {xs:List (List Key×Addr×Value)} (r:KT H kvs xs) (k:List Key):WG (ZD kvs k) ((atKey xs k).map (·.2)):=by
 induction r with
 |nil=>exact G8
 | @cons p q ps qs h t ih=>
  obtain⟨h1,_,h2⟩:=h
  by_cases e:p.1=k
  ·have e':q.1=k:=h1.symm.trans e
   have b:atKey (q::qs) k=some q.2:=by simp[atKey,Fg,e']
   rw[TM e,b];exact h2
  ·have e':¬q.1=k:=λz=>e (h1.trans z)
   have b:atKey (q::qs) k=atKey qs k:=by simp[atKey,Fg,e']
   rw[TN e,b];exact ih
theorem KT.repl {H:Hp} {kvs:List (List Key×V)} {xs:List (List Key×Addr×Value)} (r:KT H kvs xs) (k:List Key) {y:V} {u:Value} (ry:zP y u):
  KT H (kvs.map λkv=>if kv.1=k then (kv.1,y) else kv) (xs.map (putAt k u)):=by
 induction r with
 |nil=>exact .nil
 | @cons p q ps qs h t ih=>
  rw[Ey,Ey]
  refine .cons ?_ ih
  obtain⟨h1,h2,h3⟩:=h
  unfold putAt
  by_cases e:p.1=k
  ·rw[if_pos e,if_pos (h1.symm.trans e)];exact⟨h1,h2,ry⟩
  ·rw[if_neg e,if_neg (λz=>e (h1.trans z))];exact⟨h1,h2,h3⟩
theorem KT.put {H:Hp} {kvs:List (List Key×V)} {xs:List (List Key×Addr×Value)} (r:KT H kvs xs) (k:List Key) {b:Addr} {y:V} {u:Value} (hb:H b=some (.tup (k.map kV))) (ry:zP y u):
  KT H (Uh kvs k y) (storedH xs k b u):=by
 have e:(kvs.any λkv=>decide (kv.1=k))=(atKey xs k).isSome:=by
  rw[zc9,(r.val k).isSome_eq,GC]
 unfold Uh storedH
 rw[e]
 by_cases q:(atKey xs k).isSome=true
 ·rw[if_pos q,if_pos q];exact r.repl k ry
 ·rw[if_neg q,if_neg q];exact Paired.snoc r ⟨rfl,hb,ry⟩
theorem KT.keeps {H H':Hp} {kvs:List (List Key×V)} {xs:List (List Key×Addr×Value)} (r:KT H kvs xs) (ht:∀b ys,H b=some (.tup ys)->H' b=some (.tup ys)):KT H' kvs xs:=
 Paired.mapP r λ_ _ z=>⟨z.1,ht _ _ z.2.1,z.2.2⟩
section
variable {P:Program} {w:World} {H:Hp} {h:Heap} {a:Addr}
theorem zjS {u:HO} (ok:HOk P w H h) (e:Rd H a u):yr P w H h a u:=e.ok ok
theorem XH {kvs:List (Key×V)} (ok:HOk P w H h) (e:Rd H a (.dK kvs)):kvs.length<=sizeLine/\(a==sysModules)=false/\∃vs,KV kvs vs/\h.DictOf (zT P w) a vs:=
 show yr P w H h a (.dK kvs) from zjS ok e
theorem zdb {kvs:List (Key×V)} (ok:HOk P w H h) (e:H a=some (.dK kvs)):kvs.length<=sizeLine/\(a==sysModules)=false/\∃vs,KV kvs vs/\h.DictOf (zT P w) a vs:=XH ok (.inl e)
theorem TQ {ks:List Key} (ok:HOk P w H h) (e:H a=some (.tup (ks.map kV))):(tupleKind (zT P w)).is h ks a:=by
 obtain⟨_,ae,r,o,h1,h2,n,h3⟩:=(show yr P w H h a (.tup (ks.map kV)) from ok a _ e)
 exact⟨o,ae.toArray,n,h1,h2,h3,by simpa using zbz r⟩
theorem zbA {kvs:List (List Key×V)} (ok:HOk P w H h) (e:Rd H a (.dT kvs)):kvs.length<=sizeLine/\(a==sysModules)=false/\
  ∃xs,KT H kvs xs/\h.DictOfH (tupleKind (zT P w)) a xs:=by
 obtain⟨z,y,xs,r,o,es,ep,h1,h2,h3,h4,h5⟩:=(show yr P w H h a (.dT kvs) from zjS ok e)
 refine⟨z,y,xs,r,o,es,ep,h1,h2,h3,h4,λx hx=> ?_,h5⟩
 have all:∀{l:List (List Key×V)} {m:List (List Key×Addr×Value)},KT H l m->∀x∈m,(tupleKind (zT P w)).is h x.1 x.2.1:=by
  intro l m q
  induction q with
  |nil=>intro x hx;exact nomatch hx
  | @cons p q ps qs hq t ih=>
   intro x hx
   rcases EJ.mp hx with e|hx
   ·subst e
    exact TQ ok (by rw[<-hq.1];exact hq.2.1)
   ·exact ih x hx
 exact all r x hx
theorem zlR {kvs:List (List Key×V)} (ok:HOk P w H h) (e:H a=some (.dT kvs)):kvs.length<=sizeLine/\(a==sysModules)=false/\
  ∃xs,KT H kvs xs/\h.DictOfH (tupleKind (zT P w)) a xs:=zbA ok (.inl e)
end
def Vd (H:Hp) (a:Addr) (y:V) (r:Option V):Prop:=
 (∃kvs k,Rd H a (.dK kvs)/\y=kV k/\r=ZD kvs k)\/∃kvs k b,Rd H a (.dT kvs)/\y= .ref b/\H b=some (.tup (k.map kV))/\r=ZD kvs k
def zd9 (H:Hp) (a:Addr) (y v:V) (H':Hp):Prop:=
 (∃kvs k,H a=some (.dK kvs)/\y=kV k/\kvs.length<sizeLine/\H'=upd H a (.dK (Uh kvs k v)))\/
 ∃kvs k b,H a=some (.dT kvs)/\y= .ref b/\H b=some (.tup (k.map kV))/\kvs.length<sizeLine/\H'=upd H a (.dT (Uh kvs k v))
theorem Vd.k {H:Hp} {a:Addr} {kvs:List (Key×V)} {k:Key} (e:H a=some (.dK kvs)):Vd H a (kV k) (ZD kvs k):= .inl ⟨kvs,k,.inl e,rfl,rfl⟩
theorem zd9.k {H:Hp} {a:Addr} {kvs:List (Key×V)} {k:Key} {v:V} (e:H a=some (.dK kvs)) (hl:kvs.length<sizeLine):zd9 H a (kV k) v (upd H a (.dK (Uh kvs k v))):= .inl ⟨kvs,k,e,rfl,hl,rfl⟩
section
variable {X:Cx} {pins:List (Addr×Obj)} {σ:St} {H:Hp} {s:Shared} {a:Addr} {y v:V} {u r:Value} {o:Option V} {A:Around} {E:Value->Shared->Prop}
theorem Inv.big (I:Inv X pins σ H s):sysModules<s.heap.objs.size:=by
 have h:mainGlobals<s.heap.objs.size:=(I.mod.glob.keeps I.bk).lt
 exact Ja ∅ h
theorem zbB {Q:Value->Shared->Prop} (hu:A.units+1<cLine) (I:Inv X pins σ H s) (g:Vd H a y (some v)) (ry:zP y u) (h:∀w' s',Inv X pins σ H s'->zP v w'->Q w' s'):
  wpAny (model X.prog X.w) A (getItem (.ref a) u) Q E s:=by
 rcases g with⟨kvs,k,e,ey,l⟩|⟨kvs,k,b,e,ey,eb,l⟩
 ·subst ey
  obtain⟨z,hd,vs,rel,dd⟩:=XH I.hok e
  obtain⟨w',hw,rw'⟩:=WG.some_of (v:=v) (o:=valueAt vs k) (by rw[l];exact rel.val k)
  exact wpAny_getItem_of (zda ry) dd.mapOf hw (h w' _ (I.tok _) rw')
 ·subst ey
  cases (show u=Value.ref b from ry)
  obtain⟨z,hd,xs,rel,dd⟩:=zbA I.hok e
  obtain⟨w',hw,rw'⟩:=WG.some_of (v:=v) (o:=(atKey xs k).map (·.2)) (by rw[l];exact rel.val k)
  obtain⟨p,hp,jE⟩:=F8.mp hw
  refine wpAny_getItem_heap (tupleKind_room_in1 hu) (TQ I.hok eb) dd hp ?_
  rw[jE]
  exact h w' _ (I.tok _) rw'
theorem ze0 {Q:Value->Shared->Prop} (hu:A.units+1<cLine) (I:Inv X pins σ H s) (g:Vd H a y o) (ry:zP y u) (h:∀s',Inv X pins σ H s'->Q (.bool (!o.isSome)) s'):
  wpAny (model X.prog X.w) A (compareOp .NotIn u (.ref a)) Q E s:=by
 rcases g with⟨kvs,k,e,ey,l⟩|⟨kvs,k,b,e,ey,eb,l⟩
 ·subst ey
  obtain⟨z,hd,vs,rel,dd⟩:=XH I.hok e
  refine wpAny_notIn_of (zda ry) hd dd.mapOf ?_
  rw[<-(rel.val k).isSome_eq,<-l]
  exact h _ (I.tok _)
 ·subst ey
  cases (show u=Value.ref b from ry)
  obtain⟨z,hd,xs,rel,dd⟩:=zbA I.hok e
  refine wpAny_notIn_heap (tupleKind_room_in1 hu) (TQ I.hok eb) hd dd ?_
  have q:=(rel.val k).isSome_eq
  rw[GC] at q
  rw[<-q,<-l]
  exact h _ (I.tok _)
theorem Vw {h':Heap} {t':Nat} {ob:HO} (I:Inv X pins σ H s) (mu:Mut (H a)) (hs:Heap.SameBut a s.heap h') (he:∃q,h'.get? a=some q) (new:yr X.prog X.w (upd H a ob) h' a ob):
  Inv X pins σ (upd H a ob) {s with heap:=h',toks:=t'}:=
 I.write (x:=a) (e:=a) mu (.inl rfl) (λb q hb z=>(hs.2 b hb).trans z) he new
theorem zkz {P:Program} {w:World} {H':Hp} {h':Heap} {kvs:List (Key×V)} {vs:List (Key×Value)} (z:kvs.length<=sizeLine) (hd:(a==sysModules)=false) (rel:KV kvs vs) (dd:h'.DictOf (zT P w) a vs):
  yr P w H' h' a (.dK kvs):=⟨z,hd,vs,rel,dd⟩
theorem zbC {H':Hp} {Q:Unit->Shared->Prop} (hu:A.units+1<cLine) (I:Inv X pins σ H s) (g:zd9 H a y v H') (ry:zP y u) (rv:zP v r) (h:∀s',Inv X pins σ H' s'->Q () s'):
  wpAny (model X.prog X.w) A (setItem (.ref a) u r) Q E s:=by
 rcases g with⟨kvs,k,e,ey,l,eH⟩|⟨kvs,k,b,e,ey,eb,l,eH⟩
 ·subst ey eH
  obtain⟨z,hd,vs,rel,dd⟩:=zdb I.hok e
  have hz:vs.length<=sizeLine:=by rw[<-rel.length];exact z
  have hl:(Uh kvs k v).length<=sizeLine:=by have:=UP kvs k v;omega
  refine wpAny_setItem_pairs (hsz:=hz) (zda ry) dd λh' dd' hs=>h _ ?_
  have he:∃q,h'.get? a=some q:=let ⟨q,_,_,hq,_⟩:=dd';⟨q,hq⟩
  exact Vw I (by rw[e];exact G8) hs he (zkz hl hd (rel.put k rv) dd')
 ·subst ey eH
  cases (show u=Value.ref b from ry)
  obtain⟨z,hd,xs,rel,dd⟩:=zlR I.hok e
  have hz:xs.length<=sizeLine:=by rw[<-Paired.length rel];exact z
  have hl:(Uh kvs k v).length<=sizeLine:=by have:=UP kvs k v;omega
  refine wpAny_setItem_heap (hsz:=hz) (tupleKind_room_in1 hu) (TQ I.hok eb) dd λh' dd' hs=>h _ ?_
  obtain⟨q,es,ep,hq,h2,h3,h4,_,h5⟩:=dd'
  refine Vw I (by rw[e];exact G8) hs ⟨q,hq⟩ ⟨hl,hd,_,(rel.put k eb rv).keeps λc ys ec=> ?_,q,es,ep,hq,h2,h3,h4,h5⟩
  rw[yj (zlA ec e (λz=>nomatch z))]
  exact ec
end
section
variable {X:Cx} {pins:List (Addr×Obj)} {σ:St} {H:Hp} {s:Shared} {a:Addr} {kvs:List (Key×V)} {k:Key} {u:Value} {A:Around} {E:Value->Shared->Prop}
theorem zlS {Q:Value->Shared->Prop} (I:Inv X pins σ H s) (e:Rd H a (.dK kvs)) (h:∀t s',Inv X pins σ H s'->Q (.int kvs.length t) s'):wpAny (model X.prog X.w) A (call (.builtin "len") [.ref a]) Q E s:=by
 obtain⟨z,hd,vs,rel,dd⟩:=XH I.hok e
 refine call_len_dict hd dd (by rw[<-rel.length];rw[sizeLine_eq] at z;omega) ?_
 rw[<-rel.length]
 exact h _ _ (I.tok _)
end
def zkA (i:Expr):Prop:=∀ov iv,subscripted i false ov iv=operate [ov,iv] (getItem ov iv)
theorem ze1 {prog:Program} {w:World} {A:Around} {E:Value->Shared->Prop} {s:Shared} {env:Env} {value slice:Expr} {pos:Pos} {T id:String} {Q:Value->Shared->Prop}
  (hl:typeLookup (.type T) "__getitem__"=pure (some (.builtin id))) (hs:zkA slice)
  (h:wpAny (model prog w) A (eval value env) (λo s₁=>wpAny (model prog w) A (eval slice env) (λi s₂=>s₂.TypeIs o T/\wpAny (model prog w) A (getItem o i) Q E s₂) E s₁) E s):
  wpAny (model prog w) A (eval (.Subscript value slice pos) env) Q E s:=by
 refine Subscript_ (wpAny_mono h (λo s₁ h₁=>wpAny_mono h₁ (λi s₂ h₂=> ?_) λ_ _ x=>x) λ_ _ x=>x)
 obtain⟨hT,h₂⟩:=h₂
 unfold subscriptTail
 refine wpAny_bind ?_
 rw[getitemInPython_of_ne hT.not_modules]
 refine wpAny_bind (wpAny_specialOf hT hl ?_)
 have fin:wpAny (model prog w) A (subscripted slice false o i) (λr s₃=>wpAny (model prog w) A (letTemporaryGo value o r>>=λ_=>pure r) Q E s₃) E s₂:=by
  rw[hs o i]
  exact wpAny_operating (wpAny_mono h₂ (λr s₃ h₃=>wpAny_bind (wpAny_letTemporaryGo (wpAny_pure h₃))) λ_ _ x=>x)
 first
  |exact wpAny_pure (wpAny_bind fin)
  |exact wpAny_bind (wpAny_pure (wpAny_bind fin))
  |exact wpAny_bind fin
theorem UQ {X:Cx} {pins:List (Addr×Obj)} {σ:St} {H:Hp} {s:Shared} {a:Addr} {y:V} {o:Option V} (I:Inv X pins σ H s) (g:Vd H a y o):s.TypeIs (.ref a) "dict":=by
 rcases g with⟨kvs,k,e,_,_⟩|⟨kvs,k,b,e,_,_,_⟩
 ·obtain⟨_,_,vs,_,dd⟩:=XH I.hok e
  exact dd.typeIs
 ·obtain⟨_,_,xs,_,dd⟩:=zbA I.hok e
  exact dd.typeIs
def zjT (td ty:TE):TE:=λσ H Q=>td σ H λx H1=>ty σ H1 λy H2=>∃a v,x= .ref a/\Vd H2 a y (some v)/\Q v H2
def ze2 (ty td:TE):TE:=λσ H Q=>ty σ H λy H1=>td σ H1 λx H2=>∃a o,x= .ref a/\Vd H2 a y o/\Q (.bl (!o.isSome)) H2
def zjU (td ty tv:TE):TS:=λD σ H=>tv σ H λv H1=>td σ H1 λx H2=>ty σ H2 λy H3=>∃a H4,x= .ref a/\zd9 H3 a y v H4/\D.nx σ H4
section
variable {X:Cx} {o i e value:Expr} {pos pos' jN:Pos} {td ty tv:TE}
theorem Vx (hu:X.A.units+1<cLine) (ho:PE X o td) (hi:PE X i ty) (hs:zkA i):PE X (.Subscript o i pos) (zjT td ty):=by
 intro pins s σ H Q I h
 refine ze1 Ig.lookup hs (thn (ho pins s σ H _ I h) λu s1 ⟨x,H1,I1,rx,q1⟩=>thn (hi pins s1 σ H1 _ I1 q1) λiv s2 ⟨y,H2,I2,ry,a,v,ex,g,q2⟩=> ?_)
 subst ex
 obtain rfl:u=Value.ref a:=rx
 exact⟨UQ I2 g,zbB hu I2 g ry λw' s3 I3 rw'=>⟨v,H2,I3,rw',q2⟩⟩
theorem zfQ (hu:X.A.units+1<cLine) (hi:PE X i ty) (ho:PE X o td):PC X .NotIn i o (ze2 ty td):=by
 intro pins s σ H Q I h
 refine thn (hi pins s σ H _ I h) λiv s1 ⟨y,H1,I1,ry,q1⟩=>thn (ho pins s1 σ H1 _ I1 q1) λu s2 ⟨x,H2,I2,rx,a,ov,ex,g,q2⟩=> ?_
 subst ex
 obtain rfl:u=Value.ref a:=rx
 exact ze0 hu I2 g ry λs3 I3=>⟨.bl (!ov.isSome),H2,I3,rfl,q2⟩
theorem Tk (hu:X.A.units+1<cLine) (ho:PE X o td) (hi:PE X i ty) (hv:PE X value tv) (hs:swapsWith value (some (.Subscript o i pos')) pos.line X.env=pure false):
  PS X (.Assign [.Subscript o i pos'] value pos) (zjU td ty tv):=by
 intro pins s σ H D I h
 refine wpAny_Assign_Subscript (thn (hv pins s σ H _ I h) λr s1 ⟨v,H1,I1,rv,q1⟩=>thn (ho pins s1 σ H1 _ I1 q1) λu s2 ⟨x,H2,I2,rx,q2⟩=>thn (hi pins s2 σ H2 _ I2 q2) λiv s3 ⟨y,H3,I3,ry,a,H4,ex,g,q3⟩=> ?_) hs
 subst ex
 obtain rfl:u=Value.ref a:=rx
 exact zbC hu I3 g ry rv λs4 I4=>⟨σ,H4,I4,q3⟩
end
theorem zgE {P:Program} {w:World} {H:Hp} (h:Heap) (hb:sysModules<h.objs.size):yr P w H (h.push {cls:= .type "dict",data:= .dict #[]}) h.objs.size (.dK []):=
 ⟨Gk _,beq_eq_false_iff_ne.mpr (GP (EH hb)),[],.nil,Heap.DictOf.new h⟩
def zgF:TE:=λ_ H Q=>∀p,H p=none->Q (.ref p) (upd H p (.dK []))
section
variable {X:Cx} {pos:Pos}
theorem XS:PE X (.Dict [] [] pos) zgF:=λpins s σ H Q I h=>
 wpAny_Dict_empty ⟨.ref s.heap.objs.size,_,I.laid (a:=s.heap.objs.size) (o:= .dK []) (t':=s.toks) (λ_ _ q=>Heap.get?_push_of_some _ q) (EE _) (zgE s.heap I.big),rfl,h _ (I.hok.fresh (EE _))⟩
end
noncomputable abbrev VV:List (V×V)->List (Value×Value)->Prop:=Paired λp q=>zP p.1 q.1/\zP p.2 q.2
structure M1 (X:Cx) (o:Expr) (m:Str) (apos:Pos) (e:Expr) (bj:Pos):Prop where
 base:attributeBase o m X.env (eval o X.env)=eval o X.env
 few:((backTo bj (starEach [e] X.env)).all (λx=> !x.1)&&(backToKw bj (keywordEach [] X.env)).all (λx=>x.1.isSome)
  &&decide (([e]:List Expr).length+([]:List Keyword).length+(if ([]:List Keyword).isEmpty then 0 else 1)<30))=true
 line:(apos.endLine==bj.line)=true
 trees:backTo bj (starEach [e] X.env)=[(false,eval e X.env)]
structure M2 (X:Cx) (o:Expr) (m:Str) (apos:Pos) (e f:Expr) (bj:Pos):Prop where
 base:attributeBase o m X.env (eval o X.env)=eval o X.env
 few:((backTo bj (starEach [e,f] X.env)).all (λx=> !x.1)&&(backToKw bj (keywordEach [] X.env)).all (λx=>x.1.isSome)
  &&decide (([e,f]:List Expr).length+([]:List Keyword).length+(if ([]:List Keyword).isEmpty then 0 else 1)<30))=true
 line:(apos.endLine==bj.line)=true
 trees:backTo bj (starEach [e,f] X.env)=[(false,eval e X.env),(false,eval f X.env)]
def IsD (H:Hp) (a:Addr):Prop:=(∃kvs,Rd H a (.dK kvs))\/∃kvs,Rd H a (.dT kvs)
theorem zkB {X:Cx} {pins:List (Addr×Obj)} {σ:St} {H:Hp} {s:Shared} {a:Addr} (I:Inv X pins σ H s) (d:IsD H a):
  s.TypeIs (.ref a) "dict"/\(∀b,Value.ref a= .ref b->∃ob,s.heap.get? b=some ob/\ob.dict=none)/\(a==sysModules)=false:=by
 rcases d with⟨kvs,e⟩|⟨kvs,e⟩
 ·obtain⟨_,hd,vs,_,dd⟩:=XH I.hok e
  refine⟨dd.typeIs,λb q=> ?_,hd⟩
  cases q
  obtain⟨ob,_,_,h1,h2,_⟩:=dd
  exact⟨ob,h1,h2.2.1⟩
 ·obtain⟨_,hd,xs,_,dd⟩:=zbA I.hok e
  refine⟨dd.typeIs,λb q=> ?_,hd⟩
  cases q
  obtain⟨ob,_,_,h1,h2,_⟩:=dd
  exact⟨ob,h1,h2.2.1⟩
section
variable {X:Cx} {pins:List (Addr×Obj)} {σ:St} {H:Hp} {s:Shared} {a:Addr} {y d:V} {u r:Value} {o:Option V} {A:Around} {E:Value->Shared->Prop}
theorem zkC {Q:Value->Shared->Prop} (hu:A.units+1<cLine) (I:Inv X pins σ H s) (g:Vd H a y o) (ry:zP y u) (rd:zP d r) (h:∀w' s',Inv X pins σ H s'->zP (o.getD d) w'->Q w' s'):
  wpAny (model X.prog X.w) A (call (.builtin "dict.get") [.ref a,u,r]) Q E s:=by
 rcases g with⟨kvs,k,e,ey,l⟩|⟨kvs,k,b,e,ey,eb,l⟩
 ·subst ey
  obtain⟨z,hd,vs,rel,dd⟩:=XH I.hok e
  refine call_meetsIn Hx dd.typeIs IM (Iv _ _ _) (meets_dict_get_default (zT X.prog X.w) a (zda ry) hd r) ⟨_,dd.mapOf,h _ _ (I.tok _) ?_⟩
  rw[l]
  exact (rel.val k).getD rd
 ·subst ey
  cases (show u=Value.ref b from ry)
  obtain⟨z,hd,xs,rel,dd⟩:=zbA I.hok e
  refine call_meetsIn Hx dd.typeIs IM (Iv _ _ _) (meetsH_dict_get_default (tupleKind (zT X.prog X.w)) a b hd r) ⟨tupleKind_room_in1 hu,k,xs,TQ I.hok eb,dd,h _ _ (I.tok _) ?_⟩
  rw[l]
  exact (rel.val k).getD rd
end
def zgG (td ty tx:TE):TE:=λσ H Q=>td σ H λx H1=>∃a,x= .ref a/\IsD H1 a/\ty σ H1 λy H2=>tx σ H2 λz H3=>∃o,Vd H3 a y o/\Q (o.getD z) H3
section
variable {X:Cx} {o e f:Expr} {apos bj:Pos} {td ty tx:TE}
theorem TR (hu:X.A.units+1<cLine) (ho:PE X o td) (he:PE X e ty) (hf:PE X f tx) (m:M2 X o "get" apos e f bj):PE X (.Call (.Attribute o "get" apos) [e,f] [] bj) (zgG td ty tx):=by
 intro pins s σ H Q I h
 refine wpAny_Call_method m.base m.few m.line Gu Hx PySem.F.type_dict_get (thn (ho pins s σ H _ I h) λu s1 ⟨x,H1,I1,rx,a,ex,d,q1⟩=> ?_)
 subst ex
 obtain rfl:u=Value.ref a:=rx
 obtain⟨t1,t2,_⟩:=zkB I1 d
 refine⟨t1,t2,?_⟩
 rw[m.trees]
 refine Calls.callWith_builtin rfl (Calls.evalArgs_plain (Calls.spliced_cons (thn (he pins s1 σ H1 _ I1 q1) λiv s2 ⟨y,H2,I2,ry,q2⟩=>
  Calls.spliced_cons (thn (hf pins s2 σ H2 _ I2 q2) λfv s3 ⟨z,H3,I3,rz,ov,g,q3⟩=>Calls.spliced_nil ?_))))
 exact zkC hu I3 g ry rz λw' s4 I4 rw'=>⟨_,H3,I4,rw',q3⟩
end
section
variable {X:Cx} {pins:List (Addr×Obj)} {σ:St} {H:Hp} {s:Shared} {a:Addr} {kvs:List (Key×V)} {A:Around} {E:Value->Shared->Prop}
end
section
variable {X:Cx} {pins:List (Addr×Obj)} {σ:St} {H:Hp} {s:Shared} {a:Addr} {y:V} {u:Value} {A:Around} {E:Value->Shared->Prop}
end
end L2
namespace Att
open PySem PySem.W PySem.Calls PyProof.Rows
theorem Tf {P:Params} {h:Heap}:∀(ns:List Int) (vs:List Value),WellAll P h vs (ns.map WData.int)->IntsAre vs ns:=by
 intro ns
 induction ns with
 |nil=>
  intro vs w
  rw[GV] at w
  cases w
  exact .nil
 |cons n ns ih=>
  intro vs w
  rw[Ey] at w
  cases w with
  |cons a b=>
   cases a
   exact .cons _ _ (ih _ b)
theorem zfR {l:OpenLaw} {n:Nat} (hn:l.most=some n) {P:Params} {h:Heap} {args:List WData} {vals:List Value}
  (gZ:l.row.toRowW.claim.pre args=true) (iW:WellAll P h vals args):
  ∃a vs ns,vals=[Value.ref a]/\args=[WData.list (ns.map WData.int)]/\h.get? a=some {cls:= .type "list",data:= .seq vs.toArray}/\IntsAre vs ns/\ns.length<=n:=by
 have iA:WShape.hasAll [] args [.list .int]=true:=(pre_splitW gZ).1
 have hc:l.pre.holds [] {args:=args}=true:=(pre_splitW gZ).2
 obtain⟨d,r,rfl,h1,h2⟩:=hasAllW_cons iA
 obtain rfl:=hasAllW_nil h2
 obtain⟨xs,rfl,h3⟩:=hasW_list h1
 obtain⟨ns,rfl⟩:=items_int h3
 have hlen:ns.length<=n:=by
  unfold OpenLaw.pre at hc
  have h4:(WTm.not (.lt (.lit (.int (n:Int))) (.len (.arg 0)))).holds [] {args:=[.list (ns.map .int)]}=true:=by
   have h4:=(holds_andW hc).1
   rw[hn] at h4
   exact h4
  have h5:=condW_of h4 (w_not (w_lt w_lit (w_len_list (w_arg rfl))))
  rw[Eu] at h5
  refine Nat.le_of_not_lt λq=> ?_
  have q':(n:Int)<((ns.length:Nat):Int):=by omega
  first
   |(rw[decide_eq_true q'] at h5;exact absurd h5 ∅)
   |(simp at h5;omega)
 cases iW with
 |cons w1 w2=>
  cases w2
  cases w1 with
  |list ho bP=>exact⟨_,_,ns,rfl,rfl,ho,Tf ns _ bP,hlen⟩
theorem zfS (l:OpenLaw) (args:List WData):l.row.toRowW.claim.post args (.bool true) args=true:=
 postW_of (r:=l.row.toRowW) (X:=(true==true))
  (show WShape.has [] (.bool true) .bool=true by first|rfl|decide|simp[WShape.has,WShape.arms,WShape.armsAll])
  (show (WTm.eq .res (.lit (.bool true))).value [] {args:=args,res:=some (.bool true),after:=args}=some (.bool (true==true)) from w_eq_bool (w_res rfl) w_lit) rfl
theorem zdc {l:OpenLaw} {n:Nat} {q:Program} {loose:List Str} {XP:(Str->Option Value)->Heap->Prop} {YP:World->Heap->Prop} {d:DefRec}
  (hn:l.most=some n) (kI:d.params.defaults=[])
  (call:∀(w:World) (s₀ s₁:Shared) (mg mb:Str->Option Value) (fa:Addr) (o:Obj) (pm cd doc:Value) (a:Addr) (vs:List Value) (ns:List Int),
   Ground q loose [] XP w s₀ mg mb s₁.heap->YP w s₁.heap->
   s₁.heap.get? fa=some o->o.data= .func (docDef d.name d.params d.body d.scope pm cd doc)->s₁.heap.CodeRec cd d.name->mg d.name=some (.ref fa)->
   s₁.heap.get? a=some {cls:= .type "list",data:= .seq vs.toArray}->IntsAre vs ns->ns.length<=n->s₁.gens= #[]->
   codeAny (model l.prog w) callerA (.call (.ref fa) ⟨[.ref a],[]⟩) (λr s'=>r= .ok (.ret (.bool true))/\OldK s₁.heap s'.heap/\s'.os=s₁.os/\AllBare s'.gens) s₁):
  WalkO q loose XP YP l.row.toRowW d [] (λf vs=>JF f vs):=by
 intro w s₀ s₁ mg mb G Y fa o pm cd doc dV kV ho hd eF hD j9 hg args vals as gZ BJ DZ iW qo
 obtain rfl:dV= .none:=Dflts.none hD kI
 obtain rfl:kV= .none:=Dflts.noKw hD
 obtain⟨a,vs,ns,rfl,rfl,j7,hints,hlen⟩:=zfR hn gZ iW
 refine enter_call (codeAny_mono (call w s₀ s₁ mg mb fa o pm cd doc a vs ns G Y ho (fd_plain hd) eF j9 j7 hints hlen hg) λr s' hq=> ?_)
 obtain⟨rfl,h2,h3,h4⟩:=hq
 exact⟨.inl ⟨.bool true,.bool true,[],rfl,λ_=>rfl,.bool true,zfS l _,λ_=>⟨Ka,λ_ hm=>(nomatch hm)⟩⟩,h2,h3,h4⟩
section
variable {prog:Program} {w:World} {A:Around} {E:Value->Shared->Prop} {s:Shared} {K:Frag}
end
end Att
namespace L2
open PySem PySem.Spec PyProof.Rows
theorem Ui:∀{vs:List Value} {ns:List Int},IntsAre vs ns->zY (ns.map V.int) vs
 |_,_,.nil=> .nil
 |_,_,.cons n t h=> .cons ⟨t,rfl⟩ (Ui h)
def ziG (H:Hp):Prop:=∀b,H b=none\/∃o xs,H b=some (.frz o (.lst xs))
theorem zgH {P:Program} {w:World} {K:Et} {mg mb:Str->Option Value} {CX:CXT} {k:Nat} {fa a:Addr} {fd:FuncData} {x:Str} {sp:Sp} {s₁:Shared} {vs:List Value} {ns:List Int}
  (KX:K.In s₁.heap) (iD:s₁.heap.Ns mainGlobals mg) (hb:s₁.heap.Ns builtinsNs mb) (CB:∀x:Str,x≠"__name__"->mb x=bootBuiltins x) (qq:s₁.heap.NoLimit) (hg:s₁.gens= #[])
  (ha:s₁.heap.get? a=some {cls:= .type "list",data:= .seq vs.toArray}) (hi:IntsAre vs ns) (hl:ns.length<=sizeLine) (hr:vV k callerA)
  (F:∀base:Heap,K.In base->base.Ns mainGlobals mg->xJ P w K mg base CX k fa fd [x] sp) (kO:∀(s:Shared) (u:Value),BindsTo s fd ⟨[u],[]⟩ [(x,u)])
  (iz:∀H:Hp,ziG H->SqX K H a (ns.map V.int)->sp [.ref a] H (λv _=>v= .bl true) λ_ _ _=>False)
  (qT:∀H e s',CX [] H s₁ (λ_ _ _=>False) e s'->False):
  codeAny (model P w) callerA (.call (.ref fa) ⟨[.ref a],[]⟩) (λr s'=>r= .ok (.ret (.bool true))/\OldK s₁.heap s'.heap/\s'.os=s₁.os/\AllBare s'.gens) s₁:=by
 have rv:=Ui hi
 have oS:=hi.length
 have core:∀H:Hp,ziG H->SqX K H a (ns.map V.int)->HOk P w H s₁.heap->(∀b,H b≠none->b=a)->(H a≠none->K.lookup a=none)->
   codeAny (model P w) callerA (.call (.ref fa) ⟨[.ref a],[]⟩) (λr s'=>r= .ok (.ret (.bool true))/\OldK s₁.heap s'.heap/\s'.os=s₁.os/\AllBare s'.gens) s₁:=by
  intro H hO hS hok hA hK
  have fK:∀{b:Addr} {o:Obj},s₁.heap.get? b=some o->H b=none->(zbY s₁.heap H).get? b=some o:=λe n=>zgu e n
  have jW:∀{b:Addr} {o:Obj} {es:Array DictEntry} {ep:Nat},s₁.heap.get? b=some o->o.data= .dict es ep->H b=none:=λ{b o es ep} e d=>by
   cases q:H b with
   |none=>rfl
   |some u=>
    have e':b=a:=hA b (by rw[q];simp)
    subst e'
    rw[ha] at e;cases e
    have d':Data.seq vs.toArray _=Data.dict es ep:=d
    cases d'
  have lV:∀{b:Addr} {m:Str->Option Value},s₁.heap.Ns b m->(zbY s₁.heap H).Ns b m:=λ{b m} ⟨o,es,ep,e,d,r⟩=>⟨o,es,ep,fK e (jW e d),d,r⟩
  have uM:K.In (zbY s₁.heap H):=λb o e=>fK (KX b o e) (by
   cases q:H b with
   |none=>rfl
   |some u=>
    have e':b=a:=hA b (by rw[q];simp)
    subst e'
    rw[hK (by rw[q];simp)] at e;cases e)
  have hM:Mod K mg (zbY s₁.heap H):=⟨uM,lV iD,⟨mb,lV hb,CB⟩,let ⟨mc,h1,h2⟩:=qq;⟨mc,lV h1,h2⟩⟩
  have e0:ziC P w K mg (zbY s₁.heap H) callerA [] s₁ H:=⟨rfl,hM,λb o e=>zix e,GL (zfJ _ _),trivial,λb hb=>absurd (show b∈([]:List Addr) from hb) (by simp),hok,.of_eq hg⟩
  refine codeAny_mono ((F _ uM (lV iD)).run callerA [] s₁ H ⟨[.ref a],[]⟩ [.ref a] [.ref a] _ _ hr e0 (kO s₁ (.ref a)) (.cons rfl .nil) (iz H hO hS)) λr s' h=> ?_
  cases r with
  |error e=>exact (qT H e s' h).elim
  |ok fl=>
   cases fl with
   |next=>exact GQ h
   |brk=>exact GQ h
   |cont=>exact GQ h
   |ret u=>
    obtain⟨v,H',os,bare,un,qd,r',q⟩:=h
    have q':v= .bl true:=q
    subst q'
    obtain rfl:u=Value.bool true:=r'
    refine⟨rfl,OldK.of_keep λb o e=> ?_,os,bare⟩
    cases q:H b with
    |none=>exact un.keep b o e q (by intro z;exact absurd (show b∈([]:List Addr) from z) (by simp)) (by simp)
    |some u=>
     rcases hO b with z|⟨ob,xs,z⟩
     ·rw[q] at z;cases z
     ·have z2:=un.frzs b ob _ z
      obtain⟨e1,_⟩:=hok b _ z
      obtain⟨e2,_⟩:=qd b _ z2
      rw[e] at e1;cases e1
      exact e2
 cases hk:K.lookup a with
 |some o=>
  have e:=KX a o hk
  rw[ha] at e
  cases e
  refine core (λ_=>none) (λ_=> .inl rfl) (.inr ⟨vs.toArray,_,hk,by rw[F1,oS];exact hl,by simpa using rv⟩) (λb u z=>by have z':(none:Option HO)=some u:=z;cases z') (λb z=>absurd rfl z) λz=>absurd rfl z
 |none=>
  refine core (λb=>if b=a then some (.frz {cls:= .type "list",data:= .seq vs.toArray} (.lst (ns.map V.int))) else none) (λb=> ?_) (.inl (.inr ⟨{cls:= .type "list",data:= .seq vs.toArray},if_pos rfl⟩)) (λb u z=> ?_) (λb z=> ?_) λ_=>hk
  ·by_cases hb:b=a
   ·exact .inr ⟨_,_,if_pos hb⟩
   ·exact .inl (if_neg hb)
  ·by_cases hb:b=a
   ·have z':=(if_pos hb).symm.trans z
    cases z'
    subst hb
    exact⟨ha,by rw[Eu];exact hl,vs,_,rv,ha⟩
   ·have z':=(if_neg hb).symm.trans z
    cases z'
  ·by_cases hb:b=a
   ·exact hb
   ·exact absurd (if_neg hb) z
noncomputable abbrev KOf {K:Et} {h:Heap} (_:K.In h):Et:=K
theorem ziH {l:IB} {n k:Nat} {q:Program} {loose:List Str} {XP:(Str->Option Value)->Heap->Prop} {YP:World->Heap->Prop} {d:DefRec} {K:Params->Et} {CX:World->CXT} {sp:World->Sp} {x:Str}
  (hn:l.most=some n) (gO:n<=sizeLine) (kI:d.params.defaults=[]) (hr:vV k callerA)
  (hY:∀(w:World) (h:Heap),YP w h->(K w.params).In h)
  (F:∀(w:World) (mg:Str->Option Value) (fa:Addr) (h:Heap),(K w.params).In h->h.Ns mainGlobals mg->mg d.name=some (.ref fa)->
   ∃fd:FuncData,(∀(s:Shared) (u:Value),BindsTo s fd ⟨[u],[]⟩ [(x,u)])/\
    ∀base:Heap,(K w.params).In base->base.Ns mainGlobals mg->xJ l.prog w (K w.params) mg base (CX w) k fa fd [x] (sp w))
  (iz:∀(w:World) (H:Hp) (a:Addr) (ns:List Int),ns.length<=n->ziG H->SqX (K w.params) H a (ns.map V.int)->sp w [.ref a] H (λv _=>v= .bl true) λ_ _ _=>False)
  (qT:∀(w:World) (H:Hp) (s:Shared) (e:Value) (s':Shared),CX w [] H s (λ_ _ _=>False) e s'->False):
  JQ q loose XP YP l.row.toRowW d [] (λf vs=>JF f vs):=by
 refine Att.zdc hn kI λw s₀ s₁ mg mb fa o pm cd doc a vs ns G Y ho hd eF j9 j7 hints hlen hg=> ?_
 have KX:=hY w _ Y
 obtain⟨fd,hb,hF⟩:=F w mg fa _ KX G.T.g j9
 exact zgH KX G.T.g G.T.b G.T.builtins G.T.nolimit hg j7 hints (EW hlen gO) hr hF hb (λH hO hS=>iz w H a ns hlen hO hS) λH e s'=>qT w H s₁ e s'
end L2
/- THE LAST THEOREM (shape; LID, My.* are sU):
   My.Adr: a structure of eL addresses fX x8 tj names (classes, functions); My.Txt K t: a structure (Prop) of eL equations over K;
   My.txt_mk : {K} {implicit addresses ..} (e1 : nsIn K mainGlobals "law" = some (some (.ref f))) (e2 : K.lookup f = some ⟨oc, od, .func (fnOf "law" "law" params body scope dV kV doc pm an aO ct), sl⟩) (e3 : codeIn K aO "law" = true) .. : ∃ t, My.Txt K t
set_option maxHeartbeats 0 in
theorem PySem.Challenge.cw_LID_holds : PySem.Challenge.rw_LID.Holds := by
 w_on; o_law; k_head; (case hw => w_witness2)
 k_fill
 refine L2.walk_of (l := PySem.Challenge.rw_LID) (n := 63) (k := 40) (x := "script") (CX := λw => ..) (sp := λ_ => My.sp_law) rfl ∅ rfl ⟨rfl, by decide, by decide⟩ (λw h Y => JM Y) ?F ?S ?C
 case F =>
  intro w mg fa h KX G j9
  have T : ∃ t, My.Txt (L2.KOf KX) t := by
   dsimp only[L2.KOf]                          -- K AB fG as «<heap const> w.params» for k_is
   refine' My.txt_mk ?e1 ?e2 ?e3 ..
   (case e1 => PySem.W.k_is)                    -- in eL order: a name -> ae address -> ae object -> ae parts
   (case e2 => PySem.W.k_is)
   ..
  obtain⟨t, T⟩ := T
  have e0 := j9.symm.trans (F4 KX G T.law)
  cases e0                                       -- fa is eL law's own address
  exact⟨_, λs u => .of_eq rfl, λbase kb nb => My.law_fn T kb nb⟩     -- if «.of_eq rfl» comes DK early: refine' ⟨_, ?b, λbase kb nb => My.law_fn T kb nb⟩; exact λs u => .of_eq rfl
 case S => exact λw H a ns hl hO hS => ..
 case C => exact ..
(eL tactic k_is has no namespace: write k_is) -/
namespace L2
open PySem PySem.Spec PyProof.Rows
noncomputable def zW (s:Stmt):Arguments:=match s with
 | .FunctionDef _ a _ _ _ _ _ _ _ _=>a
 |_=>{posonlyargs:=[],args:=[],vararg:=none,kwonlyargs:=[],kw_defaults:=[],kwarg:=none,defaults:=[]}
noncomputable def zU (s:Stmt):List Stmt:=match s with
 | .FunctionDef _ _ b _ _ _ _ _ _ _=>b
 |_=>[]
noncomputable def zq (s:Stmt):Scope:=match s with
 | .FunctionDef _ _ _ _ _ _ sc _ _ _=>sc
 |_=>{kind:= .function,names:=[],isGenerator:=false,isCoroutine:=false}
noncomputable abbrev CX0:CXT:=λ_ _ _ _ _ _=>False
noncomputable abbrev E0:XK:=λ_ _ _=>False
structure Fun (K:Et) (x qual:Str) (st:Stmt) (f:Addr) (fd:FuncData):Prop where
 ex:∃(oc:Value) (od:Option Addr) (kV doc pm:Value) (an:Option Addr) (aO ct:Value) (ik:Array (Option Value)),
  fd=F3 x qual (zW st) (zU st) (zq st) .none kV doc pm an aO ct/\K.lookup f=some ⟨oc,od,.func fd,ik⟩/\F0 K aO qual=true
 kp:EY K (.ref f)=true
section
variable {P:Program} {w:World} {K:Et} {mg:Str->Option Value} {base:Heap}
theorem Fun.binds {x qual:Str} {st:Stmt} {f:Addr} {fd:FuncData} {ps:List Str} (F:Fun K x qual st f fd)
  (h:∀(kV doc pm:Value) (an:Option Addr) (aO ct:Value) (us:List Value),us.length=ps.length->bindArgs (F3 x qual (zW st) (zU st) (zq st) .none kV doc pm an aO ct) ⟨us,[]⟩=pure (ps.zip us)):yW K fd ps []:=by
 obtain⟨oc,od,kV,doc,pm,an,aO,ct,ik,rfl,lk,eF⟩:=F.ex
 exact .all (h kV doc pm an aO ct)
theorem zE {x qual:Str} {st:Stmt} {f:Addr} {oc:Value} {od an:Option Addr} {ik:Array (Option Value)} {kV doc pm aO ct:Value} (l:K.lookup f=some ⟨oc,od,.func (F3 x qual (zW st) (zU st) (zq st) .none kV doc pm an aO ct),ik⟩)
  (c:F0 K aO qual=true) (k:EY K (.ref f)=true):Fun K x qual st f (F3 x qual (zW st) (zU st) (zq st) .none kV doc pm an aO ct):=⟨⟨oc,od,kV,doc,pm,an,aO,ct,ik,rfl,l,c⟩,k⟩
end
theorem YR {A:Around} {k:Nat} (hr:vV k A):A.units+1<cLine:=FA (Nat.add_le_add_left (by decide:1<=64) _) hr.units
section
variable {X:Cx}
theorem pv (i:Nat) {x:Str} {pos:Pos} (hN:X.N[i]? =some x:=by rfl) (hv:Vis X.env.scope x:=by first|exact EF rfl|exact Im (EF rfl)|exact Im (Im rfl)) (hd:(x==("__debug__":Str))=false:=by decide)
  (eF:(x==("__classdict__":Str))=false:=by decide):PE X (.Name x pos) (zkh i):=zki hN hv hd eF
end
def WH (H H':Hp):Prop:=∀b o,H b=some o->H' b=some o
theorem WH.refl (H:Hp):WH H H:=λ_ _ h=>h
section
variable {κ:Type} [DecidableEq κ]
end
theorem XT {prog:Program} {w:World} {A:Around} {elt iter tg:Expr} {ifs:List Expr} {scope:Scope} {pos:Pos} {it acc:Value} {env:Env} {s:Shared} {R:Result->Shared->Prop} (I:Nat->Shared->Prop)
  (turn:∀n s,I n s->wpAny (model prog w) A (pyNext it) (λr s₁=>match r with
   |none=>R (.ok .next) s₁
   |some v=>wpAny (model prog w) A (letOwnedTupleGo tg it v) (λ_ s₁'=>wpAny (model prog w) A (assign tg env v) (λ_ s₂=>
     wpAny (model prog w) A (forIn ifs true λc r=>if r=true then do let ok <-isTrue c env (eval c env);pure (GR ok) else pure (GR r)) (λok s₃=>
      if ok=true then wpAny (model prog w) A (eval elt env) (λx s₄=>
       wpAny (model prog w) A (call (.builtin "list.append") [acc,x]) (λ_ s₅=>∃m,m<n/\I m s₅) (λ_ _=>False) s₄) (λ_ _=>False) s₃
      else ∃m,m<n/\I m s₃) (λ_ _=>False) s₂)
     (λ_ _=>False) s₁') (λ_ _=>False) s₁) (λ_ _=>False) s)
  (n:Nat) (h:I n s):codeAny (model prog w) A (.compLoop (.ListComp elt [⟨tg,iter,ifs,0⟩] scope pos) 0 it acc env) R s:=by
 refine codeAny_loop rfl I (λn s hI=> ?_) n h
 show wpAny _ A ((compTurn (.ListComp elt [⟨tg,iter,ifs,0⟩] scope pos) 0 it acc env).onRaise (λx=>do noteFrame x env;theTreesLotGoes x)) _ _ s
 refine wpAny_noted ?_
 rw[compTurn_list]
 refine wpAny_bind (wpAny_standAt (wpAny_bind (wpAny_mono (turn n s hI) (λr s₁ h₁=> ?_) λ_ _ h'=>h'.elim)))
 cases r with
 |none=>exact wpAny_pure h₁
 |some v=>
  refine wpAny_bind (wpAny_mono h₁ (λ_ s₁' h₁'=> ?_) λ_ _ h'=>h'.elim)
  refine wpAny_bind (wpAny_mono h₁' (λ_ s₂ h₂=>wpAny_bind (wpAny_mono h₂ (λok s₃ h₃=> ?_) λ_ _ h'=>h'.elim)) λ_ _ h'=>h'.elim)
  cases ok with
  |false=>exact wpAny_pure ⟨rfl,h₃⟩
  |true=>
   exact wpAny_bind (wpAny_bind (wpAny_mono h₃ (λx s₄ h₄=>wpAny_bind (wpAny_mono h₄ (λ_ s₅ h₅=>wpAny_pure (wpAny_pure ⟨rfl,h₅⟩)) λ_ _ h'=>h'.elim)) λ_ _ h'=>h'.elim))
noncomputable def za9 (env:Env):List (Str×NameKind)->List (Str×Addr)->List (Str×Addr)
 |[],cs=>cs
 |(n,k)::r,cs=>za9 env r (if k== .free then (match env.cells.lookup n with|some c=>(n,c)::cs|none=>cs) else cs)
noncomputable def zdd (sc:Scope) (env:Env):List (Str×Addr):=za9 env sc.names []
theorem zde {env:Env}:∀{ns:List (Str×NameKind)} {cs:List (Str×Addr)},(∀p∈cs,env.cells.lookup p.1=some p.2)->∀p∈za9 env ns cs,env.cells.lookup p.1=some p.2
 |[],_,h=>h
 |(n,k)::r,cs,h=>by
  unfold za9
  refine zde ?_
  by_cases hk:(k== .free)=true
  ·rw[if_pos hk]
   cases e:env.cells.lookup n with
   |none=>exact h
   |some c=>
    intro p hp
    rcases EJ.mp hp with rfl|hp
    ·exact e
    ·exact h p hp
  ·rw[if_neg hk];exact h
theorem zdf {env:Env}:∀{ns:List (Str×NameKind)} {cs:List (Str×Addr)} {p:Str×Addr},p∈cs->p∈za9 env ns cs
 |[],_,_,h=>h
 |(n,k)::r,cs,p,h=>by
  unfold za9
  refine zdf ?_
  by_cases hk:(k== .free)=true
  ·rw[if_pos hk]
   cases env.cells.lookup n with
   |none=>exact h
   |some c=>exact ED _ h
  ·rw[if_neg hk];exact h
theorem zdg {env:Env} {x:Str} {c:Addr} (e:env.cells.lookup x=some c):∀{ns:List (Str×NameKind)} {cs:List (Str×Addr)},(x,NameKind.free)∈ns->(x,c)∈za9 env ns cs
 |[],_,h=>by cases h
 |(n,k)::r,cs,h=>by
  unfold za9
  rcases EJ.mp h with h|h
  ·injection h with h1 h2
   subst h1 h2
   refine zdf ?_
   rw[if_pos (by rfl),e]
   exact EG
  ·exact zdg e h
theorem WM:∀{l:List (Str×Addr)} {x:Str} {c:Addr},(x,c)∈l->∃d,l.lookup x=some d
 |[],_,_,h=>by cases h
 |(n,d)::r,x,c,h=>by
  rw[G3]
  cases e:x==n with
  |true=>exact⟨d,rfl⟩
  |false=>
   rcases EJ.mp h with h|h
   ·injection h with h1 h2
    subst h1
    simp at e
   ·exact WM h
theorem Za {sc:Scope} {env:Env} {x:Str} {c:Addr} (e:(zdd sc env).lookup x=some c):env.cells.lookup x=some c:=
 zde (cs:=[]) (λp hp=>by cases hp) (x,c) (Gc e)
theorem zdh {sc:Scope} {env:Env} {x:Str} {c:Addr} (h:(x,NameKind.free)∈sc.names) (e:env.cells.lookup x=some c):(zdd sc env).lookup x=some c:=by
 obtain⟨d,hd⟩:=WM (zdg (cs:=[]) e h)
 have:=Za (sc:=sc) hd
 rw[e] at this
 cases this
 exact hd
theorem zba {sc:Scope} {env:Env} (h:∀y∈sc.names,y.2= .free->∃c,env.cells.lookup y.1=some c):closureFor sc env=pure (zdd sc env):=by
 unfold zdd closureFor
 generalize sc.names=ns at h
 suffices hh:∀cs:List (Str×Addr),(forIn ns cs (λ(x:Str×NameKind) (r:List (Str×Addr))=>
    (match x with
     |(name,kind)=>if (kind==NameKind.free)=true then (cellOf env name>>=λc=>pure (GR ((name,c)::r))) else pure (GR r):Sem (ForInStep (List (Str×Addr)))))>>=λr=>pure r:Sem (List (Str×Addr)))=pure (za9 env ns cs) from hh []
 induction ns with
 |nil=>intro cs;rfl
 |cons p r ih=>
  intro cs
  obtain⟨n,k⟩:=p
  rw[List.forIn_cons]
  unfold za9
  have ih':=ih λy hy=>h y (ED _ hy)
  by_cases hk:(k== .free)=true
  ·obtain⟨c,hc⟩:=h (n,k) EG (by simpa using hk)
   have hc:env.cells.lookup n=some c:=hc
   have h1:cellOf env n=pure c:=by unfold cellOf;rw[hc]
   simp only[hk,if_true,h1,hc,pure_bind]
   exact ih' _
  ·simp only[hk,if_false,pure_bind]
   exact ih' _
noncomputable def wC (X:Cx) (N':List Str) (sc:Scope) (C:Addr) (s₀:Shared) (H₀:Hp) (fp:List Addr):Cx where
 prog:=X.prog
 w:=X.w
 K:=X.K
 mg:=X.mg
 base:=X.base
 A:=X.A
 N:=N'
 s₀:=s₀
 H₀:=H₀
 env:=compEnvC sc (zdd sc X.env) C X.env
 outer:=X.stack
 stack:=X.stack
 ex:=fp
 fn:=λ_=>false
 calm:=X.calm
 pn:=[]
 xe:=λ_ _=>False
theorem ZJ {env:Env}:∀{names:List (Str×NameKind)} {x:Str},names.lookup x=some .free->
  (names.map λ(n,k)=>if (k==NameKind.free&&env.scope.kind== .function&&env.kindOf n==some .cell) then (n,NameKind.cell) else (n,k)).lookup x=some .cell\/
  (names.map λ(n,k)=>if (k==NameKind.free&&env.scope.kind== .function&&env.kindOf n==some .cell) then (n,NameKind.cell) else (n,k)).lookup x=some .free
 |[],_,h=>by simp at h
 |(n,k)::r,x,h=>by
  have ih:= @ZJ env r x
  show Jo x ((if (k==NameKind.free&&env.scope.kind== .function&&env.kindOf n==some .cell)=true then (n,NameKind.cell) else (n,k))::_)=_\/Jo x ((if (k==NameKind.free&&env.scope.kind== .function&&env.kindOf n==some .cell)=true then (n,NameKind.cell) else (n,k))::_)=_
  cases hx:x==n with
  |true=>
   simp only[G3,hx] at h
   cases h
   by_cases hc:(NameKind.free==NameKind.free&&env.scope.kind== .function&&env.kindOf n==some .cell)=true
   ·rw[if_pos hc];left;simp[G3,hx]
   ·rw[if_neg hc];right;simp[G3,hx]
  |false=>
   simp only[G3,hx] at h
   by_cases hc:(k==NameKind.free&&env.scope.kind== .function&&env.kindOf n==some .cell)=true
   ·rw[if_pos hc];simp only[G3,hx];exact ih h
   ·rw[if_neg hc];simp only[G3,hx];exact ih h
theorem Yl {env:Env} {x:Str} {k:NameKind} (hk:k= .cell\/k= .free):∀{names:List (Str×NameKind)},(∀y∈names,y.2≠ .cell)->
  (names.map λ(n,k)=>if (k==NameKind.free&&env.scope.kind== .function&&env.kindOf n==some .cell) then (n,NameKind.cell) else (n,k)).lookup x=some k->(x,NameKind.free)∈names
 |[],_,h=>by simp at h
 |(n,j)::r,hc,h=>by
  have hr:∀y∈r,y.2≠ .cell:=λy hy=>hc y (ED _ hy)
  have h:Jo x ((if (j==NameKind.free&&env.scope.kind== .function&&env.kindOf n==some .cell)=true then (n,NameKind.cell) else (n,j))::_)=_:=h
  by_cases hj:(j==NameKind.free&&env.scope.kind== .function&&env.kindOf n==some .cell)=true
  ·rw[if_pos hj,G3] at h
   have dq:j= .free:=by
    simp only[Gg,beq_iff_eq] at hj
    exact hj.1.1
   cases hx:x==n with
   |true=>
    rw[eq_of_beq hx,<-dq]
    exact EG
   |false=>
    rw[hx] at h
    exact ED _ (Yl hk hr h)
  ·rw[if_neg hj,G3] at h
   cases hx:x==n with
   |true=>
    rw[hx] at h
    have h':j=k:=Fi h
    have BR:j≠ .cell:=hc (n,j) EG
    rcases hk with e|e
    ·exact absurd (h'.trans e) BR
    ·rw[eq_of_beq hx]
     have:j= .free:=h'.trans e
     rw[this]
     exact EG
   |false=>
    rw[hx] at h
    exact ED _ (Yl hk hr h)
def vG (X:Cx) (sc:Scope):List (Option Nat)->List Str->Prop
 |[],[]=>True
 |none::r,_::n=>vG X sc r n
 |some i::r,x::n=>(X.N[i]? =some x/\sc.names.lookup x=some .free)/\vG X sc r n
 |_,_=>False
noncomputable def Zq (cap:List (Option Nat)) (σ:St):St:=cap.map λo=>o.bind λi=>(σ[i]?).join
theorem vG.at {X:Cx} {sc:Scope}:∀{cap:List (Option Nat)} {N':List Str},vG X sc cap N'->∀(j i:Nat) (x:Str),cap[j]? =some (some i)->N'[j]? =some x->X.N[i]? =some x/\sc.names.lookup x=some .free
 |[],[],_,j,i,x,h,_=>by simp at h
 |none::r,y::n,c,0,i,x,h,_=>by simp at h
 |none::r,y::n,c,j+1,i,x,h,h2=>vG.at (cap:=r) c j i x (by simpa using h) (by simpa using h2)
 |some k::r,y::n,c,0,i,x,h,h2=>by
  simp at h h2
  subst h h2
  exact c.1
 |some k::r,y::n,c,j+1,i,x,h,h2=>vG.at (cap:=r) c.2 j i x (by simpa using h) (by simpa using h2)
theorem vG.len {X:Cx} {sc:Scope}:∀{cap:List (Option Nat)} {N':List Str},vG X sc cap N'->cap.length=N'.length
 |[],[],_=>rfl
 |none::r,y::n,c=>by simpa using vG.len (cap:=r) (N':=n) c
 |some k::r,y::n,c=>by simpa using vG.len (cap:=r) (N':=n) c.2
theorem zbD {cap:List (Option Nat)} {σ:St} {j:Nat} {v:V} (h:(Zq cap σ)[j]? =some (some v)):∃i,cap[j]? =some (some i)/\σ[i]? =some (some v):=by
 unfold Zq at h
 rw[EB] at h
 cases e:cap[j]? with
 |none=>rw[e] at h;cases h
 |some o=>
  rw[e] at h
  cases o with
  |none=>simp at h
  |some i=>
   refine⟨i,rfl,?_⟩
   simp only[FZ,EC,FN] at h
   cases q:σ[i]? with
   |none=>rw[q] at h;simp at h
   |some z=>rw[q] at h;simp at h;rw[h]
def PTs (X:Cx) (ifs:List Expr) (t:TT):Prop:=
 ∀(pins:List (Addr×Obj)) (s:Shared) (σ:St) (H:Hp) (Q:Bool->Hp->Prop),Inv X pins σ H s->t σ H Q->
  wpAny (model X.prog X.w) X.A (forIn ifs true λc r=>if r=true then do let ok <-isTrue c X.env (eval c X.env);pure (GR ok) else pure (GR r)) (TP X pins σ Q) X.xe s
theorem xV {X:Cx}:PTs X [] (λ_ H Q=>Q true H):=λ_ _ _ H _ I h=>wpAny_tests_nil ⟨H,I,h⟩
theorem ze3 {X:Cx} {c:Expr} {t:TT} (h:PT X c t):PTs X [c] t:=λpins s σ H Q I hw=>wpAny_tests_one (h pins s σ H Q I hw)
def zgI (cap:List (Option Nat)) (g:TG) (tt:TT) (te:TE) (J:It) (σ:St) (acc:Addr) (H0:Hp) (Q:Hp->Prop):Prop:=
 ∃W:Nat->Nat->List V->Hp->Prop,(∃m,W 0 m [] (upd H0 acc (.lst [])))/\∀i m ys H,W i m ys H->
  (J.stop i H/\Q H)\/(J.go i H/\∀x H',J.yld i H x H'->g x (Zq cap σ) H' λσ2 H2=>tt σ2 H2 λb H3=>
   if b=true then te σ2 H3 λv H4=>H4 acc=some (.lst ys)/\ys.length<sizeLine/\∃m',m'<m/\W (i+1) m' (ys++[v]) (upd H4 acc (.lst (ys++[v])))
   else ∃m',m'<m/\W (i+1) m' ys H3)
def zgJ (cap:List (Option Nat)) (wi:TI) (g:TG) (tt:TT) (te:TE):TE:=λσ H Q=>wi σ H λJ H1=>∀acc,H1 acc=none->zgI cap g tt te J σ acc H1 λH2=>Q (.ref acc) H2
def zdi (i:Nat) (cap:List (Option Nat)) (wi:TI) (g:TG) (tt:TT) (te:TE):TS:=λD σ H=>wi σ H λJ H1=>∀acc,H1 acc=none->zgI cap g tt te J σ acc H1 λH2=>D.nx (σ.set i (some (.ref acc))) H2
structure Wu (X:Cx) (sc:Scope):Prop where
 cell:∀y∈sc.names,y.2≠ .cell
 kind:sc.kind= .function
 names:∀y∈sc.names,y.2= .local->sc.names.lookup y.1=some .local
 free:∀y∈sc.names,y.2= .free->X.env.kindOf y.1=some .cell\/X.env.kindOf y.1=some .free
section
variable {X:Cx} {elt tg iter:Expr} {ifs:List Expr} {sc:Scope} {pos:Pos} {wi:TI} {g:TG} {tt:TT} {te:TE} {N':List Str} {cap:List (Option Nat)}
theorem Inv.closure {pins:List (Addr×Obj)} {σ:St} {H:Hp} {s:Shared} (I:Inv X pins σ H s) (B:Wu X sc):closureFor sc X.env=pure (zdd sc X.env):=
 zba λy hy e=>I.ok.has y.1 (B.free y hy e)
theorem zfT {pins:List (Addr×Obj)} {σ:St} {H:Hp} {s:Shared} {h₁:Heap} {t':Nat} {fp:List Addr} {acc C:Addr} {s₀:Shared} {m:Str->Option Value}
  (I:Inv X pins σ H s) (B:Wu X sc) (cp:vG X sc cap N') (hf:∀b∈fp,za6 X pins H b) (Cg:∀b∈fp,b<s.heap.objs.size) (b9:acc=s.heap.objs.size) (ho:s₀.os=s.os) (qG:s₀.gens=s.gens)
  (h0:s₀.heap=s.heap.push {cls:= .type "list",data:= .seq #[]}) (hC:C=s₀.heap.objs.size)
  (iD:h₁.Ns C m) (eM:∀b o,s₀.heap.get? b=some o->h₁.get? b=some o):
  Inv (wC X N' sc C s₀ (upd H acc (.lst [])) fp) [] (Zq cap σ) (upd H acc (.lst [])) {s₀ with heap:=h₁,toks:=t'}:=by
 have jK:H acc=none:=I.hok.fresh (GL b9.symm)
 have ie:∀b o,s.heap.get? b=some o->s₀.heap.get? b=some o:=λb o e=>by rw[h0];exact Heap.get?_push_of_some _ e
 have mV:s₀.heap.objs.size=s.heap.objs.size+1:=by rw[h0,Heap.size_push]
 have I0:Inv X pins σ (upd H acc (.lst [])) {s with heap:=s₀.heap,toks:=s.toks}:=I.laid ie (GL b9.symm) ⟨Gk _,[],0,.nil,by rw[h0,b9];exact Heap.get?_push_size _ rfl⟩
 have CX':∀b,b<s.heap.objs.size->b≠C:=λb hb=>EH (by rw[hC,mV];exact FI hb)
 have CA:∀b,b<s.heap.objs.size->b≠acc:=λb hb=>EH (by rw[b9];exact hb)
 have cellLt:∀x c,X.env.cells.lookup x=some c->c<s.heap.objs.size:=λx c e=>by
  obtain⟨v,o,q,_⟩:=I.cell x c e
  exact Heap.lt_size q
 refine⟨⟨I.ok.mod,B.kind,I.ok.glob,I.ok.blt,GL hC.symm,λx y c h1 h2=>I.ok.inj x y c (Za h1) (Za h2),λx hx=> ?_,λx c h=>Bool.noConfusion h,I.ok.hd,I.ok.frames,.inl rfl,λb hb=>⟨CX' b (Cg b hb),λx c e=>(hf b hb).2.2.2.2.1 x c (Za e)⟩,
   λb o e=> ?_,?_,λb o e hb=> ?_,λb hb hz=> ?_,I0.stack,I0.stkFree⟩,
  rfl,?_,Un.kept eM,⟨m,iD,λj x v h1 h2 h3=> ?_⟩,λx c e=> ?_,?_,λx c e=> ?_,λp hp=>absurd (show p∈([]:List (Addr×Obj)) from hp) (by simp),I0.hok.kept eM,?_⟩
 ·have hm:(x,NameKind.free)∈sc.names:=by
   rcases hx with hx|hx
   ·exact Yl (env:=X.env) (.inl rfl) B.cell hx
   ·exact Yl (env:=X.env) (.inr rfl) B.cell hx
  obtain⟨c,hc⟩:=I.ok.has x (B.free _ hm rfl)
  exact⟨c,zdh hm hc⟩
 ·obtain⟨e1,e2⟩:=I.bs b o e
  exact⟨ie b o e1,by show upd H acc (.lst []) b=none;rw[yj (CA b (Heap.lt_size e1))];exact e2⟩
 ·exact EW I.ok.bsz (EW I.sz (by show _<=s₀.heap.objs.size;omega))
 ·rcases (hf b hb).2.2.2.1 with z|z
  ·exact I.ok.noex b o e z
  ·exact absurd (F6 (Heap.lt_size e) (EW I.ok.bsz z)) (FJ _)
 ·rcases EJ.mp (I.stkSub b hz) with e|e
  ·exact (hf b hb).2.1 e
  ·exact (hf b hb).2.2.1 e
 ·show AllBare s₀.gens
  rw[qG];exact I.bare
 ·obtain⟨i,e1,e2⟩:=zbD h2
  obtain⟨e3,e4⟩:=cp.at j i x e1 h1
  have hm:(x,NameKind.free)∈sc.names:=Gc e4
  have hk:=B.free _ hm rfl
  obtain⟨m0,kr,hl⟩:=I.loc
  obtain⟨u,r,l⟩:=hl i x v e3 e2 (by rcases hk with k|k;exact .inr (.inl k);exact .inr (.inr k))
  refine⟨u,r,.inr ?_⟩
  rcases l with⟨k,_⟩|⟨_,c,hc,o,q,d⟩
  ·rcases hk with k'|k'
   ·rw[k] at k';cases k'
   ·rw[k] at k';cases k'
  ·exact⟨ZJ (env:=X.env) e4,c,zdh hm hc,o,eM c o (ie c o q),d⟩
 ·obtain⟨v,o,q,d⟩:=I.cell x c (Za e)
  exact⟨v,o,eM c o (ie c o q),d⟩
 ·show upd H acc (.lst []) C=none
  rw[yj (by rw[hC,b9,mV];exact Jt _)]
  exact I.hok.fresh (by rw[hC,mV];exact GK _)
 ·show upd H acc (.lst []) c=none
  rw[yj (CA c (cellLt x c (Za e)))]
  exact I.freeC x c (Za e)
 ·show (Zq cap σ).length=N'.length
  unfold Zq
  rw[Eu]
  exact cp.len
def Kp (σ0 σ:St):Prop:=σ.length=σ0.length/\∀(j:Nat) v,σ0[j]? =some (some v)->σ[j]? =some (some v)
def zfU (cap:List (Option Nat)) (g:TG):Prop:=∀σ0 σ x H Q,Kp (Zq cap σ0) σ->g x σ H Q->g x σ H λσ2 H2=>Q σ2 H2/\Kp (Zq cap σ0) σ2
def ze4 (cap:List (Option Nat)) (g:TGs):Prop:=∀σ0 σ x H Q,Kp (Zq cap σ0) σ->g x σ H Q->g x σ H λσ2 H2=>Q σ2 H2/\Kp (Zq cap σ0) σ2
theorem yd {i:Nat} (h:cap[i]? =some none):zfU cap (zbt i):=λσ0 σ x H Q k q=>by
 refine⟨q,by rw[Fq];exact k.1,λj v e=> ?_⟩
 have:j≠i:=by
  rintro rfl
  obtain⟨i',e1,_⟩:=zbD e
  rw[h] at e1;cases e1
 rw[HA (GP this)]
 exact k.2 j v e
theorem Wv:ze4 cap zkm:=λσ0 σ x H Q k ⟨e,q⟩=>⟨e,q,k⟩
theorem wD {t:TG} {u:TGs} (h1:zfU cap t) (h2:ze4 cap u) (mono:∀v σ H (Q Q':St->Hp->Prop),(∀σ H,Q σ H->Q' σ H)->t v σ H Q->t v σ H Q'):ze4 cap (zgv t u):=λσ0 σ x H Q k ⟨v,r,e,q⟩=>
 ⟨v,r,e,mono v σ H _ _ (λσ' H' ⟨q',k'⟩=>h2 σ0 σ' r H' Q k' q') (h1 σ0 σ v H _ k q)⟩
theorem wE {i:Nat}:∀v σ H (Q Q':St->Hp->Prop),(∀σ H,Q σ H->Q' σ H)->zbt i v σ H Q->zbt i v σ H Q':=λ_ _ _ _ _ f q=>f _ _ q
theorem Vy {K:Et} {n:Nat} {t:TGs} (h:ze4 cap t):zfU cap (ziz K n t):=λσ0 σ x H Q k ⟨a,xs,e,hq,hl,q⟩=>⟨a,xs,e,hq,hl,h σ0 σ xs H Q k q⟩
theorem zbE {pins:List (Addr×Obj)} {σ:St} {H:Hp} {s:Shared} {use:Option (Value->Sem Unit)} {Q:Value->Shared->Prop} {R:Addr->Hp->Prop} {p:Pos}
  (hc:X.calm=true) (B:Wu X sc) (cp:vG X sc cap N') (hi:PI X tg iter wi) (ow:zfU cap g)
  (hg:∀C s₀ H₀ fp,PG (wC X N' sc C s₀ H₀ fp) tg g) (ht:∀C s₀ H₀ fp,PTs (wC X N' sc C s₀ H₀ fp) ifs tt) (he:∀C s₀ H₀ fp,PE (wC X N' sc C s₀ H₀ fp) elt te)
  (hs:∀x,foldedSetIterable iter X.env x=pure x)
  (I:Inv X pins σ H s) (h:wi σ H λJ H1=>∀acc,H1 acc=none->zgI cap g tt te J σ acc H1 (R acc))
  (fin:∀(acc C:Addr) (H':Hp) (s':Shared) (m:Str->Option Value),Inv X pins σ H' s'->s'.heap.Ns C m->C≠X.env.locals->
   (∀{σ':St} {s'':Shared},Inv X pins σ' H' s''->∀h',Heap.SameBut C s''.heap h'->Inv X pins σ' H' {s'' with heap:=h'})->
   R acc H'->compPost (model X.prog X.w) X.A X.xe use Q (.ref acc) C (.ok .next) s'):
  wpAny (model X.prog X.w) X.A (comprehension (.ListComp elt [⟨tg,iter,ifs,0⟩] sc pos) sc X.env p (newList []) false (eval iter X.env) use) Q X.xe s:=by
 refine wpAny_comprehension_free rfl hs (I.closure B) B.kind B.names (thn (hi pins s σ H _ I h) λxv s1 h1=>thn h1 λpA s2 h2=> ?_)
 obtain⟨it,fp,tn,J,H2,e,I2,T,jR,f2,r2⟩:=h2
 subst e
 have uP:∀b∈fp,b<s2.heap.objs.size:=λb hb=>by
  obtain⟨o,e,_⟩:=T.obj _ _ jR b hb
  exact Heap.lt_size e
 refine wpAny_newObj_type (wpAny_newFunctionEnv B.cell (by intro y hy;simp at hy) (λh₁ hns₁ hsb₁=> ?_) B.kind)
 dsimp only at hns₁ hsb₁ ⊢
 obtain⟨s₀,lh⟩:∃s₀:Shared,s₀={s2 with heap:=s2.heap.push {cls:= .type "list",dict:=none,data:= .seq ([]:List Value).toArray}}:=⟨_,rfl⟩
 have e0h:s₀.heap=s2.heap.push {cls:= .type "list",data:= .seq #[]}:=by rw[lh]
 obtain⟨C,eC⟩:∃C:Addr,C=s₀.heap.objs.size:=⟨_,rfl⟩
 obtain⟨acc,eA⟩:∃a:Addr,a=s2.heap.objs.size:=⟨_,rfl⟩
 rw[show (s2.heap.push {cls:= .type "list",dict:=none,data:= .seq ([]:List Value).toArray}).objs.size=C by rw[eC,e0h]] at hns₁ hsb₁ ⊢
 have keep₁:∀b o,s₀.heap.get? b=some o->h₁.get? b=some o:=λb o e=>by
  refine hsb₁.extBut b o ?_ ?_
  ·rw[eC];exact EH (Heap.lt_size e)
  ·rw[e0h] at e;exact Heap.get?_push_of_some _ e
 have lS:C=s2.heap.objs.size+1:=by rw[eC,e0h,Heap.size_push]
 have ie:∀b o,s2.heap.get? b=some o->s₀.heap.get? b=some o:=λb o e=>by rw[e0h];exact Heap.get?_push_of_some _ e
 have uO:H2 acc=none:=I2.hok.fresh (GL eA.symm)
 show codeAny (model X.prog X.w) X.A (.compStart (.ListComp elt [⟨tg,iter,ifs,0⟩] sc pos) 0 (.ref it) (.ref s2.heap.objs.size) (compEnvC sc (zdd sc X.env) C X.env))
  (compPost (model X.prog X.w) X.A X.xe use Q (.ref s2.heap.objs.size) C) {s2 with heap:=h₁,toks:=s2.toks+([]:List (Str×Value)).length}
 rw[<-eA]
 have D5:({s2 with heap:=h₁,toks:=s2.toks+([]:List (Str×Value)).length}:Shared)={s₀ with heap:=h₁,toks:=s2.toks+([]:List (Str×Value)).length}:=by rw[lh]
 rw[D5]
 obtain⟨W,⟨m0,w0⟩,turn⟩:=r2 acc uO
 have Ib:Inv (wC X N' sc C s₀ (upd H2 acc (.lst [])) fp) [] (Zq cap σ) (upd H2 acc (.lst [])) {s₀ with heap:=h₁,toks:=s2.toks+([]:List (Str×Value)).length}:=
  zfT I2 B cp f2 uP eA (by rw[lh]) (by rw[lh]) e0h eC hns₁ keep₁
 have stat:∀{H':Hp},(∀b∈fp,H' b=none)->∀b∈fp,za6 (wC X N' sc C s₀ (upd H2 acc (.lst [])) fp) [] H' b:=λhn b hb=>
  ⟨hn b hb,(Ib.ok.exf b hb).1,Ib.ok.exfs b hb,.inl hb,λx c e=>(Ib.ok.exf b hb).2 x c e,λp hp=>absurd (show p∈([]:List (Addr×Obj)) from hp) (by simp)⟩
 have CT:∀b∈fp,upd H2 acc (.lst []) b=none:=λb hb=>by
  rw[yj (by rw[eA];exact EH (uP b hb))]
  exact (f2 b hb).1
 have loop:codeAny (model X.prog X.w) X.A (.compLoop (.ListComp elt [⟨tg,iter,ifs,0⟩] sc pos) 0 (.ref it) (.ref acc) (compEnvC sc (zdd sc X.env) C X.env))
   (compPost (model X.prog X.w) X.A X.xe use Q (.ref acc) C) {s₀ with heap:=h₁,toks:=s2.toks+([]:List (Str×Value)).length}:=by
  refine XT (λn s'=>∃i ys H',Inv (wC X N' sc C s₀ (upd H2 acc (.lst [])) fp) [] (Zq cap σ) H' s'/\tn i s'.heap/\(∀b∈fp,H' b=none)/\W i n ys H') ?_ m0
   ⟨0,[],_,Ib,T.keep _ _ _ jR λb hb o e=>keep₁ b o (ie b o e),CT,w0⟩
  rintro n s3 ⟨i,ys,H3,I3,jQ,kW,w3⟩
  rcases turn i n ys H3 w3 with⟨stop,qn⟩|⟨go,step⟩
  ·refine thn (T.done (wC X N' sc C s₀ (upd H2 acc (.lst [])) fp) rfl rfl rfl hc i [] s3 _ H3 (λ_ _=>False) I3 (stat kW) jQ stop) λr s4 ⟨hr,I4⟩=> ?_
   subst hr
   have u0:Un (frs X.stack) fp H2 (upd H2 acc (.lst [])) s2.heap s₀.heap:=Un.laid ie (GL eA.symm) uO
   have un:Un (frs X.stack) fp H2 H3 s2.heap s4.heap:=u0.trans I4.base
   have I5:Inv X pins σ H3 s4:=I2.call' (by rw[I4.os];show s₀.os=_;rw[lh]) un I4.hok I4.bare λb hb=>⟨(f2 b hb).2.2.2.1,(f2 b hb).2.1,(f2 b hb).2.2.2.2.1,(f2 b hb).2.2.2.2.2⟩
   obtain⟨m4,gM,_⟩:=I4.loc
   have CL:C≠X.env.locals:=λz=>by
    have:=I2.lt
    rw[<-z,lS] at this
    exact absurd this (JG.mpr (GK _))
   refine fin acc C H3 s4 m4 I5 gM CL (λ{σ' s''} I6 h' sb=> ?_) qn
   refine I6.turned (t':=s''.toks) (λb o hb e=>(sb.2 b hb).trans e) I4.free CL (.inr ?_) (λx c e z=> ?_) λp hp z=> ?_
   ·have:=I2.sz
    rw[lS]
    omega
   ·obtain⟨v,o,q,_⟩:=I2.cell x c e
    have:=Heap.lt_size q
    rw[z,lS] at this
    exact absurd this (JG.mpr (GK _))
   ·obtain⟨q,_⟩:=I2.pin p hp
    have:=Heap.lt_size q
    rw[z,lS] at this
    exact absurd this (JG.mpr (GK _))
  ·refine thn (T.item (wC X N' sc C s₀ (upd H2 acc (.lst [])) fp) rfl rfl rfl hc i [] s3 _ H3 (λ_ _=>False) I3 (stat kW) jQ go) λr s4 ⟨u,hr,h4⟩=> ?_
   subst hr
   refine thn h4 λ_ s5 ⟨x,H5,I5,r5,y5,iO,qY⟩=> ?_
   have I5':=I5.pinned (stat qY) (T.obj _ _ iO)
   refine thn (hg C s₀ _ fp _ s5 _ H5 x u _ I5' r5 (ow σ _ x H5 _ ⟨rfl,λ_ _ e=>e⟩ (step x H5 y5))) λ_ s6 ⟨σ6,H6,I6,q6,tm⟩=> ?_
   have again:∀{H7:Hp} {s7:Shared} {zs:List V},Inv (wC X N' sc C s₀ (upd H2 acc (.lst [])) fp) ([]++TK fp s5.heap) σ6 H7 s7->(∃m',m'<n/\W (i+1) m' zs H7)->
     ∃m,m<n/\∃i ys H',Inv (wC X N' sc C s₀ (upd H2 acc (.lst [])) fp) [] (Zq cap σ) H' s7/\tn i s7.heap/\(∀b∈fp,H' b=none)/\W i m ys H':=λ{H7 s7 zs} I7 w7=>by
    obtain⟨m',hm,w7⟩:=w7
    refine⟨m',hm,i+1,zs,H7,(I7.unpinned).weak tm.1.symm tm.2,T.keep _ _ _ iO λb hb o e=>(I7.pin (b,o) (FH _ (FH _ (Xm hb e)))).1,λb hb=> ?_,w7⟩
    obtain⟨o,e,d⟩:=T.obj _ _ iO b hb
    exact (I7.pin (b,o) (FH _ (FH _ (Xm hb e)))).2.1
   refine thn (ht C s₀ _ fp _ s6 σ6 H6 _ I6 q6) λok s7 ⟨H7,I7,q7⟩=> ?_
   cases ok with
   |false=>
    rw[if_neg HN] at q7 ⊢
    exact again I7 q7
   |true=>
    rw[if_pos rfl] at q7 ⊢
    refine thn (he C s₀ _ fp _ s7 σ6 H7 _ I7 q7) λxv s8 ⟨v,H8,I8,r8,kS,BK,w8⟩=> ?_
    refine thn (yJ _ s8 σ6 H8 (.ref acc) [v] (.ref acc) [xv] (λ_ H9=>H9=upd H8 acc (.lst (ys++[v]))) I8 rfl (.cons r8 .nil) ⟨acc,ys,v,rfl,rfl,kS,BK,rfl⟩) λ_ s9 ⟨_,H9,I9,_,e9⟩=> ?_
    subst e9
    exact again I9 w8
 exact codeAny_compStart_list loop (T.self _ 0 _ _ _ (T.keep _ _ _ jR λb hb o e=>keep₁ b o (ie b o e)) loop)
theorem vH (hc:X.calm=true) (B:Wu X sc) (cp:vG X sc cap N') (hi:PI X tg iter wi) (ow:zfU cap g)
  (hg:∀C s₀ H₀ fp,PG (wC X N' sc C s₀ H₀ fp) tg g) (ht:∀C s₀ H₀ fp,PTs (wC X N' sc C s₀ H₀ fp) ifs tt) (he:∀C s₀ H₀ fp,PE (wC X N' sc C s₀ H₀ fp) elt te)
  (hs:∀x,foldedSetIterable iter X.env x=pure x:=by intro _;rfl):PE X (.ListComp elt [⟨tg,iter,ifs,0⟩] sc pos) (zgJ cap wi g tt te):=by
 intro pins s σ H Q I h
 rw[eval_ListComp]
 refine zbE (use:=none) (R:=λacc H2=>Q (.ref acc) H2) hc B cp hi ow hg ht he hs I h λacc C H' s' m I' hn CL mk r=> ?_
 exact⟨m,hn,λh' sb=>⟨.ref acc,H',mk I' h' sb,rfl,r⟩⟩
theorem Zb {i:Nat} {y:Str} {py jS:Pos} (hc:X.calm=true) (B:Wu X sc) (cp:vG X sc cap N') (hi:PI X tg iter wi) (ow:zfU cap g)
  (hg:∀C s₀ H₀ fp,PG (wC X N' sc C s₀ H₀ fp) tg g) (ht:∀C s₀ H₀ fp,PTs (wC X N' sc C s₀ H₀ fp) ifs tt) (he:∀C s₀ H₀ fp,PE (wC X N' sc C s₀ H₀ fp) elt te)
  (hN:X.N.Nodup) (hy:X.N[i]? =some y) (hl:X.env.scope.names.lookup y=some .local)
  (Bo:swapsWith (.ListComp elt [⟨tg,iter,ifs,0⟩] sc pos) (some (.Name y py)) jS.line X.env=pure true:=by rfl)
  (hs:∀x,foldedSetIterable iter X.env x=pure x:=by intro _;rfl):PS X (.Assign [.Name y py] (.ListComp elt [⟨tg,iter,ifs,0⟩] sc pos) jS) (zdi i cap wi g tt te):=by
 intro pins s σ H D I h
 rw[exec_Assign_Name_used _ _ _ _ Bo]
 refine wpAny_bind (wpAny_standAt (wpAny_bind ?_))
 show wpAny _ X.A (do let _ <-comprehension (.ListComp elt [⟨tg,iter,ifs,0⟩] sc pos) sc X.env _ (newList []) false (eval iter X.env) (some (assign (.Name y py) X.env))) _ _ s
 refine wpAny_bind (thn (zbE (use:=some (assign (.Name y py) X.env)) (Q:=λ_ s'=>SP X pins D .next s') (R:=λacc H2=>D.nx (σ.set i (some (.ref acc))) H2) hc B cp hi ow hg ht he hs I h λacc C H' s' m I' hn CL mk r=> ?_) λ_ s' hq=>wpAny_pure (wpAny_pure hq))
 show wpAny _ X.A (assign (.Name y py) X.env (.ref acc)) _ _ _
 refine wpAny_assign_Name (zbs I' hN hy (.inl hl) (v:= .ref acc) rfl (λs'' I'' eM=> ?_) (.inr hl))
 obtain⟨a,sb,ha⟩:=eM
 have CQ:C≠a:=by
  rcases ha with ha|ha
  ·rw[ha];exact CL
  ·intro z
   rw[<-z] at ha
   obtain⟨v,o,q,d⟩:=I'.cell y C ha
   obtain⟨o',es,ep,q',d',_⟩:=hn
   rw[q] at q';cases q'
   rw[d] at d';cases d'
 exact⟨m,hn.sameBut sb CQ,λh' sb'=>⟨_,H',mk I'' h' sb',r⟩⟩
end
def wY {α:Type}:Sem α->Prop
 | .pure _=>True
 | .raise _=>True
 | .unsupported _=>True
 | .finish _=>True
 | .rule _ k=>∀u,wY (k u)
 | .at _ k=>∀u,wY (k u)
 | .load _ _ k=>∀o,wY (k o)
 | .update _ _ f k=>(∀o,(f o).dict=o.dict/\(f o).cls=o.cls)/\∀u,wY (k u)
 | .alloc _ k=>∀a,wY (k a)
 | .loadIfAlive _ k=>∀o,wY (k o)
 | .point _ k=>∀u,wY (k u)
 | .stack k=>∀x,wY (k x)
 | .ask k=>∀x,wY (k x)
 |_=>False
def KD (h h':Heap):Prop:=∀(b:Nat) o,h.objs[b]? =some o->∃o',h'.objs[b]? =some o'/\o'.dict=o.dict/\o'.cls=o.cls
theorem KD.refl (h:Heap):KD h h:=λ_ o e=>⟨o,e,rfl,rfl⟩
theorem KD.trans {h h1 h2:Heap} (x:KD h h1) (y:KD h1 h2):KD h h2:=λb o e=>by
 obtain⟨o1,e1,d1,c1⟩:=x b o e
 obtain⟨o2,e2,d2,c2⟩:=y b o1 e1
 exact⟨o2,e2,d2.trans d1,c2.trans c1⟩
theorem KD.push (h:Heap) (o:Obj):KD h (h.push o):=λb o' e=>by
 refine⟨o',?_,rfl,rfl⟩
 obtain⟨objs,l⟩:=h
 show (objs.push o)[b]? =some o'
 have e:objs[b]? =some o':=e
 rw[Array.getElem?_push]
 have hb:b<objs.size:=(HS.mp e).1
 rw[if_neg (EH hb)]
 exact e
theorem KD.update (h:Heap) (a:Addr) {f:Obj->Obj} (hf:∀o,(f o).dict=o.dict/\(f o).cls=o.cls):KD h (h.update a f):=λb o e=>by
 obtain⟨objs,l⟩:=h
 show ∃o',(objs.modify a f)[b]? =some o'/\_
 rw[Array.getElem?_modify]
 have e:objs[b]? =some o:=e
 by_cases b6:a=b
 ·rw[if_pos b6,e]
  exact⟨f o,rfl,hf o⟩
 ·rw[if_neg b6,e]
  exact⟨o,rfl,rfl,rfl⟩
theorem zdj {h:Heap} {a:Addr} {o:Obj} (e:h.get? a=some o):h.objs[a]? =some o:=by
 unfold Heap.get? at e
 split at e
 ·cases e
 ·exact e
theorem KD.at {h h':Heap} {a:Addr} {o o':Obj} (k:KD h h') (e:h.get? a=some o) (e':h'.get? a=some o'):o'.dict=o.dict/\o'.cls=o.cls:=by
 obtain⟨o1,e1,d⟩:=k a o (zdj e)
 rw[zdj e'] at e1
 cases e1
 exact d
theorem ziI {α:Type} {M:Model} {Γ:PySem.Ctx} {t:Sem α}:∀{Q:α->Pos->Shared->Prop} {E:Value->Pos->Shared->Prop} {p:Pos} {s:Shared} {h₀:Heap},wY t->KD h₀ s.heap->Sem.wp M Γ t Q E p s->
  Sem.wp M Γ t (λa p' s'=>Q a p' s'/\KD h₀ s'.heap) (λe p' s'=>E e p' s'/\KD h₀ s'.heap) p s:=by
 induction t with
 |pure a=>exact λ_ k h=>⟨h,k⟩
 |raise e=>exact λ_ k h=>⟨h,k⟩
 |unsupported w=>exact λ_ _ h=>h.elim
 |finish e=>exact λ_ _ h=>h.elim
 |rule _ k ih=>exact λt z h=>ih () (t ()) z h
 | «at» _ k ih=>exact λt z h=>ih () (t ()) z h
 |load a _ k ih=>
  intro Q E p s h₀ t z h
  obtain⟨o,e,h⟩:=h
  exact⟨o,e,ih o (t o) z h⟩
 |update a _ f k ih=>
  intro Q E p s h₀ t z h
  obtain⟨e,h⟩:=h
  exact⟨e,ih () (t.2 ()) (z.trans (KD.update _ _ t.1)) h⟩
 |alloc o k ih=>exact λt z h=>ih _ (t _) (z.trans (KD.push _ _)) h
 |loadIfAlive a k ih=>exact λt z h=>ih _ (t _) z h
 |point _ k ih=>exact λt z h=>ih () (t ()) z h
 |stack k ih=>exact λt z h=>ih _ (t _) z h
 |ask k ih=>exact λt z h=>ih _ (t _) z h
 |register _ _ _=>exact λt=>t.elim
 |fresh _ _=>exact λt=>t.elim
 |choose _ _ _ _=>exact λt=>t.elim
 |os _ _ _ _=>exact λt=>t.elim
 |call _ _ _ _ _ _=>exact λt=>t.elim
 |handled _ _ _=>exact λt=>t.elim
 |newGen _ _ _=>exact λt=>t.elim
 |genState _ _ _=>exact λt=>t.elim
 |resume _ _ _ _ _=>exact λt=>t.elim
 |yield _ _ _ _ _=>exact λt=>t.elim
 |fork _ _ _=>exact λt=>t.elim
 |thread _ _=>exact λt=>t.elim
 |await _ _ _ _ _ _=>exact λt=>t.elim
theorem zgK {α:Type} {M:Model} {A:Around} {t:Sem α} {Q:α->Shared->Prop} {E:Value->Shared->Prop} {s:Shared} (T:wY t) (h:wpAny M A t Q E s):wpAny M A t (λa s'=>Q a s'/\KD s.heap s'.heap) (λe s'=>E e s'/\KD s.heap s'.heap) s:=
 λΓ p hΓ=>ziI T (KD.refl _) (h Γ p hΓ)
theorem zfV {α β:Type} {f:α->Sem β} (hf:∀a,wY (f a)):∀{t:Sem α},wY t->wY (t.bind f):=by
 intro t
 induction t with
 |pure a=>exact λ_=>hf a
 |raise e=>exact λ_=>trivial
 |unsupported w=>exact λ_=>trivial
 |finish e=>exact λ_=>trivial
 |rule _ k ih=>exact λt u=>ih u (t u)
 | «at» _ k ih=>exact λt u=>ih u (t u)
 |load a _ k ih=>exact λt u=>ih u (t u)
 |update a _ f k ih=>exact λt=>⟨t.1,λu=>ih u (t.2 u)⟩
 |alloc o k ih=>exact λt u=>ih u (t u)
 |loadIfAlive a k ih=>exact λt u=>ih u (t u)
 |point _ k ih=>exact λt u=>ih u (t u)
 |stack k ih=>exact λt u=>ih u (t u)
 |ask k ih=>exact λt u=>ih u (t u)
 |register _ _ _=>exact λt=>t.elim
 |fresh _ _=>exact λt=>t.elim
 |choose _ _ _ _=>exact λt=>t.elim
 |os _ _ _ _=>exact λt=>t.elim
 |call _ _ _ _ _ _=>exact λt=>t.elim
 |handled _ _ _=>exact λt=>t.elim
 |newGen _ _ _=>exact λt=>t.elim
 |genState _ _ _=>exact λt=>t.elim
 |resume _ _ _ _ _=>exact λt=>t.elim
 |yield _ _ _ _ _=>exact λt=>t.elim
 |fork _ _ _=>exact λt=>t.elim
 |thread _ _=>exact λt=>t.elim
 |await _ _ _ _ _ _=>exact λt=>t.elim
theorem tb {α β:Type} {t:Sem α} {f:α->Sem β} (h:wY t) (hf:∀a,wY (f a)):wY (t>>=f):=zfV hf h
theorem zbb (v:Value):wY (fieldsOf v):=by
 unfold fieldsOf
 split
 ·refine tb (λo=>trivial) λo=> ?_
  split<;>trivial
 ·trivial
theorem Xn (v:Value) (i:Nat):wY (field v i):=by
 unfold field
 refine tb (zbb v) λa=> ?_
 split<;>trivial
theorem TU (g:Array Value->Array Value) (o:Obj):(Obj.mapFields g o).dict=o.dict/\(Obj.mapFields g o).cls=o.cls:=by
 obtain⟨c,d,dt,sl⟩:=o
 cases dt<;>exact⟨rfl,rfl⟩
theorem Yx (v:Value) (i:Nat) (x:Value):wY (setField v i x):=by
 unfold setField
 split
 ·unfold updateField
  refine tb (λo=>trivial) λo=> ?_
  split
  ·split
   ·exact⟨λo=>TU _ o,λ_=>trivial⟩
   ·trivial
  ·trivial
 ·trivial
theorem TV (e:Value) (f:Option Addr):wY (setFlight e f):=by
 unfold setFlight
 refine tb (Xn _ _) λtb'=> ?_
 split
 ·exact Yx _ _ _
 ·trivial
theorem TW (ty:String) (vs:List Value):wY (newFields ty vs):=by
 have h:wY (newObjAsIs (Value.type ty) (Data.fields vs.toArray)):=by
  unfold newObjAsIs
  exact tb (λa=>trivial) λa=>trivial
 unfold newFields newObj
 show wY (if vs.toArray.size>sizeLine+2 then (unsupported "record:memory">>=λ_=>newObjAsIs (Value.type ty) (Data.fields vs.toArray)) else newObjAsIs (Value.type ty) (Data.fields vs.toArray))
 split
 ·trivial
 ·exact h
theorem zdk (env:Env) (outer:List Env):wY (behindIsImport env outer):=by
 unfold behindIsImport
 split
 ·trivial
 ·split
  ·trivial
  ·exact tb (Xn _ _) λ_=>trivial
theorem zea:wY underTheClaimsCaller:=tb (λ_=>trivial) λ_=>trivial
theorem zbc (env:Env) (i:Bool) (outer:List Env):wY (keptBack env i outer):=by
 cases outer with
 |nil=>
  unfold keptBack
  by_cases h:(env.scope.isGenerator||env.scope.isCoroutine)=true
  ·rw[if_pos h];trivial
  ·rw[if_neg h]
   refine tb zea λx=> ?_
   trivial
 |cons c r=>
  unfold keptBack
  trivial
theorem TX:∀l:List Env,wY (readyFrames l)
 |[]=>trivial
 |env::outer=>by
  unfold readyFrames
  split
  ·refine tb (λo=>trivial) λo=> ?_
   split
   ·trivial
   ·exact tb (zdk _ _) λi=>tb (zbc _ _ _) λb=>tb ⟨λo=>⟨rfl,rfl⟩,λ_=>trivial⟩ λ_=>TX outer
  ·trivial
theorem zb7 (env:Env):wY (J6 env):=by
 unfold J6
 refine tb (λx=>trivial) λl=>tb ?_ λo=> ?_
 ·generalize List.dropWhile _ l=l'
  unfold frameObject
  cases l' with
  |nil=>trivial
  |cons a r=>exact tb (TX _) λ_=>trivial
 ·split<;>trivial
theorem Tg (f:Addr) (b:Bool):wY (entryPlaceOf f b):=by
 unfold entryPlaceOf
 refine tb (λx=>trivial) λl=> ?_
 split<;>trivial
theorem TY (e:Value) (env:Env):wY (noteFrame e env):=by
 unfold noteFrame
 split
 ·rename_i f _
  have last:∀head:Value,wY (do setField e 1 (<-EntryCells.newEntry head (<-J6 env) .none (rawInt f) .none (<-entryPlaceOf f (head != .none)))):=λhead=>
   tb (zb7 env) λa=>tb (Tg _ _) λpl=>tb (TW _ _) λb=>Yx _ _ _
  refine tb (Xn _ _) λhead=> ?_
  split
  ·refine tb (Xn _ _) λx=> ?_
   split
   ·trivial
   ·exact tb (Yx _ _ _) λ_=>last head
  ·exact last head
 ·trivial
theorem zb8 (env:Env) (e:Value):wY (leaving env e):=tb (TY e env) λ_=>TV _ _
theorem yr.there {P:Program} {w:World} {H:Hp} {h:Heap} {a:Addr} {o:HO} (x:yr P w H h a o):∃ob,h.get? a=some ob:=by
 cases o with
 |lst xs=>obtain⟨_,_,_,_,e⟩:=x;exact⟨_,e⟩
 |tup xs=>obtain⟨_,_,_,ob,e,_⟩:=x;exact⟨_,e⟩
 |dK kvs=>obtain⟨_,_,_,_,o,_,_,e,_⟩:=x;exact⟨_,e⟩
 |dT kvs=>obtain⟨_,_,_,_,o,_,_,e,_⟩:=x;exact⟨_,e⟩
 |dN kvs=>obtain⟨_,_,_,_,o,_,_,e,_⟩:=x;exact⟨_,e⟩
 |set S n=>obtain⟨o,_,_,_,e,_⟩:=x;exact⟨_,e⟩
 |ins C dx fs=>obtain⟨_,_,_,e,_⟩:=x;exact⟨_,e⟩
 |own y=>obtain⟨_,e⟩:=x;exact⟨_,e⟩
 |xd fs=>obtain⟨_,⟨_,_,_,e,_⟩,_⟩:=x;exact⟨_,e⟩
 |rng lo hi=>obtain⟨_,_,_,e⟩:=x;exact⟨_,e⟩
 |frz ob u=>obtain⟨e,_⟩:=x;exact⟨_,e⟩
 |tbl ps=>exact⟨_,(show h.get? a=some _ from x)⟩
 |met f y=>exact⟨_,(show h.get? a=some _ from x)⟩
 |ext φ=>obtain⟨_,⟨_,e⟩,_⟩:=x;exact⟨_,e⟩
def Cov (outer:List Env) (H':Hp) (old h' B:Heap):Prop:=
 (∀b o,(∃o0,old.get? b=some o0)->b∉frs outer->h'.get? b=some o->B.get? b=some o)/\∀b u o,H' b=some u->h'.get? b=some o->B.get? b=some o
structure Fly (P:Program) (w:World) (outer:List Env) (H:Hp) (s:Shared) (e:Addr) (cls:Value) (H':Hp) (s':Shared):Prop where
 os:s'.os=s.os
 bare:AllBare s'.gens
 un:Un (frs outer) [] H H' s.heap s'.heap
 hok:HOk P w H' s'.heap
 fly:∃B t,Heap.FlyingW B outer e cls (.ref t) s'.heap/\Cov outer H' s.heap s'.heap B
 new:s.heap.get? e=none
 free:H' e=none
 nd:∀o,s'.heap.get? e=some o->o.dict=none
noncomputable def CXE (P:Program) (w:World):CXT:=λouter H s E ev s'=>∃e cls H',ev= .ref e/\Fly P w outer H s e cls H' s'/\E cls none H'
theorem Fly.moved {P:Program} {w:World} {outer:List Env} {H H':Hp} {s s':Shared} {e:Addr} {cls a0:Value} {B h2:Heap} (F:Fly P w outer H s e cls H' s') (fl:Heap.FlyingW B outer e cls a0 s'.heap) (cov:Cov outer H' s.heap s'.heap B)
  (st:B.StaysIn h2) (sm:s'.heap.UpToSlots h2):Un (frs outer) [] H H' s.heap h2/\HOk P w H' h2/\Cov outer H' s.heap h2 B:=by
 have nofs:∀b u,H' b=some u->∃o,s'.heap.get? b=some o/\B.get? b=some o/\h2.get? b=some o:=λb u q=>by
  obtain⟨o,e1⟩:=(F.hok b u q).there
  have e2:=cov.2 b u o q e1
  exact⟨o,e1,e2,st b o e2⟩
 have old:∀b o0,s.heap.get? b=some o0->b∉frs outer->∃o,s'.heap.get? b=some o/\B.get? b=some o/\h2.get? b=some o:=λb o0 q hb=>by
  obtain⟨o,e1⟩:=F.un.there b o0 q (by simp)
  have e2:=cov.1 b o ⟨o0,q⟩ hb e1
  exact⟨o,e1,e2,st b o e2⟩
 have fr:∀b∈frs outer,∃o sl,s'.heap.get? b=some o/\h2.get? b=some {o with slots:=sl}:=λb hb=>by
  obtain⟨_,o,e1,d⟩:=fl.2.2.1.mem hb
  obtain⟨sl,e2⟩:=sm b o e1 d
  exact⟨o,sl,e1,e2⟩
 refine⟨⟨λb o q n hb _=> ?_,λb o q n hb _=> ?_,λb o q n hx=>F.un.free b o q n hx,λb o q _=> ?_,F.un.tups,F.un.frzs,F.un.tbls⟩,λa u q=> ?_,λb o q hb e1=> ?_,λb u o q e1=> ?_⟩
 ·obtain⟨o1,e1,_,e3⟩:=old b o q hb
  have e4:=F.un.keep b o q n hb (by simp)
  rw[e1] at e4;cases e4
  exact e3
 ·obtain⟨o1,lU,e1,e2⟩:=fr b hb
  obtain⟨sl,e4⟩:=F.un.slot b o q n hb (by simp)
  rw[e1] at e4;cases e4
  exact⟨lU,e2⟩
 ·by_cases hb:b∈frs outer
  ·obtain⟨o1,lU,e1,e2⟩:=fr b hb
   exact⟨_,e2⟩
  ·obtain⟨o1,_,_,e3⟩:=old b o q hb
   exact⟨_,e3⟩
 ·refine (F.hok a u q).stay (λb ob hb eb=> ?_) (λ_ z=>z) λ_ _ z=>z
  have:∃u',H' b=some u':=by
   rcases hb with z|z
   ·exact⟨u,z ▸ q⟩
   ·exact⟨_,z⟩
  obtain⟨u',hu⟩:=this
  obtain⟨o1,e1,_,e3⟩:=nofs b u' hu
  rw[eb] at e1;cases e1
  exact e3
 ·obtain⟨o0,q⟩:=q
  obtain⟨o1,_,e2,e3⟩:=old b o0 q hb
  rw[e1] at e3;cases e3
  exact e2
 ·obtain⟨o1,_,e2,e3⟩:=nofs b u q
  rw[e1] at e3;cases e3
  exact e2
section
variable {P:Program} {w:World} {K:Et} {mg:Str->Option Value} {base:Heap} {N:List Str} {qual:Str} {scope:Scope} {f:Addr} {aO:Value} {A:Around} {outer:List Env} {s:Shared} {H:Hp} {E:XK}
theorem zM:zb2 (CXE P w) (zc4 (CXE P w) P w K mg base N qual scope f aO A outer s H E) E:=by
 rintro pins σ H1 s1 ev s' I ⟨e,cls,H',rfl,F,hE⟩
 obtain⟨B,t,fl,cov⟩:=F.fly
 have hU:∀b∈frs (envOfC qual scope s.heap.objs.size f aO::outer),b∈s.heap.objs.size::frs outer:=I.stkSub
 refine wpAny_mono (zgK (zb8 _ _) (wpAny_leaves_onW (E:=λ_ _=>False) (Q:=λ_ s''=>∃h',s''={s' with heap:=h'}/\Heap.FlyingW B outer e cls (.ref t) h'/\s'.heap.UpToSlots h') (L:=s.heap.objs.size) I.ok.frames rfl fl λh' x1 x2=>⟨h',rfl,x1,x2⟩)) (λ_ s3 h3=> ?_) λ_ _ h3=>h3.1.elim
 obtain⟨⟨h',rfl,x1,x2⟩,kd⟩:=h3
 obtain⟨un,hok,cov'⟩:=F.moved fl cov x1.1 x2
 have ib:∀b:Addr,b∉(zc4 (CXE P w) P w K mg base N qual scope f aO A outer s H E).ex:=λb z=>absurd (show b∈([]:List Addr) from z) (by simp)
 have t5:∀b o,s.heap.get? b=some o->b∉frs outer->b∉frs (envOfC qual scope s.heap.objs.size f aO::outer):=λb o q hb hz=>by
  rcases EJ.mp (hU b hz) with z|z
  ·exact EH (Heap.lt_size q) z
  ·exact hb z
 have sub:∀b∈frs outer,b∈frs (envOfC qual scope s.heap.objs.size f aO::outer):=λb hb=>by
  unfold frs at hb ⊢
  rw[He]
  exact ED _ hb
 refine⟨e,cls,H',rfl,⟨F.os.trans I.os,F.bare,⟨λb o q n hb _=> ?_,λb o q n hb _=> ?_,λb o q n _=> ?_,λb o q _=> ?_,λb xs q=>un.tups b xs (I.base.tups b xs q),λb o xs q=>un.frzs b o xs (I.base.frzs b o xs q),λb ps q=> ?_⟩,hok,
  ⟨B,t,x1,λb o q hb e1=> ?_,cov'.2⟩,?_,F.free,λo q=> ?_⟩,hE⟩
 ·exact un.keep b o (I.base.keep b o q n hb (ib b)) (I.base.free b o q n (ib b)) (t5 b o q hb) (by simp)
 ·obtain⟨sl,e1⟩:=I.base.slot b o q n hb (ib b)
  obtain⟨lT,e2⟩:=un.slot b _ e1 (I.base.free b o q n (ib b)) (sub b hb) (by simp)
  exact⟨lT,e2⟩
 ·obtain⟨o1,e1⟩:=I.base.there b o q (ib b)
  exact un.free b o1 e1 (I.base.free b o q n (ib b)) (by simp)
 ·obtain⟨o1,e1⟩:=I.base.there b o q (ib b)
  exact un.there b o1 e1 (by simp)
 ·obtain⟨m1,e1⟩:=I.base.tbls b ps q
  obtain⟨m2,e2⟩:=un.tbls b _ e1
  exact⟨m1++m2,by rw[e2,HM]⟩
 ·obtain⟨o0,q⟩:=q
  obtain⟨o1,q1⟩:=I.base.there b o0 q (ib b)
  exact cov'.1 b o ⟨o1,q1⟩ (t5 b o0 q hb) e1
 ·cases q:s.heap.get? e with
  |none=>rfl
  |some o=>
   obtain⟨o',q'⟩:=I.base.there e o q (ib e)
   have:=F.new
   rw[q'] at this;cases this
 ·obtain⟨ob,uf,_⟩:=fl.there
  exact (kd.at uf q).1.trans (F.nd ob uf)
end
structure zmp (K:Et) (mg:Str->Option Value) (x:Str) (C:Addr) (Dx:List Value) (newId:String):Prop where
 mg:mg x=some (.ref C)
 DQ:PySem.W.excIn K C Dx newId=true
theorem zdl {P:Program} {w:World} {X:Cx}:zb2 (CXE P w) X E0:=λ_ _ _ _ _ _ _ ⟨_,_,_,_,_,h⟩=>h.elim
abbrev TEx:=St->Hp->VK->(Value->Hp->Prop)->Prop
abbrev TAx:=St->Hp->(List V->Hp->Prop)->(Value->Hp->Prop)->Prop
abbrev TSx:=Uf->(Value->Hp->Prop)->St->Hp->Prop
section
variable {X:Cx} {e:Expr} {es:List Expr} {te:TE}
end
noncomputable def zkD (e:Addr) (cls:Value):HO:= .ext λh=>∃ob,h.get? e=some ob/\ob.cls=cls/\ob.dict=none/\∃vs,ob.data= .fields vs
noncomputable abbrev Cx.hand (X:Cx) (e:Addr):Cx:={X with A:=X.A.mark (some (.ref e)),calm:=false,xe:=λ_ _=>False}
section
variable {X:Cx} {pins:List (Addr×Obj)} {σ:St} {H:Hp} {s:Shared}
end
open PySem.Builtin.Int (intBits)
def zjV (i j:Int):Prop:=∃m n:Nat,intBits i<=m/\intBits j<=n/\m+n<=134217728
def zgL (i j:Int):Prop:=j≠0/\intBits j<=9000
section
variable {X:Cx}
theorem vi:OpR X (binaryOp .Mult) (rI zjV λi j=> .int (i*j)):=opI λ_ _ _ _ _ _ _ hc q=>by
 obtain⟨m,n,h1,h2,h3⟩:=hc
 exact mul_int q (IntMulOk.of_le h1 h2 h3)
theorem Vz:OpR X (binaryOp .FloorDiv) (rI zgL λi j=> .int (i.fdiv j)):=opI λi j _ _ _ _ _ hc q=>floordiv_int hc.1 q (.inl (PyProof.noPylong_of_log2 (by
 have h:=GX.mp hc.2
 by_cases z:j.natAbs=0
 ·rw[z];decide
 ·exact (Nat.log2_lt z).mpr h)))
end
section
variable {prog:Program} {w:World} {A:Around} {E:Value->Shared->Prop} {s:Shared} {K:Et} {x D:Addr} {ox:Obj}
theorem zb9 {M:Model} {nameV:Value} {Q:Unit->Shared->Prop} (X:K.In s.heap) (I:HJ s.heap x ox D none) (be:Ha K D (.type "BaseException")=some true) (hq:Q () s):
  wpAny M A (checkBuiltinCall "BaseException.__getattribute__" ⟨[.ref x,nameV],[]⟩) Q E s:=by
 obtain⟨hh,g,d,t,os⟩:=s
 have hk:builtinKind "BaseException.__getattribute__"=some .slot:=by decide+kernel
 have hsplit:splitId "BaseException.__getattribute__"=some ("BaseException","__getattribute__"):=by decide+kernel
 have L0:=I.type (M:=M)
 have L1:=PySem.W.looks_mroIn (M:=M) X be
 have ha:=F.args_bexc_ga (.ref x) nameV
 simp only[checkBuiltinCall,hk,hsplit]
 refine wpAny_bind ?_
 unfold isInstance
 refine wpAny_bind (L0.at (L1.at ?_))
 repeat (first|wp_step)
 exact hq
theorem zfW {Q:Option Value->Shared->Prop} (X:K.In s.heap) (I:HJ s.heap x ox D none) (ga:G7 K (.ref D) "__getattribute__"=some (some (.builtin "BaseException.__getattribute__"))) (noga:G7 K (.ref D) "__getattr__"=some none)
  (be:Ha K D (.type "BaseException")=some true) (hf:IC K D none "__class__"=some (.bind (.builtin "getset_descriptor.__get__") (.builtin "object.__class__"))) (hm:Ha K D (.type "object")=some true)
  (h:Q (some (.ref D)) {s with toks:=s.toks+1}):wpAny (model prog w) A (getAttr? (.ref x) "__class__") Q E s:=by
 obtain⟨hh,g,d,t,os⟩:=s
 have L0:=I.type (M:=model prog w)
 have L1:=J2 (M:=model prog w) X ga
 have L2:=J2 (M:=model prog w) X noga
 have L3:=PySem.W.looks_find (M:=model prog w) X I hf
 have hb:=F.attrBase_ValueError.ga.bind (.ref x)
 unfold getAttr? getAttrBy? getAttrBy
 refine wpAny_bind (wpAny_mkText (wpAny_bind (wpAny_attempt (wpAny_holding (wpAny_bind (L0.at (wpAny_bind (L1.at ?_))))))))
 dsimp only
 rw[if_neg (show ¬(onTheHeap (Value.ref D)&&(Value.builtin "BaseException.__getattribute__"==Value.builtin "object.__getattribute__"))=true by rw[show (Value.builtin "BaseException.__getattribute__"==Value.builtin "object.__getattribute__")=false by decide+kernel];simp)]
 unfold getAttrByItsOwn hookBefore
 refine wpAny_bind ?_
 show wpAny _ _ (typeLookup (.ref D) "__getattr__") _ _ _
 refine L2.at ?_
 refine wpAny_bind (wpAny_attempt (wpAny_holding ?_))
 unfold callGetattribute boundAndCalled
 rw[if_neg ∅,hb]
 refine wpAny_bind (wpAny_pure ?_)
 dsimp only
 refine wpAny_call (codeAny_call_builtin F.attrBase_ValueError.ga.plain F.entry_bexc_ga (zb9 (ox:=ox) X I be ?_))
 unfold Builtin.«object.__getattribute__»
 refine wpAny_bind (wpAny_of_eq (show slotArgs "__getattribute__" 1 {pos:=[Value.ref x]++[Value.str (Str.ofString "__class__") t]}=pure (.ref x,[Value.str (Str.ofString "__class__") t]) from rfl) ?_)
 dsimp only
 refine wpAny_bind (wpAny_of_eq (show Builtin.ObjectAttr.attrName (Value.str (Str.ofString "__class__") t)=pure (Str.ofString "__class__") from rfl) ?_)
 refine wpAny_bind (L0.at (wpAny_bind (L3.at ?_)))
 dsimp only
 show wpAny _ _ (do ret (<-holding [Value.builtin "object.__class__"] (call (.builtin "getset_descriptor.__get__") [.builtin "object.__class__",.ref x,.ref D]))) _ _ _
 refine wpAny_bind (wpAny_holding (wpAny_call (PySem.W.class_get (ox:=ox) (od:=none) X I hm ?_)))
 exact wpAny_pure (PySem.W.handed_on rfl (wpAny_pure h))
end
section
variable {X:Cx}
structure zjW (K:Et) (D:Addr):Prop where
 ga:G7 K (.ref D) "__getattribute__"=some (some (.builtin "BaseException.__getattribute__"))
 noga:G7 K (.ref D) "__getattr__"=some none
 be:Ha K D (.type "BaseException")=some true
 hc:(J7 K D).isSome=true
 ha:G7 K (.ref D) "__class__"=some (some (.builtin "object.__class__"))
 hn:HY K (.builtin "object.__class__") "__get__"=some (some (.builtin "getset_descriptor.__get__"))
 htk:JE K (.builtin "object.__class__")=some true
 hm:Ha K D (.type "object")=some true
theorem zgM {K:Et} {x D:Addr} (e:zjW K D):JV K (.ref x) (.ref D) (λh=>∃ox,HJ h x ox D none) where
 ty:=λ_ _ _ ⟨_,I⟩=>I.type
 it:=λ_ _ X _=>by
  obtain⟨cd,eF⟩:=G2.mp e.hc
  unfold J7 at eF
  split at eF
  ·rename_i ho
   intro A' Q' E' s' k q
   unfold isType loadHead
   exact wpAny_bind (wpAny_loadPart (k _ _ (X _ _ ho)) (wpAny_pure q))
  ·cases eF
 ne:=λh tp dd ae n sl X Bl=>by
  obtain⟨cd,eF⟩:=G2.mp e.hc
  refine Bool.eq_false_iff.mpr λq=> ?_
  have z:D=tp:=Value.ref.inj (beq_iff_eq.mp q)
  subst z
  unfold J7 at eF
  split at eF
  ·rename_i ho
   have y:=(X _ _ ho).symm.trans Bl
   cases y
  ·cases eF
 ca:=λ{_ _ _ _ _ s} X I k=>by
  obtain⟨ox,I⟩:=I
  obtain⟨cd,eF⟩:=G2.mp e.hc
  have hf:IC K D none "__class__"=some (.bind (.builtin "getset_descriptor.__get__") (.builtin "object.__class__")):=by
   unfold IC
   rw[eF,EC,e.ha,EC]
   simp[e.hn,e.htk]
  exact zfW X I e.ga e.noga e.be hf e.hm k
inductive TyX (K:Et) (H:Hp):V->Value->Prop where
 |of {x:V} {t:Value} (h:Te K H x t):TyX K H x t
 |exc {e D:Addr} (h:H e=some (zkD e (.ref D))) (k:zjW K D):TyX K H (.ref e) (.ref D)
 |sqt {a:Addr} {xs:List V} (h:SqT K H a xs):TyX K H (.ref a) (.type "tuple")
 |sql {a:Addr} {xs:List V} (h:SqL K H a xs):TyX K H (.ref a) (.type "list")
theorem TyX.kit {pins:List (Addr×Obj)} {σ:St} {H:Hp} {s:Shared} {x:V} {u t:Value} (I:Inv X pins σ H s) (rx:zP x u) (ty:TyX X.K H x t):∃Hh,JV X.K u t Hh/\Hh s.heap:=by
 cases ty with
 |of ty=>
  cases ty with
  |non=>cases (show u=Value.none from rx);exact⟨_,PySem.W.kitx_none,G8⟩
  |bl y=>cases (show u=Value.bool y from rx);exact⟨_,PySem.W.kitx_bool,G8⟩
  |int i=>obtain⟨t,q⟩:=(show ∃t,u=Value.int i t from rx);cases q;exact⟨_,PySem.W.kitx_int,G8⟩
  |str y=>obtain⟨t,q⟩:=(show ∃t,u=Value.str y t from rx);cases q;exact⟨_,PySem.W.kitx_str,G8⟩
  |flt y=>obtain⟨t,q⟩:=(show ∃t,u=Value.float y t from rx);cases q;exact⟨_,PySem.W.kitx_float,G8⟩
  | @lst a xs ea=>
   cases (show u=Value.ref a from rx)
   obtain⟨_,_,n,_,h1⟩:=(show yr X.prog X.w H s.heap a (.lst xs) from I.hok a _ ea)
   exact⟨_,HZ,⟨_,h1,rfl⟩⟩
  | @frz a ob xs ea=>
   cases (show u=Value.ref a from rx)
   obtain⟨_,_,_,n,_,h1⟩:=(show yr X.prog X.w H s.heap a (.frz ob (.lst xs)) from I.hok a _ ea)
   exact⟨_,HZ,⟨_,h1,rfl⟩⟩
  | @tup a xs ea=>
   cases (show u=Value.ref a from rx)
   obtain⟨_,_,_,p⟩:=(show yr X.prog X.w H s.heap a (.tup xs) from I.hok a _ ea)
   obtain⟨o,h1,h2,_⟩:=p
   exact⟨_,Jb,⟨o,h1,h2⟩⟩
  | @dK a kvs ea=>
   cases (show u=Value.ref a from rx)
   obtain⟨_,_,vs,_,p⟩:=(show yr X.prog X.w H s.heap a (.dK kvs) from I.hok a _ ea)
   obtain⟨o,es,ep,h1,h2,_⟩:=p
   exact⟨_,Ji,⟨o,h1,h2.1⟩⟩
  | @dT a kvs ea=>
   cases (show u=Value.ref a from rx)
   obtain⟨_,_,xs,_,o,es,ep,h1,h2,_⟩:=(show yr X.prog X.w H s.heap a (.dT kvs) from I.hok a _ ea)
   exact⟨_,Ji,⟨o,h1,h2.1⟩⟩
  | @ins a C dx fs ea cl ha hn htk hm=>
   cases (show u=Value.ref a from rx)
   obtain⟨mA,O,_⟩:=ziB I.hok ea
   obtain⟨od,J,_⟩:=O.look
   exact⟨_,PySem.W.kitx_own (cl.get _) cl.hd ha hn htk hm,J⟩
 | @sqt a xs h=>
  cases (show u=Value.ref a from rx)
  obtain⟨ae,_,⟨o,h1,h2,_⟩,_⟩:=I.tuple h
  exact⟨_,Jb,⟨o,h1,h2⟩⟩
 | @sql a xs h=>
  cases (show u=Value.ref a from rx)
  obtain⟨ae,_,⟨o,n,h1,h2,_⟩,_⟩:=I.list h
  exact⟨_,HZ,⟨o,h1,h2⟩⟩
 | @exc e D h k=>
  cases (show u=Value.ref e from rx)
  obtain⟨⟨ob,h1,h2,h3,vs,h4⟩,_⟩:=(show yr X.prog X.w H s.heap e (zkD e (.ref D)) from I.hok e _ h)
  refine⟨_,zgM k,ob,h1,h2,?_,?_⟩
  ·unfold PySem.W.notCls
   rw[h4]
  ·rw[h3];trivial
noncomputable def zlT:V->Option Value
 | .ref a=>some (.ref a)
 | .ty n=>some (.type n)
 |_=>none
theorem zgN {c:V} {cv u:Value} (h:zlT c=some cv) (r:zP c u):u=cv:=by
 cases c with
 |ref a=>cases h;exact r
 |ty n=>cases h;exact r
 |_=>cases h
theorem zP.nb {x:V} {u:Value} (r:zP x u):u≠ .builtin "__main__.__loader__#opaque":=by
 cases x with
 |non=>rintro rfl;cases r
 |bl b=>rintro rfl;cases r
 |int i=>rintro rfl;obtain⟨_,q⟩:=r;cases q
 |str i=>rintro rfl;obtain⟨_,q⟩:=r;cases q
 |byt i=>rintro rfl;obtain⟨_,q⟩:=r;cases q
 |flt i=>rintro rfl;obtain⟨_,q⟩:=r;cases q
 |ref a=>rintro rfl;cases r
 |ty a=>rintro rfl;cases r
def ziJ (K:Et):List V->Hp->VK->Prop:=λxs H Q=>∃x c cv t b,xs=[x,c]/\zlT c=some cv/\TyX K H x t/\FE K t cv=some b/\Q (.bl b) H
theorem zgO:vF X (.builtin "isinstance") (ziJ X.K):=by
 intro pins s σ H xs us Q I r h
 obtain⟨x,c,cv,t,b,rfl,hc,ty,e,q⟩:=h
 obtain⟨u,w',rfl,ru,rw'⟩:=zlN r
 obtain rfl:=zgN hc rw'
 obtain⟨Hh,Z,p⟩:=ty.kit I ru
 exact PySem.W.kia_one Z I.kIn p e ru.nb λtk=>⟨.bl b,H,I.tok tk,rfl,q⟩
end
theorem VA {K:Et} {t:Value}:FE K t t=some true:=by unfold FE;rw[if_pos (by simp)]
theorem zca {K:Et}:FE K (.type "bool") (.type "int")=some true:=by
 have h:(fastBuiltinMro "bool").map (·.contains (.type "int"))=some true:=by decide+kernel
 have hm:GB "int"=true:=by decide+kernel
 unfold FE IX
 rw[if_neg ∅]
 show (if GB "int"=true then HU K (.type "bool") (.type "int") else none)=_
 rw[if_pos hm]
 exact h
theorem zcb {K:Et}:FE K (.type "int") (.type "bool")=some false:=by
 have h:(fastBuiltinMro "int").map (·.contains (.type "bool"))=some false:=by decide+kernel
 have hm:GB "bool"=true:=by decide+kernel
 unfold FE IX
 rw[if_neg ∅]
 show (if GB "bool"=true then HU K (.type "int") (.type "bool") else none)=_
 rw[if_pos hm]
 exact h
end L2
namespace L2
open PySem PySem.Spec PyProof.Rows
inductive D where
 |non|bl (b:Bool)|int (i:Int)|str (x:Str)|tup (l:List D)|lst (l:List D)|ins (C:Addr) (ns:List Str) (l:List D)
mutual
inductive Is (K:Et) (H:Hp):V->D->Prop where
 |non:Is K H .non .non
 |bl (b:Bool):Is K H (.bl b) (.bl b)
 |int (i:Int):Is K H (.int i) (.int i)
 |str (x:Str):Is K H (.str x) (.str x)
 |tup {a:Addr} {xs:List V} {ds:List D}:SqT K H a xs->IsL K H xs ds->Is K H (.ref a) (.tup ds)
 |lst {a:Addr} {xs:List V} {ds:List D}:SqL K H a xs->IsL K H xs ds->Is K H (.ref a) (.lst ds)
 |ins {a C dx:Addr} {ns:List Str} {xs:List V} {ds:List D}:H a=some (.ins C dx (ns.zip xs))->ns.length=xs.length->IsL K H xs ds->Is K H (.ref a) (.ins C ns ds)
inductive IsL (K:Et) (H:Hp):List V->List D->Prop where
 |nil:IsL K H [] []
 |cons {v:V} {d:D} {vs:List V} {ds:List D}:Is K H v d->IsL K H vs ds->IsL K H (v::vs) (d::ds)
end
theorem vI {H:Hp} {p:Addr} {o:HO} (h:H p=none):WH H (upd H p o):=λb u e=>by rw[yj (xT e h)];exact e
theorem IsL.len {K:Et} {H:Hp}:∀{vs:List V} {ds:List D},IsL K H vs ds->vs.length=ds.length
 |_,_,.nil=>rfl
 |_,_,.cons _ l=>by rw[F5,F5,l.len]
theorem IsL.get {K:Et} {H:Hp}:∀{vs:List V} {ds:List D} {i:Nat} {d:D},IsL K H vs ds->ds[i]? =some d->∃v,vs[i]? =some v/\Is K H v d
 |_,_,_,_,.nil,e=>by simp at e
 |_,_,0,_,.cons h _,e=>by simp at e;subst e;exact⟨_,rfl,h⟩
 |_,_,i+1,d,.cons _ l,e=>by
  obtain⟨v,e1,e2⟩:=l.get (i:=i) (d:=d) (by simpa using e)
  exact⟨v,by simpa using e1,e2⟩
theorem Is.int_inv {K:Et} {H:Hp} {v:V} {i:Int} (h:Is K H v (.int i)):v= .int i:=by cases h;rfl
theorem Is.bl_inv {K:Et} {H:Hp} {v:V} {b:Bool} (h:Is K H v (.bl b)):v= .bl b:=by cases h;rfl
theorem Is.str_inv {K:Et} {H:Hp} {v:V} {b:Str} (h:Is K H v (.str b)):v= .str b:=by cases h;rfl
theorem Is.non_inv {K:Et} {H:Hp} {v:V} (h:Is K H v .non):v= .non:=by cases h;rfl
theorem Is.tup_inv {K:Et} {H:Hp} {v:V} {ds:List D} (h:Is K H v (.tup ds)):∃a xs,v= .ref a/\SqT K H a xs/\IsL K H xs ds:=by cases h with|tup a b=>exact⟨_,_,rfl,a,b⟩
theorem Is.lst_inv {K:Et} {H:Hp} {v:V} {ds:List D} (h:Is K H v (.lst ds)):∃a xs,v= .ref a/\SqL K H a xs/\IsL K H xs ds:=by cases h with|lst a b=>exact⟨_,_,rfl,a,b⟩
noncomputable abbrev dQ (a b:Int):D:= .tup [.int a,.int b]
section
variable {σ:St} {H:Hp} {Q:VK} {ta tb tc:TE} {D':Uf} {v:V} {i:Nat}
end
local macro_rules | `(tactic| walk_at "rd") => `(tactic| repeat (first | refine tG ?_ | refine tQ ?_ | refine m7 ?_ | refine tE rfl ?_ | refine DR ?_ | refine B9 ?_ | refine Bb ?_ | refine DS ?_ | refine B7 ?_ | refine tP ?_ | refine DU ?_ | refine DT ?_ | refine Ba ?_ | refine tK ?_ | refine tR ?_ | refine B8 ?_ | refine pJ ?_ | refine tJ ?_ | refine pE ?_ | refine tO ?_ | refine pF ?_ | refine pG ?_ | refine tH ?_ | refine pC ?_ | refine tN ?_ | refine tL ?_ | refine pH ?_ | refine pI ?_ | refine Bc ?_ | refine tF ?_ | refine tM ?_ | refine tI ?_ | refine pD ?_ | refine m6 ?_))
end L2
namespace L2
open PySem PySem.Spec PyProof.Rows
section
variable {σ:St} {H:Hp} {Q:VK} {D':Uf} {E:XK}
end
theorem Fun.okE {P:Program} {w:World} {K:Et} {mg:Str->Option Value} {base:Heap} {x qual:Str} {st:Stmt} {f:Addr} {fd:FuncData} {N ps:List Str} {k:Nat} {sp:Sp} (F:Fun K x qual st f fd) (S:yb N ps (zq st)) (len:∀vs H Q E,sp vs H Q E->vs.length=ps.length)
  (gk:∀(aO:Value) (A:Around) (outer:List Env) (s:Shared) (H:Hp) (vs:List V) (Q:VK) (E:XK),vV k (A.deeper (envOfC qual (zq st) s.heap.objs.size f aO))->sp vs H Q E->
   ∃t,PSs (zc4 (CXE P w) P w K mg base N qual (zq st) f aO A outer s H E) (zU st) t/\t {nx:=λ_ H'=>Q .non H',rt:=Q} (XR N vs) H):xJ P w K mg base (CXE P w) (k+1) f fd ps sp:=by
 obtain⟨oc,od,kV,doc,pm,an,aO,ct,ik,rfl,lk,eF⟩:=F.ex
 exact zlQ lk eF S len λA outer s H vs Q E hr iz=>gk aO A outer s H vs Q E hr iz
section
variable {σ:St} {H:Hp} {Q:VK} {D':Uf} {E:XK} {EX:Value->Hp->Prop}
end
section
variable {X:Cx} {K:Et}
theorem yR (h:X.K=K:=by rfl):IxR X (zkx K):=h ▸ zky
theorem zK (h:X.K=K:=by rfl):IxR X (zkw K):=h ▸ ziE
theorem wg (h:X.K=K:=by rfl):vF X (.builtin "isinstance") (ziJ K):=h ▸ zgO
theorem yK (h:X.K=K:=by rfl):vF X (.builtin "len") (λxs H Q=>∃p ys,xs=[.ref p]/\(SqL K H p ys\/SqT K H p ys)/\Q (.int ys.length) H):=h ▸ zb4
theorem Xo (h:X.K=K:=by rfl):vF X (.type "list") (λxs H Q=>∃p ys,xs=[.ref p]/\(SqL K H p ys\/SqT K H p ys)/\∀l,H l=none->Q (.ref l) (upd H l (.lst ys))):=h ▸ zb5
theorem UR (h:X.K=K:=by rfl):vF X (.type "tuple") (λxs H Q=>∃p ys,xs=[.ref p]/\((SqL K H p ys/\∀l,H l=none->Q (.ref l) (upd H l (.tup ys)))\/(SqT K H p ys/\Q (.ref p) H))):=h ▸ za8
theorem zgP (h:X.K=K:=by rfl):SlR X (zgC K):=h ▸ ziF
variable {tg l:Expr} {tl:TE}
theorem yo (hl:PE X l tl) (h:X.K=K:=by rfl):PI X tg l (zgy K tl):=h ▸ ziA hl
theorem ziK (hl:PE X l tl) (h:X.K=K:=by rfl):PI X tg l (zkq K tl):=h ▸ zkr hl
theorem wo {es:List Expr} {k:Nat} {t:TGs} {n:Nat} {pos:Pos} (hc:X.calm=true) (h:PGs X es t) (hK:X.K=K:=by rfl)
  (hn:(assignEach es X.env).length=n:=by rfl) (eI:(assignEach es X.env).findIdx? (·.1)=none:=by rfl):PG X (.Tuple es k pos) (ziz K n t):=hK ▸ zkn hc h hn eI
theorem xn {sc:Scope}:vG X sc [] []:=trivial
theorem yD {sc:Scope} {r:List (Option Nat)} {n:List Str} {x:Str} (h:vG X sc r n):vG X sc (none::r) (x::n):=h
theorem vJ {sc:Scope} {r:List (Option Nat)} {n:List Str} {x:Str} {i:Nat} (h1:X.N[i]? =some x) (h2:sc.names.lookup x=some .free) (h:vG X sc r n):vG X sc (some i::r) (x::n):=⟨⟨h1,h2⟩,h⟩
end
noncomputable def zjX (osc sc:Scope):Bool:=sc.names.all (λy=>y.2 != .cell)&&sc.kind== .function&&sc.names.all (λy=>y.2 != .local||sc.names.lookup y.1==some .local)&&
 sc.names.all (λy=>y.2 != .free||(osc.names.lookup y.1==some .cell||osc.names.lookup y.1==some .free))
theorem blk {X:Cx} {osc sc:Scope} (hs:X.env.scope=osc) (h:zjX osc sc=true):Wu X sc:=by
 unfold zjX at h
 simp only[Gg,G4,bne_iff_ne,ne_eq,beq_iff_eq,Bool.or_eq_true] at h
 obtain⟨⟨⟨h1,h2⟩,h3⟩,h4⟩:=h
 refine⟨h1,h2,λy hy e=>(h3 y hy).resolve_left λz=>z e,λy hy e=> ?_⟩
 show X.env.scope.names.lookup y.1=_\/X.env.scope.names.lookup y.1=_
 rw[hs]
 exact (h4 y hy).resolve_left λz=>z e
section
variable {g:TG} {tb:TS} {σ:St} {H:Hp} {nx:St->Hp->Prop} {rt:VK}
end
mutual
noncomputable def D.depth:D->Nat
 | .tup l=>D.depths l+1
 | .lst l=>D.depths l+1
 | .ins _ _ _=>1000
 |_=>0
noncomputable def D.depths:List D->Nat
 |[]=>0
 |d::r=>max (D.depth d) (D.depths r)
end
section
variable {X:Cx} {pins:List (Addr×Obj)} {σ:St} {H:Hp} {s:Shared}
end
section
variable {σ:St} {H:Hp} {Q:VK} {D':Uf} {cap:List (Option Nat)} {wi:TI} {g:TG} {tt:TT} {te:TE}
variable {acc:Addr} {H0:Hp} {Qh:Hp->Prop}
end
section
variable {X:Cx}
end
section
variable {X:Cx} {pins:List (Addr×Obj)} {σ:List (Option V)} {H H':Hp} {s:Shared} {h':Heap}
theorem Inv.turnedL {t':Nat} {fp:List Addr} (I:Inv X pins σ H s) (k:∀b o,b∉fp->s.heap.get? b=some o->h'.get? b=some o) (hf:∀b∈fp,za6 X pins H b):Inv X pins σ H {s with heap:=h',toks:=t'}:=by
 have jX:∀b u,H b=some u->b∉fp:=λb u e z=>by rw[(hf b z).1] at e;cases e
 refine I.step (g':=s.gens) (d':=s.drawn) (ch:=fp) (λb hb=> ?_) (λb o _ _ hc e _=>k b o hc e) (λb o _ _ hc e _=>⟨o.slots,k b o hc e⟩) (λ_ _ _ _ n=>n)
  (λb o hc e=>⟨o,k b o hc e⟩) (λ_ _ e=>e) (λ_ _ _ e=>e) (λb ps e=>⟨#[],by rw[e];simp⟩) (λm hm=> ?_) (λb u e=> ?_) I.bare
 ·obtain⟨f0,f1,f2,f3,f4,f5⟩:=hf b hb
  exact⟨f3,f1,f4,f5⟩
 ·obtain⟨o,es,ep,ho,r⟩:=hm
  exact⟨o,es,ep,k _ o (λz=>(hf _ z).2.1 rfl) ho,r⟩
 ·refine (I.hok b u e).stay (λc v hc q=>k c v ?_ q) (λ_ q=>q) λ_ _ q=>q
  rcases hc with z|z
  ·rw[z];exact jX b u e
  ·exact jX c _ z
theorem Inv.turnedT {t':Nat} {fp:List Addr} {ys:List V} {us:List Value} (I:Inv X pins σ H s) (hv:zY ys us) (hl:ys.length<=sizeLine) (k:∀b o,b∉fp->s.heap.get? b=some o->h'.get? b=some o)
  (hp:h'.get? s.heap.objs.size=some {cls:= .type "tuple",data:= .seq us.toArray}) (hf:∀b∈fp,za6 X pins H b) (hx:∀b∈fp,∃o,s.heap.get? b=some o):
  Inv X pins σ (upd H s.heap.objs.size (.tup ys)) {s with heap:=h',toks:=t'}/\H s.heap.objs.size=none/\∀b∈fp,upd H s.heap.objs.size (.tup ys) b=none:=by
 have fr:H s.heap.objs.size=none:=I.hok.fresh (EE _)
 have nb:∀b∈fp,b≠s.heap.objs.size:=λb hb z=>by
  obtain⟨o,e⟩:=hx b hb
  exact absurd (Heap.lt_size e) (by rw[z];exact FJ _)
 have fb:∀b∈fp,upd H s.heap.objs.size (.tup ys) b=none:=λb hb=>by rw[yj (nb b hb)];exact (hf b hb).1
 have I0:Inv X pins σ (upd H s.heap.objs.size (.tup ys)) {s with heap:=s.heap.push {cls:= .type "tuple",data:= .seq us.toArray}}:=
  I.laid (t':=s.toks) (λb o e=>Heap.get?_push_of_some _ e) (EE _) ⟨hl,us,hv,IsTup.new _ _⟩
 refine⟨Inv.turnedL (s:={s with heap:=s.heap.push {cls:= .type "tuple",data:= .seq us.toArray}}) (t':=t') (fp:=fp) I0 (λb o hb e=> ?_) (λb hb=> ?_),fr,fb⟩
 ·by_cases z:b=s.heap.objs.size
  ·subst z
   rw[Heap.get?_push_size _ rfl] at e
   cases e
   exact hp
  ·refine k b o hb ?_
   rwa [Heap.get?_push_ne _ _ _ z] at e
 ·obtain⟨f0,f1,f2,f3,f4,f5⟩:=hf b hb
  exact⟨fb b hb,f1,f2,f3,f4,f5⟩
end
noncomputable def Ite (K:Et) (a:Addr):It:=
 ⟨λi H=>∃xs x,SqL K H a xs/\xs[i]? =some x,λi H x H'=>∃p y,x= .ref p/\H p=none/\H'=upd H p (.tup [.int i,y])/\∀xs,SqL K H a xs->xs[i]? =some y,λi H=>∃xs,SqL K H a xs/\xs.length<=i⟩
theorem zfX {P:Program} {w:World} {K:Et} {elts:List Expr} {k:Nat} {tp:Pos} (a e it:Addr) (bZ:e≠it):
  zfK P w K (.Tuple elts k tp) (Ite K a) [e,it] e (λi h=>(∃old,IsEnum h e it i old)/\h.IsListIter it a i) where
 mem:=by simp
 obj:=λi h st b hb=>by
  obtain⟨⟨old,he⟩,o,e',c,d⟩:=st
  rcases (by simpa using hb:b=e\/b=it) with rfl|rfl
  ·exact⟨_,he,λv z=>by cases z⟩
  ·exact⟨o,e',λv z=>by rw[d] at z;cases z⟩
 keep:=λi h h' st k=>⟨let ⟨old,he⟩:=st.1;⟨old,k e (by simp) _ he⟩,st.2.at λo e=>k it (by simp) o e⟩
 item:=by
  intro X hP hw hK hc i pins s σ H E I hf st hg
  subst hP hw hK
  obtain⟨xs,x,hq,hx⟩:=hg
  obtain⟨ae,rv,p,hz⟩:=I.list hq
  obtain⟨u,hu,ru⟩:=rv.get hx
  obtain⟨⟨old,he⟩,hit⟩:=st
  refine wpAny_pyNext_enum_item he hit p.isList (x:=u) (by simpa using hu) bZ λh1 iH hJ gH DV BP=> ?_
  refine⟨_,rfl,?_⟩
  refine wpAny_letOwnedTupleGo_enum (s:={s with heap:=h1,toks:=s.toks+1}) iH λh2 jk iC=> ?_
  have iC:Heap.SameBut e h1 h2:=iC
  have AG:e<s.heap.objs.size:=Heap.lt_size he
  have vv:zY [V.int i,x] [.int i s.toks,u]:= .cons ⟨_,rfl⟩ (.cons ru .nil)
  have T:=Inv.turnedT (h':=h2) (t':=s.toks+1) (fp:=[e,it]) I vv (by show 2<=sizeLine;decide) (λb o hb eb=> ?_) ((iC.2 _ (Hi AG)).trans gH) hf (λb hb=> ?_)
  ·obtain⟨I2,fr,fb⟩:=T
   exact⟨.ref s.heap.objs.size,_,I2,rfl,⟨_,x,rfl,fr,rfl,λys hy=>by rw[I.list_inj hy hq];exact hx⟩,⟨⟨_,jk⟩,hJ.at λo eo=>(iC.2 it bZ.symm).trans eo⟩,fb⟩
  ·have hb:b≠e/\b≠it:=by simpa using hb
   exact (iC.2 b hb.1).trans (BP b o hb.1 hb.2 eb)
  ·obtain⟨o,eo,_⟩:=hit
   rcases (by simpa using hb:b=e\/b=it) with rfl|rfl
   ·exact⟨_,he⟩
   ·exact⟨o,eo⟩
 done:=by
  intro X hP hw hK hc i pins s σ H E I hf st hg
  subst hP hw hK
  obtain⟨xs,hq,hx⟩:=hg
  obtain⟨ae,rv,p,hz⟩:=I.list hq
  have hl:=rv.length
  obtain⟨⟨old,he⟩,hit⟩:=st
  exact wpAny_pyNext_enum_end (I.ok.hd hc) he hit p.isList (by simp;omega) λh' eb=>⟨rfl,Inv.turnedL (t':=s.toks) (fp:=[e,it]) I (λb o hb eo=>eb b o (λz=>hb (by simp[z])) eo) hf⟩
 self:=λ_ _ _ _ _ st h=>let ⟨⟨_,he⟩,_⟩:=st;wpAny_pyIter_enum he h
section
variable {X:Cx}
def zjY (K:Et) (ta:TA):TI:=λσ H R=>ta σ H λvs H1=>∃a,vs=[.ref a]/\(∃xs,SqL K H1 a xs)/\R (Ite K a) H1
theorem VB {K:Et} {elts:List Expr} {k:Nat} {tp:Pos} {l:Expr} {ta:TA} {p pos:Pos} (hg:Gl X "enumerate") (hm:X.mg "enumerate"=none) (ha:PA X [l] ta) (hK:X.K=K:=by rfl) (hs:starEach [l] X.env=[(false,eval l X.env)]:=by rfl):
  PI X (.Tuple elts k tp) (.Call (.Name "enumerate" p) [l] [] pos) (zjY K ta):=by
 subst hK
 intro pins s σ H R I h
 refine Call_ (Yw I hg hm Boot.«enumerate» (FU (thn (ha pos pins s σ H _ I h) λus s1 ⟨vs,H1,I1,r1,q1⟩=> ?_) hs rfl))
 obtain⟨a,e,⟨xs,hq⟩,q⟩:=q1
 subst e
 obtain⟨u,rfl,ru⟩:=ZZ r1
 cases ru
 obtain⟨ae,rv,p,hz⟩:=I1.list hq
 refine call_enumerate_list p.isList λh' he hit hsz hk=> ?_
 have I2:Inv X pins σ H1 {s1 with heap:=h'}:=I1.kept (t':=s1.toks) hk
 refine wpAny_pyIter_enum (s:={s1 with heap:=h'}) he ?_
 refine⟨s1.heap.objs.size+1,[s1.heap.objs.size+1,s1.heap.objs.size],_,_,H1,rfl,I2,zfX a (s1.heap.objs.size+1) s1.heap.objs.size (Jt _),⟨⟨_,he⟩,hit⟩,λb hb=> ?_,q⟩
 have hb:s1.heap.objs.size<=b:=by
  rcases (by simpa using hb:b=s1.heap.objs.size+1\/b=s1.heap.objs.size) with rfl|rfl
  ·exact GK _
  ·exact EE _
 exact Inv.fpOk I1 hb (I1.hok.fresh hb)|>λ⟨f0,f1,f2,f3,f4,f5⟩=>⟨f0,f1,f2,f3,f4,f5⟩
end
structure ZA (z TI TO i1 i2:Addr):Prop where
 TIz:TI≠z
 TOz:TO≠z
 i1z:i1≠z
 i2z:i2≠z
 TITO:TI≠TO
 TIi1:TI≠i1
 TIi2:TI≠i2
 TOi1:TO≠i1
 TOi2:TO≠i2
 i12:i1≠i2
section
variable {X:Cx}
end
section
variable {σ:St} {H:Hp} {cap:List (Option Nat)} {g:TG} {tt:TT} {te:TE} {acc:Addr} {H0:Hp} {Qh:Hp->Prop}
structure zmw (J:It) (n:Nat) (f:Nat->Option (V×V)) (ok:Hp->Prop):Prop where
 go:∀i H,ok H->i<n->J.go i H
 stop:∀H,ok H->J.stop n H
 yld:∀i H x H',ok H->i<n->J.yld i H x H'->∃p u v,x= .ref p/\H p=none/\H'=upd H p (.tup [u,v])/\f i=some (u,v)
end
section
variable {σ:St} {H:Hp} {Q:VK} {D':Uf}
end
section
variable {σ:St} {H:Hp} {Q:VK}
end
open Classical in
noncomputable def frG (H H':Hp):Hp:=λb=>match H' b with
 |some (.lst xs)=>if H b=none then some (.lst xs) else none
 |o=>o
def Dom (H H':Hp):Prop:=∀b,H' b=none->H b=none
structure Acc (K:Et) (H0:Hp) (acc:Addr) (ys:List V) (ds:List D) (H:Hp):Prop where
 at_:H acc=some (.lst ys)
 new:IsL K (frG (upd H0 acc (.lst [])) H) ys ds
 same:WH H0 H
 dom:Dom (upd H0 acc (.lst [])) H
section
variable {X:Cx}
theorem Uj (ns:List Int):∀k,preSum (λi=>ns.getD i 0) k=(ns.take k).sum
 |0=>by simp[preSum]
 |k+1=>by
  unfold preSum
  rw[Uj ns k,List.take_add_one,IE]
  cases h:ns[k]? <;>simp[Ew,h]
def zlU (K:Et):List V->Hp->VK->Prop:=λxs H Q=>∃(p:Addr) (ns:List Int),xs=[.ref p]/\SqL K H p (ns.map V.int)/\Q (.int ns.sum) H
theorem YS {K:Et} (hc:X.calm=true) (hK:X.K=K:=by rfl):vF X (.builtin "sum") (zlU K):=by
 subst hK
 intro pins s σ H xs us Q I r h
 obtain⟨p,ns,rfl,hq,q⟩:=h
 obtain⟨u,rfl,ru⟩:=ZZ r
 cases ru
 obtain⟨ae,rv,pl,hz⟩:=I.list hq
 have lt:p<s.heap.objs.size:=by
  obtain⟨o,n,e,_⟩:=id pl
  exact Heap.lt_size e
 have hl:=rv.length
 rw[Eu] at hl
 refine call_sum_walkAnyS (wpAny_pyIter_list pl.isList ?_)
 have W:=(Walks.list (prog:=X.prog) (w:=X.w) (A:=X.A.in1) (I.ok.hd hc) s.heap.objs.size p (EH lt) ae.toArray).toS
 refine⟨s.heap.objs.size,_,_,_,_,_,_,λi=>ns.getD i 0,rfl,W,?_,?_,?_,?_⟩
 ·exact⟨⟨_,Heap.get?_push_size _ rfl,rfl,rfl⟩,Heap.IsList.push pl.isList _⟩
 ·intro b hb
  rw[Heap.size_push]
  rcases (by simpa using hb:b=s.heap.objs.size\/b=p) with rfl|rfl
  ·exact G5 _
  ·exact FI lt
 ·intro i v hv
  have hv:ae[i]? =some v:=by simpa using hv
  have hi:i<ns.length:=by rw[hl];exact (Es.1 hv).1
  obtain⟨u,hu,t,ru⟩:=rv.get (i:=i) (x:=V.int ns[i]) (by rw[EB,Er hi];rfl)
  rw[hu] at hv
  cases hv
  refine⟨t,?_⟩
  rw[ru]
  show Value.int ns[i] t=Value.int (ns.getD i 0) t
  rw[Ew,Er hi,Ju]
 ·intro s' t' m
  have I1:Inv X pins σ H {s with heap:=s'.heap,toks:=s'.toks}:=I.kept λb o e=>m.heap b o (λz=>by
   have z:b=s.heap.objs.size:=by simpa using z
   exact absurd (Heap.lt_size e) (by rw[z];exact FJ _)) (Heap.get?_push_of_some _ e)
  have e:({s with heap:=s'.heap,toks:=s'.toks}:Shared)=s':=by
   have h1:=m.gens
   have h2:=m.drawn
   have h3:=m.os
   cases s'
   simp only at h1 h2 h3
   subst h1 h2 h3
   rfl
  rw[e] at I1
  refine⟨.int ns.sum,H,I1,⟨t',?_⟩,q⟩
  rw[Uj]
  have:ae.toArray.size=ns.length:=by rw[F1,<-hl]
  rw[this,F9]
end
section
variable {σ:St} {H:Hp} {Q:VK}
end
section
variable {σ:St} {H:Hp} {v:V}
end
end L2
namespace L2
open PySem PySem.Spec PyProof.Rows PyProof
section
variable {X:Cx}
theorem zkE {K:Et} {a b:String} (h1:(Value.type a==Value.type b)=false) (h:(fastBuiltinMro a).map (·.contains (.type b))=some false) (hm:GB b=true) (hs:HU K (.type a) (.type b)=(fastBuiltinMro a).map (·.contains (.type b))):FE K (.type a) (.type b)=some false:=by
 unfold FE IX
 rw[if_neg (by rw[h1];decide)]
 show (if GB b=true then HU K (.type a) (.type b) else none)=_
 rw[if_pos hm,hs,h]
end
end L2
namespace L2
open PySem PySem.Spec PyProof.Rows
open AutoSeq1 (wpAny_loadPart')
section
variable {prog:Program} {w:World} {A:Around} {E:Value->Shared->Prop} {s:Shared}
end
section
variable {X:Cx}
end
end L2
namespace L2
open PySem PySem.Spec PyProof.Rows
section
variable {prog:Program} {w:World} {A:Around} {E:Value->Shared->Prop} {s:Shared}
noncomputable abbrev zT1 (h:Heap) (l1:Addr):Heap:=h.push {cls:= .type "tuple_iterator",data:= .fields #[.ref l1,.int 0 0]}
noncomputable abbrev zT2 (h:Heap) (l1 l2:Addr):Heap:=(zT1 h l1).push {cls:= .type "tuple_iterator",data:= .fields #[.ref l2,.int 0 0]}
noncomputable abbrev zT3 (h:Heap) (l1 l2:Addr):Heap:=(zT2 h l1 l2).push {cls:= .type "tuple",data:= .seq #[.ref h.objs.size,.ref (zT1 h l1).objs.size]}
noncomputable abbrev zT4 (h:Heap) (l1 l2:Addr):Heap:=(zT3 h l1 l2).push {cls:= .type "tuple",data:= .seq #[.none,.none]}
noncomputable abbrev zT5 (h:Heap) (l1 l2:Addr):Heap:=(zT4 h l1 l2).push {cls:= .type "zip",data:= .fields #[.none,.bool false,.bool false,.ref (zT2 h l1 l2).objs.size,.ref (zT3 h l1 l2).objs.size]}
end
section
variable {X:Cx}
end
mutual
def D.small (n:Nat):D->Prop
 | .int i=>i.natAbs<2^n
 | .tup l=>D.smalls n l
 | .lst l=>D.smalls n l
 | .non=>True
 | .bl _=>True
 | .str _=>False
 | .ins _ _ _=>False
def D.smalls (n:Nat):List D->Prop
 |[]=>True
 |d::r=>D.small n d/\D.smalls n r
end
mutual
noncomputable def D.wt (n:Nat):D->Nat
 | .tup l=>D.wts n l
 | .lst l=>D.wts n l
 | .int _=>n
 |_=>0
noncomputable def D.wts (n:Nat):List D->Nat
 |[]=>0
 |d::r=>D.wt n d+1+D.wts n r
end
section
variable {X:Cx} {pins:List (Addr×Obj)} {σ:St} {H:Hp} {s:Shared}
end
structure zmq (n:Nat) (d:D):Prop where
 seq:∃l,d= .tup l\/d= .lst l
 small:D.small n d
 n0:8<=n
 n1:n<=1900
 deep:D.depth d<=40
 size:(n+3)*D.wt n d+n+1<=16777216
section
variable {X:Cx}
end
noncomputable abbrev zlV (t:Addr) (i:Int):Obj:={cls:= .type "reversed",data:= .fields #[.ref t,rawInt i]}
noncomputable abbrev zmz (h:Heap) (a t:Addr) (i:Int):Prop:=h.get? a=some (zlV t i)
section
variable {prog:Program} {w:World} {A:Around} {E:Value->Shared->Prop} {s:Shared}
end
section
variable {X:Cx} {tg:Expr}
end
end L2
namespace L2
open PySem PySem.Spec PyProof.Rows PyProof
section
variable {X:Cx}
end
end L2
namespace L2
open PySem PySem.Spec PyProof.Rows
section
variable {X:Cx}
theorem Inv.lstR {pins:List (Addr×Obj)} {σ:St} {H:Hp} {s:Shared} {l:Addr} {xs:List V} (I:Inv X pins σ H s) (hH:SqX X.K H l xs):xs.length<=sizeLine/\∃(ae:List Value) (n:Nat),zY xs ae/\xs.length=ae.length/\s.heap.get? l=some {cls:= .type "list",data:= .seq ae.toArray n}:=by
 rcases hH with hH|⟨ae,n,hk,hz,r⟩
 ·obtain⟨z,ae,n,r,e⟩:=hH.ok I.hok
  exact⟨z,ae,n,r,r.length,e⟩
 ·have hl:=r.length
  have eD:ae.toList.length=ae.size:=FC
  exact⟨⋯,ae.toList,n,r,r.length,I.kIn l _ hk⟩
end
theorem zfY:typeLookup (.type "list_reverseiterator") "__len__"=pure none:=by rw[typeLookup_type,builtinLookup_eq_fast];kernel_rfl
theorem zgQ:typeLookup (.type "list_reverseiterator") "__length_hint__"=pure (some (.builtin "list_reverseiterator.__length_hint__")):=by rw[typeLookup_type,builtinLookup_eq_fast];kernel_rfl
section
variable {prog:Program} {w:World} {A:Around} {E:Value->Shared->Prop} {s:Shared}
theorem zeb {R:Result->Shared->Prop} (hh:A.handled=none) {it l:Addr} {items:Array Value} (hn:items.size<=sizeLine) (S:Addr) (res:Value) (c₀:Nat) (hS:s.heap.get? S=some {cls:= .type "list",data:= .seq #[] c₀})
  (hit:s.heap.IsRevIter it l ((items.size:Int)-1)) (hl:s.heap.IsList l items) (kC:l≠it) (uL:S≠it) (CK:S≠l)
  (hR:∀h' tk acc' c',(∀b o,b≠S->b≠it->s.heap.get? b=some o->h'.get? b=some o)->h'.get? S=some {cls:= .type "list",dict:=none,data:= .seq acc' c',slots:= #[]}->
   ItemsOf (λi v=>items[items.size-1-i]? =some v) acc' items.size->R (.ok (.ret res)) {s with heap:=h',toks:=tk}):
  wpAny (model prog w) A.in1 (Builtin.List.listExtendWith (.ref S) (.ref it) res)
   (λfin s'=>match fin with| .done f=>R (.ok f) s'| .again c'=>c'.quiet=true/\codeAny (model prog w) A c' R s') (λe s'=>R (.error e) s') s:=by
 have mD:S∉[it,l]:=λhm=>by
  rcases EJ.mp hm with e|hm
  ·exact uL e
  ·exact CK (EZ.mp hm)
 have W:=(Walks.listRev (prog:=prog) (w:=w) (A:=A.in1) hh it l kC items).toS
 have eI:0<=items.size/\s.heap.IsRevIter it l ((items.size:Int)-1-((0:Nat):Int))/\s.heap.IsList l items:=⟨Gk _,by simpa using hit,hl⟩
 unfold Builtin.List.listExtendWith
 refine wpAny_bind (wpAny_typeOf (T:="list_reverseiterator") hit.typeIs ?_)
 have h1:Builtin.List.listSameRef (.ref S) (.ref it)=false:=by simp[Builtin.List.listSameRef,uL]
 rw[if_neg (by rw[h1];decide)]
 refine wpAny_bind (wpAny_pyIter_revIter hit ?_)
 refine wpAny_bind (wpAny_holding ?_)
 unfold Builtin.List.listLengthHint
 refine wpAny_bind (wpAny_specialOf hit.typeIs zfY ?_)
 show wpAny _ A.in1 (specialOf (Value.ref it) (Str.ofString "__length_hint__")>>=_) _ _ _
 refine wpAny_bind (wpAny_specialOf hit.typeIs zgQ ?_)
 (generalize hid:("list_reverseiterator.__length_hint__":String)=lZ;(fail_if_success (clear hid lZ));wp_delta;rw[show splitId lZ=some ("list_reverseiterator","__length_hint__") from by subst hid;decide+kernel];subst hid)
 refine wpAny_bind (wpAny_isInstance (b:=true) hit.typeIs (by rw[isSubtype_type];kernel_rfl) ?_)
 refine wpAny_pure ?_
 rw[if_neg ∅]
 refine wpAny_pure ⟨plainId_quiet F.plain_extend_loop _,codeAny_extend_loopS W hn _ mD _ items.size 0 _ _ _ rfl (Gk _) eI hS (ItemsOf.nil _) λs' acc' c' hm i7 b9=> ?_⟩
 rw[Moved.eq_with hm]
 refine hR s'.heap s'.toks acc' c' (λb ob hb uK e=>hm.heap b ob (λaC=> ?_) e) i7 b9
 rcases EJ.mp aC with e'|aC
 ·exact hb e'
 ·exact uK (EZ.mp aC)
theorem zbd {Q:Value->Shared->Prop} (hh:A.handled=none) {it l:Addr} {items:Array Value} (hn:items.size<=sizeLine) (hit:s.heap.IsRevIter it l ((items.size:Int)-1)) (hl:s.heap.IsList l items) (kC:l≠it)
  (hQ:∀h' tk acc' c',(∀b o,b≠it->s.heap.get? b=some o->h'.get? b=some o)->
   h'.get? s.heap.objs.size=some {cls:= .type "list",dict:=none,data:= .seq acc' c',slots:= #[]}->ItemsOf (λi v=>items[items.size-1-i]? =some v) acc' items.size->Q (.ref s.heap.objs.size) {s with heap:=h',toks:=tk}):
  wpAny (model prog w) A (call (.type "list") [.ref it]) Q E s:=by
 refine callType_codes (Q₁:=λobj s₁=>obj= .ref s.heap.objs.size/\s₁={s with heap:=s.heap.push {cls:= .type "list",data:= .seq #[]}}) F.called_list (F.typeCall_list_1 _) F.entry_list_init
  (code_list_new _ ⟨rfl,rfl⟩) λobj s₁ h₁=> ?_
 obtain⟨rfl,rfl⟩:=h₁
 have hS:(s.heap.push {cls:= .type "list",data:= .seq #[]}).get? s.heap.objs.size=some {cls:= .type "list",data:= .seq #[]}:=Heap.get?_push_size _ rfl
 refine⟨⟨_,hS,rfl⟩,F.args_list_init_2 _ _,?_⟩
 show wpAny _ _ (do let old <-Builtin.List.listItems (.ref s.heap.objs.size);Builtin.List.listUpdate (.ref s.heap.objs.size) (λ_=> #[]);letGo old.toList.reverse;Builtin.List.listExtendWith (.ref s.heap.objs.size) (.ref it) .none) _ _ _
 refine wpAny_bind ?_
 unfold Builtin.List.listItems
 refine wpAny_bind (wpAny_seqItems hS rfl (wpAny_pure ?_))
 show wpAny _ _ (updateSeq s.heap.objs.size (λ_=> #[])>>=λ_=>letGo (#[]:Array Value).toList.reverse>>=λ_=>Builtin.List.listExtendWith (.ref s.heap.objs.size) (.ref it) .none) _ _ _
 refine wpAny_bind (wpAny_updateSeq hS rfl ?_)
 have CI:=Heap.get?_update_self (Obj.mapSeq (λ_=>(#[]:Array Value))) hS rfl
 have ltI:it<s.heap.objs.size:=let ⟨_,ho,_⟩:=hit;Heap.lt_size ho
 have lX:l<s.heap.objs.size:=let ⟨_,ho,_⟩:=hl;Heap.lt_size ho
 have oth:∀b o,b≠s.heap.objs.size->(s.heap.push {cls:= .type "list",data:= .seq #[]}).get? b=some o->((s.heap.push {cls:= .type "list",data:= .seq #[]}).update s.heap.objs.size (Obj.mapSeq (λ_=>(#[]:Array Value)))).get? b=some o:=
  λb o hb e=>(Heap.get?_update_other _ _ (GP hb)).trans e
 have old:∀b o,s.heap.get? b=some o->((s.heap.push {cls:= .type "list",data:= .seq #[]}).update s.heap.objs.size (Obj.mapSeq (λ_=>(#[]:Array Value)))).get? b=some o:=
  λb o e=>oth b o (EH (Heap.lt_size e)) (Heap.get?_push_of_some _ e)
 refine wpAny_bind (wpAny_letGo ?_)
 refine zeb (A:=A.in1) (items:=items) hh hn s.heap.objs.size .none _ CI (hit.at λo e=>old _ o e) (hl.at λo e=>old _ o e) kC (GP (EH ltI)) (GP (EH lX)) λh' tk acc' c' hk i7 b9=> ?_
 exact⟨rfl,hQ h' tk acc' c' (λb o hb e=>hk b o (EH (Heap.lt_size e)) hb (old b o e)) i7 b9⟩
end
section
variable {X:Cx}
def zdm (K:Et) (te:TE):TE:=λσ H Q=>te σ H λx H1=>∃p ys,x= .ref p/\SqX K H1 p ys/\∀l,H1 l=none->Q (.ref l) (upd H1 l (.lst ys.reverse))
theorem zec {K:Et} {e:Expr} {te:TE} {p p2 pos dG:Pos} (hc:X.calm=true) (hg:Gl X "list") (hm:X.mg "list"=none) (ji:Gl X "reversed") (ku:X.mg "reversed"=none) (ha:PE X e te) (hK:X.K=K:=by rfl)
  (jk:starEach [e] X.env=[(false,eval e X.env)]:=by rfl) (he:starEach [.Call (.Name "reversed" p2) [e] [] dG] X.env=[(false,eval (.Call (.Name "reversed" p2) [e] [] dG) X.env)]:=by rfl):
  PE X (.Call (.Name "list" p) [.Call (.Name "reversed" p2) [e] [] dG] [] pos) (zdm K te):=by
 subst hK
 intro pins s σ H Q I h
 refine wpAny_Call_Name_kw (Yw I hg hm boot_list ?_ ∅ ∅)
 refine FU ?_ he rfl
 rw[he]
 show wpAny _ _ (spliced ((false,eval (.Call (.Name "reversed" p2) [e] [] dG) X.env)::backTo pos [])) _ _ s
 refine Calls.spliced_cons ?_
 refine wpAny_Call_Name_kw (Yw I ji ku Boot.«reversed» ?_ ∅ ∅)
 refine FU ?_ jk rfl
 refine thn (za ha zg jk dG pins s σ H (λvs H1=>∃p ys,vs=[.ref p]/\SqX X.K H1 p ys/\∀l,H1 l=none->Q (.ref l) (upd H1 l (.lst ys.reverse))) I ?_) λus s1 ⟨vs,H1,I1,r1,q1⟩=> ?_
 ·have h:te σ H λx H1=>∃p ys,x= .ref p/\SqX X.K H1 p ys/\∀l,H1 l=none->Q (.ref l) (upd H1 l (.lst ys.reverse)):=h
  show te σ H λx H1=>∃p ys,[x]=[V.ref p]/\SqX X.K H1 p ys/\∀l,H1 l=none->Q (.ref l) (upd H1 l (.lst ys.reverse))
  have e:(λ(x:V) (H1:Hp)=>∃p ys,[x]=[V.ref p]/\SqX X.K H1 p ys/\∀l,H1 l=none->Q (.ref l) (upd H1 l (.lst ys.reverse)))=λx H1=>∃p ys,x= .ref p/\SqX X.K H1 p ys/\∀l,H1 l=none->Q (.ref l) (upd H1 l (.lst ys.reverse)):=by
   funext x H1
   simp
  rw[e]
  exact h
 obtain⟨p,ys,rfl,hq,q⟩:=q1
 obtain⟨u,rfl,ru⟩:=ZZ r1
 cases ru
 obtain⟨z,ae,n,r,hl,e1⟩:=I1.lstR hq
 have hL:s1.heap.IsList p ae.toArray:=⟨_,e1,rfl,n,rfl⟩
 have AF:p<s1.heap.objs.size:=Heap.lt_size e1
 refine call_reversed_list hL ?_
 refine Calls.spliced_nil ?_
 refine zbd (items:=ae.toArray) (I1.ok.hd hc) (by rw[F1];omega) ⟨_,Heap.get?_push_size _ rfl,rfl,rfl⟩ (hL.push _) (EH AF) λh' tk acc' c' hk i7 b9=> ?_
 have kept:∀b o,s1.heap.get? b=some o->h'.get? b=some o:=λb o e=>hk b o (EH (Heap.lt_size e)) (Heap.get?_push_of_some _ e)
 have hsz:s1.heap.objs.size<=(s1.heap.push (revObj p ((ae.toArray.size:Int)-1))).objs.size:=by rw[Heap.size_push];exact GK _
 have ha:acc'.toList=ae.reverse:=by
  obtain⟨a1,a2⟩:=b9
  refine Gr λi=> ?_
  by_cases hi:i<ae.length
  ·have cA:i<acc'.size:=by rw[a1,F1];exact hi
   have e3:acc'.toList[i]? =some acc'[i]:=by simp[cA]
   have e4:=a2 i acc'[i] (by simp[cA])
   rw[e3,Hy hi,<-e4]
   simp
  ·rw[Fe (by simp[a1];omega),Fe (by simp;omega)]
 have hv:zY ys.reverse ae.reverse:=r.reverse
 refine⟨.ref _,_,I1.laid (o:= .lst ys.reverse) (t':=tk) kept hsz ⟨by rw[Gd];exact z,ae.reverse,c',hv,?_⟩,rfl,q _ (I1.hok.fresh hsz)⟩
 rw[i7,<-ha]
end
end L2
namespace HT
open PySem PyProof.Rows
section
variable {prog:Program} {w:World} {A:Around} {E:Value->Shared->Prop} {s:Shared}
end
end HT
namespace L2
open PySem PySem.Spec PyProof.Rows
section
variable {X:Cx}
section
variable {X:Cx} {tg:Expr}
end
end
section
variable {env:Env} {r:List Expr}
theorem yQ {a b c}:starEach (.Tuple a b c::r) env=(false,eval (.Tuple a b c) env)::starEach r env:=by rw[starEach];simp
theorem zcc {a b}:starEach (.List a b::r) env=(false,eval (.List a b) env)::starEach r env:=by rw[starEach];simp
theorem zj {a b c}:starEach (.Constant a b c::r) env=(false,eval (.Constant a b c) env)::starEach r env:=by rw[starEach];simp
theorem zi {a b}:starEach (.Name a b::r) env=(false,eval (.Name a b) env)::starEach r env:=by rw[starEach];simp
theorem zX {a b c}:starEach (.Subscript a b c::r) env=(false,eval (.Subscript a b c) env)::starEach r env:=by rw[starEach];simp
theorem yi {a b c d}:starEach (.BinOp a b c d::r) env=(false,eval (.BinOp a b c d) env)::starEach r env:=by rw[starEach];simp
theorem zed {a b c}:starEach (.UnaryOp a b c::r) env=(false,eval (.UnaryOp a b c) env)::starEach r env:=by rw[starEach];simp
theorem yc {a b c d}:starEach (.Call a b c d::r) env=(false,eval (.Call a b c d) env)::starEach r env:=by rw[starEach];simp
end
end L2
namespace L2
open PySem PySem.Spec PyProof.Rows PySem.Builtin
section
variable {X:Cx}
end
end L2
namespace L2
open PySem PySem.Spec PyProof.Rows PySem.Calls
noncomputable def yX (ns:List Int):List Int:=ns.mergeSort λa b=>decide (a<=b)
theorem Zc (ns:List Int):(yX ns).Perm ns:=J8 _ _
theorem zcd (ns:List Int):(yX ns).Pairwise (· <= ·):=by
 have h:=Iw (le:=λa b:Int=>decide (a<=b)) (by intro a b c h1 h2;simp at*;omega) (by intro a b;simp;omega) ns
 exact h.imp λh=>by simpa using h
theorem TZ {ns ms:List Int} (p:ms.Perm ns) (o:ms.Pairwise (· <= ·)):ms=yX ns:=Jv (p.trans (Zc ns).symm) o (zcd ns)
theorem YT (ns:List Int):(yX ns).length=ns.length:=(Zc ns).length_eq
section
variable {X:Cx}
end
section
variable {prog:Program} {w:World} {A:Around} {E:Value->Shared->Prop} {s:Shared} {T:String} {r d:Addr} {n:Nat} {P:Nat->Value->Prop} {OK:Heap->Prop} {Q:Value->Shared->Prop}
theorem XU {R:List Value->Shared->Prop} (K:Hl prog w T r d n P OK) (hh:A.handled=none) (hok:OK s.heap) (hn:n<=sizeLine)
  (fin:∀(g:Heap) (k:Nat) (xs:Array Value),(∀b o,s.heap.get? b=some o->g.get? b=some o)->s.heap.objs.size<g.objs.size->ItemsOf P xs n->R xs.toList {s with heap:=g,toks:=k}):
  wpAny (model prog w) A (collect (.ref r)) R E s:=by
 obtain⟨lr,ld⟩:=K.there _ hok
 unfold collect
 refine wpAny_bind (wpAny_runValue ?_)
 refine codeAny_builtin entry_proto_collect' ?_
 rw[Around.under_plainId HP _]
 refine wpAny_bind (m:=newList []) ?_
 refine wpAny_newObj_type ?_
 refine wpAny_pure ⟨plainId_quiet GN _,?_⟩
 refine codeAny_builtin entry_list_iadd' ?_
 rw[Around.under_plainId GN _]
 have dZ:(s.heap.push {cls:= .type "list",data:= .seq ([]:List Value).toArray}).get? s.heap.objs.size=some {cls:= .type "list",data:= .seq #[]}:=Heap.get?_push_size _ rfl
 have step:=PySem.W.kdl_extend (A:=A) (s:={s with heap:=s.heap.push {cls:= .type "list",data:= .seq ([]:List Value).toArray}})
  (R:=λ(q:Result) (s':Shared)=>∃(g:Heap) (k:Nat) (xs:Array Value) (c:Nat),q= .ok (.ret (.ref s.heap.objs.size))/\s'={s with heap:=g,toks:=k}/\(∀b o,s.heap.get? b=some o->g.get? b=some o)/\
   g.get? s.heap.objs.size=some {cls:= .type "list",dict:=none,data:= .seq xs c,slots:= #[]}/\ItemsOf P xs n)
  K hh (K.keep _ _ hok λ_ _ _ e=>Heap.get?_push_of_some _ e) s.heap.objs.size (Hi lr) (Hi ld) (.ref s.heap.objs.size) 0 dZ
  (λg k xs c kp ha it=>⟨g,k,xs,c,rfl,rfl,λb o e=>kp b o (EH (Heap.lt_size e)) (Heap.get?_push_of_some _ e),ha,it⟩) hn
 refine wpAny_mono step (λf s' x=> ?_) λe s' x=> ?_
 ·cases f with
  |done f0=>
   obtain⟨g,k,xs,c,e,rfl,kp,ha,it⟩:=x
   cases e
   exact wpAny_bind (wpAny_load ha (wpAny_pure (fin g k xs kp (Heap.lt_size ha) it)))
  |again c0=>
   refine⟨x.1,codeAny_mono x.2 λq s2 y=> ?_⟩
   obtain⟨g,k,xs,c,rfl,rfl,kp,ha,it⟩:=y
   exact wpAny_bind (wpAny_load ha (wpAny_pure (fin g k xs kp (Heap.lt_size ha) it)))
 ·obtain⟨_,_,_,_,z,_⟩:=x
  cases z
theorem zee (K:Hl prog w T r d n P OK) (hh:A.handled=none) (hok:OK s.heap) (hn:n<=sizeLine) (cP:n<64) {ns:List Int} (iD:∀vs:List Value,vs.length=n->(∀(j:Nat) (v:Value),vs[j]? =some v->P j v)->IntsAre vs ns)
  (h:∀(D:Addr) (h':Heap) (tk e:Nat) (out:Array Value),(∀b o,s.heap.get? b=some o->h'.get? b=some o)->s.heap.objs.size<=D->h'.get? D=some (seqObj "list" out e)->IntsAre out.toList (yX ns)->Q (.ref D) {s with heap:=h',toks:=tk}):
  wpAny (model prog w) A (call (.builtin "sorted") [.ref r]) Q E s:=by
 refine call_function_entry kind_sorted plain_sorted entry_sorted (args_sorted1 _) ?_
 unfold Builtin.«sorted»
 refine wpAny_bind (m:=checkCount "sorted" 1 1 _) (wpAny_pure ?_)
 refine wpAny_bind (XU (A:=A.in1) K hh hok hn λh' tk acc hk cC b9=> ?_)
 have hl:acc.toList.length=n:=by rw[FC];exact b9.1
 have hI:=iD acc.toList hl (λj v e=>b9.2 j v (by rw[<-FQ];exact e))
 refine wpAny_bind (wpAny_newList ?_ (by rw[hl];exact hn))
 have kh:(h'.push {cls:= .type "list",data:= .seq acc.toList.toArray}).get? h'.objs.size=some (seqObj "list" acc.toList.toArray 0):=Heap.get?_push_size _ rfl
 have hsz:s.heap.objs.size<=h'.objs.size:=Fc cC
 refine wpAny_bind (wpAny_holding (wpAny_call_entry slot_list_sort ⟨_,kh,rfl⟩ entry_list_sort (list_sort_tree kh hI ⋯ λout ns' a1 a2 a3=>⟨_,rfl,?_⟩) (args_list_sort _)))
 obtain rfl:=TZ a2 a3
 obtain⟨e,he⟩:=sortedHeap_at (out:=out) kh
 refine wpAny_pure ⟨_,rfl,h _ _ tk e out (λb o eb=> ?_) hsz he a1⟩
 have hb:=hk b o eb
 have lt:=Heap.lt_size hb
 rw[sortedHeap_old (EH lt) (by rw[Heap.size_push];exact FI lt)]
 exact Heap.get?_push_of_some _ hb
end
section
variable {X:Cx}
theorem zbF {P:Program} {w:World} {kvs:List (Key×V)} {vs:List (Key×Value)} {ns:List Int} (rel:KV kvs vs) (hk:kvs.map (·.1)=ns.map Ft) (us:List Value) (hl:us.length=vs.length)
  (hp:∀(i:Nat) (u:Value),us[i]? =some u->∃k x,vs[i]? =some (k,x)/\(zT P w).is k u=true):IntsAre us ns:=by
 have e1:vs.map (·.1)=ns.map Ft:=rel.keys.symm.trans hk
 clear rel hk
 induction us generalizing vs ns with
 |nil=>
  have:vs=[]:=GO.1 (by simpa using hl.symm)
  subst this
  cases ns with
  |nil=>exact .nil
  |cons n r=>simp at e1
 |cons u us ih=>
  obtain⟨k,x,e2,e3⟩:=hp 0 u rfl
  cases vs with
  |nil=>simp at e2
  |cons p vs=>
   simp at e2
   subst e2
   cases ns with
   |nil=>simp at e1
   |cons n r=>
    simp only[Ey,IG] at e1
    obtain⟨e4,e1⟩:=e1
    have e4:k=Ft n:=e4
    subst e4
    have e3:WL (Ft n) u=true:=e3
    rcases yw e3 with⟨i,t,e5,rfl⟩|⟨i,t,e5,_⟩
    ·cases e5
     exact .cons _ _ (ih (by simpa using hl) (λi u h=>by simpa using hp (i+1) u (by simpa using h)) e1)
    ·cases e5
def zgR:List V->Hp->VK->Prop:=λxs H Q=>∃(a:Addr) (kvs:List (Key×V)) (ns:List Int),xs=[.ref a]/\H a=some (.dK kvs)/\kvs.map (·.1)=ns.map Ft/\ns.length<64/\∀l,H l=none->Q (.ref l) (upd H l (.lst ((yX ns).map V.int)))
theorem zdn {pins:List (Addr×Obj)} {σ:St} {H:Hp} {s:Shared} {Q:VK} {D:Addr} {g:Heap} {tk e:Nat} {out:Array Value} {ms:List Int} (I:Inv X pins σ H s) (kp:∀b o,s.heap.get? b=some o->g.get? b=some o) (hD:s.heap.objs.size<=D) (ha:g.get? D=some (seqObj "list" out e)) (hi:IntsAre out.toList ms) (hz:ms.length<=sizeLine)
  (q:∀l,H l=none->Q (.ref l) (upd H l (.lst (ms.map V.int)))):EP X pins σ Q (.ref D) {s with heap:=g,toks:=tk}:=
 ⟨.ref D,_,I.laid (t':=tk) kp hD (show yr X.prog X.w _ _ _ (.lst (ms.map V.int)) from ⟨by rw[Eu];exact hz,out.toList,e,Ui hi,by rw[ha]⟩),rfl,q _ (I.hok.fresh hD)⟩
theorem Ve {n:Nat} (h:n<64):n<=sizeLine:=EW (Fc h) ∅
theorem zef (hc:X.calm=true):vF X (.builtin "sorted") zgR:=by
 intro pins s σ H xs us Q I r h
 obtain⟨a,kvs,ns,rfl,ha,hk,cP,q⟩:=h
 obtain⟨u,rfl,ru⟩:=ZZ r
 cases ru
 obtain⟨hz,lo,vs,rel,dd⟩:=zdb I.hok ha
 obtain⟨ep,dS⟩:=dd.dictAt
 have hl:vs.length=ns.length:=by rw[<-rel.length,<-Eu (f:=(·.1)),hk,Eu]
 refine zee (PySem.W.kdl_dict (knd:=zT X.prog X.w) (kvs:=vs) (ep:=ep) lo) (I.ok.hd hc) dS (by rw[hl];exact Ve cP) (by rw[hl];exact cP) (ns:=ns) (λus hu hp=>zbF rel hk us hu hp) λD g tk e out kp hD ha hi=> ?_
 exact zdn I kp hD ha hi (by rw[YT];exact Ve cP) q
noncomputable def WN (p a:Addr):HO:= .ext λh=>HH h p a
noncomputable def zdo (p a:Addr):HO:= .ext λh=>h.IsValuesView p a
def zbG:V->List V->Hp->VK->Prop:=λx vs H Q=>∃(a:Addr) (kvs:List (Key×V)),x= .ref a/\vs=[]/\Rd H a (.dK kvs)/\∀p,H p=none->Q (.ref p) (upd H p (WN p a))
def zjZ:V->List V->Hp->VK->Prop:=λx vs H Q=>∃(a:Addr) (kvs:List (Key×V)),x= .ref a/\vs=[]/\Rd H a (.dK kvs)/\∀p,H p=none->Q (.ref p) (upd H p (zdo p a))
theorem ze5:MtR X "dict.keys" zbG:=by
 intro pins s σ H x xs v us Q I rx r h
 obtain⟨a,kvs,rfl,rfl,ha,q⟩:=h
 cases rx
 cases r
 obtain⟨hz,lo,vs,rel,dd⟩:=XH I.hok ha
 have hn:(s.heap.push {cls:= .type "dict_keys",data:= .fields #[.ref a]}).get? s.heap.objs.size=some {cls:= .type "dict_keys",data:= .fields #[.ref a]}:=Heap.get?_push_size _ rfl
 refine call_meetsIn Hs dd.typeIs PySem.F.entry_dict_keys (PySem.F.args_dict_keys_1 _) (PySem.W.kdl_meets_keys (zT X.prog X.w) a lo) ⟨⟨vs,dd⟩,?_⟩
 refine⟨.ref s.heap.objs.size,_,I.laid (t':=s.toks) (o:=WN s.heap.objs.size a) (λ_ _ e=>Heap.get?_push_of_some _ e) (EE _) ⟨⟨_,hn,rfl,rfl⟩,⟨_,hn⟩,λh1 h2 ⟨o,e1,e2⟩ e3=>⟨o,e3 _ e1,e2⟩⟩,rfl,q _ I.fresh⟩
theorem ziL:MtR X "dict.values" zjZ:=by
 intro pins s σ H x xs v us Q I rx r h
 obtain⟨a,kvs,rfl,rfl,ha,q⟩:=h
 cases rx
 cases r
 obtain⟨hz,lo,vs,rel,dd⟩:=XH I.hok ha
 have hn:(s.heap.push {cls:= .type "dict_values",data:= .fields #[.ref a]}).get? s.heap.objs.size=some {cls:= .type "dict_values",data:= .fields #[.ref a]}:=Heap.get?_push_size _ rfl
 refine call_meetsIn Io dd.typeIs PySem.F.entry_dict_values (PySem.F.args_dict_values_1 _) (meets_dict_values (zT X.prog X.w) a lo) ⟨⟨vs,dd⟩,?_⟩
 refine⟨.ref s.heap.objs.size,_,I.laid (t':=s.toks) (o:=zdo s.heap.objs.size a) (λ_ _ e=>Heap.get?_push_of_some _ e) (EE _) ⟨⟨_,hn,rfl,rfl⟩,⟨_,hn⟩,λh1 h2 ⟨o,e1,e2⟩ e3=>⟨o,e3 _ e1,e2⟩⟩,rfl,q _ I.fresh⟩
def zj0:List V->Hp->VK->Prop:=λxs H Q=>∃(p a:Addr) (kvs:List (Key×V)) (ns:List Int),xs=[.ref p]/\H p=some (zdo p a)/\Rd H a (.dK kvs)/\kvs.map (·.2)=ns.map V.int/\Q (.int ns.sum) H
end
section
variable {prog:Program} {w:World} {A:Around} {E:Value->Shared->Prop} {s:Shared} {T:String} {r d:Addr} {n:Nat} {P:Nat->Value->Prop} {OK:Heap->Prop} {Q:Value->Shared->Prop}
theorem ziM (K:Hl prog w T r d n P OK) (hh:A.handled=none) (hok:OK s.heap) (f:Nat->Int) (hf:∀(i:Nat) (v:Value),P i v->∃t:Tok,v=Value.int (f i) t)
  (fin:∀(g:Heap) (k:Nat) (t:Tok),(∀b o,s.heap.get? b=some o->g.get? b=some o)->Q (.int (preSum f n) t) {s with heap:=g,toks:=k}):
  wpAny (model prog w) A (call (.builtin "sum") [.ref r]) Q E s:=by
 obtain⟨ob,Sg,go,Wk,s0⟩:=K.iter A.in1 s hh hok
 refine call_sum_walkAnyS (go _ _ ⟨s.heap.objs.size,_,_,_,n,P,_,f,rfl,Wk.toS,s0,λb hb=> ?_,hf,λs' t hm=> ?_⟩)
 ·show b<(s.heap.push ob).objs.size
  rw[Heap.size_push]
  rcases (by simpa using hb:b=s.heap.objs.size\/b=d) with rfl|rfl
  ·exact G5 _
  ·exact FI (K.there _ hok).2
 ·rw[Moved.eq_with hm]
  refine fin s'.heap s'.toks t λb o e=>hm.heap b o (λz=> ?_) (Heap.get?_push_of_some _ e)
  have lt:=Heap.lt_size e
  rw[EZ.mp z] at lt
  exact absurd lt (FJ _)
end
section
variable {X:Cx}
theorem KV.valsR {kvs:List (Key×V)} {vs:List (Key×Value)} {i:Nat} {k:Key} {u:Value} (rel:KV kvs vs) (h:vs[i]? =some (k,u)):∃v,(kvs.map (·.2))[i]? =some v/\zP v u:=by
 unfold KV at rel
 induction rel generalizing i with
 |nil=>simp at h
 |cons a t ih=>
  cases i with
  |zero=>
   simp at h
   subst h
   exact⟨_,rfl,a.2⟩
  |succ i=>simpa using ih (i:=i) (by simpa using h)
theorem zfZ (hc:X.calm=true):vF X (.builtin "sum") zj0:=by
 intro pins s σ H xs us Q I r h
 obtain⟨p,a,kvs,ns,rfl,hp,ha,hk,q⟩:=h
 obtain⟨u,rfl,ru⟩:=ZZ r
 cases ru
 obtain⟨hz,lo,vs,rel,dd⟩:=XH I.hok ha
 obtain⟨ep,dS⟩:=dd.dictAt
 have hv:s.heap.IsValuesView p a:=(show yr X.prog X.w H s.heap p (zdo p a) from I.hok p _ hp).1
 have hl:vs.length=ns.length:=by rw[<-rel.length,<-Eu (f:=(·.2)),hk,Eu]
 refine ziM (PySem.W.kdl_values (knd:=zT X.prog X.w) (kvs:=vs) (ep:=ep)) (I.ok.hd hc) ⟨hv,dS⟩ (λi=>ns.getD i 0) (λi v hp=> ?_) λg k t kp=> ?_
 ·obtain⟨key,e1⟩:=hp
  obtain⟨y,e2,e3⟩:=rel.valsR e1
  rw[hk,EB] at e2
  cases e4:ns[i]? with
  |none=>rw[e4] at e2;cases e2
  |some m=>
   rw[e4] at e2
   cases e2
   obtain⟨t,rfl⟩:=e3
   exact⟨t,by rw[Ew,e4];rfl⟩
 ·have e:preSum (λi=>ns.getD i 0) vs.length=ns.sum:=by
   rw[Uj ns,hl,F9]
  rw[e]
  exact⟨.int ns.sum,H,I.kept kp,⟨t,rfl⟩,q⟩
def zgS (K:Et) (neg:Bool):R2:=λx y H Q=>∃a b xs,x= .ref a/\y= .ref b/\SqL K H a xs/\SqL K H b []/\Q (.bl (neg !=xs.isEmpty)) H
theorem zgT {k:Nat} {K:Et} (hr:vV k X.A) (hK:X.K=K:=by rfl):OpR X (compareOp .Eq) (zgS K false):=by
 subst hK
 intro pins s σ H x y v u Q I rx ry h
 obtain⟨a,b,xs,rfl,rfl,h1,h2,q⟩:=h
 cases rx;cases ry
 have hu:X.A.units+41<cLine:=FA ⋯ hr.units
 obtain⟨ae,r1,p1,_⟩:=I.list h1
 obtain⟨bU,r2,p2,_⟩:=I.list h2
 cases r2
 cases r1 with
 |nil=>
  refine SeqAt.eq_listAt (e:=λ_=>true) p1.isList p2.isList rfl ⋯ (λi y1 _=>absurd y1 (Nat.not_lt_zero i)) ?_
  exact⟨.bl true,H,I,rfl,q⟩
 |cons c t=>
  refine SeqAt.eq_list_lengthsAt p1.isList p2.isList (by simp) ⋯ ?_
  exact⟨.bl false,H,I,rfl,q⟩
end
end L2
namespace L2
open PySem
inductive Xv where
 |non|bl (b:Bool)|int (i:Int)|str (x:Str)|tup (xs:List Xv)|ct (xs:List Xv)|ref (n:Nat)
inductive Ce where
 |lst (xs:List Xv)
 |frz (xs:List Xv)
 |dk (kvs:List (Key×Xv))
 |dt (kvs:List (List Key×Xv))
 |ins (nm:Str) (fs:List (Str×Xv))
 |fdk (kvs:List (Key×Xv))
 |dn (kvs:List (NK×Xv×Xv))
 |exc (nm:Str)
abbrev Sto:=List Ce
abbrev Rho:=List (Option Xv)
noncomputable def Ce.fz:Ce->Bool
 | .frz _=>true
 | .fdk _=>true
 | .exc _=>true
 |_=>false
noncomputable def HO.mu:HO->Bool
 | .lst _=>true
 | .dK _=>true
 | .dT _=>true
 | .dN _=>true
 | .ins _ _ _=>true
 | .set _ _=>true
 |_=>false
def ZK (H H':Hp):Prop:=∀b u,H b=some u->u.mu=false->H' b=some u
theorem ZK.refl (H:Hp):ZK H H:=λ_ _ e _=>e
theorem ZK.trans {H H1 H2:Hp} (a:ZK H H1) (b:ZK H1 H2):ZK H H2:=λx u e m=>b x u (a x u e m) m
theorem ZK.same {H H':Hp} (S:WH H H'):ZK H H':=λb u e _=>S b u e
structure Ext (j:List Addr) (H:Hp) (j':List Addr) (H':Hp):Prop where
 pre:∀(n:Nat) a,j[n]? =some a->j'[n]? =some a
 imm:ZK H H'
theorem Ext.refl {j:List Addr} {H:Hp}:Ext j H j H:=⟨λ_ _ e=>e,ZK.refl _⟩
theorem Ext.trans {j j1 j2:List Addr} {H H1 H2:Hp} (a:Ext j H j1 H1) (b:Ext j1 H1 j2 H2):Ext j H j2 H2:=⟨λn x e=>b.pre n x (a.pre n x e),a.imm.trans b.imm⟩
theorem Ext.same {j:List Addr} {H H':Hp} (S:WH H H'):Ext j H j H':=⟨λ_ _ e=>e,ZK.same S⟩
mutual
inductive Xis (K:Et) (j:List Addr) (H:Hp):Xv->V->Prop where
 |non:Xis K j H .non .non
 |bl (b:Bool):Xis K j H (.bl b) (.bl b)
 |int (i:Int):Xis K j H (.int i) (.int i)
 |str (x:Str):Xis K j H (.str x) (.str x)
 |tup {a:Addr} {vs:List V} {xs:List Xv}:H a=some (.tup vs)->zV K j H xs vs->Xis K j H (.tup xs) (.ref a)
 |ct {a:Addr} {vs:List V} {xs:List Xv}:(∀H,SqT K H a vs)->zV K j H xs vs->Xis K j H (.ct xs) (.ref a)
 |ref {n:Nat} {a:Addr}:j[n]? =some a->Xis K j H (.ref n) (.ref a)
inductive zV (K:Et) (j:List Addr) (H:Hp):List Xv->List V->Prop where
 |nil:zV K j H [] []
 |cons {x:Xv} {v:V} {xs:List Xv} {vs:List V}:Xis K j H x v->zV K j H xs vs->zV K j H (x::xs) (v::vs)
end
mutual
theorem Xis.mono {K:Et} {j j':List Addr} {H H':Hp} (S:Ext j H j' H'):∀{x:Xv} {v:V},Xis K j H x v->Xis K j' H' x v
 |_,_,.non=> .non
 |_,_,.bl b=> .bl b
 |_,_,.int i=> .int i
 |_,_,.str x=> .str x
 |_,_,.tup h l=> .tup (S.imm _ _ h rfl) (zV.mono S l)
 |_,_,.ct h l=> .ct h (zV.mono S l)
 |_,_,.ref h=> .ref (S.pre _ _ h)
theorem zV.mono {K:Et} {j j':List Addr} {H H':Hp} (S:Ext j H j' H'):∀{xs:List Xv} {vs:List V},zV K j H xs vs->zV K j' H' xs vs
 |_,_,.nil=> .nil
 |_,_,.cons h l=> .cons (Xis.mono S h) (zV.mono S l)
end
section
variable {K:Et} {j:List Addr} {H:Hp}
theorem zV.len:∀{xs:List Xv} {vs:List V},zV K j H xs vs->vs.length=xs.length
 |_,_,.nil=>rfl
 |_,_,.cons _ l=>by rw[F5,F5,l.len]
theorem zV.get:∀{xs:List Xv} {vs:List V} {i:Nat} {x:Xv},zV K j H xs vs->xs[i]? =some x->∃v,vs[i]? =some v/\Xis K j H x v
 |_,_,_,_,.nil,e=>by simp at e
 |_,_,0,_,.cons h _,e=>by simp at e;subst e;exact⟨_,rfl,h⟩
 |_,_,i+1,x,.cons _ l,e=>by
  obtain⟨v,e1,e2⟩:=l.get (i:=i) (x:=x) (by simpa using e)
  exact⟨v,by simpa using e1,e2⟩
theorem zV.append:∀{xs ys:List Xv} {vs ws:List V},zV K j H xs vs->zV K j H ys ws->zV K j H (xs++ys) (vs++ws)
 |_,_,_,_,.nil,h=>h
 |_,_,_,_,.cons h l,k=> .cons h (l.append k)
theorem zV.one {v:V} {x:Xv} (h:Xis K j H x v):zV K j H [x] [v]:= .cons h .nil
theorem zV.take:∀{xs:List Xv} {vs:List V} (n:Nat),zV K j H xs vs->zV K j H (xs.take n) (vs.take n)
 |_,_,0,_=> .nil
 |_,_,_+1,.nil=> .nil
 |_,_,n+1,.cons h l=> .cons h (l.take n)
theorem zV.drop:∀{xs:List Xv} {vs:List V} (n:Nat),zV K j H xs vs->zV K j H (xs.drop n) (vs.drop n)
 |_,_,0,h=>h
 |_,_,_+1,.nil=> .nil
 |_,_,n+1,.cons h l=>l.drop n
theorem zV.ints:∀ns:List Int,zV K j H (ns.map Xv.int) (ns.map V.int)
 |[]=> .nil
 |n::r=> .cons (.int n) (zV.ints r)
theorem zV.reverse:∀{xs:List Xv} {vs:List V},zV K j H xs vs->zV K j H xs.reverse vs.reverse
 |_,_,.nil=> .nil
 |_,_,.cons h l=>by
  rw[Hq,Hq]
  exact l.reverse.append (.one h)
theorem zV.set {v:V} {x:Xv} (hv:Xis K j H x v):∀{xs:List Xv} {vs:List V} (n:Nat),zV K j H xs vs->zV K j H (xs.set n x) (vs.set n v)
 |_,_,_,.nil=> .nil
 |_,_,0,.cons _ l=> .cons hv l
 |_,_,n+1,.cons h l=> .cons h (l.set hv n)
theorem zV.at_ {xs:List Xv} {vs:List V} {i:Int} {x:Xv} (h:zV K j H xs vs) (e:atI xs i=some x):∃v,atI vs i=some v/\Xis K j H x v:=by
 unfold atI at e ⊢
 rw[h.len]
 cases e1:ixN xs.length i with
 |none=>rw[e1] at e;cases e
 |some m=>
  rw[e1] at e
  obtain⟨v,e3,e4⟩:=h.get (i:=m) e
  exact⟨v,e3,e4⟩
theorem Xis.int_inv {v:V} {i:Int} (h:Xis K j H (.int i) v):v= .int i:=by cases h;rfl
theorem Xis.bl_inv {v:V} {b:Bool} (h:Xis K j H (.bl b) v):v= .bl b:=by cases h;rfl
theorem Xis.ref_inv {v:V} {n:Nat} (h:Xis K j H (.ref n) v):∃a,v= .ref a/\j[n]? =some a:=by cases h with|ref e=>exact⟨_,rfl,e⟩
theorem Xis.tup_inv {v:V} {xs:List Xv} (h:Xis K j H (.tup xs) v):∃a vs,v= .ref a/\H a=some (.tup vs)/\zV K j H xs vs:=by cases h with|tup a b=>exact⟨_,_,rfl,a,b⟩
theorem zV.cons_inv {vs:List V} {x:Xv} {xs:List Xv} (h:zV K j H (x::xs) vs):∃v r,vs=v::r/\Xis K j H x v/\zV K j H xs r:=by cases h with|cons a b=>exact⟨_,_,rfl,a,b⟩
theorem zV.nil_inv {vs:List V} (h:zV K j H [] vs):vs=[]:=by cases h;rfl
theorem zV.d1 {vs:List V} {a:Xv} (h:zV K j H [a] vs):∃x,vs=[x]/\Xis K j H a x:=by
 obtain⟨x,r,rfl,hx,h⟩:=h.cons_inv
 obtain rfl:=h.nil_inv
 exact⟨x,rfl,hx⟩
theorem zV.d2 {vs:List V} {a b:Xv} (h:zV K j H [a,b] vs):∃x y,vs=[x,y]/\Xis K j H a x/\Xis K j H b y:=by
 obtain⟨x,r,rfl,hx,h⟩:=h.cons_inv
 obtain⟨y,rfl,hy⟩:=h.d1
 exact⟨x,y,rfl,hx,hy⟩
noncomputable def Xv.tupOf:Xv->Option (List Xv)
 | .tup xs=>some xs
 | .ct xs=>some xs
 |_=>none
theorem Xis.tupO {v:V} {x:Xv} {xs:List Xv} (h:Xis K j H x v) (e:x.tupOf=some xs):∃a vs,v= .ref a/\SqT K H a vs/\zV K j H xs vs:=by
 cases h with
 |tup h l=>simp[Xv.tupOf] at e;subst e;exact⟨_,_,rfl,SqT.of h,l⟩
 |ct h l=>simp[Xv.tupOf] at e;subst e;exact⟨_,_,rfl,h H,l⟩
 |_=>simp[Xv.tupOf] at e
end
inductive KX {κ:Type} (K:Et) (j:List Addr) (H:Hp):List (κ×Xv)->List (κ×V)->Prop where
 |nil:KX K j H [] []
 |cons {k:κ} {x:Xv} {v:V} {r:List (κ×Xv)} {rs:List (κ×V)}:Xis K j H x v->KX K j H r rs->KX K j H ((k,x)::r) ((k,v)::rs)
theorem KX.mono {κ:Type} {K:Et} {j j':List Addr} {H H':Hp} (S:Ext j H j' H'):∀{xs:List (κ×Xv)} {vs:List (κ×V)},KX K j H xs vs->KX K j' H' xs vs
 |_,_,.nil=> .nil
 |_,_,.cons h l=> .cons (h.mono S) (l.mono S)
mutual
noncomputable def XJ:Xv->Option NK
 | .int i=>some (.int i)
 | .str x=>some (.str x)
 | .tup l=>(XV l).map .tup
 | .ct l=>(XV l).map .tup
 | .non=>none
 | .bl _=>none
 | .ref _=>none
noncomputable def XV:List Xv->Option (List NK)
 |[]=>some []
 |x::r=>(XJ x).bind λk=>(XV r).map (k:: ·)
end
inductive NX (K:Et) (j:List Addr) (H:Hp):List (NK×Xv×Xv)->List (NK×Addr×V)->Prop where
 |nil:NX K j H [] []
 |cons {k:NK} {x y:Xv} {b:Addr} {v:V} {r:List (NK×Xv×Xv)} {rs:List (NK×Addr×V)}:XJ x=some k/\yv k<=8->Xis K j H x (.ref b)->Xis K j H y v->NX K j H r rs->NX K j H ((k,x,y)::r) ((k,b,v)::rs)
theorem NX.mono {K:Et} {j j':List Addr} {H H':Hp} (S:Ext j H j' H'):∀{xs:List (NK×Xv×Xv)} {vs:List (NK×Addr×V)},NX K j H xs vs->NX K j' H' xs vs
 |_,_,.nil=> .nil
 |_,_,.cons e h1 h2 l=> .cons e (h1.mono S) (h2.mono S) (l.mono S)
def zbe (K:Et) (j:List Addr) (H:Hp) (a:Addr):Ce->Prop
 | .lst xs=>∃vs,H a=some (.lst vs)/\zV K j H xs vs
 | .frz xs=>∃vs,((∃o,H a=some (.frz o (.lst vs)))\/∀H,SqX K H a vs)/\zV K j H xs vs
 | .dk kvs=>∃ks:List (Key×V),H a=some (.dK ks)/\KX K j H kvs ks
 | .dt kvs=>∃ks:List (List Key×V),H a=some (.dT ks)/\KX K j H kvs ks
 | .ins nm fs=>∃(C dx:Addr) (vs:List (Str×V)),EI K mainGlobals nm=some (some (.ref C))/\H a=some (.ins C dx vs)/\KX K j H fs vs
 | .fdk kvs=>∃(o:Obj) (ks:List (Key×V)),H a=some (.frz o (.dK ks))/\KX K j H kvs ks
 | .dn kvs=>∃ks:List (NK×Addr×V),H a=some (.dN ks)/\NX K j H kvs ks
 | .exc nm=>∃C:Addr,EI K mainGlobals nm=some (some (.ref C))/\H a=some (zkD a (.ref C))
theorem zbe.mu {K:Et} {j:List Addr} {H:Hp} {a:Addr}:∀{c:Ce},zbe K j H a c->c.fz=false->∃o,H a=some o/\o.mu=true
 | .lst _,⟨_,e,_⟩,_=>⟨_,e,rfl⟩
 | .frz _,_,z=>by cases z
 | .dk _,⟨_,e,_⟩,_=>⟨_,e,rfl⟩
 | .dt _,⟨_,e,_⟩,_=>⟨_,e,rfl⟩
 | .ins _ _,⟨_,_,_,_,e,_⟩,_=>⟨_,e,rfl⟩
 | .fdk _,_,z=>by cases z
 | .dn _,⟨_,e,_⟩,_=>⟨_,e,rfl⟩
 | .exc _,_,z=>by cases z
theorem zbe.mono {K:Et} {j j':List Addr} {H H':Hp} {a:Addr} (S:Ext j H j' H'):∀{c:Ce},(c.fz=false->H' a=H a)->zbe K j H a c->zbe K j' H' a c
 | .lst _,h,⟨_,e,l⟩=>⟨_,(h rfl).trans e,l.mono S⟩
 | .frz _,_,⟨_,.inl ⟨o,e⟩,l⟩=>⟨_,.inl ⟨o,S.imm _ _ e rfl⟩,l.mono S⟩
 | .frz _,_,⟨_,.inr e,l⟩=>⟨_,.inr e,l.mono S⟩
 | .dk _,h,⟨_,e,l⟩=>⟨_,(h rfl).trans e,l.mono S⟩
 | .dt _,h,⟨_,e,l⟩=>⟨_,(h rfl).trans e,l.mono S⟩
 | .ins _ _,h,⟨_,_,_,n,e,l⟩=>⟨_,_,_,n,(h rfl).trans e,l.mono S⟩
 | .fdk _,_,⟨_,_,e,l⟩=>⟨_,_,S.imm _ _ e rfl,l.mono S⟩
 | .dn _,h,⟨_,e,l⟩=>⟨_,(h rfl).trans e,l.mono S⟩
 | .exc _,_,⟨C,n,e⟩=>⟨C,n,S.imm _ _ e rfl⟩
structure Fm where
 H0:Hp
 j0:List Addr
 S0:Sto
structure En (K:Et) (F:Fm) (j:List Addr) (H:Hp) (σ:St) (ρ:Rho) (S:Sto):Prop where
 len:σ.length=ρ.length
 slot:∀(i:Nat) x,ρ[i]? =some (some x)->∃v,σ[i]? =some (some v)/\Xis K j H x v
 jl:j.length=S.length
 inj:∀(n m:Nat) a c d,j[n]? =some a->j[m]? =some a->S[n]? =some c->S[m]? =some d->c.fz=false->d.fz=false->n=m
 cel:∀(n:Nat) c a,S[n]? =some c->j[n]? =some a->zbe K j H a c
 ext:Ext F.j0 F.H0 j H
 old:∀(n:Nat) c,F.S0[n]? =some c->∃c',S[n]? =some c'/\(c'.fz=false->c.fz=false)/\(c.fz=true->c'=c)
 l0:F.j0.length=F.S0.length
 keep:∀b u,F.H0 b=some u->H b=some u\/∃(n:Nat) (c:Ce),F.j0[n]? =some b/\F.S0[n]? =some c/\c.fz=false
 fresh:∀(n:Nat) a,F.j0.length<=n->j[n]? =some a->F.H0 a=none
 dom:∀b,H b=none->F.H0 b=none
section
variable {K:Et} {F:Fm} {j j':List Addr} {H H':Hp} {σ σ':St} {ρ ρ':Rho} {S S':Sto} {v:V} {x:Xv} {a p:Addr} {o:HO} {i n:Nat} {c c':Ce}
theorem En.heap (E:En K F j H σ ρ S) (Sm:WH H H'):En K F j H' σ ρ S:=by
 have X:Ext j H j H':=Ext.same Sm
 refine⟨E.len,λi x e=> ?_,E.jl,E.inj,λn c a e1 e2=> ?_,E.ext.trans X,E.old,E.l0,λb u e=> ?_,E.fresh,λb e=>E.dom b ?_⟩
 ·obtain⟨v,e1,e2⟩:=E.slot i x e
  exact⟨v,e1,e2.mono X⟩
 ·have h:=E.cel n c a e1 e2
  refine h.mono X λz=> ?_
  obtain⟨o,e,_⟩:=h.mu z
  exact (Sm _ _ e).trans e.symm
 ·rcases E.keep b u e with h|h
  ·exact .inl (Sm _ _ h)
  ·exact .inr h
 ·cases e':H b with
  |none=>rfl
  |some u=>rw[Sm b u e'] at e;cases e
theorem En.new (E:En K F j H σ ρ S) (h:H p=none):En K F j (upd H p o) σ ρ S/\Ext j H j (upd H p o):=⟨E.heap (vI h),Ext.same (vI h)⟩
theorem En.cell (E:En K F j H σ ρ S) (h:H p=none) (hc:zbe K (j++[p]) (upd H p o) p c):En K F (j++[p]) (upd H p o) σ ρ (S++[c])/\Ext j H (j++[p]) (upd H p o):=by
 have X:Ext j H (j++[p]) (upd H p o):=⟨λn a e=>by rw[Ex (Es.1 e).1];exact e,ZK.same (vI h)⟩
 have iw:∀{n:Nat} {a:Addr},(j++[p])[n]? =some a->j[n]? =some a\/(n=j.length/\a=p):=λ{n a} e=>by
  by_cases hn:n<j.length
  ·rw[Ex hn] at e;exact .inl e
  ·rw[EL ⋯] at e
   cases hm:n-j.length with
   |zero=>rw[hm] at e;simp at e;exact .inr ⟨⋯,e.symm⟩
   |succ m=>rw[hm] at e;simp at e
 have sat:∀{n:Nat} {d:Ce},(S++[c])[n]? =some d->S[n]? =some d\/(n=S.length/\d=c):=λ{n d} e=>by
  by_cases hn:n<S.length
  ·rw[Ex hn] at e;exact .inl e
  ·rw[EL ⋯] at e
   cases hm:n-S.length with
   |zero=>rw[hm] at e;simp at e;exact .inr ⟨⋯,e.symm⟩
   |succ m=>rw[hm] at e;simp at e
 have lt:∀{n:Nat} {d:Ce},S[n]? =some d->n<S.length:=λe=>(Es.1 e).1
 have iS:∀{n:Nat} {a:Addr} {d:Ce},j[n]? =some a->S[n]? =some d->d.fz=false->a≠p:=λ{n a d} e1 e2 z q=>by
  subst q
  obtain⟨o',e,_⟩:=(E.cel n d a e2 e1).mu z
  rw[h] at e;cases e
 refine⟨⟨E.len,λi x e=> ?_,by simp[E.jl],λn m a c1 c2 e1 e2 e3 e4 z1 z2=> ?_,λn d a e1 e2=> ?_,E.ext.trans X,λn d e=> ?_,E.l0,λb u e=> ?_,λn a hn e=> ?_,λb e=> ?_⟩,X⟩
 ·obtain⟨v,e1,e2⟩:=E.slot i x e
  exact⟨v,e1,e2.mono X⟩
 ·rcases sat e3 with e3|⟨e3,_⟩
  ·have h1:j[n]? =some a:=by
    rcases iw e1 with h1|⟨h1,_⟩
    ·exact h1
    ·have:=lt e3;rw[E.jl] at h1;omega
   rcases sat e4 with e4|⟨e4,_⟩
   ·have h2:j[m]? =some a:=by
     rcases iw e2 with h2|⟨h2,_⟩
     ·exact h2
     ·have:=lt e4;rw[E.jl] at h2;omega
    exact E.inj n m a c1 c2 h1 h2 e3 e4 z1 z2
   ·have:a=p:=by
     rcases iw e2 with h2|⟨_,h2⟩
     ·have:=(Es.1 h2).1;rw[E.jl] at this;omega
     ·exact h2
    exact absurd this (iS h1 e3 z1)
  ·have:a=p:=by
    rcases iw e1 with h2|⟨_,h2⟩
    ·have:=(Es.1 h2).1;rw[E.jl] at this;omega
    ·exact h2
   rcases sat e4 with e4|⟨e4,_⟩
   ·have h2:j[m]? =some a:=by
     rcases iw e2 with h2|⟨h2,_⟩
     ·exact h2
     ·have:=lt e4;rw[E.jl] at h2;omega
    exact absurd this (iS h2 e4 z2)
   ·rw[e3,e4]
 ·rcases sat e1 with e1|⟨e1,rfl⟩
  ·have h2:j[n]? =some a:=by
    rcases iw e2 with h2|⟨h2,_⟩
    ·exact h2
    ·have:=lt e1;rw[E.jl] at h2;omega
   have hh:=E.cel n d a e1 h2
   exact hh.mono X λz=>yj (iS h2 e1 z)
  ·have:a=p:=by
    rcases iw e2 with h2|⟨_,h2⟩
    ·have:=(Es.1 h2).1;rw[E.jl] at this;omega
    ·exact h2
   subst this
   exact hc
 ·obtain⟨d',e1,e2⟩:=E.old n d e
  exact⟨d',by rw[Ex (lt e1)];exact e1,e2⟩
 ·rcases E.keep b u e with h'|h'
  ·exact .inl (vI h _ _ h')
  ·exact .inr h'
 ·rcases iw e with e|⟨_,rfl⟩
  ·exact E.fresh n a hn e
  ·exact E.dom _ h
 ·refine E.dom b ?_
  cases e':H b with
  |none=>rfl
  |some u=>rw[vI h b u e'] at e;cases e
theorem En.writeF (E:En K F j H σ ρ S) (hs:S[n]? =some c) (z:c.fz=false) (hj:j[n]? =some a) (hc:∀X:Ext j H j (upd H a o),zbe K j (upd H a o) a c'):En K F j (upd H a o) σ ρ (S.set n c')/\Ext j H j (upd H a o):=by
 obtain⟨o0,h0,m0⟩:=(E.cel n c a hs hj).mu z
 have X:Ext j H j (upd H a o):=⟨λ_ _ e=>e,λb u e m=>by
  have:b≠a:=λq=>by subst q;rw[h0] at e;cases e;rw[m] at m0;cases m0
  rw[yj this];exact e⟩
 have sat:∀{m:Nat} {d:Ce},(S.set n c')[m]? =some d->(m=n/\d=c')\/(m≠n/\S[m]? =some d):=λ{m d} e=>by
  rw[EV] at e
  split at e
  ·rename_i q
   split at e
   ·cases e;exact .inl ⟨q.symm,rfl⟩
   ·cases e
  ·rename_i q
   exact .inr ⟨λr=>q r.symm,e⟩
 have uN:∀{m:Nat} {d:Ce},(S.set n c')[m]? =some d->∃d',S[m]? =some d'/\(d.fz=false->d'.fz=false):=λ{m d} e=>by
  rcases sat e with⟨rfl,rfl⟩|⟨_,e⟩
  ·exact⟨c,hs,λ_=>z⟩
  ·exact⟨d,e,λy=>y⟩
 refine⟨⟨E.len,λi x e=> ?_,by simp[E.jl],λk m b c1 c2 e1 e2 e3 e4 z1 z2=> ?_,λm d b e1 e2=> ?_,E.ext.trans X,λm d e=> ?_,E.l0,λb u e=> ?_,E.fresh,λb e=> ?_⟩,X⟩
 ·obtain⟨v,e1,e2⟩:=E.slot i x e
  exact⟨v,e1,e2.mono X⟩
 ·obtain⟨d1,f1,g1⟩:=uN e3
  obtain⟨d2,f2,g2⟩:=uN e4
  exact E.inj k m b d1 d2 e1 e2 f1 f2 (g1 z1) (g2 z2)
 ·rcases sat e1 with⟨rfl,rfl⟩|⟨q,e1⟩
  ·rw[hj] at e2
   cases e2
   exact hc X
  ·refine (E.cel m d b e1 e2).mono X λzd=>yj λr=> ?_
   subst r
   exact q (E.inj m n b d c e2 hj e1 hs zd z)
 ·obtain⟨d',e1,e2,e3⟩:=E.old m d e
  by_cases q:m=n
  ·subst q
   rw[hs] at e1
   cases e1
   refine⟨c',by rw[EV,if_pos rfl,if_pos (Es.1 hs).1],λ_=>e2 z,λy=> ?_⟩
   rw[e2 z] at y
   cases y
  ·exact⟨d',by rw[EV,if_neg (λr=>q r.symm)];exact e1,e2,e3⟩
 ·by_cases q:b=a
  ·subst q
   by_cases hn:n<F.j0.length
   ·have ux:F.j0[n]? =some b:=by
     have e1:F.j0[n]? =some F.j0[n]:=Er hn
     have e2:=E.ext.pre n _ e1
     rw[hj] at e2
     cases e2
     exact e1
    have gO:n<F.S0.length:=by rw[<-E.l0];exact hn
    obtain⟨d',f1,f2,_⟩:=E.old n _ (Er gO)
    rw[hs] at f1
    cases f1
    exact .inr ⟨n,_,ux,Er gO,f2 z⟩
   ·rw[E.fresh n b ⋯ hj] at e
    cases e
  ·rcases E.keep b u e with h|h
   ·exact .inl (by rw[yj q];exact h)
   ·exact .inr h
 ·by_cases q:b=a
  ·subst q;rw[yl] at e;cases e
  ·rw[yj q] at e;exact E.dom b e
theorem En.write (E:En K F j H σ ρ S) (hs:S[n]? =some c) (z:c.fz=false) (hj:j[n]? =some a) (_:c'.fz=false) (hc:∀X:Ext j H j (upd H a o),zbe K j (upd H a o) a c'):En K F j (upd H a o) σ ρ (S.set n c')/\Ext j H j (upd H a o):=E.writeF hs z hj hc
theorem En.slots (E:En K F j H σ ρ S) (hl:σ'.length=ρ'.length) (h:∀(i:Nat) x,ρ'[i]? =some (some x)->∃v,σ'[i]? =some (some v)/\Xis K j H x v):En K F j H σ' ρ' S:=
 ⟨hl,h,E.jl,E.inj,E.cel,E.ext,E.old,E.l0,E.keep,E.fresh,E.dom⟩
theorem En.set (E:En K F j H σ ρ S) (h:Xis K j H x v):En K F j H (σ.set i (some v)) (ρ.set i (some x)) S:=E.slots (by simp[E.len]) λk y e=>by
 rw[EV] at e ⊢
 split at e
 ·rename_i q
  subst q
  split at e
  ·rename_i hl
   cases e
   rw[if_pos rfl,if_pos (by rw[E.len];exact hl)]
   exact⟨v,rfl,h⟩
  ·cases e
 ·rename_i q
  rw[if_neg q]
  exact E.slot k y e
theorem En.enter (E:En K F j H σ ρ S) (hl:σ'.length=ρ'.length) (h:∀(i:Nat) x,ρ'[i]? =some (some x)->∃v,σ'[i]? =some (some v)/\Xis K j H x v):En K ⟨H,j,S⟩ j H σ' ρ' S:=
 ⟨hl,h,E.jl,E.inj,E.cel,Ext.refl,λn c e=>⟨c,e,λz=>z,λ_=>rfl⟩,E.jl,λb u e=> .inl e,λn a hn e=>by have:=(Es.1 e).1;dsimp only at hn;omega,λb e=>e⟩
theorem En.leave (E:En K F j H σ ρ S) (X:En K ⟨H,j,S⟩ j' H' σ' ρ' S'):En K F j' H' σ ρ S'/\Ext j H j' H':=by
 have e:Ext j H j' H':=X.ext
 refine⟨⟨E.len,λi x h=> ?_,X.jl,X.inj,X.cel,E.ext.trans e,λn c h=> ?_,E.l0,λb u h=> ?_,λn a hn h=> ?_,λb h=>E.dom b (X.dom b h)⟩,e⟩
 ·obtain⟨v,e1,e2⟩:=E.slot i x h
  exact⟨v,e1,e2.mono e⟩
 ·obtain⟨c1,e1,e2,e3⟩:=E.old n c h
  obtain⟨c2,f1,f2,f3⟩:=X.old n c1 e1
  refine⟨c2,f1,λz=>e2 (f2 z),λz=> ?_⟩
  obtain rfl:=e3 z
  exact f3 z
 ·rcases E.keep b u h with h1|h1
  ·rcases X.keep b u h1 with h2|⟨n,c,h2,h3,h4⟩
   ·exact .inl h2
   ·by_cases hn:n<F.j0.length
    ·have e1:F.j0[n]? =some F.j0[n]:=Er hn
     have e2:=E.ext.pre n _ e1
     have qV:j[n]? =some b:=h2
     rw[qV] at e2
     cases e2
     have gO:n<F.S0.length:=by rw[<-E.l0];exact hn
     obtain⟨c1,f1,f2,_⟩:=E.old n _ (Er gO)
     have qU:S[n]? =some c:=h3
     rw[qU] at f1
     cases f1
     exact .inr ⟨n,_,e1,Er gO,f2 h4⟩
    ·have:=E.fresh n b ⋯ h2
     rw[this] at h;cases h
  ·exact .inr h1
 ·by_cases hm:n<j.length
  ·have e1:j[n]? =some j[n]:=Er hm
   have e2:=e.pre n _ e1
   rw[h] at e2
   cases e2
   exact E.fresh n _ hn e1
  ·exact E.dom a (X.fresh n a (by dsimp only;omega) h)
theorem En.grow {k:Nat} (E:En K F j H σ ρ S):En K F j H (σ++Fp k none) (ρ++Fp k none) S:=E.slots (by simp[E.len]) λi x e=>by
 by_cases hi:i<ρ.length
 ·rw[Ex hi] at e
  rw[Ex (by rw[E.len];exact hi)]
  exact E.slot i x e
 ·rw[EL ⋯,Ga] at e
  split at e
  ·cases e
  ·cases e
end
inductive Rs (α:Type) where
 |ok (a:α) (S:Sto)
 |ex (c:Str) (S:Sto)
abbrev TwE:=Rho->Sto->Option (Rs Xv)
abbrev TwT:=Rho->Sto->Option (Rs Bool)
abbrev TwL:=Rho->Sto->Option (Rs (List Xv))
abbrev TwO:=Rho->Sto->Option (Rs (Option Int))
abbrev TwG:=Xv->Rho->Sto->Option (Rs Rho)
abbrev zce:=List Xv->Rho->Sto->Option (Rs Rho)
abbrev TwI:=Rho->Sto->Option (Rs (Sto->Option (List Xv)))
inductive Fl where
 |nx (ρ:Rho) (S:Sto)
 |bk (ρ:Rho) (S:Sto)
 |ct (ρ:Rho) (S:Sto)
 |rt (x:Xv) (S:Sto)
 |ex (c:Str) (S:Sto)
abbrev TwS:=Rho->Sto->Option Fl
noncomputable def rb {α β:Type} (m:Option (Rs α)) (f:α->Sto->Option (Rs β)):Option (Rs β):=match m with
 |some (.ok a S)=>f a S
 |some (.ex c S)=>some (.ex c S)
 |none=>none
noncomputable def sb {α:Type} (m:Option (Rs α)) (f:α->Sto->Option Fl):Option Fl:=match m with
 |some (.ok a S)=>f a S
 |some (.ex c S)=>some (.ex c S)
 |none=>none
theorem zB {α β:Type} {m:Option (Rs α)} {f:α->Sto->Option (Rs β)} {r:Rs β} (h:rb m f=some r):(∃a S,m=some (.ok a S)/\f a S=some r)\/∃c S,m=some (.ex c S)/\r= .ex c S:=by
 unfold rb at h
 split at h
 ·exact .inl ⟨_,_,rfl,h⟩
 ·cases h;exact .inr ⟨_,_,rfl,rfl⟩
 ·cases h
theorem xE {α:Type} {m:Option (Rs α)} {f:α->Sto->Option Fl} {r:Fl} (h:sb m f=some r):(∃a S,m=some (.ok a S)/\f a S=some r)\/∃c S,m=some (.ex c S)/\r= .ex c S:=by
 unfold sb at h
 split at h
 ·exact .inl ⟨_,_,rfl,h⟩
 ·cases h;exact .inr ⟨_,_,rfl,rfl⟩
 ·cases h
def PX (K:Et) (F:Fm) (j:List Addr) (H:Hp) (E:XK) (c:Str) (S':Sto):Prop:=
 ∀j' H' σ' ρ' C,Ext j H j' H'->En K F j' H' σ' ρ' S'->EI K mainGlobals c=some (some (.ref C))->E (.ref C) none H'
theorem PX.mono {K:Et} {F:Fm} {j j1:List Addr} {H H1:Hp} {E:XK} {c:Str} {S':Sto} (h:PX K F j H E c S') (e:Ext j H j1 H1):PX K F j1 H1 E c S':=λj' H' σ' ρ' C x y z=>h j' H' σ' ρ' C (e.trans x) y z
def Po {α:Type} (K:Et) (F:Fm) (j:List Addr) (H:Hp) (σ:St) (ρ:Rho) (E:XK) (P:α->List Addr->Hp->Prop):Rs α->Prop
 | .ok a S'=>∀j' H',Ext j H j' H'->En K F j' H' σ ρ S'->P a j' H'
 | .ex c S'=>PX K F j H E c S'
theorem Po.step {α:Type} {K:Et} {F:Fm} {j j1:List Addr} {H H1:Hp} {σ:St} {ρ:Rho} {E:XK} {P:α->List Addr->Hp->Prop}:∀{r:Rs α},Po K F j H σ ρ E P r->Ext j H j1 H1->Po K F j1 H1 σ ρ E P r
 | .ok a S',h,e=>λj' H' x y=>h j' H' (e.trans x) y
 | .ex c S',h,e=>PX.mono h e
noncomputable abbrev PoV (K:Et) (Q:VK):Xv->List Addr->Hp->Prop:=λx j' H'=>∀v,Xis K j' H' x v->Q v H'
def RE (K:Et) (E:XK) (t:TE) (m:TwE):Prop:=∀{F:Fm} {j:List Addr} {σ:St} {H:Hp} {ρ:Rho} {S:Sto} {r:Rs Xv} {Q:VK},En K F j H σ ρ S->m ρ S=some r->Po K F j H σ ρ E (PoV K Q) r->t σ H Q
def RT (K:Et) (E:XK) (t:TT) (m:TwT):Prop:=∀{F:Fm} {j:List Addr} {σ:St} {H:Hp} {ρ:Rho} {S:Sto} {r:Rs Bool} {Q:Bool->Hp->Prop},En K F j H σ ρ S->m ρ S=some r->Po K F j H σ ρ E (λb _ H'=>Q b H') r->t σ H Q
def RL (K:Et) (E:XK) (t:TA) (m:TwL):Prop:=∀{F:Fm} {j:List Addr} {σ:St} {H:Hp} {ρ:Rho} {S:Sto} {r:Rs (List Xv)} {Q:List V->Hp->Prop},En K F j H σ ρ S->m ρ S=some r->Po K F j H σ ρ E (λxs j' H'=>∀vs,zV K j' H' xs vs->Q vs H') r->t σ H Q
def RO (K:Et) (E:XK) (t:TO) (m:TwO):Prop:=∀{F:Fm} {j:List Addr} {σ:St} {H:Hp} {ρ:Rho} {S:Sto} {r:Rs (Option Int)} {Q:Option Int->Hp->Prop},En K F j H σ ρ S->m ρ S=some r->Po K F j H σ ρ E (λo _ H'=>Q o H') r->t σ H Q
def PoG (K:Et) (F:Fm) (j:List Addr) (H:Hp) (E:XK) (R:St->Hp->Prop):Rs Rho->Prop
 | .ok ρ' S'=>∀σ' j' H',Ext j H j' H'->En K F j' H' σ' ρ' S'->R σ' H'
 | .ex c S'=>PX K F j H E c S'
theorem PoG.step {K:Et} {F:Fm} {j j1:List Addr} {H H1:Hp} {E:XK} {R:St->Hp->Prop}:∀{r:Rs Rho},PoG K F j H E R r->Ext j H j1 H1->PoG K F j1 H1 E R r
 | .ok a S',h,e=>λσ' j' H' x y=>h σ' j' H' (e.trans x) y
 | .ex c S',h,e=>PX.mono h e
def RG (K:Et) (E:XK) (t:TG) (g:TwG):Prop:=∀{F:Fm} {j:List Addr} {σ:St} {H:Hp} {ρ:Rho} {S:Sto} {r:Rs Rho} {x:Xv} {v:V} {R:St->Hp->Prop},En K F j H σ ρ S->Xis K j H x v->g x ρ S=some r->PoG K F j H E R r->t v σ H R
def RGs (K:Et) (E:XK) (t:TGs) (g:zce):Prop:=∀{F:Fm} {j:List Addr} {σ:St} {H:Hp} {ρ:Rho} {S:Sto} {r:Rs Rho} {xs:List Xv} {vs:List V} {R:St->Hp->Prop},En K F j H σ ρ S->zV K j H xs vs->g xs ρ S=some r->PoG K F j H E R r->t vs σ H R
def ziN (K:Et) (F:Fm) (j:List Addr) (H:Hp) (E:XK) (D':Uf):Fl->Prop
 | .nx ρ S=>∀σ j' H',Ext j H j' H'->En K F j' H' σ ρ S->D'.nx σ H'
 | .bk ρ S=>∀σ j' H',Ext j H j' H'->En K F j' H' σ ρ S->D'.bk σ H'
 | .ct ρ S=>∀σ j' H',Ext j H j' H'->En K F j' H' σ ρ S->D'.ct σ H'
 | .rt x S=>∀v σ ρ j' H',Ext j H j' H'->En K F j' H' σ ρ S->Xis K j' H' x v->D'.rt v H'
 | .ex c S=>PX K F j H E c S
theorem ziN.step {K:Et} {F:Fm} {j j1:List Addr} {H H1:Hp} {E:XK} {D':Uf}:∀{fl:Fl},ziN K F j H E D' fl->Ext j H j1 H1->ziN K F j1 H1 E D' fl
 | .nx _ _,h,e=>λσ j' H' x y=>h σ j' H' (e.trans x) y
 | .bk _ _,h,e=>λσ j' H' x y=>h σ j' H' (e.trans x) y
 | .ct _ _,h,e=>λσ j' H' x y=>h σ j' H' (e.trans x) y
 | .rt _ _,h,e=>λv σ ρ j' H' x y z=>h v σ ρ j' H' (e.trans x) y z
 | .ex _ _,h,e=>PX.mono h e
def RS (K:Et) (E:XK) (t:TS) (m:TwS):Prop:=∀{F:Fm} {j:List Addr} {D':Uf} {σ:St} {H:Hp} {ρ:Rho} {S:Sto} {fl:Fl},En K F j H σ ρ S->m ρ S=some fl->ziN K F j H E D' fl->t D' σ H
def zlW (K:Et) (j:List Addr) (H:Hp) (J:It) (get:Sto->Option (List Xv)):Prop:=∀{F:Fm} {j':List Addr} {H':Hp} {σ:St} {ρ:Rho} {S:Sto} {xs:List Xv} (i:Nat),Ext j H j' H'->En K F j' H' σ ρ S->get S=some xs->
 (∀x,xs[i]? =some x->J.go i H'/\∀v H'',J.yld i H' v H''->WH H' H''/\Xis K j' H'' x v)/\(i=xs.length->J.stop i H')
def RI (K:Et) (E:XK) (t:TI) (m:TwI):Prop:=∀{F:Fm} {j:List Addr} {σ:St} {H:Hp} {ρ:Rho} {S:Sto} {r:Rs (Sto->Option (List Xv))} {R:It->Hp->Prop},En K F j H σ ρ S->m ρ S=some r->Po K F j H σ ρ E (λget j' H'=>∀J,zlW K j' H' J get->R J H') r->t σ H R
abbrev Op2:=Xv->Xv->Sto->Option (Xv×Sto)
abbrev Opn:=List Xv->Sto->Option (Xv×Sto)
def Vf (K:Et) (r:R2) (f:Op2):Prop:=∀{F:Fm} {j:List Addr} {σ:St} {H:Hp} {ρ:Rho} {S S':Sto} {x y z:Xv} {u v:V} {Q:VK},En K F j H σ ρ S->Xis K j H x u->Xis K j H y v->f x y S=some (z,S')->(∀w j' H',Ext j H j' H'->En K F j' H' σ ρ S'->Xis K j' H' z w->Q w H')->r u v H Q
def zlX (K:Et) (r:V->Hp->VK->Prop) (f:Xv->Sto->Option (Xv×Sto)):Prop:=∀{F:Fm} {j:List Addr} {σ:St} {H:Hp} {ρ:Rho} {S S':Sto} {x z:Xv} {u:V} {Q:VK},En K F j H σ ρ S->Xis K j H x u->f x S=some (z,S')->(∀w j' H',Ext j H j' H'->En K F j' H' σ ρ S'->Xis K j' H' z w->Q w H')->r u H Q
def zaa (K:Et) (r:List V->Hp->VK->Prop) (f:Opn):Prop:=∀{F:Fm} {j:List Addr} {σ:St} {H:Hp} {ρ:Rho} {S S':Sto} {xs:List Xv} {z:Xv} {vs:List V} {Q:VK},En K F j H σ ρ S->zV K j H xs vs->f xs S=some (z,S')->(∀w j' H',Ext j H j' H'->En K F j' H' σ ρ S'->Xis K j' H' z w->Q w H')->r vs H Q
noncomputable def ze (i:Nat):TwE:=λρ S=>match ρ[i]? with
 |some (some x)=>some (.ok x S)
 |_=>none
noncomputable def eC (x:Xv):TwE:=λ_ S=>some (.ok x S)
noncomputable def okP (o:Option (Xv×Sto)):Option (Rs Xv):=o.map λp=> .ok p.1 p.2
theorem wF {o:Option (Xv×Sto)} {r:Rs Xv} (h:okP o=some r):∃z S,o=some (z,S)/\r= .ok z S:=by
 cases o with
 |none=>cases h
 |some p=>cases h;exact⟨_,_,rfl,rfl⟩
noncomputable def eOp (f:Op2) (a b:TwE):TwE:=λρ S=>rb (a ρ S) λx S1=>rb (b ρ S1) λy S2=>okP (f x y S2)
noncomputable def eUn (f:Xv->Sto->Option (Xv×Sto)) (a:TwE):TwE:=λρ S=>rb (a ρ S) λx S1=>okP (f x S1)
noncomputable def bE (m:TwE):TwT:=λρ S=>rb (m ρ S) λx S1=>match x with
 | .bl b=>some (.ok b S1)
 |_=>none
noncomputable def zkF (a b:TwT):TwT:=λρ S=>rb (a ρ S) λx S1=>if x then b ρ S1 else some (.ok false S1)
noncomputable def bOr (a b:TwT):TwT:=λρ S=>rb (a ρ S) λx S1=>if x then some (.ok true S1) else b ρ S1
noncomputable def WI (a:TwT):TwT:=λρ S=>rb (a ρ S) λx S1=>some (.ok (!x) S1)
noncomputable def evL:List TwE->TwL
 |[]=>λ_ S=>some (.ok [] S)
 |m::r=>λρ S=>rb (m ρ S) λx S1=>rb (evL r ρ S1) λxs S2=>some (.ok (x::xs) S2)
noncomputable def wj (ms:List TwE):TwE:=λρ S=>rb (evL ms ρ S) λxs S1=>some (.ok (.tup xs) S1)
noncomputable def YU (ms:List TwE):TwE:=λρ S=>rb (evL ms ρ S) λxs S1=>some (.ok (.ref S1.length) (S1++[.lst xs]))
noncomputable def eFn (f:Opn) (ms:List TwE):TwE:=λρ S=>rb (evL ms ρ S) λxs S1=>okP (f xs S1)
section
variable {K:Et} {E:XK} {F:Fm} {j:List Addr} {H:Hp} {σ:St} {ρ:Rho} {S:Sto}
theorem Po.val {Q:VK} {x:Xv} {v:V} (k:Po K F j H σ ρ E (PoV K Q) (.ok x S)) (En0:En K F j H σ ρ S) (h:Xis K j H x v):Q v H:=k j H Ext.refl En0 v h
theorem zb (i:Nat):RE K E (zkh i) (ze i):=by
 intro F j σ H ρ S r Q En0 e k
 unfold ze at e
 split at e
 ·rename_i x ex
  cases e
  obtain⟨v,e1,e2⟩:=En0.slot i _ ex
  exact⟨v,e1,k.val En0 e2⟩
 ·cases e
theorem ziO {v:V} {x:Xv} (h:∀j H,Xis K j H x v):RE K E (tC v) (eC x):=λEn0 e k=>by
 cases e
 exact k.val En0 (h _ _)
theorem zn (i:Int):RE K E (tC (.int i)) (eC (.int i)):=ziO λ_ _=> .int i
theorem XI (b:Bool):RE K E (tC (.bl b)) (eC (.bl b)):=ziO λ_ _=> .bl b
theorem zt {r:R2} {f:Op2} {ta tb:TE} {a b:TwE} (ho:Vf K r f) (ha:RE K E ta a) (hb:RE K E tb b):RE K E (tOp r ta tb) (eOp f a b):=by
 intro F j σ H ρ S r Q En0 e k
 rcases zB e with⟨x,S1,e1,e⟩|⟨c,S1,e1,rfl⟩
 ·refine ha En0 e1 λj1 H1 X1 E1 u hu=> ?_
  rcases zB e with⟨y,S2,e2,e⟩|⟨c,S2,e2,rfl⟩
  ·obtain⟨z,S3,e3,rfl⟩:=wF e
   exact hb E1 e2 λj2 H2 X2 E2 v hv=>ho E2 (hu.mono X2) hv e3 λw j3 H3 X3 E3 hw=>k _ _ (X1.trans (X2.trans X3)) E3 _ hw
  ·exact hb E1 e2 (PX.mono k X1)
 ·exact ha En0 e1 k
theorem zbH {r:V->Hp->VK->Prop} {f:Xv->Sto->Option (Xv×Sto)} {ta:TE} {a:TwE} (ho:zlX K r f) (ha:RE K E ta a):RE K E (tUn r ta) (eUn f a):=by
 intro F j σ H ρ S r Q En0 e k
 rcases zB e with⟨x,S1,e1,e⟩|⟨c,S1,e1,rfl⟩
 ·obtain⟨z,S3,e3,rfl⟩:=wF e
  exact ha En0 e1 λj1 H1 X1 E1 u hu=>ho E1 hu e3 λw j3 H3 X3 E3 hw=>k _ _ (X1.trans X3) E3 _ hw
 ·exact ha En0 e1 k
theorem xW {t:TE} {m:TwE} (h:RE K E t m):RT K E (tB t) (bE m):=by
 intro F j σ H ρ S r Q En0 e k
 rcases zB e with⟨x,S1,e1,e⟩|⟨c,S1,e1,rfl⟩
 ·split at e
  ·cases e
   exact h En0 e1 λj1 H1 X1 E1 u hu=>⟨_,hu.bl_inv,k _ _ X1 E1⟩
  ·cases e
 ·exact h En0 e1 k
theorem Ww {t:TE} {m:TwE} (h:RE K E t m):RT K E (zjO t) (bE m):=xW h
theorem zkG {t u:TT} {a b:TwT} (ha:RT K E t a) (hb:RT K E u b):RT K E (zlD t u) (zkF a b):=by
 intro F j σ H ρ S r Q En0 e k
 rcases zB e with⟨x,S1,e1,e⟩|⟨c,S1,e1,rfl⟩
 ·refine ha En0 e1 λj1 H1 X1 E1=> ?_
  cases x with
  |true=>exact hb E1 e (k.step X1)
  |false=>cases e;exact k _ _ X1 E1
 ·exact ha En0 e1 k
theorem XW {t u:TT} {a b:TwT} (ha:RT K E t a) (hb:RT K E u b):RT K E (tOr t u) (bOr a b):=by
 intro F j σ H ρ S r Q En0 e k
 rcases zB e with⟨x,S1,e1,e⟩|⟨c,S1,e1,rfl⟩
 ·refine ha En0 e1 λj1 H1 X1 E1=> ?_
  cases x with
  |true=>cases e;exact k _ _ X1 E1
  |false=>exact hb E1 e (k.step X1)
 ·exact ha En0 e1 k
theorem Zd {t:TT} {a:TwT} (ha:RT K E t a):RT K E (zlE t) (WI a):=by
 intro F j σ H ρ S r Q En0 e k
 rcases zB e with⟨x,S1,e1,e⟩|⟨c,S1,e1,rfl⟩
 ·cases e
  exact ha En0 e1 λj1 H1 X1 E1=>k _ _ X1 E1
 ·exact ha En0 e1 k
theorem zh:RL K E zd7 (evL []):=λEn0 e k=>by
 cases e
 exact k _ _ Ext.refl En0 [] .nil
theorem zc {ta:TE} {tr:TA} {m:TwE} {ms:List TwE} (ha:RE K E ta m) (hr:RL K E tr (evL ms)):RL K E (UO ta tr) (evL (m::ms)):=by
 intro F j σ H ρ S r Q En0 e k
 rcases zB e with⟨x,S1,e1,e⟩|⟨c,S1,e1,rfl⟩
 ·refine ha En0 e1 λj1 H1 X1 E1 u hu=> ?_
  rcases zB e with⟨xs,S2,e2,e⟩|⟨c,S2,e2,rfl⟩
  ·cases e
   exact hr E1 e2 λj2 H2 X2 E2 vs hv=>k _ _ (X1.trans X2) E2 (u::vs) (.cons (hu.mono X2) hv)
  ·exact hr E1 e2 (PX.mono k X1)
 ·exact ha En0 e1 k
theorem Tl:∀{ms:List TwE} {ρ:Rho} {S S':Sto} {xs:List Xv},evL ms ρ S=some (.ok xs S')->xs.length=ms.length
 |[],_,_,_,_,h=>by cases h;rfl
 |m::ms,ρ,S,S',xs,h=>by
  rcases zB h with⟨x,S1,e1,h⟩|⟨c,S1,e1,z⟩
  ·rcases zB h with⟨ys,S2,e2,h⟩|⟨c,S2,e2,z⟩
   ·cases h
    simp[Tl e2]
   ·cases z
  ·cases z
theorem yA {t:TA} {ms:List TwE} (h:RL K E t (evL ms)) (hl:ms.length<=1000:=by simp):RE K E (zlO t) (wj ms):=by
 intro F j σ H ρ S r Q En0 e k
 rcases zB e with⟨xs,S1,e1,e⟩|⟨c,S1,e1,rfl⟩
 ·cases e
  refine h En0 e1 λj1 H1 X1 E1 vs hv=>⟨?_,λp hp=> ?_⟩
  ·rw[hv.len,Tl e1]
   exact EW hl ∅
  ·obtain⟨E2,X2⟩:=E1.new (o:= .tup vs) hp
   exact k _ _ (X1.trans X2) E2 _ (.tup yl (hv.mono X2))
 ·exact h En0 e1 k
theorem En.lst {xs:List Xv} {vs:List V} {p:Addr} (En0:En K F j H σ ρ S) (hv:zV K j H xs vs) (hp:H p=none):En K F (j++[p]) (upd H p (.lst vs)) σ ρ (S++[.lst xs])/\Ext j H (j++[p]) (upd H p (.lst vs))/\Xis K (j++[p]) (upd H p (.lst vs)) (.ref S.length) (.ref p):=by
 have X:Ext j H (j++[p]) (upd H p (.lst vs)):=⟨λn a e=>by rw[Ex (Es.1 e).1];exact e,ZK.same (vI hp)⟩
 obtain⟨E1,_⟩:=En0.cell (o:= .lst vs) (c:= .lst xs) hp ⟨vs,yl,hv.mono X⟩
 exact⟨E1,X,.ref (by rw[<-En0.jl];simp)⟩
theorem vt {t:TA} {ms:List TwE} (h:RL K E t (evL ms)) (hl:ms.length<=1000:=by simp):RE K E (zlP t) (YU ms):=by
 intro F j σ H ρ S r Q En0 e k
 rcases zB e with⟨xs,S1,e1,e⟩|⟨c,S1,e1,rfl⟩
 ·cases e
  refine h En0 e1 λj1 H1 X1 E1 vs hv=>⟨?_,λp hp=> ?_⟩
  ·rw[hv.len,Tl e1]
   exact EW hl ∅
  ·obtain⟨E2,X2,h2⟩:=E1.lst hv hp
   exact k _ _ (X1.trans X2) E2 _ h2
 ·exact h En0 e1 k
theorem xc {t:TA} {ms:List TwE} {r:List V->Hp->VK->Prop} {f:Opn} (hr:zaa K r f) (h:RL K E t (evL ms)):RE K E (tCB r t) (eFn f ms):=by
 intro F j σ H ρ S r Q En0 e k
 rcases zB e with⟨xs,S1,e1,e⟩|⟨c,S1,e1,rfl⟩
 ·obtain⟨z,S3,e3,rfl⟩:=wF e
  exact h En0 e1 λj1 H1 X1 E1 vs hv=>hr E1 hv e3 λw j3 H3 X3 E3 hw=>k _ _ (X1.trans X3) E3 _ hw
 ·exact h En0 e1 k
end
noncomputable def zv (S:Sto):Xv->Option (List Xv)
 | .ref n=>match S[n]? with
  |some (.lst xs)=>some xs
  |some (.frz xs)=>some xs
  |_=>none
 |_=>none
noncomputable def VC (S:Sto) (x:Xv):Option (List Xv):=match x.tupOf with
 |some xs=>some xs
 |none=>zv S x
noncomputable def zbf (S:Sto):Xv->Option (Nat×List Xv)
 | .ref n=>match S[n]? with
  |some (.lst xs)=>some (n,xs)
  |_=>none
 |_=>none
section
variable {K:Et} {E:XK} {F:Fm} {j:List Addr} {H:Hp} {σ:St} {ρ:Rho} {S:Sto} {x:Xv} {v:V}
theorem En.lstAt {xs:List Xv} (E0:En K F j H σ ρ S) (hx:Xis K j H x v) (h:L2.zv S x=some xs):∃a vs,v= .ref a/\SqX K H a vs/\zV K j H xs vs:=by
 cases x<;>simp only[L2.zv,reduceCtorEq] at h
 obtain⟨a,rfl,hj⟩:=hx.ref_inv
 split at h
 ·cases h
  obtain⟨vs,e1,e2⟩:=E0.cel _ _ _ (by assumption) hj
  exact⟨a,vs,rfl,SqX.of e1,e2⟩
 ·cases h
  obtain⟨vs,e1,e2⟩:=E0.cel _ _ _ (by assumption) hj
  refine⟨a,vs,rfl,?_,e2⟩
  rcases e1 with⟨o,e1⟩|e1
  ·exact .inl (.inr ⟨o,e1⟩)
  ·exact e1 H
 ·cases h
theorem En.seqAt {xs:List Xv} (E0:En K F j H σ ρ S) (hx:Xis K j H x v) (h:L2.VC S x=some xs):∃a vs,v= .ref a/\(SqX K H a vs\/SqT K H a vs)/\zV K j H xs vs:=by
 unfold L2.VC at h
 split at h
 ·cases h
  obtain⟨a,vs,e1,e2,e3⟩:=hx.tupO (by assumption)
  exact⟨a,vs,e1,.inr e2,e3⟩
 ·obtain⟨a,vs,e1,e2,e3⟩:=E0.lstAt hx h
  exact⟨a,vs,e1,.inl e2,e3⟩
theorem zbI {n:Nat} {xs:List Xv} (h:zbf S x=some (n,xs)):x= .ref n/\S[n]? =some (.lst xs):=by
 cases x<;>simp only[zbf,reduceCtorEq] at h
 split at h
 ·cases h;exact⟨rfl,by assumption⟩
 ·cases h
theorem En.wl {n:Nat} {xs:List Xv} (E0:En K F j H σ ρ S) (hx:Xis K j H x v) (h:zbf S x=some (n,xs)):∃a vs,v= .ref a/\j[n]? =some a/\H a=some (.lst vs)/\zV K j H xs vs:=by
 obtain⟨rfl,hs⟩:=zbI h
 obtain⟨a,rfl,hj⟩:=hx.ref_inv
 obtain⟨vs,e1,e2⟩:=E0.cel _ _ _ hs hj
 exact⟨a,vs,rfl,hj,e1,e2⟩
theorem En.wr {n:Nat} {xs ys:List Xv} {ws:List V} {a:Addr} (E0:En K F j H σ ρ S) (h:zbf S x=some (n,xs)) (hj:j[n]? =some a) (hw:zV K j H ys ws):En K F j (upd H a (.lst ws)) σ ρ (S.set n (.lst ys))/\Ext j H j (upd H a (.lst ws)):=
 E0.write (zbI h).2 rfl hj rfl λX=>⟨ws,yl,hw.mono X⟩
theorem tyL {a:Addr} {vs:List V} (h:SqL K H a vs):tyV K "list" (.ref a) H:= .inl ⟨rfl,vs,h⟩
noncomputable def Zr:Op2:=λx y S=>match x.tupOf,y with
 |some xs,.int i=>(atI xs i).map λz=>(z,S)
 |_,_=>none
noncomputable def xf:Op2:=λx y S=>match zv S x,y with
 |some xs,.int i=>(atI xs i).map λz=>(z,S)
 |_,_=>none
theorem xX:Vf K (zkx K) Zr:=by
 intro F j σ H ρ S S' x y z u v Q E0 hx hy h k
 unfold Zr at h
 split at h
 ·rename_i xs i ex
  cases e:atI xs i with
  |none=>rw[e] at h;cases h
  |some z'=>
   rw[e] at h
   cases h
   obtain⟨a,vs,rfl,h1,h2⟩:=hx.tupO ex
   obtain⟨w,e1,e2⟩:=h2.at_ e
   exact⟨a,vs,_,w,rfl,hy.int_inv,h1,e1,k _ _ _ Ext.refl E0 e2⟩
 ·cases h
theorem yp:Vf K (zkw K) xf:=by
 intro F j σ H ρ S S' x y z u v Q E0 hx hy h k
 unfold xf at h
 split at h
 ·rename_i xs i ex
  cases e:atI xs i with
  |none=>rw[e] at h;cases h
  |some z'=>
   rw[e] at h
   cases h
   obtain⟨a,vs,rfl,h1,h2⟩:=E0.lstAt hx ex
   obtain⟨w,e1,e2⟩:=h2.at_ e
   exact⟨a,vs,_,w,rfl,hy.int_inv,h1.sql,e1,k _ _ _ Ext.refl E0 e2⟩
 ·cases h
noncomputable def ze6 (m:TwE):TwO:=λρ S=>rb (m ρ S) λx S1=>match x with
 | .int i=>some (.ok (some i) S1)
 |_=>none
theorem ze7 {t:TE} {m:TwE} (h:RE K E t m):RO K E (zjQ t) (ze6 m):=by
 intro F j σ H ρ S r Q En0 e k
 rcases zB e with⟨x,S1,e1,e⟩|⟨c,S1,e1,rfl⟩
 ·split at e
  ·cases e
   exact h En0 e1 λj1 H1 X1 E1 u hu=>⟨_,hu.int_inv,k _ _ X1 E1⟩
  ·cases e
 ·exact h En0 e1 k
noncomputable def zcf {α:Type} (xs:List α) (lo hi:Option Int):List α:=(xs.drop (HT.sIx xs.length 0 lo)).take (HT.sIx xs.length xs.length hi-HT.sIx xs.length 0 lo)
theorem zV.cut {xs:List Xv} {vs:List V} (h:zV K j H xs vs) (lo hi:Option Int):zV K j H (zcf xs lo hi) (zfP vs lo hi):=by
 unfold zfP zcf
 rw[h.len]
 exact (h.drop _).take _
noncomputable def eSl (f:Xv->Option Int->Option Int->Sto->Option (Xv×Sto)) (m:TwE) (lo hi:TwO):TwE:=λρ S=>rb (m ρ S) λx S1=>rb (lo ρ S1) λy S2=>rb (hi ρ S2) λz S3=>okP (f x y z S3)
def zj1 (K:Et) (r:V->Option Int->Option Int->Hp->VK->Prop) (f:Xv->Option Int->Option Int->Sto->Option (Xv×Sto)):Prop:=∀{F:Fm} {j:List Addr} {σ:St} {H:Hp} {ρ:Rho} {S S':Sto} {x z:Xv} {lo hi:Option Int} {u:V} {Q:VK},En K F j H σ ρ S->Xis K j H x u->f x lo hi S=some (z,S')->(∀w j' H',Ext j H j' H'->En K F j' H' σ ρ S'->Xis K j' H' z w->Q w H')->r u lo hi H Q
theorem zlY {r:V->Option Int->Option Int->Hp->VK->Prop} {f:Xv->Option Int->Option Int->Sto->Option (Xv×Sto)} {te:TE} {tl th:TO} {m:TwE} {lo hi:TwO} (ho:zj1 K r f) (hm:RE K E te m) (hl:RO K E tl lo) (hh:RO K E th hi):RE K E (tSl r te tl th) (eSl f m lo hi):=by
 intro F j σ H ρ S r Q En0 e k
 rcases zB e with⟨x,S1,e1,e⟩|⟨c,S1,e1,rfl⟩
 ·refine hm En0 e1 λj1 H1 X1 E1 u hu=> ?_
  rcases zB e with⟨y,S2,e2,e⟩|⟨c,S2,e2,rfl⟩
  ·refine hl E1 e2 λj2 H2 X2 E2=> ?_
   rcases zB e with⟨z,S3,e3,e⟩|⟨c,S3,e3,rfl⟩
   ·obtain⟨w,S4,e4,rfl⟩:=wF e
    exact hh E2 e3 λj3 H3 X3 E3=>ho E3 (hu.mono (X2.trans X3)) e4 λw j4 H4 X4 E4 hw=>k _ _ (X1.trans (X2.trans (X3.trans X4))) E4 _ hw
   ·exact hh E2 e3 (PX.mono k (X1.trans X2))
  ·exact hl E1 e2 (PX.mono k X1)
 ·exact hm En0 e1 k
noncomputable def zeg:Xv->Option Int->Option Int->Sto->Option (Xv×Sto):=λx lo hi S=>(zv S x).map λxs=>(.ref S.length,S++[.lst (zcf xs lo hi)])
theorem zlZ:zj1 K (zgC K) zeg:=by
 intro F j σ H ρ S S' x z lo hi u Q E0 hx h k
 unfold zeg at h
 cases e:zv S x with
 |none=>rw[e] at h;cases h
 |some xs=>
  rw[e] at h
  cases h
  obtain⟨a,vs,rfl,h1,h2⟩:=E0.lstAt hx e
  refine⟨a,vs,rfl,h1.sql,λp hp=> ?_⟩
  obtain⟨E1,X1,h3⟩:=E0.lst (h2.cut lo hi) hp
  exact k _ _ _ X1 E1 h3
theorem zkH {te:TE} {tl th:TO} {m:TwE} {lo hi:TwO} (hm:RE K E te m) (hl:RO K E tl lo) (hh:RO K E th hi):RE K E (tSl (zgC K) te tl th) (eSl zeg m lo hi):= @zlY K E (zgC K) zeg te tl th m lo hi (@zlZ K) hm hl hh
abbrev OpM:=Xv->List Xv->Sto->Option (Xv×Sto)
def zl0 (K:Et) (r:V->List V->Hp->VK->Prop) (f:OpM):Prop:=∀{F:Fm} {j:List Addr} {σ:St} {H:Hp} {ρ:Rho} {S S':Sto} {x z:Xv} {ys:List Xv} {u:V} {vs:List V} {Q:VK},En K F j H σ ρ S->Xis K j H x u->zV K j H ys vs->f x ys S=some (z,S')->(∀w j' H',Ext j H j' H'->En K F j' H' σ ρ S'->Xis K j' H' z w->Q w H')->r u vs H Q
noncomputable def eMt (f:OpM) (o:TwE) (ms:List TwE):TwE:=λρ S=>rb (o ρ S) λx S1=>(zv S1 x).bind λ_=>rb (evL ms ρ S1) λys S2=>okP (f x ys S2)
theorem YV {r:V->List V->Hp->VK->Prop} {f:OpM} {to:TE} {t:TA} {o:TwE} {ms:List TwE} (hr:zl0 K r f) (ho:RE K E to o) (ht:RL K E t (evL ms)):RE K E (tBM K "list" r to t) (eMt f o ms):=by
 intro F j σ H ρ S r Q En0 e k
 rcases zB e with⟨x,S1,e1,e⟩|⟨c,S1,e1,rfl⟩
 ·refine ho En0 e1 λj1 H1 X1 E1 u hu=> ?_
  cases el:L2.zv S1 x with
  |none=>rw[el] at e;cases e
  |some l=>
   rw[el] at e
   obtain⟨a,vs,rfl,h1,_⟩:=E1.lstAt hu el
   refine⟨tyL h1.sql,?_⟩
   rcases zB e with⟨ys,S2,e2,e⟩|⟨c,S2,e2,rfl⟩
   ·obtain⟨z,S3,e3,rfl⟩:=wF e
    exact ht E1 e2 λj2 H2 X2 E2 ws hw=>hr E2 (hu.mono X2) hw e3 λw j3 H3 X3 E3 hz=>k _ _ (X1.trans (X2.trans X3)) E3 _ hz
   ·exact ht E1 e2 (PX.mono k X1)
 ·exact ho En0 e1 k
noncomputable def yt:OpM:=λx ys S=>match zbf S x,ys with
 |some (n,xs),[y]=>if xs.length<sizeLine then some (.non,S.set n (.lst (xs++[y]))) else none
 |_,_=>none
theorem yZ:zl0 K zeZ yt:=by
 intro F j σ H ρ S S' x z ys u vs Q E0 hx hy h k
 unfold yt at h
 split at h
 ·rename_i n xs y e
  split at h
  ·rename_i hl
   cases h
   obtain⟨a,ws,rfl,hj,h1,h2⟩:=E0.wl hx e
   obtain⟨w,rfl,hw⟩:=hy.d1
   obtain⟨E1,X1⟩:=E0.wr e hj (h2.append (.one hw))
   exact⟨a,ws,w,rfl,rfl,h1,by rw[h2.len];exact hl,k _ _ _ X1 E1 .non⟩
  ·cases h
 ·cases h
noncomputable def zI (a b:TwS):TwS:=λρ S=>match a ρ S with
 |some (.nx ρ1 S1)=>b ρ1 S1
 |r=>r
noncomputable def xg:TwS:=λρ S=>some (.nx ρ S)
noncomputable def yk (m:TwE) (g:TwG):TwS:=λρ S=>sb (m ρ S) λx S1=>sb (g x ρ S1) λρ1 S2=>some (.nx ρ1 S2)
noncomputable def vA (m:TwE):TwS:=λρ S=>sb (m ρ S) λ_ S1=>some (.nx ρ S1)
noncomputable def xo (m:TwE):TwS:=λρ S=>sb (m ρ S) λx S1=>some (.rt x S1)
noncomputable def sIf (c:TwT) (a b:TwS):TwS:=λρ S=>sb (c ρ S) λx S1=>if x then a ρ S1 else b ρ S1
noncomputable def ziP (i k:Nat) (ms:List TwE):TwS:=λρ S=>sb (evL ms ρ S) λxs S1=>match xs with
 |[a,b]=>some (.nx ((ρ.set i (some a)).set k (some b)) S1)
 |_=>none
noncomputable def turn (r:Option Fl) (go:Rho->Sto->Option Fl):Option Fl:=match r with
 |some (.nx ρ S)=>go ρ S
 |some (.ct ρ S)=>go ρ S
 |some (.bk ρ S)=>some (.nx ρ S)
 |r=>r
noncomputable def WP (get:Sto->Option (List Xv)) (g:TwG) (b:TwS):Nat->Nat->Rho->Sto->Option Fl
 |0,_,_,_=>none
 |f+1,i,ρ,S=>(get S).bind λxs=>match xs[i]? with
  |none=>if i=xs.length then some (.nx ρ S) else none
  |some x=>sb (g x ρ S) λρ1 S1=>turn (b ρ1 S1) λρ2 S2=>WP get g b f (i+1) ρ2 S2
noncomputable def vW (m:TwI) (g:TwG) (b:TwS):TwS:=λρ S=>sb (m ρ S) λget S1=>(get S1).bind λxs=>WP get g b (xs.length+1) 0 ρ S1
noncomputable def Th (c:TwT) (b:TwS):Nat->Rho->Sto->Option Fl
 |0,_,_=>none
 |n+1,ρ,S=>sb (c ρ S) λx S1=>if x then turn (b ρ S1) λρ2 S2=>Th c b n ρ2 S2 else some (.nx ρ S1)
noncomputable def sWh (n:Nat) (c:TwT) (b:TwS):TwS:=λρ S=>Th c b n ρ S
noncomputable def gN (i:Nat):TwG:=λx ρ S=>some (.ok (ρ.set i (some x)) S)
noncomputable def vB:zce:=λxs ρ S=>match xs with
 |[]=>some (.ok ρ S)
 |_=>none
noncomputable def zZ (g:TwG) (gs:zce):zce:=λxs ρ S=>match xs with
 |x::r=>rb (g x ρ S) λρ1 S1=>gs r ρ1 S1
 |_=>none
noncomputable def gT (n:Nat) (gs:zce):TwG:=λx ρ S=>x.tupOf.bind λl=>if l.length=n then gs l ρ S else none
noncomputable def Vg (o mi:TwE):TwG:=λd ρ S=>rb (o ρ S) λx S1=>rb (mi ρ S1) λy S2=>match zbf S2 x,y with
 |some (n,xs),.int i=>(ixN xs.length i).map λk=> .ok ρ (S2.set n (.lst (xs.set k d)))
 |_,_=>none
theorem zo {i:Nat}:RG K E (zbt i) (gN i):=λE0 hx e k=>by
 cases e
 exact k _ _ _ Ext.refl (E0.set hx)
theorem xY:RGs K E zkm vB:=by
 intro F j σ H ρ S r xs vs R E0 hv e k
 unfold vB at e
 split at e
 ·cases e
  obtain rfl:=hv.nil_inv
  exact⟨rfl,k _ _ _ Ext.refl E0⟩
 ·cases e
theorem zN {t:TG} {u:TGs} {g:TwG} {gs:zce} (h1:RG K E t g) (h2:RGs K E u gs):RGs K E (zgv t u) (zZ g gs):=by
 intro F j σ H ρ S r xs vs R E0 hv e k
 unfold zZ at e
 split at e
 ·obtain⟨w,ws,rfl,hw,eW⟩:=hv.cons_inv
  rcases zB e with⟨ρ1,S1,e1,e⟩|⟨c,S1,e1,rfl⟩
  ·exact⟨w,ws,rfl,h1 E0 hw e1 λσ1 j1 H1 X1 E1=>h2 E1 (eW.mono X1) e (k.step X1)⟩
  ·exact⟨w,ws,rfl,h1 E0 hw e1 k⟩
 ·cases e
theorem vK {n:Nat} {t:TGs} {gs:zce} (h:RGs K E t gs):RG K E (ziz K n t) (gT n gs):=by
 intro F j σ H ρ S r x v R E0 hx e k
 unfold gT at e
 cases ex:x.tupOf with
 |none=>rw[ex] at e;cases e
 |some l=>
  rw[ex] at e
  dsimp only[Jp] at e
  split at e
  ·rename_i hn
   obtain⟨a,vs,rfl,h1,h2⟩:=hx.tupO ex
   exact⟨a,vs,rfl,h1,by rw[h2.len];exact hn,h E0 h2 e k⟩
  ·cases e
theorem zab {to ti:TE} {o mi:TwE} (ho:RE K E to o) (hi:RE K E ti mi):RG K E (zlJ to ti zjR) (Vg o mi):=by
 intro F j σ H ρ S r d vd R E0 hd e k
 rcases zB e with⟨x,S1,e1,e⟩|⟨c,S1,e1,rfl⟩
 ·refine ho E0 e1 λj1 H1 X1 E1 u hu=> ?_
  rcases zB e with⟨y,S2,e2,e⟩|⟨c,S2,e2,rfl⟩
  ·refine hi E1 e2 λj2 H2 X2 E2 w hw=> ?_
   split at e
   ·rename_i n xs i ex
    cases e3:ixN xs.length i with
    |none=>rw[e3] at e;cases e
    |some m=>
     rw[e3] at e
     cases e
     obtain⟨a,vs,rfl,hj,h1,h2⟩:=E2.wl (hu.mono X2) ex
     obtain⟨E3,X3⟩:=E2.wr ex hj (h2.set (hd.mono (X1.trans X2)) m)
     exact⟨a,vs,i,m,rfl,hw.int_inv,h1,by rw[h2.len];exact e3,k _ _ _ (X1.trans (X2.trans X3)) E3⟩
   ·cases e
  ·exact hi E1 e2 (PX.mono k X1)
 ·exact ho E0 e1 k
theorem yn:RS K E zjL xg:=λE0 e k=>by
 cases e
 exact k _ _ _ Ext.refl E0
theorem zu {t u:TS} {a b:TwS} (ha:RS K E t a) (hb:RS K E u b):RS K E (zlF t u) (zI a b):=by
 intro F j D' σ H ρ S fl E0 e k
 unfold zI at e
 split at e
 ·rename_i ρ1 S1 e1
  exact ha (D':={D' with nx:=u D'}) E0 e1 λσ1 j1 H1 X1 E1=>hb E1 e (k.step X1)
 ·rename_i hn
  refine ha (D':={D' with nx:=u D'}) E0 e ?_
  cases fl with
  |nx ρ1 S1=>exact absurd e (hn ρ1 S1)
  |bk ρ1 S1=>exact k
  |ct ρ1 S1=>exact k
  |rt x S1=>exact k
  |ex c S1=>exact k
theorem zF {te:TE} {g:TG} {m:TwE} {g':TwG} (h:RE K E te m) (hg:RG K E g g'):RS K E (zko te g) (yk m g'):=by
 intro F j D' σ H ρ S fl E0 e k
 rcases xE e with⟨x,S1,e1,e⟩|⟨c,S1,e1,rfl⟩
 ·refine h E0 e1 λj1 H1 X1 E1 u hu=> ?_
  rcases xE e with⟨ρ1,S2,e2,e⟩|⟨c,S2,e2,rfl⟩
  ·cases e
   exact hg E1 hu e2 λσ2 j2 H2 X2 E2=>k _ _ _ (X1.trans X2) E2
  ·exact hg E1 hu e2 (PX.mono k X1)
 ·exact h E0 e1 k
theorem wP {te:TE} {m:TwE} (h:RE K E te m):RS K E (zjM te) (vA m):=by
 intro F j D' σ H ρ S fl E0 e k
 rcases xE e with⟨x,S1,e1,e⟩|⟨c,S1,e1,rfl⟩
 ·cases e
  exact h E0 e1 λj1 H1 X1 E1 u hu=>k _ _ _ X1 E1
 ·exact h E0 e1 k
theorem zS {te:TE} {m:TwE} (h:RE K E te m):RS K E (zlG te) (xo m):=by
 intro F j D' σ H ρ S fl E0 e k
 rcases xE e with⟨x,S1,e1,e⟩|⟨c,S1,e1,rfl⟩
 ·cases e
  exact h E0 e1 λj1 H1 X1 E1 u hu=>k _ _ _ _ _ X1 E1 hu
 ·exact h E0 e1 k
theorem xK {c:TT} {t u:TS} {m:TwT} {a b:TwS} (hc:RT K E c m) (ha:RS K E t a) (hb:RS K E u b):RS K E (zlH c t u) (sIf m a b):=by
 intro F j D' σ H ρ S fl E0 e k
 rcases xE e with⟨x,S1,e1,e⟩|⟨c,S1,e1,rfl⟩
 ·refine hc E0 e1 λj1 H1 X1 E1=> ?_
  cases x with
  |true=>exact ha E1 e (k.step X1)
  |false=>exact hb E1 e (k.step X1)
 ·exact hc E0 e1 k
theorem zkI {i m:Nat} {t:TA} {ms:List TwE} (h:RL K E t (evL ms)):RS K E (zlK i m t) (ziP i m ms):=by
 intro F j D' σ H ρ S fl E0 e k
 rcases xE e with⟨xs,S1,e1,e⟩|⟨c,S1,e1,rfl⟩
 ·split at e
  ·cases e
   refine h E0 e1 λj1 H1 X1 E1 vs hv=> ?_
   obtain⟨x,y,rfl,hx,hy⟩:=hv.d2
   exact⟨x,y,rfl,k _ _ _ X1 ((E1.set hx).set hy)⟩
  ·cases e
 ·exact h E0 e1 k
theorem zbJ {r:Option Fl} {go:Rho->Sto->Option Fl} {fl:Fl} (h:turn r go=some fl):∃f,r=some f/\((∃ρ S,(f= .nx ρ S\/f= .ct ρ S)/\go ρ S=some fl)\/(∃ρ S,f= .bk ρ S/\fl= .nx ρ S)\/(f=fl/\((∃x S,fl= .rt x S)\/∃c S,fl= .ex c S))):=by
 unfold turn at h
 split at h
 ·exact⟨_,rfl,.inl ⟨_,_,.inl rfl,h⟩⟩
 ·exact⟨_,rfl,.inl ⟨_,_,.inr rfl,h⟩⟩
 ·cases h;exact⟨_,rfl,.inr (.inl ⟨_,_,rfl,rfl⟩)⟩
 ·rename_i n1 n2 n3
  refine⟨fl,h,.inr (.inr ⟨rfl,?_⟩)⟩
  cases fl with
  |nx ρ S=>exact absurd h (n1 ρ S)
  |ct ρ S=>exact absurd h (n2 ρ S)
  |bk ρ S=>exact absurd h (n3 ρ S)
  |rt x S=>exact .inl ⟨x,S,rfl⟩
  |ex c S=>exact .inr ⟨c,S,rfl⟩
theorem xm {wi:TI} {g:TG} {tb:TS} {m:TwI} {g':TwG} {b:TwS} (hi:RI K E wi m) (hg:RG K E g g') (hb:RS K E tb b):RS K E (zlL wi g tb) (vW m g' b):=by
 intro F j D' σ H ρ S fl E0 e k
 rcases xE e with⟨get,S1,e1,e⟩|⟨c,S1,e1,rfl⟩
 ·refine hi E0 e1 λj1 H1 X1 E1 J ok=> ?_
  cases eg:get S1 with
  |none=>rw[eg] at e;cases e
  |some xs=>
   rw[eg] at e
   refine⟨λi n σ H=>∃j2 ρ2 S2,Ext j1 H1 j2 H/\En K F j2 H σ ρ2 S2/\WP get g' b n i ρ2 S2=some fl,⟨xs.length+1,j1,ρ,S1,Ext.refl,E1,e⟩,?_⟩
   rintro i n σ2 H2 ⟨j2,ρ2,S2,X2,E2,e2⟩
   cases n with
   |zero=>cases e2
   |succ n=>
    unfold WP at e2
    cases jz:get S2 with
    |none=>rw[jz] at e2;cases e2
    |some ys=>
     rw[jz] at e2
     dsimp only[Jp] at e2
     obtain⟨go,stop⟩:=ok i X2 E2 jz
     split at e2
     ·split at e2
      ·rename_i hl
       cases e2
       exact .inl ⟨stop hl,k _ _ _ (X1.trans X2) E2⟩
      ·cases e2
     ·rename_i x ex
      obtain⟨g1,g2⟩:=go x ex
      refine .inr ⟨g1,λσ' H'=>∃j3 ρ3 S3,Ext j1 H1 j3 H'/\En K F j3 H' σ' ρ3 S3/\WP get g' b n (i+1) ρ3 S3=some fl,λ_ _ z=>⟨n,G5 _,z⟩,λv H3 hy=> ?_⟩
      obtain⟨Sm,hv⟩:=g2 v H3 hy
      have E3:=E2.heap Sm
      have X3:Ext j2 H2 j2 H3:=Ext.same Sm
      rcases xE e2 with⟨ρ4,S4,e4,e2⟩|⟨c,S4,e4,rfl⟩
      ·refine hg E3 hv e4 λσ4 j4 H4 X4 E4=> ?_
       obtain⟨f5,e5,h5⟩:=zbJ e2
       refine hb E4 e5 ?_
       have X14:=X2.trans (X3.trans X4)
       rcases h5 with⟨ρ6,S6,h6,e6⟩|⟨ρ6,S6,rfl,rfl⟩|⟨rfl,h6⟩
       ·rcases h6 with rfl|rfl
        ·exact λσ5 j5 H5 X5 E5=>⟨j5,ρ6,S6,X14.trans X5,E5,e6⟩
        ·exact λσ5 j5 H5 X5 E5=>⟨j5,ρ6,S6,X14.trans X5,E5,e6⟩
       ·exact λσ5 j5 H5 X5 E5=>k _ _ _ (X1.trans (X14.trans X5)) E5
       ·rcases h6 with⟨x6,S6,rfl⟩|⟨c6,S6,rfl⟩
        ·exact λv σ5 ρ5 j5 H5 X5 E5 hv=>k v σ5 ρ5 _ _ (X1.trans (X14.trans X5)) E5 hv
        ·exact PX.mono k (X1.trans X14)
      ·exact hg E3 hv e4 (PX.mono k (X1.trans (X2.trans X3)))
 ·exact hi E0 e1 k
theorem zac {c:TT} {tb:TS} {m:TwT} {b:TwS} {n:Nat} (hc:RT K E c m) (hb:RS K E tb b):RS K E (zgw c tb) (sWh n m b):=by
 intro F j D' σ H ρ S fl E0 e k
 refine⟨λn σ2 H2=>∃j2 ρ2 S2,Ext j H j2 H2/\En K F j2 H2 σ2 ρ2 S2/\Th m b n ρ2 S2=some fl,⟨n,j,ρ,S,Ext.refl,E0,e⟩,?_⟩
 rintro n σ2 H2 ⟨j2,ρ2,S2,X2,E2,e2⟩
 cases n with
 |zero=>cases e2
 |succ n=>
  unfold Th at e2
  rcases xE e2 with⟨x,S3,e3,e2⟩|⟨c,S3,e3,rfl⟩
  ·refine hc E2 e3 λj3 H3 X3 E3=> ?_
   have X13:=X2.trans X3
   cases x with
   |false=>cases e2;exact k _ _ _ X13 E3
   |true=>
    obtain⟨f5,e5,h5⟩:=zbJ e2
    refine⟨λσ' H'=>∃j3 ρ3 S3,Ext j H j3 H'/\En K F j3 H' σ' ρ3 S3/\Th m b n ρ3 S3=some fl,λσ' H' z=>⟨n,G5 _,z⟩,hb E3 e5 ?_⟩
    rcases h5 with⟨ρ6,S6,h6,e6⟩|⟨ρ6,S6,rfl,rfl⟩|⟨rfl,h6⟩
    ·rcases h6 with rfl|rfl
     ·exact λσ5 j5 H5 X5 E5=>⟨j5,ρ6,S6,X13.trans X5,E5,e6⟩
     ·exact λσ5 j5 H5 X5 E5=>⟨j5,ρ6,S6,X13.trans X5,E5,e6⟩
    ·exact λσ5 j5 H5 X5 E5=>k _ _ _ (X13.trans X5) E5
    ·rcases h6 with⟨x6,S6,rfl⟩|⟨c6,S6,rfl⟩
     ·exact λv σ5 ρ5 j5 H5 X5 E5 hv=>k v σ5 ρ5 _ _ (X13.trans X5) E5 hv
     ·exact PX.mono k X13
  ·exact hc E2 e3 (PX.mono k X2)
noncomputable def iL (m:TwE):TwI:=λρ S=>rb (m ρ S) λx S1=>(zv S1 x).map λ_=> .ok (λS=>zv S x) S1
noncomputable def iT (m:TwE):TwI:=λρ S=>rb (m ρ S) λx S1=>x.tupOf.map λl=> .ok (λ_=>some l) S1
theorem yE {t:TE} {m:TwE} (h:RE K E t m):RI K E (zgy K t) (iL m):=by
 intro F j σ H ρ S r R En0 e k
 rcases zB e with⟨x,S1,e1,e⟩|⟨c,S1,e1,rfl⟩
 ·cases el:zv S1 x with
  |none=>rw[el] at e;cases e
  |some l=>
   rw[el] at e
   cases e
   refine h En0 e1 λj1 H1 X1 E1 u hu=> ?_
   obtain⟨a,vs,rfl,h1,_⟩:=E1.lstAt hu el
   refine⟨a,rfl,⟨vs,h1.sql⟩,k _ _ X1 E1 _ ?_⟩
   intro F2 j2 H2 σ2 ρ2 S2 xs i X2 E2 e2
   obtain⟨a',ws,ea,g1,g2⟩:=E2.lstAt (hu.mono X2) e2
   cases ea
   refine⟨λy ey=> ?_,λhle=>⟨ws,g1.sql,by rw[g2.len];omega⟩⟩
   obtain⟨w,f1,f2⟩:=g2.get ey
   refine⟨⟨ws,w,g1.sql,f1⟩,?_⟩
   rintro v' H' ⟨rfl,hx⟩
   have:=hx ws g1.sql
   rw[f1] at this
   cases this
   exact⟨WH.refl _,f2⟩
 ·exact h En0 e1 k
theorem zkJ {t:TE} {m:TwE} (h:RE K E t m):RI K E (zkq K t) (iT m):=by
 intro F j σ H ρ S r R En0 e k
 rcases zB e with⟨x,S1,e1,e⟩|⟨c,S1,e1,rfl⟩
 ·cases el:x.tupOf with
  |none=>rw[el] at e;cases e
  |some l=>
   rw[el] at e
   cases e
   refine h En0 e1 λj1 H1 X1 E1 u hu=> ?_
   obtain⟨a,vs,rfl,h1,_⟩:=hu.tupO el
   refine⟨a,rfl,⟨vs,h1⟩,k _ _ X1 E1 _ ?_⟩
   intro F2 j2 H2 σ2 ρ2 S2 xs i X2 E2 e2
   cases e2
   obtain⟨a',ws,ea,g1,g2⟩:=(hu.mono X2).tupO el
   cases ea
   refine⟨λy ey=> ?_,λhle=>⟨ws,g1,by rw[g2.len];omega⟩⟩
   obtain⟨w,f1,f2⟩:=g2.get ey
   refine⟨⟨ws,w,g1,f1⟩,?_⟩
   rintro v' H' ⟨rfl,hx⟩
   have:=hx ws g1
   rw[f1] at this
   cases this
   exact⟨WH.refl _,f2⟩
 ·exact h En0 e1 k
noncomputable def Yy (lo:Int) (n:Nat):List Xv:=(Fv n).map λ(k:Nat)=>Xv.int (lo+(k:Int))
noncomputable def iR1 (m:TwE):TwI:=λρ S=>rb (m ρ S) λx S1=>match x with
 | .int j=>if -(2^62)<=j/\j<2^62 then some (.ok (λ_=>some (Yy 0 j.toNat)) S1) else none
 |_=>none
theorem zgU {lo:Int} {n:Nat}:zlW K j H (Itr lo n) (λ_=>some (Yy lo n)):=by
 intro F2 j2 H2 σ2 ρ2 S2 xs i X2 E2 e2
 cases e2
 refine⟨λd hd=> ?_,λhle=> ?_⟩
 ·unfold Yy at hd
  rw[EB] at hd
  have hi:i<n:=by
   apply FP
   intro hn
   rw[Fe (by simp;omega)] at hd
   cases hd
  rw[HI hi] at hd
  cases hd
  refine⟨hi,?_⟩
  rintro x H' ⟨rfl,rfl⟩
  exact⟨WH.refl _,.int _⟩
 ·unfold Yy at hle
  simp at hle
  show n<=i
  omega
theorem xL {t:TE} {m:TwE} (h:RE K E t m):RI K E (zjN (UO t zd7)) (iR1 m):=by
 intro F j σ H ρ S r R En0 e k
 rcases zB e with⟨x,S1,e1,e⟩|⟨c,S1,e1,rfl⟩
 ·split at e
  ·split at e
   ·rename_i hb
    cases e
    exact h En0 e1 λj1 H1 X1 E1 u hu=>⟨_,by rw[hu.int_inv],hb.1,hb.2,k _ _ X1 E1 _ zgU⟩
   ·cases e
  ·cases e
 ·exact h En0 e1 k
end
noncomputable def rn {α β:Type} (m:Option (Rs α)) (f:α->Sto->Option β):Option β:=match m with
 |some (.ok a S)=>f a S
 |_=>none
theorem zcg {α β:Type} {m:Option (Rs α)} {f:α->Sto->Option β} {r:β} (h:rn m f=some r):∃a S,m=some (.ok a S)/\f a S=some r:=by
 unfold rn at h
 split at h
 ·exact⟨_,_,rfl,h⟩
 ·cases h
noncomputable def Yz (cap:List (Option Nat)) (ρ:Rho):Rho:=cap.map λo=>o.bind λi=>(ρ[i]?).join
noncomputable def vL (get:Sto->Option (List Xv)) (g:TwG) (c:TwT) (e:TwE) (ρc:Rho):Nat->Nat->List Xv->Sto->Option (Rs Xv)
 |0,_,_,_=>none
 |f+1,i,es,S=>(get S).bind λxs=>match xs[i]? with
  |none=>if i=xs.length then some (.ok (.ref S.length) (S++[.lst es])) else none
  |some x=>rn (g x ρc S) λρ1 S1=>rn (c ρ1 S1) λb S2=>if b then rn (e ρ1 S2) λy S3=>if es.length<sizeLine then vL get g c e ρc f (i+1) (es++[y]) S3 else none
    else vL get g c e ρc f (i+1) es S2
noncomputable def wu (cap:List (Option Nat)) (m:TwI) (g:TwG) (c:TwT) (e:TwE):TwE:=λρ S=>rb (m ρ S) λget S1=>(get S1).bind λxs=>vL get g c e (Yz cap ρ) (xs.length+1) 0 [] S1
noncomputable def wU:TwT:=λ_ S=>some (.ok true S)
section
variable {K:Et} {E:XK} {F:Fm} {j j':List Addr} {H H':Hp} {σ σ':St} {ρ ρ':Rho} {S S':Sto} {x:Xv} {v:V} {a:Addr} {o:HO}
theorem xZ:RT K E (λ_ H Q=>Q true H) wU:=λE1 e k=>by
 cases e
 exact k _ _ Ext.refl E1
def XX (j:List Addr) (S:Sto) (a:Addr):Prop:=∀(n:Nat) c,j[n]? =some a->S[n]? =some c->c.fz=true
theorem En.notIn (E1:En K F j H σ ρ S) (h:H a=none):XX j S a:=λn c e1 e2=>by
 cases z:c.fz with
 |true=>rfl
 |false=>
  obtain⟨o,e,_⟩:=(E1.cel n c a e2 e1).mu z
  rw[h] at e;cases e
theorem En.outside (E1:En K F j H σ ρ S) (h:XX j S a) {o0:HO} (h0:H a=some o0) (m0:o0.mu=true) (hf:F.H0 a=none):En K F j (upd H a o) σ ρ S/\Ext j H j (upd H a o):=by
 have X:Ext j H j (upd H a o):=⟨λ_ _ e=>e,λb u e m=>by
  have:b≠a:=λq=>by subst q;rw[h0] at e;cases e;rw[m] at m0;cases m0
  rw[yj this];exact e⟩
 refine⟨⟨E1.len,λi x e=> ?_,E1.jl,E1.inj,λn c b e1 e2=> ?_,E1.ext.trans X,E1.old,E1.l0,λb u e=> ?_,E1.fresh,λb e=> ?_⟩,X⟩
 ·obtain⟨v,e1,e2⟩:=E1.slot i x e
  exact⟨v,e1,e2.mono X⟩
 ·refine (E1.cel n c b e1 e2).mono X λz=>yj λq=> ?_
  subst q
  rw[h n c e2 e1] at z;cases z
 ·have hb:b≠a:=λq=>by subst q;rw[hf] at e;cases e
  rcases E1.keep b u e with h|h
  ·exact .inl (by rw[yj hb];exact h)
  ·exact .inr h
 ·have hb:b≠a:=λq=>by subst q;rw[yl] at e;cases e
  rw[yj hb] at e
  exact E1.dom b e
theorem En.adopt {c:Ce} (E1:En K F j H σ ρ S) (h:XX j S a) (hf:F.H0 a=none) (hc:zbe K (j++[a]) H a c):En K F (j++[a]) H σ ρ (S++[c])/\Ext j H (j++[a]) H:=by
 have X:Ext j H (j++[a]) H:=⟨λn b e=>by rw[Ex (Es.1 e).1];exact e,ZK.refl _⟩
 have lt:∀{n:Nat} {d:Ce},S[n]? =some d->n<S.length:=λe=>(Es.1 e).1
 have at_:∀{n:Nat} {b:Addr} {d:Ce},(j++[a])[n]? =some b->(S++[c])[n]? =some d->(j[n]? =some b/\S[n]? =some d)\/(n=S.length/\b=a/\d=c):=λ{n b d} e1 e2=>by
  by_cases hn:n<S.length
  ·rw[Ex hn] at e2
   rw[Ex (by rw[E1.jl];exact hn)] at e1
   exact .inl ⟨e1,e2⟩
  ·rw[EL ⋯] at e2
   rw[EL (by rw[E1.jl];omega),E1.jl] at e1
   cases hm:n-S.length with
   |zero=>rw[hm] at e1 e2;simp at e1 e2;exact .inr ⟨⋯,e1.symm,e2.symm⟩
   |succ m=>rw[hm] at e1;simp at e1
 refine⟨⟨E1.len,λi x e=> ?_,by simp[E1.jl],λn m b c1 c2 e1 e2 e3 e4 z1 z2=> ?_,λn d b e1 e2=> ?_,E1.ext.trans X,λn d e=> ?_,E1.l0,E1.keep,λn b hn e=> ?_,E1.dom⟩,X⟩
 ·obtain⟨v,e1,e2⟩:=E1.slot i x e
  exact⟨v,e1,e2.mono X⟩
 ·rcases at_ e1 e3 with⟨f1,f2⟩|⟨f1,f2,f3⟩
  ·rcases at_ e2 e4 with⟨g1,g2⟩|⟨g1,g2,g3⟩
   ·exact E1.inj n m b c1 c2 f1 g1 f2 g2 z1 z2
   ·subst g2
    rw[h n c1 f1 f2] at z1;cases z1
  ·rcases at_ e2 e4 with⟨g1,g2⟩|⟨g1,g2,g3⟩
   ·subst f2
    rw[h m c2 g1 g2] at z2;cases z2
   ·rw[f1,g1]
 ·rcases at_ e2 e1 with⟨f1,f2⟩|⟨f1,rfl,rfl⟩
  ·exact (E1.cel n d b f2 f1).mono X λ_=>rfl
  ·exact hc
 ·obtain⟨d',e1,e2⟩:=E1.old n d e
  exact⟨d',by rw[Ex (lt e1)];exact e1,e2⟩
 ·by_cases hm:n<j.length
  ·rw[Ex hm] at e
   exact E1.fresh n b hn e
  ·rw[EL ⋯] at e
   cases hk:n-j.length with
   |zero=>rw[hk] at e;simp at e;subst e;exact hf
   |succ m=>rw[hk] at e;simp at e
theorem zf0 {cap:List (Option Nat)} (E1:En K F j H σ ρ S):(Zq cap σ).length=(Yz cap ρ).length/\∀(i:Nat) x,(Yz cap ρ)[i]? =some (some x)->∃v,(Zq cap σ)[i]? =some (some v)/\Xis K j H x v:=by
 refine⟨by simp[Zq,Yz],λi x h=> ?_⟩
 unfold Yz at h
 unfold Zq
 rw[EB] at h ⊢
 cases e:cap[i]? with
 |none=>rw[e] at h;cases h
 |some o=>
  rw[e] at h
  cases o with
  |none=>simp at h
  |some k=>
   simp only[FZ,EC,FN] at h ⊢
   cases q:ρ[k]? with
   |none=>rw[q] at h;simp at h
   |some z=>
    rw[q] at h
    simp at h
    subst h
    obtain⟨v,e1,e2⟩:=E1.slot k x q
    exact⟨v,by rw[e1];rfl,e2⟩
theorem xp {cap:List (Option Nat)} {wi:TI} {g:TG} {tt:TT} {te:TE} {m:TwI} {g':TwG} {c:TwT} {e:TwE} (hi:RI K E wi m) (hg:RG K E0 g g') (hc:RT K E0 tt c) (he:RE K E0 te e):RE K E (zgJ cap wi g tt te) (wu cap m g' c e):=by
 intro F j σ H ρ S r Q En0 h k
 rcases zB h with⟨get,S1,e1,h⟩|⟨c1,S1,e1,rfl⟩
 ·refine hi En0 e1 λj1 H1 X1 E1 J ok acc b9=> ?_
  cases eg:get S1 with
  |none=>rw[eg] at h;cases h
  |some xs=>
   rw[eg] at h
   have hf:F.H0 acc=none:=E1.dom acc b9
   obtain⟨Ea,Xa⟩:=E1.new (o:= .lst []) b9
   refine⟨λi n ys H2=>∃j2 S2 es,Ext j1 H1 j2 H2/\En K F j2 H2 σ ρ S2/\H2 acc=some (.lst ys)/\zV K j2 H2 es ys/\XX j2 S2 acc/\vL get g' c e (Yz cap ρ) n i es S2=some r,
    ⟨xs.length+1,j1,S1,[],Xa,Ea,yl,.nil,E1.notIn b9,h⟩,?_⟩
   rintro i n ys H2 ⟨j2,S2,es,X2,E2,h2,hV,nin,e2⟩
   cases n with
   |zero=>cases e2
   |succ n=>
    unfold vL at e2
    cases jz:get S2 with
    |none=>rw[jz] at e2;cases e2
    |some zs=>
     rw[jz] at e2
     dsimp only[Jp] at e2
     obtain⟨go,stop⟩:=ok i X2 E2 jz
     split at e2
     ·split at e2
      ·rename_i hl
       cases e2
       obtain⟨E3,X3⟩:=E2.adopt (c:= .lst es) nin hf ⟨ys,h2,hV.mono ⟨λn b e=>by rw[Ex (Es.1 e).1];exact e,ZK.refl _⟩⟩
       exact .inl ⟨stop hl,k _ _ (X1.trans (X2.trans X3)) E3 _ (.ref (by rw[<-E2.jl];simp))⟩
      ·cases e2
     ·rename_i x ex
      obtain⟨g1,g2⟩:=go x ex
      refine .inr ⟨g1,λv H3 hy=> ?_⟩
      obtain⟨Sm,hv⟩:=g2 v H3 hy
      have E3:=E2.heap Sm
      have X3:Ext j2 H2 j2 H3:=Ext.same Sm
      have h3:H3 acc=some (.lst ys):=Sm _ _ h2
      obtain⟨cl,cs⟩:=zf0 (cap:=cap) E3
      have I0:=E3.enter cl cs
      obtain⟨ρ4,S4,e4,e2⟩:=zcg e2
      obtain⟨b,S5,e5,e2⟩:=zcg e2
      have behind:∀{j6:List Addr} {H6:Hp} {σ6:St} {ρ6:Rho} {S6:Sto},En K ⟨H3,j2,S2⟩ j6 H6 σ6 ρ6 S6->En K F j6 H6 σ ρ S6/\Ext j2 H2 j6 H6/\H6 acc=some (.lst ys)/\XX j6 S6 acc:=λ{j6 H6 σ6 ρ6 S6} X=>by
       obtain⟨E6,X6⟩:=E3.leave X
       refine⟨E6,X3.trans X6,?_,λn d q1 q2=> ?_⟩
       ·rcases X.keep acc _ h3 with q|⟨n,d,q1,q2,q3⟩
        ·exact q
        ·rw[nin n d q1 q2] at q3;cases q3
       ·by_cases hn:n<j2.length
        ·have p1:j2[n]? =some j2[n]:=Er hn
         have p2:=X6.pre n _ p1
         rw[q1] at p2
         cases p2
         have gO:n<S2.length:=by rw[<-E2.jl];exact hn
         obtain⟨d',f1,_,f3⟩:=X.old n _ (Er gO)
         rw[q2] at f1
         cases f1
         have hz:=nin n _ p1 (Er gO)
         rw[f3 hz]
         exact hz
        ·have q:=X.fresh n acc (by dsimp only;omega) q1
         have q:H3 acc=none:=q
         rw[h3] at q;cases q
      refine hg I0 hv e4 λσ4 j4 H4 X4 I4=>hc I4 e5 λj5 H5 X5 I5=> ?_
      cases b with
      |true=>
       rw[if_pos rfl]
       rw[if_pos rfl] at e2
       obtain⟨y,S6,e6,e2⟩:=zcg e2
       split at e2
       ·rename_i hsz
        refine he I5 e6 λj6 H6 X6 I6 w hw=> ?_
        obtain⟨E6,X26,h6,gW⟩:=behind I6
        obtain⟨E7,X7⟩:=E6.outside (o:= .lst (ys++[w])) gW h6 rfl hf
        refine⟨h6,by rw[hV.len];exact hsz,n,G5 _,j6,S6,es++[y],X2.trans (X26.trans X7),E7,yl,((hV.mono X26).append (.one hw)).mono X7,gW,e2⟩
       ·cases e2
      |false=>
       rw[if_neg (by simp)]
       rw[if_neg (by simp)] at e2
       obtain⟨E6,X26,h6,gW⟩:=behind I5
       exact⟨n,G5 _,j5,S5,es,X2.trans X26,E6,h6,hV.mono X26,gW,e2⟩
 ·exact hi En0 e1 k
theorem Ze {i:Nat} {cap:List (Option Nat)} {wi:TI} {g:TG} {tt:TT} {te:TE} {m:TwE} (h:RE K E (zgJ cap wi g tt te) m):RS K E (zdi i cap wi g tt te) (yk m (gN i)):=by
 intro F j D' σ H ρ S fl E1 e k
 rcases xE e with⟨x,S1,e1,e⟩|⟨c,S1,e1,rfl⟩
 ·cases e
  exact h (Q:=λv H2=>D'.nx (σ.set i (some v)) H2) E1 e1 λj1 H1 X1 E1 u hu=>k _ _ _ X1 (E1.set hu)
 ·exact h (Q:=λv H2=>D'.nx (σ.set i (some v)) H2) E1 e1 k
abbrev TwF:=List Xv->Sto->Option (Rs Xv)
noncomputable def xh (n k:Nat) (b:TwS):TwF:=λxs S=>if xs.length=n then match b (xs.map some++Fp k none) S with
  |some (.rt x S')=>some (.ok x S')
  |some (.nx _ S')=>some (.ok .non S')
  |some (.ex c S')=>some (.ex c S')
  |_=>none
 else none
def zl1 (K:Et) (F:Fm) (Q:VK) (E:XK):Rs Xv->Prop
 | .ok x S'=>∀v j' H' σ ρ,En K F j' H' σ ρ S'->Xis K j' H' x v->Q v H'
 | .ex c S'=>∀j' H' σ ρ C,En K F j' H' σ ρ S'->EI K mainGlobals c=some (some (.ref C))->E (.ref C) none H'
def sTw (K:Et) (n:Nat) (tw:TwF):Sp:=λvs H Q E=>vs.length=n/\∃(j:List Addr) (S:Sto) (xs:List Xv) (r:Rs Xv),En K ⟨H,j,S⟩ j H (vs.map some) (xs.map some) S/\tw xs S=some r/\zl1 K ⟨H,j,S⟩ Q E r
theorem xM {n k:Nat} {N:List Str} {t:TS} {b:TwS} {vs:List V} {Q:VK} (hN:N.length=n+k) (h:RS K E t b) (hs:sTw K n (xh n k b) vs H Q E):t {nx:=λ_ H'=>Q .non H',rt:=Q} (XR N vs) H:=by
 obtain⟨hn,j,S,xs,r,E1,e,ret⟩:=hs
 have es:XR N vs=vs.map some++Fp k none:=by
  unfold XR
  rw[hN,hn,Iy]
 rw[es]
 unfold xh at e
 split at e
 ·split at e
  ·rename_i x S' e1
   cases e
   exact h E1.grow e1 λv σ ρ j' H' X E' hv=>ret _ _ _ _ _ E' hv
  ·rename_i ρ' S' e1
   cases e
   exact h E1.grow e1 λσ j' H' X E'=>ret _ _ _ _ _ E' .non
  ·rename_i c S' e1
   cases e
   exact h E1.grow e1 λj' H' σ' ρ' C X E' hC=>ret _ _ _ _ _ E' hC
  ·cases e
 ·cases e
noncomputable def zC (tw:TwF) (ms:List TwE):TwE:=λρ S=>rb (evL ms ρ S) λxs S1=>tw xs S1
theorem zeh {xs:List Xv} {vs:List V} (hv:zV K j H xs vs):(vs.map some).length=(xs.map some).length/\∀(i:Nat) x,(xs.map some)[i]? =some (some x)->∃v,(vs.map some)[i]? =some (some v)/\Xis K j H x v:=by
 refine⟨by simp[hv.len],λi x h=> ?_⟩
 rw[EB] at h ⊢
 cases e:xs[i]? with
 |none=>rw[e] at h;cases h
 |some y=>
  rw[e] at h
  simp at h
  subst h
  obtain⟨v,e1,e2⟩:=hv.get e
  exact⟨v,by rw[e1];rfl,e2⟩
theorem zf1 {n:Nat} {tw:TwF} {xs:List Xv} {vs:List V} {r:Rs Xv} {Q:VK} {E':XK} (E1:En K F j H σ ρ S) (hv:zV K j H xs vs) (hn:vs.length=n) (et:tw xs S=some r) (k:Po K F j H σ ρ E' (PoV K Q) r):sTw K n tw vs H Q E':=by
 obtain⟨l,s⟩:=zeh hv
 refine⟨hn,j,S,xs,r,E1.enter l s,et,?_⟩
 cases r with
 |ok x S'=>
  intro v j' H' σ' ρ' X hx
  obtain⟨E2,X2⟩:=E1.leave X
  exact k j' H' X2 E2 v hx
 |ex c S'=>
  intro j' H' σ' ρ' C X hC
  obtain⟨E2,X2⟩:=E1.leave X
  exact k j' H' σ ρ C X2 E2 hC
theorem zx {n:Nat} {tw:TwF} {ms:List TwE} {t:TA} (h:RL K E t (evL ms)) (hn:ms.length=n:=by rfl):RE K E (zjP (sTw K n tw) [] E t) (zC tw ms):=by
 intro F j σ H ρ S r Q En0 e k
 rcases zB e with⟨xs,S1,e1,e⟩|⟨c,S1,e1,rfl⟩
 ·refine h En0 e1 λj1 H1 X1 E1 vs hv=> ?_
  rw[Gz]
  exact zf1 E1 hv (by rw[hv.len,Tl e1,hn]) e (k.step X1)
 ·exact h En0 e1 k
end
def zad (K:Et):Sp:=λvs H Q _=>∃(a:Addr) (ns:List Int),vs=[V.ref a]/\ziG H/\SqX K H a (ns.map V.int)/\ns.length<=63/\∀H',Q (.bl true) H'
theorem zkK {P:Program} {w:World} {K:Et} {mg:Str->Option Value} {base:Heap} {CX:CXT} {k:Nat} {f:Addr} {fd:FuncData} {ps:List Str} {tw:TwF} (Fn:xJ P w K mg base CX k f fd ps (sTw K 1 tw))
  (h:∀ns:List Int,ns.length<=63->∃S,tw [.ref 0] [.frz (ns.map Xv.int)]=some (.ok (.bl true) S)):xJ P w K mg base CX k f fd ps (zad K):=by
 refine Fn.imp ?_
 rintro vs H Q E ⟨a,ns,rfl,hO,hS,hl,q⟩
 obtain⟨S',e⟩:=h ns hl
 refine⟨rfl,[a],[.frz (ns.map Xv.int)],[.ref 0],_,?_,e,λv j' H' σ ρ E' hv=> ?_⟩
 ·refine⟨rfl,λi x e=> ?_,rfl,λn m b c d _ _ e3 _ z _=> ?_,λn c b e1 e2=> ?_,Ext.refl,λn c e=>⟨c,e,λz=>z,λ_=>rfl⟩,rfl,λb u e=> .inl e,λn b hn e=> ?_,λb e=>e⟩
  ·cases i with
   |zero=>simp at e;subst e;exact⟨_,rfl,.ref rfl⟩
   |succ i=>simp at e
  ·cases n with
   |zero=>simp at e3;subst e3;cases z
   |succ n=>simp at e3
  ·cases n with
   |zero=>
    simp at e1 e2
    subst e1 e2
    refine⟨ns.map V.int,?_,zV.ints ns⟩
    rcases hS with (hS|⟨o,hS⟩)|hS
    ·rcases hO a with z|⟨o,xs,z⟩
     ·rw[z] at hS;cases hS
     ·rw[z] at hS;cases hS
    ·exact .inl ⟨o,hS⟩
    ·exact .inr λH=> .inr hS
   |succ n=>simp at e1
  ·dsimp only at hn
   have:=(Es.1 e).1
   omega
 ·rw[hv.bl_inv]
  exact q H'
end L2
namespace L2
open PySem PySem.Spec PyProof.Rows
open PySem.Builtin.Int (intBits)
noncomputable def xI (g:Int->Int->Xv):Op2:=λx y S=>match x,y with
 | .int a,.int b=>some (g a b,S)
 |_,_=>none
noncomputable def xIC (c:Int->Int->Bool) (g:Int->Int->Xv):Op2:=λx y S=>match x,y with
 | .int a,.int b=>if c a b then some (g a b,S) else none
 |_,_=>none
noncomputable def vw:Op2:=xI λi j=> .int (i+j)
noncomputable def zf2:Op2:=xI λi j=> .int (i-j)
noncomputable def zf3:Op2:=xIC (λi j=>decide ((-(2^64)<i/\i<2^64)\/(-(2^64)<j/\j<2^64))) λi j=> .int (i*j)
noncomputable def ZL:Op2:=xIC (λi j=>decide (intBits i+intBits j<=134217728)) λi j=> .int (i*j)
noncomputable def Xp:Op2:=xIC (λ_ j=>decide (0<j)) λi j=> .int (i % j)
noncomputable def Vh:Op2:=xIC (λ_ j=>decide (j≠0/\intBits j<=9000)) λi j=> .int (i.fdiv j)
noncomputable def zei:Op2:=xIC (λi j=>decide (0<=j/\j<=1000000/\i.natAbs<2^64)) λi j=> .int (i^j.toNat)
noncomputable def dLt:Op2:=xI λi j=> .bl (decide (i<j))
noncomputable def dGt:Op2:=xI λi j=> .bl (decide (j<i))
noncomputable def zae:Op2:=xI λi j=> .bl (decide (i=j))
noncomputable def zaf:Op2:=xI λi j=> .bl (!decide (i=j))
noncomputable def Uk:Xv->Sto->Option (Xv×Sto):=λx S=>match x with
 | .int i=>some (.int (-i),S)
 |_=>none
section
variable {K:Et} {E:XK} {F:Fm} {j j':List Addr} {H H':Hp} {σ σ':St} {ρ ρ':Rho} {S S':Sto} {x:Xv} {v:V} {ta tb:TE} {a b:TwE}
theorem zgV {g:Int->Int->V} {g':Int->Int->Xv} (hg:∀i k j H,Xis K j H (g' i k) (g i k)):Vf K (rI0 g) (xI g'):=by
 intro F j σ H ρ S S' x y z u v Q E1 hx hy h k
 unfold xI at h
 split at h
 ·cases h
  exact⟨_,_,hx.int_inv,hy.int_inv,k _ _ _ Ext.refl E1 (hg _ _ _ _)⟩
 ·cases h
theorem zgW {C:Int->Int->Prop} {c:Int->Int->Bool} {g:Int->Int->V} {g':Int->Int->Xv} (hc:∀i j,c i j=true->C i j) (hg:∀i k j H,Xis K j H (g' i k) (g i k)):Vf K (rI C g) (xIC c g'):=by
 intro F j σ H ρ S S' x y z u v Q E1 hx hy h k
 unfold xIC at h
 split at h
 ·split at h
  ·cases h
   exact⟨_,_,hx.int_inv,hy.int_inv,hc _ _ (by assumption),k _ _ _ Ext.refl E1 (hg _ _ _ _)⟩
  ·cases h
 ·cases h
theorem zch {p:Int->Int->Bool} (ha:RE K E ta a) (hb:RE K E tb b):RE K E (zc1 p ta tb) (eOp (xI λi j=> .bl (p i j)) a b):=
 zt (r:=rI0 λi j=> .bl (p i j)) (zgV λi k _ _=> .bl _) ha hb
theorem yN:Vf K (rI0 λi j=> .int (i+j)) vw:=zgV λ_ _ _ _=> .int _
theorem zci:Vf K (rI0 λi j=> .int (i-j)) zf2:=zgV λ_ _ _ _=> .int _
theorem zej:Vf K (rI zgA λi j=> .int (i*j)) zf3:=zgW (λi j h=>by simpa [zgA] using h) λ_ _ _ _=> .int _
theorem vj:Vf K (rI zjV λi j=> .int (i*j)) ZL:=zgW (λi j h=>⟨intBits i,intBits j,EE _,EE _,by simpa using h⟩) λ_ _ _ _=> .int _
theorem ZE:Vf K (rI (λ_ j=>0<j) λi j=> .int (i % j)) Xp:=zgW (λi j h=>by simpa using h) λ_ _ _ _=> .int _
theorem VD:Vf K (rI zgL λi j=> .int (i.fdiv j)) Vh:=zgW (λi j h=>by simpa [zgL] using h) λ_ _ _ _=> .int _
theorem zek:Vf K (rI zkt λi j=> .int (i^j.toNat)) zei:=zgW (λi j h=>by simpa [zkt] using h) λ_ _ _ _=> .int _
theorem zj2 (ha:RE K E ta a) (hb:RE K E tb b):RE K E (tLt ta tb) (eOp dLt a b):=zch ha hb
theorem zdp (ha:RE K E ta a) (hb:RE K E tb b):RE K E (tGt ta tb) (eOp dGt a b):=zch ha hb
theorem Vi (ha:RE K E ta a) (hb:RE K E tb b):RE K E (zlB ta tb) (eOp zae a b):=zch ha hb
theorem XY (ha:RE K E ta a) (hb:RE K E tb b):RE K E (zlC ta tb) (eOp zaf a b):=zch ha hb
theorem Ul:zlX K (rU λi=> .int (-i)) Uk:=by
 intro F j σ H ρ S S' x z u Q E1 hx h k
 unfold Uk at h
 split at h
 ·cases h
  exact⟨_,hx.int_inv,k _ _ _ Ext.refl E1 (.int _)⟩
 ·cases h
noncomputable def zgX (g:Int->Xv):Opn:=λxs S=>match xs with
 |[.int i]=>some (g i,S)
 |_=>none
theorem ziQ {g:Int->V} {g':Int->Xv} (hg:∀i j H,Xis K j H (g' i) (g i)):zaa K (λxs H Q=>∃i,xs=[V.int i]/\Q (g i) H) (zgX g'):=by
 intro F j σ H ρ S S' xs z vs Q E1 hv h k
 unfold zgX at h
 split at h
 ·cases h
  obtain⟨x,rfl,hx⟩:=hv.d1
  exact⟨_,by rw[hx.int_inv],k _ _ _ Ext.refl E1 (hg _ _ _)⟩
 ·cases h
noncomputable def zgY:Opn:=zgX λi=> .int (if i<0 then -i else i)
theorem zgZ:zaa K (λxs H Q=>∃i,xs=[V.int i]/\Q (.int (if i<0 then -i else i)) H) zgY:=ziQ λ_ _ _=> .int _
noncomputable def Yj:Opn:=λxs S=>match xs with
 |[x]=>(VC S x).map λl=>(.int l.length,S)
 |_=>none
theorem vM:zaa K (λxs H Q=>∃p ys,xs=[V.ref p]/\(SqL K H p ys\/SqT K H p ys)/\Q (.int ys.length) H) Yj:=by
 intro F j σ H ρ S S' xs z vs Q E1 hv h k
 unfold Yj at h
 split at h
 ·rename_i x
  cases e:VC S x with
  |none=>rw[e] at h;cases h
  |some l=>
   rw[e] at h
   cases h
   obtain⟨w,rfl,hx⟩:=hv.d1
   obtain⟨a,ws,rfl,h1,h2⟩:=E1.seqAt hx e
   refine⟨a,ws,rfl,?_,k _ _ _ Ext.refl E1 (by rw[h2.len];exact .int _)⟩
   rcases h1 with h1|h1
   ·exact .inl h1.sql
   ·exact .inr h1
 ·cases h
noncomputable def WQ:Opn:=λxs S=>match xs with
 |[x]=>(VC S x).map λl=>(.ref S.length,S++[.lst l])
 |_=>none
theorem Tm:zaa K (λxs H Q=>∃p ys,xs=[V.ref p]/\(SqL K H p ys\/SqT K H p ys)/\∀l,H l=none->Q (.ref l) (upd H l (.lst ys))) WQ:=by
 intro F j σ H ρ S S' xs z vs Q E1 hv h k
 unfold WQ at h
 split at h
 ·rename_i x
  cases e:VC S x with
  |none=>rw[e] at h;cases h
  |some l=>
   rw[e] at h
   cases h
   obtain⟨w,rfl,hx⟩:=hv.d1
   obtain⟨a,ws,rfl,h1,h2⟩:=E1.seqAt hx e
   refine⟨a,ws,rfl,?_,λp hp=> ?_⟩
   ·rcases h1 with h1|h1
    ·exact .inl h1.sql
    ·exact .inr h1
   ·obtain⟨E2,X2,h3⟩:=E1.lst h2 hp
    exact k _ _ _ X2 E2 h3
 ·cases h
noncomputable def Um:Opn:=λxs S=>match xs with
 |[.tup l]=>some (.tup l,S)
 |[x]=>(zv S x).map λl=>(.tup l,S)
 |_=>none
theorem zdq:zaa K (λxs H Q=>∃p ys,xs=[V.ref p]/\((SqL K H p ys/\∀l,H l=none->Q (.ref l) (upd H l (.tup ys)))\/(SqT K H p ys/\Q (.ref p) H))) Um:=by
 intro F j σ H ρ S S' xs z vs Q E1 hv h k
 unfold Um at h
 split at h
 ·cases h
  obtain⟨w,rfl,hx⟩:=hv.d1
  obtain⟨a,ws,rfl,h1,h2⟩:=hx.tup_inv
  exact⟨a,ws,rfl,.inr ⟨SqT.of h1,k _ _ _ Ext.refl E1 hx⟩⟩
 ·rename_i x _
  cases e:zv S x with
  |none=>rw[e] at h;cases h
  |some l=>
   rw[e] at h
   cases h
   obtain⟨w,rfl,hx⟩:=hv.d1
   obtain⟨a,ws,rfl,h1,h2⟩:=E1.lstAt hx e
   refine⟨a,ws,rfl,.inl ⟨h1.sql,λp hp=> ?_⟩⟩
   obtain⟨E2,X2⟩:=E1.new (o:= .tup ws) hp
   exact k _ _ _ X2 E2 (.tup yl (h2.mono X2))
 ·cases h
noncomputable def Ym:List Xv->Option (List Int)
 |[]=>some []
 | .int i::r=>(Ym r).map (i:: ·)
 |_::_=>none
theorem VE:∀{xs:List Xv} {ns:List Int} {vs:List V},Ym xs=some ns->zV K j H xs vs->vs=ns.map V.int
 |[],ns,vs,e,h=>by cases e;exact h.nil_inv
 |x::r,ns,vs,e,h=>by
  obtain⟨v,ws,rfl,h1,h2⟩:=h.cons_inv
  cases x<;>simp only[Ym,reduceCtorEq] at e
  cases e2:Ym r with
  |none=>rw[e2] at e;cases e
  |some ms=>
   rw[e2] at e
   cases e
   rw[h1.int_inv,VE e2 h2]
   rfl
theorem Uo (ns:List Int):Ym (ns.map Xv.int)=some ns:=by
 induction ns with
 |nil=>rfl
 |cons n r ih=>simp[Ym,ih]
noncomputable def zag:Opn:=λxs S=>match xs with
 |[x]=>((zv S x).bind Ym).map λns=>(.int ns.sum,S)
 |_=>none
theorem zah:zaa K (zlU K) zag:=by
 intro F j σ H ρ S S' xs z vs Q E1 hv h k
 unfold zag at h
 split at h
 ·rename_i x
  cases e:zv S x with
  |none=>rw[e] at h;cases h
  |some l=>
   rw[e] at h
   cases e2:Ym l with
   |none=>simp[e2] at h
   |some ns=>
    simp[e2] at h
    obtain⟨rfl,rfl⟩:=h
    obtain⟨w,rfl,hx⟩:=hv.d1
    obtain⟨p,ws,rfl,h1,h2⟩:=E1.lstAt hx e
    refine⟨p,ns,rfl,?_,k _ _ _ Ext.refl E1 (.int _)⟩
    rw[<-VE e2 h2]
    exact h1.sql
 ·cases h
noncomputable def vC (f:Xv->Option D):List Xv->Option (List D)
 |[]=>some []
 |x::r=>(f x).bind λd=>(vC f r).map (d:: ·)
noncomputable def wa (S:Sto):Nat->Xv->Option D
 |0,x=>match x with
  | .non=>some .non
  | .bl b=>some (.bl b)
  | .int i=>some (.int i)
  | .str s=>some (.str s)
  |_=>none
 |n+1,x=>match x with
  | .non=>some .non
  | .bl b=>some (.bl b)
  | .int i=>some (.int i)
  | .str s=>some (.str s)
  | .tup l=>(vC (wa S n) l).map .tup
  | .ct l=>(vC (wa S n) l).map .tup
  | .ref m=>(zv S (.ref m)).bind λl=>(vC (wa S n) l).map .lst
theorem XZ {f:Xv->Option D} {n:Nat} (hf:∀x v d,Xis K j H x v->f x=some d->Is K H v d/\D.depth d<=n):∀{xs:List Xv} {vs:List V} {ds:List D},zV K j H xs vs->vC f xs=some ds->IsL K H vs ds/\D.depths ds<=n
 |_,_,_,.nil,e=>by cases e;exact⟨.nil,by simp[D.depths]⟩
 |x::r,_,ds,.cons h l,e=>by
  unfold vC at e
  cases e1:f x with
  |none=>rw[e1] at e;cases e
  |some d=>
   rw[e1] at e
   cases e2:vC f r with
   |none=>simp[e2] at e
   |some es=>
    simp[e2] at e
    subst e
    obtain⟨a1,a2⟩:=hf _ _ _ h e1
    obtain⟨b1,b2⟩:=XZ hf l e2
    exact⟨.cons a1 b1,by unfold D.depths;omega⟩
theorem VF (E1:En K F j H σ ρ S):∀(n:Nat) (x:Xv) (v:V) (d:D),Xis K j H x v->wa S n x=some d->Is K H v d/\D.depth d<=n
 |0,x,v,d,h,e=>by
  cases h<;>simp only[wa,FN,reduceCtorEq] at e<;>subst e<;>refine⟨by constructor,by simp[D.depth]⟩
 |n+1,x,v,d,h,e=>by
  have ih:=VF E1 n
  cases h with
  |non=>simp only[wa,FN] at e;subst e;exact⟨.non,by simp[D.depth]⟩
  |bl b=>simp only[wa,FN] at e;subst e;exact⟨.bl b,by simp[D.depth]⟩
  |int b=>simp only[wa,FN] at e;subst e;exact⟨.int b,by simp[D.depth]⟩
  |str b=>simp only[wa,FN] at e;subst e;exact⟨.str b,by simp[D.depth]⟩
  | @tup a vs l h1 h2=>
   simp only[wa] at e
   cases e2:vC (wa S n) l with
   |none=>rw[e2] at e;cases e
   |some ds=>
    rw[e2] at e
    cases e
    obtain⟨a1,a2⟩:=XZ ih h2 e2
    exact⟨.tup (SqT.of h1) a1,by unfold D.depth;omega⟩
  | @ct a vs l h1 h2=>
   simp only[wa] at e
   cases e2:vC (wa S n) l with
   |none=>rw[e2] at e;cases e
   |some ds=>
    rw[e2] at e
    cases e
    obtain⟨a1,a2⟩:=XZ ih h2 e2
    exact⟨.tup (h1 H) a1,by unfold D.depth;omega⟩
  | @ref m a h1=>
   simp only[wa] at e
   cases e1:zv S (.ref m) with
   |none=>rw[e1] at e;cases e
   |some l=>
    rw[e1] at e
    cases e2:vC (wa S n) l with
    |none=>simp[e2] at e
    |some ds=>
     simp[e2] at e
     subst e
     obtain⟨a',vs,ea,g1,g2⟩:=E1.lstAt (.ref h1) e1
     cases ea
     obtain⟨a1,a2⟩:=XZ ih g2 e2
     exact⟨.lst g1.sql a1,by unfold D.depth;omega⟩
noncomputable def D.many:D->Bool
 | .tup _=>true
 | .lst _=>true
 |_=>false
noncomputable def zel (c:String) (S:Sto):Xv->Option Bool
 | .non=>some false
 | .int _=>some (c=="int")
 | .bl _=>some (c=="bool"||c=="int")
 | .str _=>some (c=="str")
 | .tup _=>some (c=="tuple")
 | .ct _=>some (c=="tuple")
 | .ref n=>(zv S (.ref n)).map λ_=>c=="list"
structure zbK (c:String):Prop where
 non:∀K,FE K (.type "NoneType") (.type c)=some false
 bl:∀K,FE K (.type "bool") (.type c)=some (c=="bool"||c=="int")
 int:∀K,FE K (.type "int") (.type c)=some (c=="int")
 str:∀K,FE K (.type "str") (.type c)=some (c=="str")
 tup:∀K,FE K (.type "tuple") (.type c)=some (c=="tuple")
 lst:∀K,FE K (.type "list") (.type c)=some (c=="list")
theorem XL (a b:String) (K:Et) (h1:(Value.type a==Value.type b)=false) (h:(fastBuiltinMro a).map (·.contains (.type b))=some false) (hm:GB b=true):FE K (.type a) (.type b)=some false:=zkE h1 h hm rfl
theorem ze8:zbK "int":=⟨λK=>XL _ _ K ∅ (by decide+kernel) (by decide+kernel),λK=>zca,λK=>VA,λK=>XL _ _ K ∅ (by decide+kernel) (by decide+kernel),λK=>XL _ _ K ∅ (by decide+kernel) (by decide+kernel),λK=>XL _ _ K ∅ (by decide+kernel) (by decide+kernel)⟩
theorem zdr:zbK "bool":=⟨λK=>XL _ _ K ∅ (by decide+kernel) (by decide+kernel),λK=>VA,λK=>zcb,λK=>XL _ _ K ∅ (by decide+kernel) (by decide+kernel),λK=>XL _ _ K ∅ (by decide+kernel) (by decide+kernel),λK=>XL _ _ K ∅ (by decide+kernel) (by decide+kernel)⟩
theorem Up:zbK "tuple":=⟨λK=>XL _ _ K ∅ (by decide+kernel) (by decide+kernel),λK=>XL _ _ K ∅ (by decide+kernel) (by decide+kernel),λK=>XL _ _ K ∅ (by decide+kernel) (by decide+kernel),λK=>XL _ _ K ∅ (by decide+kernel) (by decide+kernel),λK=>VA,λK=>XL _ _ K ∅ (by decide+kernel) (by decide+kernel)⟩
theorem zai:zbK "list":=⟨λK=>XL _ _ K ∅ (by decide+kernel) (by decide+kernel),λK=>XL _ _ K ∅ (by decide+kernel) (by decide+kernel),λK=>XL _ _ K ∅ (by decide+kernel) (by decide+kernel),λK=>XL _ _ K ∅ (by decide+kernel) (by decide+kernel),λK=>XL _ _ K ∅ (by decide+kernel) (by decide+kernel),λK=>VA⟩
noncomputable def VG (c:String):Xv->Sto->Option (Xv×Sto):=λx S=>(zel c S x).map λb=>(.bl b,S)
theorem ziR {c:String} (ok:zbK c) (E1:En K F j H σ ρ S) {b:Bool} {Q:VK} (h:Xis K j H x v) (e:zel c S x=some b) (k:Q (.bl b) H):ziJ K [v,.ty c] H Q:=by
 cases h with
 |non=>cases e;exact⟨_,_,_,_,_,rfl,rfl,.of .non,ok.non K,k⟩
 |bl b=>cases e;exact⟨_,_,_,_,_,rfl,rfl,.of (.bl b),ok.bl K,k⟩
 |int i=>cases e;exact⟨_,_,_,_,_,rfl,rfl,.of (.int i),ok.int K,k⟩
 |str z=>cases e;exact⟨_,_,_,_,_,rfl,rfl,.of (.str z),ok.str K,k⟩
 |tup h l=>cases e;exact⟨_,_,_,_,_,rfl,rfl,.sqt (SqT.of h),ok.tup K,k⟩
 |ct h l=>cases e;exact⟨_,_,_,_,_,rfl,rfl,.sqt (h H),ok.tup K,k⟩
 | @ref n a h=>
  simp only[zel] at e
  cases e1:zv S (.ref n) with
  |none=>rw[e1] at e;cases e
  |some l=>
   rw[e1] at e
   cases e
   obtain⟨a',vs,ea,g1,g2⟩:=E1.lstAt (.ref h) e1
   cases ea
   exact⟨_,_,_,_,_,rfl,rfl,.sql g1.sql,ok.lst K,k⟩
theorem YA {c:String} {t:TE} {m:TwE} (ok:zbK c) (h:RE K E t m):RE K E (tCB (ziJ K) (UO t (UO (tC (.ty c)) zd7))) (eUn (VG c) m):=by
 intro F j σ H ρ S r Q En0 e k
 rcases zB e with⟨x,S1,e1,e⟩|⟨c,S1,e1,rfl⟩
 ·obtain⟨z,S3,e3,rfl⟩:=wF e
  unfold VG at e3
  cases e4:zel c S1 x with
  |none=>rw[e4] at e3;cases e3
  |some b=>
   rw[e4] at e3
   cases e3
   exact h En0 e1 λj1 H1 X1 E1 u hu=>ziR ok E1 hu e4 (k _ _ X1 E1 _ (.bl _))
 ·exact h En0 e1 k
noncomputable def YW:Xv->Sto->Option (Xv×Sto):=λx S=>(zv S x).map λl=>(.ref S.length,S++[.lst l.reverse])
theorem zem {t:TE} {m:TwE} (h:RE K E t m):RE K E (zdm K t) (eUn YW m):=by
 intro F j σ H ρ S r Q En0 e k
 rcases zB e with⟨x,S1,e1,e⟩|⟨c,S1,e1,rfl⟩
 ·obtain⟨z,S3,e3,rfl⟩:=wF e
  unfold YW at e3
  cases e4:zv S1 x with
  |none=>rw[e4] at e3;cases e3
  |some l=>
   rw[e4] at e3
   cases e3
   refine h En0 e1 λj1 H1 X1 E1 u hu=> ?_
   obtain⟨p,ys,rfl,h1,h2⟩:=E1.lstAt hu e4
   refine⟨p,ys,rfl,h1,λl hl=> ?_⟩
   obtain⟨E2,X2,h3⟩:=E1.lst h2.reverse hl
   exact k _ _ (X1.trans X2) E2 _ h3
 ·exact h En0 e1 k
noncomputable def wV (xs:List Xv):List Xv:=xs.zipIdx.map λp=> .tup [.int (p.2:Int),p.1]
theorem YX {xs:List Xv} {i:Nat} {y:Xv} (h:(wV xs)[i]? =some y):∃x,xs[i]? =some x/\y= .tup [.int (i:Int),x]:=by
 unfold wV at h
 rw[EB,List.getElem?_zipIdx] at h
 cases e:xs[i]? with
 |none=>rw[e] at h;cases h
 |some x=>
  rw[e] at h
  simp at h
  exact⟨x,rfl,h.symm⟩
theorem YY (xs:List Xv):(wV xs).length=xs.length:=by simp[wV]
noncomputable def iEn (m:TwE):TwI:=λρ S=>rb (m ρ S) λx S1=>(zv S1 x).map λ_=> .ok (λS=>(zv S x).map wV) S1
theorem zmr {p:Addr} {H':Hp} {i:Int} {y:Xv} {w:V} (Sm:WH H H') (hp:H' p=some (.tup [.int i,w])) (h:Xis K j H y w):Xis K j H' (.tup [.int i,y]) (.ref p):=
 .tup hp (.cons (.int i) (.one (h.mono (Ext.same Sm))))
theorem VH {t:TE} {m:TwE} (h:RE K E t m):RI K E (zjY K (UO t zd7)) (iEn m):=by
 intro F j σ H ρ S r R En0 e k
 rcases zB e with⟨x,S1,e1,e⟩|⟨c,S1,e1,rfl⟩
 ·cases el:zv S1 x with
  |none=>rw[el] at e;cases e
  |some l=>
   rw[el] at e
   cases e
   refine h En0 e1 λj1 H1 X1 E1 u hu=> ?_
   obtain⟨a,vs,rfl,h1,_⟩:=E1.lstAt hu el
   refine⟨a,rfl,⟨vs,h1.sql⟩,k _ _ X1 E1 _ ?_⟩
   intro F2 j2 H2 σ2 ρ2 S2 xs i X2 E2 e2
   dsimp only at e2
   cases ic:zv S2 x with
   |none=>rw[ic] at e2;cases e2
   |some l2=>
    rw[ic] at e2
    cases e2
    obtain⟨a',ws,ea,g1,g2⟩:=E2.lstAt (hu.mono X2) ic
    cases ea
    refine⟨λy ey=> ?_,λhle=>⟨ws,g1.sql,by rw[g2.len];rw[YY] at hle;omega⟩⟩
    obtain⟨y',ey',rfl⟩:=YX ey
    obtain⟨w,f1,f2⟩:=g2.get ey'
    refine⟨⟨ws,w,g1.sql,f1⟩,?_⟩
    rintro v' H' ⟨p,w',rfl,hp,rfl,hx⟩
    have:=hx ws g1.sql
    rw[f1] at this
    cases this
    exact⟨vI hp,zmr (vI hp) yl f2⟩
 ·exact h En0 e1 k
end
end L2
namespace L2
open PySem PySem.Spec PyProof.Rows
noncomputable def Wa:Xv->Option Key
 | .int i=>some (.inl i)
 | .str z=>some (.inr z)
 |_=>none
noncomputable def ZF (S:Sto):Xv->Option (Nat×List (Key×Xv))
 | .ref n=>match S[n]? with
  |some (.dk kvs)=>some (n,kvs)
  |_=>none
 |_=>none
noncomputable def wb (S:Sto):Xv->Option (Nat×List (Key×Xv))
 | .ref n=>match S[n]? with
  |some (.dk kvs)=>some (n,kvs)
  |some (.fdk kvs)=>some (n,kvs)
  |_=>none
 |_=>none
noncomputable def xi {κ:Type} [DecidableEq κ] (kvs:List (κ×Xv)) (k:κ):Option Xv:=(kvs.find? λkv=>decide (kv.1=k)).map (·.2)
noncomputable def XM {κ:Type} [DecidableEq κ] (kvs:List (κ×Xv)) (k:κ) (x:Xv):List (κ×Xv):=
 if (kvs.any λkv=>decide (kv.1=k))=true then kvs.map (λkv=>if kv.1=k then (kv.1,x) else kv) else kvs++[(k,x)]
section
variable {K:Et} {E:XK} {F:Fm} {j:List Addr} {H:Hp} {σ:St} {ρ:Rho} {S:Sto} {x:Xv} {v:V} {κ:Type}
theorem Wx {k:Key} (h:Xis K j H x v) (e:Wa x=some k):v=kV k:=by
 cases h<;>simp only[Wa,FN,reduceCtorEq] at e<;>subst e<;>rfl
theorem Uq {n:Nat} {kvs:List (Key×Xv)} (h:ZF S x=some (n,kvs)):x= .ref n/\S[n]? =some (.dk kvs):=by
 cases x<;>simp only[ZF,reduceCtorEq] at h
 split at h
 ·cases h;exact⟨rfl,by assumption⟩
 ·cases h
theorem En.dk {n:Nat} {kvs:List (Key×Xv)} (E1:En K F j H σ ρ S) (hx:Xis K j H x v) (h:ZF S x=some (n,kvs)):∃a ks,v= .ref a/\j[n]? =some a/\H a=some (.dK ks)/\KX K j H kvs ks:=by
 obtain⟨rfl,hs⟩:=Uq h
 obtain⟨a,rfl,hj⟩:=hx.ref_inv
 obtain⟨ks,e1,e2⟩:=E1.cel _ _ _ hs hj
 exact⟨a,ks,rfl,hj,e1,e2⟩
theorem zcj {p:Nat×List (Key×Xv)} (h:ZF S x=some p):wb S x=some p:=by
 obtain⟨n,kvs⟩:=p
 obtain⟨rfl,e⟩:=Uq h
 unfold wb
 dsimp only
 rw[e]
theorem ziS {n:Nat} {kvs:List (Key×Xv)} (h:S[n]? =some (.fdk kvs)):wb S (.ref n)=some (n,kvs):=by
 unfold wb
 dsimp only
 rw[h]
theorem En.dr {n:Nat} {kvs:List (Key×Xv)} (E1:En K F j H σ ρ S) (hx:Xis K j H x v) (h:wb S x=some (n,kvs)):∃a ks,v= .ref a/\j[n]? =some a/\Rd H a (.dK ks)/\KX K j H kvs ks:=by
 cases x<;>simp only[wb,reduceCtorEq] at h
 obtain⟨a,rfl,hj⟩:=hx.ref_inv
 split at h
 ·rename_i hs
  cases h
  obtain⟨ks,e1,e2⟩:=E1.cel _ _ _ hs hj
  exact⟨a,ks,rfl,hj,.inl e1,e2⟩
 ·rename_i hs
  cases h
  obtain⟨o,ks,e1,e2⟩:=E1.cel _ _ _ hs hj
  exact⟨a,ks,rfl,hj,.inr ⟨o,e1⟩,e2⟩
 ·cases h
theorem Rd.new {a p:Addr} {u o:HO} (h:Rd H a u) (hp:H p=none):Rd (upd H p o) a u:=by
 rcases h with h|⟨q,h⟩
 ·exact .inl (by rw[yj (xT h hp)];exact h)
 ·exact .inr ⟨q,by rw[yj (xT h hp)];exact h⟩
theorem Vd.r {a:Addr} {kvs:List (Key×V)} {k:Key} (e:Rd H a (.dK kvs)):Vd H a (kV k) (ZD kvs k):= .inl ⟨kvs,k,e,rfl,rfl⟩
theorem KX.len:∀{kvs:List (κ×Xv)} {ks:List (κ×V)},KX K j H kvs ks->ks.length=kvs.length
 |_,_,.nil=>rfl
 |_,_,.cons _ l=>by rw[F5,F5,l.len]
theorem KX.keys:∀{kvs:List (κ×Xv)} {ks:List (κ×V)},KX K j H kvs ks->ks.map (·.1)=kvs.map (·.1)
 |_,_,.nil=>rfl
 |_,_,.cons _ l=>by rw[Ey,Ey,l.keys]
theorem KX.vals:∀{kvs:List (κ×Xv)} {ks:List (κ×V)},KX K j H kvs ks->zV K j H (kvs.map (·.2)) (ks.map (·.2))
 |_,_,.nil=> .nil
 |_,_,.cons h l=> .cons h l.vals
theorem KX.val [DecidableEq κ] {k:κ}:∀{kvs:List (κ×Xv)} {ks:List (κ×V)},KX K j H kvs ks->(∀y,xi kvs k=some y->∃w,ZD ks k=some w/\Xis K j H y w)/\(xi kvs k=none->ZD ks k=none)
 |_,_,.nil=>⟨λ_ e=>by simp[xi] at e,λ_=>rfl⟩
 |(k1,y1)::r,(_,w1)::rs,.cons h l=>by
  obtain⟨i1,i2⟩:=KX.val (k:=k) l
  by_cases e:k1=k
  ·subst e
   refine⟨λy ey=> ?_,λey=> ?_⟩
   ·simp[xi] at ey
    subst ey
    exact⟨w1,by simp[ZD],h⟩
   ·simp[xi] at ey
  ·have e1:xi ((k1,y1)::r) k=xi r k:=by simp[xi,Fg,e]
   have e2:ZD ((k1,w1)::rs) k=ZD rs k:=by simp[ZD,Fg,e]
   rw[e1,e2]
   exact⟨i1,i2⟩
theorem KX.append:∀{kvs r:List (κ×Xv)} {ks rs:List (κ×V)},KX K j H kvs ks->KX K j H r rs->KX K j H (kvs++r) (ks++rs)
 |_,_,_,_,.nil,h=>h
 |_,_,_,_,.cons h l,g=> .cons h (l.append g)
theorem KX.any {f:κ->Bool}:∀{kvs:List (κ×Xv)} {ks:List (κ×V)},KX K j H kvs ks->(ks.any λp=>f p.1)=kvs.any λp=>f p.1
 |_,_,.nil=>rfl
 |_,_,.cons _ l=>by rw[Hb,Hb,l.any]
theorem KX.put [DecidableEq κ] {k:κ} (hx:Xis K j H x v) {kvs:List (κ×Xv)} {ks:List (κ×V)} (h:KX K j H kvs ks):KX K j H (XM kvs k x) (Uh ks k v):=by
 unfold XM Uh
 rw[h.any (f:=λa=>decide (a=k))]
 split
 ·rename_i hc
  clear hc
  induction h with
  |nil=>exact .nil
  | @cons k1 y w r rs h l ih=>
   rw[Ey,Ey]
   by_cases e:k1=k
   ·rw[if_pos e,if_pos e];exact .cons hx ih
   ·rw[if_neg e,if_neg e];exact .cons h ih
 ·exact h.append (.cons hx .nil)
theorem En.wdk {n:Nat} {kvs kvs':List (Key×Xv)} {ws:List (Key×V)} {a:Addr} (E1:En K F j H σ ρ S) (h:ZF S x=some (n,kvs)) (hj:j[n]? =some a) (hw:KX K j H kvs' ws):En K F j (upd H a (.dK ws)) σ ρ (S.set n (.dk kvs'))/\Ext j H j (upd H a (.dK ws)):=
 E1.write (Uq h).2 rfl hj rfl λX=>⟨ws,yl,hw.mono X⟩
noncomputable def Vj:TwE:=λ_ S=>some (.ok (.ref S.length) (S++[.dk []]))
theorem VI:RE K E zgF Vj:=by
 intro F j σ H ρ S r Q En0 e k p hp
 cases e
 have X:Ext j H (j++[p]) (upd H p (.dK [])):=⟨λn a e=>by rw[Ex (Es.1 e).1];exact e,ZK.same (vI hp)⟩
 obtain⟨E1,_⟩:=En0.cell (o:= .dK []) (c:= .dk []) hp ⟨[],yl,.nil⟩
 exact k _ _ X E1 _ (.ref (by rw[<-En0.jl];simp))
noncomputable def VJ (d k:TwE):TwE:=λρ S=>rb (d ρ S) λx S1=>rb (k ρ S1) λy S2=>match wb S2 x,Wa y with
 |some (_,kvs),some key=>(xi kvs key).map λz=> .ok z S2
 |_,_=>none
theorem VL {td ty:TE} {d k:TwE} (hd:RE K E td d) (hk:RE K E ty k):RE K E (zjT td ty) (VJ d k):=by
 intro F j σ H ρ S r Q En0 e kk
 rcases zB e with⟨x,S1,e1,e⟩|⟨c,S1,e1,rfl⟩
 ·refine hd En0 e1 λj1 H1 X1 E1 u hu=> ?_
  rcases zB e with⟨y,S2,e2,e⟩|⟨c,S2,e2,rfl⟩
  ·refine hk E1 e2 λj2 H2 X2 E2 w hw=> ?_
   split at e
   ·rename_i n kvs key ed ek
    cases ev:xi kvs key with
    |none=>rw[ev] at e;cases e
    |some z=>
     rw[ev] at e
     cases e
     obtain⟨a,ks,rfl,hj,f1,f2⟩:=E2.dr (hu.mono X2) ed
     obtain⟨z',g1,g2⟩:=f2.val.1 _ ev
     refine⟨a,z',rfl,?_,kk _ _ (X1.trans X2) E2 _ g2⟩
     rw[Wx hw ek,<-g1]
     exact Vd.r f1
   ·cases e
  ·exact hk E1 e2 (PX.mono kk X1)
 ·exact hd En0 e1 kk
noncomputable def zkL (neg:Bool) (k d:TwE):TwE:=λρ S=>rb (k ρ S) λy S1=>rb (d ρ S1) λx S2=>match ZF S2 x,Wa y with
 |some (_,kvs),some key=>some (.ok (.bl (neg !=(xi kvs key).isSome)) S2)
 |_,_=>none
theorem zck {a:Addr} {ks:List (Key×V)} {kvs:List (Key×Xv)} {key:Key} (f1:H a=some (.dK ks)) (f2:KX K j H kvs ks):∃o,Vd H a (kV key) o/\o.isSome=(xi kvs key).isSome/\∀z zd,Xis K j H z zd->Xis K j H ((xi kvs key).getD z) (o.getD zd):=by
 refine⟨_,Vd.k f1,?_,λz zd hz=> ?_⟩
 ·cases ev:xi kvs key with
  |none=>rw[f2.val.2 ev];rfl
  |some y=>obtain⟨w,g1,_⟩:=f2.val.1 _ ev;rw[g1];rfl
 ·cases ev:xi kvs key with
  |none=>rw[f2.val.2 ev];exact hz
  |some y=>obtain⟨w,g1,g2⟩:=f2.val.1 _ ev;rw[g1];exact g2
theorem zf4 {td ty:TE} {d k:TwE} (hk:RE K E ty k) (hd:RE K E td d):RE K E (ze2 ty td) (zkL true k d):=by
 intro F j σ H ρ S r Q En0 e kk
 rcases zB e with⟨y,S1,e1,e⟩|⟨c,S1,e1,rfl⟩
 ·refine hk En0 e1 λj1 H1 X1 E1 u hu=> ?_
  rcases zB e with⟨x,S2,e2,e⟩|⟨c,S2,e2,rfl⟩
  ·refine hd E1 e2 λj2 H2 X2 E2 w hw=> ?_
   split at e
   ·rename_i n kvs key ed ek
    cases e
    obtain⟨a,ks,rfl,hj,f1,f2⟩:=E2.dk hw ed
    obtain⟨o,g1,g2,_⟩:=zck (key:=key) f1 f2
    refine⟨a,o,rfl,by rw[Wx (hu.mono X2) ek];exact g1,kk _ _ (X1.trans X2) E2 _ ?_⟩
    rw[g2,JR]
    exact .bl _
   ·cases e
  ·exact hd E1 e2 (PX.mono kk X1)
 ·exact hk En0 e1 kk
noncomputable def zaj (d k z:TwE):TwE:=λρ S=>rb (d ρ S) λx S1=>(ZF S1 x).bind λ_=>rb (k ρ S1) λy S2=>rb (z ρ S2) λw S3=>match ZF S3 x,Wa y with
 |some (_,kvs),some key=>some (.ok ((xi kvs key).getD w) S3)
 |_,_=>none
theorem zak {td ty tx:TE} {d k z:TwE} (hd:RE K E td d) (hk:RE K E ty k) (hz:RE K E tx z):RE K E (zgG td ty tx) (zaj d k z):=by
 intro F j σ H ρ S r Q En0 e kk
 rcases zB e with⟨x,S1,e1,e⟩|⟨c,S1,e1,rfl⟩
 ·refine hd En0 e1 λj1 H1 X1 E1 u hu=> ?_
  cases rp:ZF S1 x with
  |none=>rw[rp] at e;cases e
  |some p0=>
   rw[rp] at e
   obtain⟨n0,AJ⟩:=p0
   obtain⟨a,AK,rfl,ux,f0,_⟩:=E1.dk hu rp
   refine⟨a,rfl,.inl ⟨AK,.inl f0⟩,?_⟩
   rcases zB e with⟨y,S2,e2,e⟩|⟨c,S2,e2,rfl⟩
   ·refine hk E1 e2 λj2 H2 X2 E2 w hw=> ?_
    rcases zB e with⟨q,S3,e3,e⟩|⟨c,S3,e3,rfl⟩
    ·refine hz E2 e3 λj3 H3 X3 E3 wq hq=> ?_
     split at e
     ·rename_i n kvs key ed ek
      cases e
      obtain⟨a',ks,ea,hj,f1,f2⟩:=E3.dk (hu.mono (X2.trans X3)) ed
      cases ea
      obtain⟨o,g1,_,g3⟩:=zck (key:=key) f1 f2
      exact⟨o,by rw[Wx hw ek];exact g1,kk _ _ (X1.trans (X2.trans X3)) E3 _ (g3 _ _ hq)⟩
     ·cases e
    ·exact hz E2 e3 (PX.mono kk (X1.trans X2))
   ·exact hk E1 e2 (PX.mono kk X1)
 ·exact hd En0 e1 kk
noncomputable def Ur (d k v:TwE):TwS:=λρ S=>sb (v ρ S) λz S1=>sb (d ρ S1) λx S2=>sb (k ρ S2) λy S3=>match ZF S3 x,Wa y with
 |some (n,kvs),some key=>if kvs.length<sizeLine then some (.nx ρ (S3.set n (.dk (XM kvs key z)))) else none
 |_,_=>none
theorem Tn {td ty tv:TE} {d k v:TwE} (hd:RE K E td d) (hk:RE K E ty k) (hv:RE K E tv v):RS K E (zjU td ty tv) (Ur d k v):=by
 intro F j D' σ H ρ S fl E0 e kk
 rcases xE e with⟨z,S1,e1,e⟩|⟨c,S1,e1,rfl⟩
 ·refine hv E0 e1 λj1 H1 X1 E1 wz pP=> ?_
  rcases xE e with⟨x,S2,e2,e⟩|⟨c,S2,e2,rfl⟩
  ·refine hd E1 e2 λj2 H2 X2 E2 u hu=> ?_
   rcases xE e with⟨y,S3,e3,e⟩|⟨c,S3,e3,rfl⟩
   ·refine hk E2 e3 λj3 H3 X3 E3 w hw=> ?_
    split at e
    ·rename_i n kvs key ed ek
     split at e
     ·rename_i hl
      cases e
      obtain⟨a,ks,rfl,hj,f1,f2⟩:=E3.dk (hu.mono X3) ed
      obtain⟨E4,X4⟩:=E3.wdk ed hj (f2.put (k:=key) (pP.mono (X2.trans X3)))
      refine⟨a,_,rfl,?_,kk _ _ _ (X1.trans (X2.trans (X3.trans X4))) E4⟩
      rw[Wx hw ek]
      exact zd9.k f1 (by rw[f2.len];exact hl)
     ·cases e
    ·cases e
   ·exact hk E2 e3 (PX.mono kk (X1.trans X2))
  ·exact hd E1 e2 (PX.mono kk X1)
 ·exact hv E0 e1 kk
noncomputable def vN {β:Type}:List (Key×β)->Option (List Int)
 |[]=>some []
 |(.inl i,_)::r=>(vN r).map (i:: ·)
 |_=>none
theorem YZ {β:Type}:∀{kvs:List (Key×β)} {ns:List Int},vN kvs=some ns->kvs.map (·.1)=ns.map Ft
 |[],ns,e=>by cases e;rfl
 |(.inl i,b)::r,ns,e=>by
  unfold vN at e
  cases e1:vN r with
  |none=>rw[e1] at e;cases e
  |some ms=>rw[e1] at e;cases e;rw[Ey,Ey,YZ e1]
 |(.inr i,b)::r,ns,e=>by cases e
noncomputable def zal:Opn:=λxs S=>match xs with
 |[x]=>((ZF S x).bind λp=>vN p.2).bind λns=>if ns.length<64 then some (.ref S.length,S++[.lst ((yX ns).map Xv.int)]) else none
 |_=>none
theorem zg0:zaa K zgR zal:=by
 intro F j σ H ρ S S' xs z vs Q E1 hv h k
 unfold zal at h
 split at h
 ·rename_i x
  cases e:ZF S x with
  |none=>rw[e] at h;cases h
  |some p=>
   obtain⟨n,kvs⟩:=p
   rw[e] at h
   cases e2:vN kvs with
   |none=>simp[e2] at h
   |some ns=>
    simp only[EC,e2] at h
    split at h
    ·rename_i cP
     cases h
     obtain⟨w,rfl,hx⟩:=hv.d1
     obtain⟨a,ks,rfl,hj,h1,h2⟩:=E1.dk hx e
     refine⟨a,ks,ns,rfl,h1,h2.keys.trans (YZ e2),cP,λq hq=> ?_⟩
     obtain⟨E2,X2,h3⟩:=E1.lst (zV.ints (yX ns)) hq
     exact k _ _ _ X2 E2 h3
    ·cases h
 ·cases h
theorem ziT {a:Addr} {ks:List (Key×V)} (h:Rd H a (.dK ks)):tyV K "dict" (.ref a) H:= .inr (.inr (.inl ⟨rfl,.inl ⟨ks,h⟩⟩))
theorem tyD {a:Addr} {ks:List (Key×V)} (h:H a=some (.dK ks)):tyV K "dict" (.ref a) H:=ziT (.inl h)
noncomputable def zds:Xv->Sto->Option (Xv×Sto):=λx S=>((wb S x).bind λp=>Ym (p.2.map (·.2))).map λns=>(.int ns.sum,S)
theorem ziU {to:TE} {o:TwE} (h:RE K E to o):RE K E (tCB zj0 (UO (zc8 K "dict" zjZ to) zd7)) (eUn zds o):=by
 intro F j σ H ρ S r Q En0 e k
 rcases zB e with⟨x,S1,e1,e⟩|⟨c,S1,e1,rfl⟩
 ·obtain⟨z,S3,e3,rfl⟩:=wF e
  refine h En0 e1 λj1 H1 X1 E1 u hu=> ?_
  unfold zds at e3
  cases e4:wb S1 x with
  |none=>rw[e4] at e3;cases e3
  |some p=>
   obtain⟨n,kvs⟩:=p
   rw[e4] at e3
   cases e2:Ym (kvs.map (·.2)) with
   |none=>simp[e2] at e3
   |some ns=>
    simp only[EC,e2,FZ,FN,Prod.mk.injEq] at e3
    obtain⟨rfl,rfl⟩:=e3
    obtain⟨a,ks,rfl,hj,h1,h2⟩:=E1.dr hu e4
    refine⟨ziT h1,a,ks,rfl,rfl,h1,λp hp=> ?_⟩
    obtain⟨E2,X2⟩:=E1.new (o:=zdo p a) hp
    exact⟨p,a,ks,ns,rfl,yl,h1.new hp,VE e2 h2.vals,k _ _ (X1.trans X2) E2 _ (.int _)⟩
 ·exact h En0 e1 k
noncomputable def zam (neg:Bool):Op2:=λx y S=>match zv S x,zv S y with
 |some xs,some []=>some (.bl (neg !=xs.isEmpty),S)
 |_,_=>none
theorem zg1 {neg:Bool}:Vf K (zgS K neg) (zam neg):=by
 intro F j σ H ρ S S' x y z u v Q E1 hx hy h k
 unfold zam at h
 split at h
 ·rename_i xs e1 e2
  cases h
  obtain⟨a,vs,rfl,h1,h2⟩:=E1.lstAt hx e1
  obtain⟨b,ws,rfl,g1,g2⟩:=E1.lstAt hy e2
  cases g2
  refine⟨a,b,vs,rfl,rfl,h1.sql,g1.sql,k _ _ _ Ext.refl E1 ?_⟩
  have:vs.isEmpty=xs.isEmpty:=by cases h2<;>rfl
  rw[this]
  exact .bl _
 ·cases h
end
open PySem.Builtin.Int (intBits)
def W {α:Type} (r:Option (Rs α)) (P:α->Sto->Prop):Prop:=∃a S,r=some (.ok a S)/\P a S
def WO (r:Option (Xv×Sto)) (P:Xv->Sto->Prop):Prop:=∃a S,r=some (a,S)/\P a S
def WS (r:Option Fl) (N:Rho->Sto->Prop) (R:Xv->Sto->Prop):Prop:=(∃ρ S,r=some (.nx ρ S)/\N ρ S)\/∃x S,r=some (.rt x S)/\R x S
section
variable {ρ:Rho} {S S':Sto} {d x y:Xv} {a b m o:TwE} {c:TwT} {s t:TwS} {i k:Nat} {P:Xv->Sto->Prop} {PB:Bool->Sto->Prop} {PL:List Xv->Sto->Prop} {PO:Option Int->Sto->Prop} {N:Rho->Sto->Prop} {R:Xv->Sto->Prop}
theorem W.of {α:Type} {r:Option (Rs α)} {a:α} {P:α->Sto->Prop} (e:r=some (.ok a S)) (h:P a S):W r P:=⟨a,S,e,h⟩
theorem WO.of {r:Option (Xv×Sto)} (e:r=some (x,S)) (h:P x S):WO r P:=⟨x,S,e,h⟩
theorem W.imp {α:Type} {r:Option (Rs α)} {P Q:α->Sto->Prop} (h:W r P) (k:∀a S,P a S->Q a S):W r Q:=by
 obtain⟨a,S,e,h⟩:=h
 exact⟨a,S,e,k _ _ h⟩
theorem WS.nx {r:Option Fl} (e:r=some (.nx ρ S)) (h:N ρ S):WS r N R:= .inl ⟨ρ,S,e,h⟩
theorem WS.rt {r:Option Fl} (e:r=some (.rt x S)) (h:R x S):WS r N R:= .inr ⟨x,S,e,h⟩
theorem W.bind {α β:Type} {r:Option (Rs α)} {f:α->Sto->Option (Rs β)} {P:β->Sto->Prop} (h:W r λa S=>W (f a S) P):W (rb r f) P:=by
 obtain⟨a,S,rfl,h⟩:=h
 exact h
theorem WS.bind {α:Type} {r:Option (Rs α)} {f:α->Sto->Option Fl} (h:W r λa S=>WS (f a S) N R):WS (sb r f) N R:=by
 obtain⟨a,S,rfl,h⟩:=h
 exact h
theorem W.okP {r:Option (Xv×Sto)} (h:WO r P):W (okP r) P:=by
 obtain⟨a,S,rfl,h⟩:=h
 exact⟨a,S,rfl,h⟩
theorem vx (h:ρ[i]? =some (some d)) (k:P d S):W (ze i ρ S) P:= .of (by unfold ze;rw[h]) k
theorem zkM (k:P d S):W (eC d ρ S) P:= .of rfl k
theorem US {f:Op2} (h:W (a ρ S) λx S1=>W (b ρ S1) λy S2=>WO (f x y S2) P):W (eOp f a b ρ S) P:=W.bind (h.imp λ_ _ h=>W.bind (h.imp λ_ _ h=>W.okP h))
theorem zl2 {f:Xv->Sto->Option (Xv×Sto)} (h:W (a ρ S) λx S1=>WO (f x S1) P):W (eUn f a ρ S) P:=W.bind (h.imp λ_ _ h=>W.okP h)
theorem ze9 (h:W (a ρ S) λx S1=>∃v,x= .bl v/\PB v S1):W (bE a ρ S) PB:=W.bind (h.imp λx S1 h=>by obtain⟨v,rfl,k⟩:=h;exact .of rfl k)
theorem Zf (h:W (c ρ S) λv S1=>PB (!v) S1):W (WI c ρ S) PB:=W.bind (h.imp λ_ _ k=> .of rfl k)
theorem zkN {c2:TwT} (h:W (c ρ S) λv S1=>(v=true->W (c2 ρ S1) PB)/\(v=false->PB false S1)):W (zkF c c2 ρ S) PB:=W.bind (h.imp λv S1 k=>by
 cases v with
 |true=>rw[if_pos rfl];exact k.1 rfl
 |false=>exact .of rfl (k.2 rfl))
theorem Wb {c2:TwT} (h:W (c ρ S) λv S1=>(v=true->PB true S1)/\(v=false->W (c2 ρ S1) PB)):W (bOr c c2 ρ S) PB:=W.bind (h.imp λv S1 k=>by
 cases v with
 |true=>exact .of rfl (k.1 rfl)
 |false=>rw[if_neg (by simp)];exact k.2 rfl)
theorem Vk (k:PL [] S):W (evL [] ρ S) PL:= .of rfl k
theorem vk {ms:List TwE} (h:W (m ρ S) λd S1=>W (evL ms ρ S1) λds S2=>PL (d::ds) S2):W (evL (m::ms) ρ S) PL:=W.bind (h.imp λ_ _ h=>W.bind (h.imp λ_ _ k=> .of rfl k))
theorem zen {ms:List TwE} (h:W (evL ms ρ S) λds S1=>P (.tup ds) S1):W (wj ms ρ S) P:=W.bind (h.imp λ_ _ k=> .of rfl k)
theorem zkO {ms:List TwE} (h:W (evL ms ρ S) λds S1=>P (.ref S1.length) (S1++[.lst ds])):W (YU ms ρ S) P:=W.bind (h.imp λ_ _ k=> .of rfl k)
theorem zg2 {f:Opn} {ms:List TwE} (h:W (evL ms ρ S) λds S1=>WO (f ds S1) P):W (eFn f ms ρ S) P:=W.bind (h.imp λ_ _ h=>W.okP h)
theorem VM {tw:TwF} {ms:List TwE} (h:W (evL ms ρ S) λds S1=>W (tw ds S1) P):W (zC tw ms ρ S) P:=W.bind h
theorem zg3 (h:W (m ρ S) λx S1=>∃k,x= .int k/\PO (some k) S1):W (ze6 m ρ S) PO:=W.bind (h.imp λx S1 h=>by obtain⟨v,rfl,k⟩:=h;exact .of rfl k)
theorem zl3 {f:Xv->Option Int->Option Int->Sto->Option (Xv×Sto)} {lo hi:TwO} (h:W (m ρ S) λx S1=>W (lo ρ S1) λu S2=>W (hi ρ S2) λv S3=>WO (f x u v S3) P):W (eSl f m lo hi ρ S) P:=
 W.bind (h.imp λ_ _ h=>W.bind (h.imp λ_ _ h=>W.bind (h.imp λ_ _ h=>W.okP h)))
theorem Xb {f:OpM} {ms:List TwE} (h:W (o ρ S) λx S1=>(∃l,zv S1 x=some l)/\W (evL ms ρ S1) λys S2=>WO (f x ys S2) P):W (eMt f o ms ρ S) P:=W.bind (h.imp λx S1 h=>by
 obtain⟨⟨l,e⟩,h⟩:=h
 rw[e,EC]
 exact W.bind (h.imp λ_ _ h=>W.okP h))
theorem zg4 (k:P (.ref S.length) (S++[.dk []])):W (Vj ρ S) P:= .of rfl k
theorem zan (h:W (a ρ S) λx S1=>W (b ρ S1) λy S2=>∃n kvs k z,wb S2 x=some (n,kvs)/\Wa y=some k/\xi kvs k=some z/\P z S2):W (VJ a b ρ S) P:=
 W.bind (h.imp λ_ _ h=>W.bind (h.imp λ_ _ h=>by obtain⟨n,kvs,k,z,e1,e2,e3,q⟩:=h;rw[e1,e2];dsimp only;rw[e3];exact .of rfl q))
theorem zcl (h:W (a ρ S) λx S1=>W (b ρ S1) λy S2=>∃n kvs k z,ZF S2 x=some (n,kvs)/\Wa y=some k/\xi kvs k=some z/\P z S2):W (VJ a b ρ S) P:=zan (h.imp λ_ _ h=>h.imp λ_ _ ⟨n,kvs,k,z,e,r⟩=>⟨n,kvs,k,z,zcj e,r⟩)
theorem zkP {neg:Bool} (h:W (a ρ S) λy S1=>W (b ρ S1) λx S2=>∃n kvs k,ZF S2 x=some (n,kvs)/\Wa y=some k/\P (.bl (neg !=(xi kvs k).isSome)) S2):W (zkL neg a b ρ S) P:=
 W.bind (h.imp λ_ _ h=>W.bind (h.imp λ_ _ h=>by obtain⟨n,kvs,k,e1,e2,q⟩:=h;rw[e1,e2];exact .of rfl q))
theorem zao {z:TwE} (h:W (a ρ S) λx S1=>(∃p,ZF S1 x=some p)/\W (b ρ S1) λy S2=>W (z ρ S2) λw S3=>∃n kvs k,ZF S3 x=some (n,kvs)/\Wa y=some k/\P ((xi kvs k).getD w) S3):W (zaj a b z ρ S) P:=
 W.bind (h.imp λx S1 h=>by
  obtain⟨⟨p,e0⟩,h⟩:=h
  rw[e0,EC]
  exact W.bind (h.imp λ_ _ h=>W.bind (h.imp λ_ _ h=>by obtain⟨n,kvs,k,e1,e2,q⟩:=h;rw[e1,e2];exact .of rfl q)))
theorem To (h:W (m ρ S) λz S1=>W (a ρ S1) λx S2=>W (b ρ S2) λy S3=>∃n kvs k,ZF S3 x=some (n,kvs)/\Wa y=some k/\kvs.length<sizeLine/\N ρ (S3.set n (.dk (XM kvs k z)))):WS (Ur a b m ρ S) N R:=
 WS.bind (h.imp λ_ _ h=>WS.bind (h.imp λ_ _ h=>WS.bind (h.imp λ_ _ h=>by obtain⟨n,kvs,k,e1,e2,e3,q⟩:=h;rw[e1,e2];dsimp only;rw[if_pos e3];exact .nx rfl q)))
theorem yS (h:WS (s ρ S) (λρ1 S1=>WS (t ρ1 S1) N R) R):WS (zI s t ρ S) N R:=by
 unfold zI
 rcases h with⟨ρ1,S1,e,h⟩|⟨x,S1,e,h⟩
 ·rw[e];exact h
 ·rw[e];exact .rt rfl h
theorem Tp (h:N ρ S):WS (xg ρ S) N R:= .nx rfl h
theorem zcm {g:TwG} (h:W (m ρ S) λd S1=>W (g d ρ S1) N):WS (yk m g ρ S) N R:=WS.bind (h.imp λ_ _ h=>WS.bind (h.imp λ_ _ k=> .nx rfl k))
theorem Wc (h:W (m ρ S) λd S1=>N (ρ.set i (some d)) S1):WS (yk m (gN i) ρ S) N R:=WS.bind (h.imp λ_ _ k=> .nx rfl k)
theorem zap (h:W (m ρ S) λd S1=>W (a ρ S1) λx S2=>W (b ρ S2) λy S3=>∃n l q j,zbf S3 x=some (n,l)/\y= .int q/\ixN l.length q=some j/\N ρ (S3.set n (.lst (l.set j d)))):WS (yk m (Vg a b) ρ S) N R:=
 WS.bind (h.imp λd S1 h=>WS.bind (W.bind (h.imp λx S2 h=>W.bind (h.imp λy S3 h=>by
  obtain⟨n,l,q,j,e1,rfl,e2,k⟩:=h
  rw[e1]
  dsimp only
  rw[e2]
  exact .of rfl (.nx rfl k)))))
theorem vm (h:W (m ρ S) λ_ S1=>N ρ S1):WS (vA m ρ S) N R:=WS.bind (h.imp λ_ _ k=> .nx rfl k)
theorem Xq (h:W (m ρ S) λd S1=>R d S1):WS (xo m ρ S) N R:=WS.bind (h.imp λ_ _ k=> .rt rfl k)
theorem xR (h:W (c ρ S) λv S1=>(v=true->WS (s ρ S1) N R)/\(v=false->WS (t ρ S1) N R)):WS (sIf c s t ρ S) N R:=WS.bind (h.imp λv S1 k=>by
 cases v with
 |true=>rw[if_pos rfl];exact k.1 rfl
 |false=>rw[if_neg (by simp)];exact k.2 rfl)
theorem zkQ {ms:List TwE} (h:W (evL ms ρ S) λl S1=>∃x y,l=[x,y]/\N ((ρ.set i (some x)).set k (some y)) S1):WS (ziP i k ms ρ S) N R:=WS.bind (h.imp λl S1 h=>by
 obtain⟨x,y,rfl,q⟩:=h
 exact .nx rfl q)
theorem zg5 {r:Option Fl} (I:Rho->Sto->Prop) (h:WS r I R) (k:∀ρ S,I ρ S->N ρ S):WS r N R:=by
 rcases h with⟨ρ,S,e,h⟩|h
 ·exact .inl ⟨ρ,S,e,k ρ S h⟩
 ·exact .inr h
theorem zg6 {n:Nat} (h:WS (Th c s n ρ S) N R):WS (sWh n c s ρ S) N R:=h
theorem zcn {n:Nat} (h:W (c ρ S) λv S1=>(v=true->WS (s ρ S1) (λρ2 S2=>WS (Th c s n ρ2 S2) N R) R)/\(v=false->N ρ S1)):WS (Th c s (n+1) ρ S) N R:=by
 unfold Th
 refine WS.bind (h.imp λv S1 k=> ?_)
 cases v with
 |true=>
  rw[if_pos rfl]
  rcases k.1 rfl with⟨ρ2,S2,e2,h⟩|⟨x,S2,e2,h⟩
  ·rw[e2];exact h
  ·rw[e2];exact .rt rfl h
 |false=>exact .nx rfl (k.2 rfl)
theorem xz {n:TwI} {g:TwG} (h:W (n ρ S) λget S1=>∃xs,get S1=some xs/\WS (WP get g s (xs.length+1) 0 ρ S1) N R):WS (vW n g s ρ S) N R:=WS.bind (h.imp λget S1 h=>by
 obtain⟨xs,e,h⟩:=h
 rw[e,EC]
 exact h)
theorem yF {get:Sto->Option (List Xv)} {g:TwG} {xs:List Xv} (J:Nat->Rho->Sto->Prop) (hg:∀i ρ S,i<=xs.length->J i ρ S->get S=some xs)
  (h:∀(i:Nat) (x:Xv) ρ S,xs[i]? =some x->J i ρ S->W (g x ρ S) λρ1 S1=>WS (s ρ1 S1) (λρ2 S2=>J (i+1) ρ2 S2) R) (h0:J 0 ρ S) (k:∀ρ S,J xs.length ρ S->N ρ S):WS (WP get g s (xs.length+1) 0 ρ S) N R:=by
 have aux:∀(n i:Nat) (ρ:Rho) (S:Sto),i+n=xs.length->J i ρ S->WS (WP get g s (n+1) i ρ S) N R:=by
  intro n
  induction n with
  |zero=>
   intro i ρ S e hj
   unfold WP
   rw[hg i ρ S ⋯ hj,EC,Fe ⋯]
   dsimp only
   rw[if_pos ⋯]
   exact .nx rfl (k ρ S (by rw[show xs.length=i by omega];exact hj))
  |succ n ih=>
   intro i ρ S e hj
   unfold WP
   have hi:i<xs.length:=by omega
   rw[hg i ρ S ⋯ hj,EC,Er hi]
   refine WS.bind ((h i _ ρ S (Er hi) hj).imp λρ1 S1 h1=> ?_)
   rcases h1 with⟨ρ2,S2,e2,h2⟩|⟨x,S2,e2,h2⟩
   ·rw[e2];exact ih (i+1) ρ2 S2 ⋯ h2
   ·rw[e2];exact .rt rfl h2
 exact aux xs.length 0 ρ S ⋯ h0
theorem vc (h:W (m ρ S) λx S1=>∃l,zv S1 x=some l/\Q' (λS=>zv S x) S1):W (iL m ρ S) Q':=W.bind (h.imp λx S1 h=>by
 obtain⟨l,e,k⟩:=h
 rw[e]
 exact .of rfl k)
theorem zl4 {Q':(Sto->Option (List Xv))->Sto->Prop} (h:W (m ρ S) λx S1=>∃l,x.tupOf=some l/\Q' (λ_=>some l) S1):W (iT m ρ S) Q':=W.bind (h.imp λx S1 h=>by
 obtain⟨l,e,k⟩:=h
 rw[e]
 exact .of rfl k)
theorem zaq {Q':(Sto->Option (List Xv))->Sto->Prop} (h:W (m ρ S) λx S1=>∃l,zv S1 x=some l/\Q' (λS=>(zv S x).map wV) S1):W (iEn m ρ S) Q':=W.bind (h.imp λx S1 h=>by
 obtain⟨l,e,k⟩:=h
 rw[e]
 exact .of rfl k)
theorem Wd {Q':(Sto->Option (List Xv))->Sto->Prop} (h:W (m ρ S) λx S1=>∃k:Int,x= .int k/\(-(2^62)<=k/\k<2^62)/\Q' (λ_=>some (Yy 0 k.toNat)) S1):W (iR1 m ρ S) Q':=W.bind (h.imp λx S1 h=>by
 obtain⟨k,rfl,hk,q⟩:=h
 dsimp only
 rw[if_pos hk]
 exact .of rfl q)
theorem Xc {lo:Int} {n i:Nat} {x:Xv} (h:(Yy lo n)[i]? =some x):i<n/\x= .int (lo+i):=by
 unfold Yy at h
 rw[EB] at h
 have hi:i<n:=by
  apply FP
  intro hn
  rw[Fe (by simp;omega)] at h
  cases h
 rw[HI hi] at h
 cases h
 exact⟨hi,rfl⟩
theorem yO {lo:Int} {n:Nat}:(Yy lo n).length=n:=by simp[Yy]
theorem wc {cap:List (Option Nat)} {n:TwI} {g:TwG} (h:W (n ρ S) λget S1=>∃xs,get S1=some xs/\W (vL get g c m (Yz cap ρ) (xs.length+1) 0 [] S1) P):W (wu cap n g c m ρ S) P:=W.bind (h.imp λget S1 h=>by
 obtain⟨xs,e,h⟩:=h
 rw[e,EC]
 exact h)
theorem xq {get:Sto->Option (List Xv)} {g:TwG} {ρc:Rho} {xs:List Xv} (hl:xs.length<=sizeLine) (J:Nat->List Xv->Sto->Prop) (hg:∀i es S,i<=xs.length->J i es S->get S=some xs)
  (h:∀(i:Nat) (x:Xv) es S,xs[i]? =some x->es.length=i->J i es S->W (g x ρc S) λρ1 S1=>W (c ρ1 S1) λb S2=>b=true/\W (m ρ1 S2) λy S3=>J (i+1) (es++[y]) S3) (h0:J 0 [] S)
  (k:∀es S,es.length=xs.length->J xs.length es S->P (.ref S.length) (S++[.lst es])):W (vL get g c m ρc (xs.length+1) 0 [] S) P:=by
 have aux:∀(n i:Nat) (es:List Xv) (S:Sto),i+n=xs.length->es.length=i->J i es S->W (vL get g c m ρc (n+1) i es S) P:=by
  intro n
  induction n with
  |zero=>
   intro i es S e el hj
   unfold vL
   rw[hg i es S ⋯ hj,EC,Fe ⋯]
   dsimp only
   rw[if_pos ⋯]
   exact .of rfl (k es S ⋯ (by rw[show xs.length=i by omega];exact hj))
  |succ n ih=>
   intro i es S e el hj
   unfold vL
   have hi:i<xs.length:=by omega
   rw[hg i es S ⋯ hj,EC,Er hi]
   obtain⟨ρ1,S1,e1,b,S2,e2,rfl,y,S3,e3,q⟩:=h i _ es S (Er hi) el hj
   dsimp only[rn]
   rw[e1]
   dsimp only[rn]
   rw[e2]
   dsimp only[rn]
   rw[if_pos rfl,e3]
   dsimp only[rn]
   rw[if_pos ⋯]
   exact ih (i+1) (es++[y]) S3 ⋯ (by simp[el]) q
 exact aux xs.length 0 [] S ⋯ rfl h0
theorem ziV (k:PB true S):W (wU ρ S) PB:= .of rfl k
theorem zkR {n k:Nat} {xs:List Xv} {ρ0:Rho} (hn:xs.length=n) (h0:xs.map some++Fp k none=ρ0) (h:WS (s ρ0 S) (λ_ S1=>P .non S1) P):W (xh n k s xs S) P:=by
 unfold xh
 rw[if_pos hn,h0]
 rcases h with⟨ρ,S1,e,h⟩|⟨x,S1,e,h⟩
 ·rw[e];exact .of rfl h
 ·rw[e];exact .of rfl h
variable {p q:Int}
theorem zkS (k:P (.int (p+q)) S):WO (vw (.int p) (.int q) S) P:= .of rfl k
theorem zeo (k:P (.int (p-q)) S):WO (zf2 (.int p) (.int q) S) P:= .of rfl k
theorem zkT (k:P (.int (-p)) S):WO (Uk (.int p) S) P:= .of rfl k
theorem zl5 (k:P (.bl (decide (p<q))) S):WO (dLt (.int p) (.int q) S) P:= .of rfl k
theorem zl6 (k:P (.bl (decide (q<p))) S):WO (dGt (.int p) (.int q) S) P:= .of rfl k
theorem zkU (k:P (.bl (decide (p=q))) S):WO (zae (.int p) (.int q) S) P:= .of rfl k
theorem zkV (k:P (.bl (!decide (p=q))) S):WO (zaf (.int p) (.int q) S) P:= .of rfl k
theorem Xr (h:0<q) (k:P (.int (p % q)) S):WO (Xp (.int p) (.int q) S) P:= .of (by unfold Xp xIC;exact if_pos (by simpa using h)) k
theorem vn (h:intBits p+intBits q<=134217728) (k:P (.int (p*q)) S):WO (ZL (.int p) (.int q) S) P:= .of (by unfold ZL xIC;exact if_pos (by simpa using h)) k
theorem zkW (h:(-(2^64)<p/\p<2^64)\/(-(2^64)<q/\q<2^64)) (k:P (.int (p*q)) S):WO (zf3 (.int p) (.int q) S) P:= .of (by unfold zf3 xIC;exact if_pos (decide_eq_true h)) k
theorem zkX (h:0<=q/\q<=1000000/\p.natAbs<2^64) (k:P (.int (p^q.toNat)) S):WO (zei (.int p) (.int q) S) P:= .of (by unfold zei xIC;exact if_pos (decide_eq_true h)) k
theorem VN (h:q≠0/\intBits q<=9000) (k:P (.int (p.fdiv q)) S):WO (Vh (.int p) (.int q) S) P:= .of (by unfold Vh xIC;exact if_pos (decide_eq_true h)) k
theorem YB {l:List Xv} (h:zv S x=some l) (k:P (.int l.length) S):WO (Yj [x] S) P:= .of (by
 unfold Yj VC
 dsimp only
 have:x.tupOf=none:=by cases x<;>first|rfl|cases h
 rw[this]
 dsimp only
 rw[h]
 rfl) k
theorem yB {l:List Xv} {z:Xv} (h:zv S x=some l) (e:atI l p=some z) (k:P z S):WO (xf x (.int p) S) P:= .of (by unfold xf;rw[h];dsimp only;rw[e];rfl) k
theorem vy {l:List Xv} {z:Xv} (h:x.tupOf=some l) (e:atI l p=some z) (k:P z S):WO (Zr x (.int p) S) P:= .of (by unfold Zr;rw[h];dsimp only;rw[e];rfl) k
theorem zbL {β:Type} {x:β} {l:List β}:atI (x::l) 0=some x:=by
 unfold atI ixN
 rw[if_pos (show (0:Int)<=0 by decide),if_pos (by simp only[F5];omega)]
 rfl
theorem WR {β:Type} {x y:β} {l:List β}:atI (x::y::l) 1=some y:=by
 unfold atI ixN
 rw[if_pos (show (0:Int)<=1 by decide),if_pos (by simp only[F5];omega)]
 rfl
theorem zkY {l:List Xv} (k:P x S):WO (Zr (.tup (x::l)) (.int 0) S) P:=vy rfl zbL k
theorem zkZ {l:List Xv} (k:P y S):WO (Zr (.tup (x::y::l)) (.int 1) S) P:=vy rfl WR k
theorem wk {β:Type} {l:List β} {k:Int} {z:β} (h0:0<=k) (h:l[k.toNat]? =some z):atI l k=some z:=by
 have hk:=(Es.1 h).1
 unfold atI ixN
 rw[if_pos h0,if_pos ⋯]
 exact h
theorem xN {n:Nat} {l:List Xv} (h:zbf S x=some (n,l)) (hz:l.length<sizeLine) (k:P .non (S.set n (.lst (l++[y])))):WO (yt x [y] S) P:= .of (by unfold yt;rw[h];dsimp only;rw[if_pos hz]) k
theorem zk0 {l:List Xv} {lo hi:Option Int} (h:zv S x=some l) (k:P (.ref S.length) (S++[.lst (zcf l lo hi)])):WO (zeg x lo hi S) P:= .of (by unfold zeg;rw[h];rfl) k
theorem zco {l:List Xv} (h:zv S x=some l) (k:P (.ref S.length) (S++[.lst l])):WO (WQ [x] S) P:= .of (by
 unfold WQ VC
 dsimp only
 have:x.tupOf=none:=by cases x<;>first|rfl|cases h
 rw[this]
 dsimp only
 rw[h]
 rfl) k
theorem zg7 {n:Nat} {kvs:List (Key×Xv)} {ns:List Int} (h:ZF S x=some (n,kvs)) (e:vN kvs=some ns) (cP:ns.length<64) (k:P (.ref S.length) (S++[.lst ((yX ns).map Xv.int)])):WO (zal [x] S) P:= .of (by unfold zal;dsimp only;rw[h,EC,e,EC,if_pos cP]) k
theorem zg8 {n:Nat} {kvs:List (Key×Xv)} {ns:List Int} (h:wb S x=some (n,kvs)) (e:Ym (kvs.map (·.2))=some ns) (k:P (.int ns.sum) S):WO (zds x S) P:= .of (by unfold zds;rw[h,EC,e];rfl) k
theorem zg9 {neg:Bool} {l:List Xv} (h:zv S x=some l) (h2:zv S y=some []) (k:P (.bl (neg !=l.isEmpty)) S):WO (zam neg x y S) P:= .of (by unfold zam;rw[h,h2]) k
theorem YC {c:String} {v:Bool} (h:zel c S x=some v) (k:P (.bl v) S):WO (VG c x S) P:= .of (by unfold VG;rw[h];rfl) k
end
theorem yu {S:Sto} {l:List Xv}:zv (S++[.lst l]) (.ref S.length)=some l:=by simp[zv]
theorem ww {S:Sto} {n:Nat} {l:List Xv} (h:S[n]? =some (.lst l)):zbf S (.ref n)=some (n,l):=by simp[zbf,h]
theorem zp {S:Sto} {n:Nat} {l:List Xv} (h:S[n]? =some (.lst l)):zv S (.ref n)=some l:=by simp[zv,h]
theorem yL {S:Sto} {n:Nat} {l:List (Key×Xv)} (h:S[n]? =some (.dk l)):ZF S (.ref n)=some (n,l):=by simp[ZF,h]
end L2
namespace L2
open PySem PySem.Spec PyProof.Rows PySem.Calls
section
variable {X:Cx}
end
section
variable {K:Et} {E:XK}
end
section
variable {K:Et} {E:XK}
end
noncomputable def vX (f:D->D->Option Bool):List D->List D->Option Bool
 |a::l,b::m=>(f a b).bind λx=>(vX f l m).map (x&& ·)
 |_,_=>some true
theorem Yn {f:D->D->Option Bool}:∀{l m:List D} {b:Bool},vX f l m=some b->∃e:Nat->Bool,(∀(j:Nat) a c,l[j]? =some a->m[j]? =some c->f a c=some (e j))/\b=(Fv (min l.length m.length)).all e
 |[],m,b,h=>by
  unfold vX at h
  cases h
  exact⟨λ_=>true,λj a c ha=>by simp at ha,by simp⟩
 |a::l,[],b,h=>by
  unfold vX at h
  cases h
  exact⟨λ_=>true,λj a c ha hc=>by simp at hc,by simp⟩
 |a::l,c::m,b,h=>by
  unfold vX at h
  cases e1:f a c with
  |none=>rw[e1] at h;cases h
  |some x=>
   rw[e1,EC] at h
   cases e2:vX f l m with
   |none=>rw[e2] at h;cases h
   |some y=>
    rw[e2] at h
    cases h
    obtain⟨e,k,rfl⟩:=Yn e2
    refine⟨λj=>match j with
     |0=>x
     |j+1=>e j,λj p q hp hq=> ?_,?_⟩
    ·cases j with
     |zero=>simp at hp hq;subst hp hq;exact e1
     |succ j=>exact k j p q (by simpa using hp) (by simpa using hq)
    ·rw[F5,F5,Nat.succ_min_succ,List.range_succ_eq_map,List.all_cons,List.all_map]
     rfl
noncomputable def eqG:Nat->D->D->Option Bool
 |0,d,e=>match d,e with
  | .non,.non=>some true
  | .bl a,.bl b=>some (a==b)
  | .int a,.int b=>some (a==b)
  | .str a,.str b=>some (a==b)
  |_,_=>none
 |n+1,d,e=>match d,e with
  | .non,.non=>some true
  | .bl a,.bl b=>some (a==b)
  | .int a,.int b=>some (a==b)
  | .str a,.str b=>some (a==b)
  | .tup l,.tup m=>(vX (eqG n) l m).map (· &&(l.length==m.length))
  | .lst l,.lst m=>if l.length=m.length then vX (eqG n) l m else some false
  |_,_=>none
section
variable {X:Cx} {pins:List (Addr×Obj)} {σ:St} {H:Hp} {s:Shared}
theorem zf5 {n:Nat} {e:Nat->Bool} (h:∀j,j<n->e j=true):(Fv n).all e=true:=G4.2 λj hj=>h j (Fx.1 hj)
theorem zha (I:Inv X pins σ H s):∀(n:Nat) {d e:D} {x:V} {b:Bool},eqG n d e=some b->Is X.K H x d->Is X.K H x e->b=true:=by
 intro n
 induction n with
 |zero=>
  intro d e x b h hx hy
  unfold eqG at h
  split at h
  ·cases h;rfl
  ·rw[hx.bl_inv] at hy;cases hy;cases h;simp
  ·rw[hx.int_inv] at hy;cases hy;cases h;simp
  ·rw[hx.str_inv] at hy;cases hy;cases h;simp
  ·cases h
 |succ n ih=>
  intro d e x b h hx hy
  unfold eqG at h
  have items:∀{xs:List V} {l m:List D} {b:Bool},vX (eqG n) l m=some b->IsL X.K H xs l->IsL X.K H xs m->b=true:=λ{xs l m b} ha hl hm=>by
   obtain⟨e,k,rfl⟩:=Yn ha
   refine zf5 λj hj=> ?_
   have h1:j<l.length:=by omega
   have h2:j<m.length:=by omega
   obtain⟨x,pO,pN⟩:=hl.get (Er h1)
   obtain⟨y,m8,pL⟩:=hm.get (Er h2)
   rw[pO] at m8
   cases m8
   exact ih (k j _ _ (Er h1) (Er h2)) pN pL
  split at h
  ·cases h;rfl
  ·rw[hx.bl_inv] at hy;cases hy;cases h;simp
  ·rw[hx.int_inv] at hy;cases hy;cases h;simp
  ·rw[hx.str_inv] at hy;cases hy;cases h;simp
  ·rename_i l m
   cases ha:vX (eqG n) l m with
   |none=>rw[ha] at h;cases h
   |some b'=>
    rw[ha] at h
    cases h
    obtain⟨a,xs,rfl,h1,h2⟩:=hx.tup_inv
    obtain⟨a',ys,e,g1,g2⟩:=hy.tup_inv
    cases e
    obtain rfl:=I.tuple_inj h1 g1
    rw[items ha h2 g2]
    have e3:=h2.len;have e4:=g2.len
    simp;omega
  ·rename_i l m
   obtain⟨a,xs,rfl,h1,h2⟩:=hx.lst_inv
   obtain⟨a',ys,e,g1,g2⟩:=hy.lst_inv
   cases e
   obtain rfl:=I.list_inj h1 g1
   have e3:=h2.len;have e4:=g2.len
   rw[if_pos ⋯] at h
   exact items h h2 g2
  ·cases h
theorem ZV {A:Around} {xs ys:List V} {ae bU:List Value} {l m:List D} {e:Nat->Bool} (rx:zY xs ae) (ry:zY ys bU) (hx:IsL X.K H xs l) (hy:IsL X.K H ys m)
  (k:∀{x y:V} {u v:Value} {d d':D} {j:Nat},l[j]? =some d->m[j]? =some d'->Is X.K H x d->Is X.K H y d'->zP x u->zP y v->SeqAt.EqAt A.in1 s u v (e j)):
  ∀j (h1:j<ae.toArray.size) (h2:j<bU.toArray.size),SeqAt.EqAt A.in1 s ae.toArray[j] bU.toArray[j] (e j):=by
 intro j h1 h2
 have e1:j<xs.length:=by rw[rx.length];simpa using h1
 have e2:j<ys.length:=by rw[ry.length];simpa using h2
 have el:j<l.length:=by rw[<-hx.len];exact e1
 have em:j<m.length:=by rw[<-hy.len];exact e2
 obtain⟨x,pO,pN⟩:=hx.get (i:=j) (d:=l[j]) (Er el)
 obtain⟨y,m8,pL⟩:=hy.get (i:=j) (d:=m[j]) (Er em)
 obtain⟨u,hu,ru⟩:=rx.get pO
 obtain⟨v,hv,rv⟩:=ry.get m8
 have g1:ae.toArray[j]=u:=by
  have:ae[j]? =some ae[j]:=Er (by simpa using h1)
  rw[hu] at this
  simpa using (Fi this).symm
 have g2:bU.toArray[j]=v:=by
  have:bU[j]? =some bU[j]:=Er (by simpa using h2)
  rw[hv] at this
  simpa using (Fi this).symm
 rw[g1,g2]
 exact k (Er el) (Er em) pN pL ru rv
theorem We (I:Inv X pins σ H s):∀(n:Nat) {A:Around} {d d':D} {x y:V} {u v:Value} {b:Bool},eqG n d d'=some b->A.units+n<cLine->Is X.K H x d->Is X.K H y d'->zP x u->zP y v->SeqAt.EqAt A s u v b:=by
 intro n
 induction n with
 |zero=>
  intro A d d' x y u v b h hu hx hy ru rv
  unfold eqG at h
  split at h
  ·cases h;rw[hx.non_inv] at ru;rw[hy.non_inv] at rv;cases ru;cases rv;exact SeqAt.EqAt.same _
  ·cases h;rw[hx.bl_inv] at ru;rw[hy.bl_inv] at rv;cases ru;cases rv;exact SeqAt.EqAt.bool_bool _ _
  ·cases h;rw[hx.int_inv] at ru;rw[hy.int_inv] at rv;obtain⟨t,rfl⟩:=ru;obtain⟨t',rfl⟩:=rv;exact SeqAt.EqAt.int_int _ _ _ _
  ·cases h;rw[hx.str_inv] at ru;rw[hy.str_inv] at rv;obtain⟨t,rfl⟩:=ru;obtain⟨t',rfl⟩:=rv;exact SeqAt.EqAt.str_str _ _ _ _
  ·cases h
 |succ n ih=>
  intro A d d' x y u v b h hu hx hy ru rv
  have iB:=λ(e:x=y)=>zha I (n+1) h hx (e ▸ hy)
  unfold eqG at h
  split at h
  ·cases h;rw[hx.non_inv] at ru;rw[hy.non_inv] at rv;cases ru;cases rv;exact SeqAt.EqAt.same _
  ·cases h;rw[hx.bl_inv] at ru;rw[hy.bl_inv] at rv;cases ru;cases rv;exact SeqAt.EqAt.bool_bool _ _
  ·cases h;rw[hx.int_inv] at ru;rw[hy.int_inv] at rv;obtain⟨t,rfl⟩:=ru;obtain⟨t',rfl⟩:=rv;exact SeqAt.EqAt.int_int _ _ _ _
  ·cases h;rw[hx.str_inv] at ru;rw[hy.str_inv] at rv;obtain⟨t,rfl⟩:=ru;obtain⟨t',rfl⟩:=rv;exact SeqAt.EqAt.str_str _ _ _ _
  ·rename_i l m
   cases ha:vX (eqG n) l m with
   |none=>rw[ha] at h;cases h
   |some b'=>
    rw[ha] at h
    cases h
    obtain⟨e,k,rfl⟩:=Yn ha
    obtain⟨a,xs,rfl,h1,h2⟩:=hx.tup_inv
    obtain⟨a',ys,rfl,g1,g2⟩:=hy.tup_inv
    cases ru;cases rv
    by_cases b6:a=a'
    ·subst b6;rw[iB rfl];exact SeqAt.EqAt.same _
    ·obtain⟨ae,r1,p1,_⟩:=I.tuple h1
     obtain⟨bU,r2,p2,_⟩:=I.tuple g1
     refine SeqAt.EqAt.of_refs b6 ?_
     have:=SeqAt.RcAt.tuples (A:=A) (e:=e) p1 p2 ⋯ (ZV r1 r2 h2 g2 λhi hj hx hy ru rv=>ih (A:=A.in1) (k _ _ _ hi hj) (by show A.units+1+n<cLine;omega) hx hy ru rv)
     have s1:ae.toArray.size=l.length:=by have e1:=r1.length;have e3:=h2.len;simp;omega
     have s2:bU.toArray.size=m.length:=by have e1:=r2.length;have e3:=g2.len;simp;omega
     rwa [s1,s2] at this
  ·rename_i l m
   obtain⟨a,xs,rfl,h1,h2⟩:=hx.lst_inv
   obtain⟨a',ys,rfl,g1,g2⟩:=hy.lst_inv
   cases ru;cases rv
   by_cases b6:a=a'
   ·subst b6;rw[iB rfl];exact SeqAt.EqAt.same _
   ·obtain⟨ae,r1,p1,_⟩:=I.list h1
    obtain⟨bU,r2,p2,_⟩:=I.list g1
    have s1:ae.toArray.size=l.length:=by have e1:=r1.length;have e3:=h2.len;simp;omega
    have s2:bU.toArray.size=m.length:=by have e1:=r2.length;have e3:=g2.len;simp;omega
    refine SeqAt.EqAt.of_refs b6 ?_
    split at h
    ·rename_i gf
     obtain⟨e,k,rfl⟩:=Yn h
     have:=SeqAt.RcAt.lists (A:=A) (e:=e) p1.isList p2.isList ⋯ ⋯ (ZV r1 r2 h2 g2 λhi hj hx hy ru rv=>ih (A:=A.in1) (k _ _ _ hi hj) (by show A.units+1+n<cLine;omega) hx hy ru rv)
     rw[s1] at this
     rwa [show min l.length m.length=l.length by omega]
    ·rename_i gf
     cases h
     exact SeqAt.RcAt.lists_lengths p1.isList p2.isList (by rw[s1,s2];simpa using gf) ⋯
  ·cases h
def zk1 (K:Et) (neg:Bool):R2:=λx y H Q=>∃(d e:D) (b:Bool),(∃l m,(d= .tup l/\e= .tup m)\/(d= .lst l/\e= .lst m))/\Is K H x d/\Is K H y e/\eqG 40 d e=some b/\Q (.bl (neg !=b)) H
theorem zk2 {k:Nat} {K:Et} (hr:vV k X.A) (hK:X.K=K:=by rfl):OpR X (compareOp .Eq) (zk1 K false):=by
 subst hK
 intro pins s σ H x y v u Q I rx ry h
 obtain⟨d,e,b,⟨l,m,hd⟩,hx,hy,hb,q⟩:=h
 have hu:X.A.units+41<cLine:=FA ⋯ hr.units
 rw[show (false !=b)=b by cases b<;>rfl] at q
 unfold eqG at hb
 rcases hd with⟨rfl,rfl⟩|⟨rfl,rfl⟩
 ·dsimp only at hb
  cases ha:vX (eqG 39) l m with
  |none=>rw[ha] at hb;cases hb
  |some b'=>
   rw[ha] at hb
   cases hb
   obtain⟨e,k,rfl⟩:=Yn ha
   obtain⟨a,xs,rfl,h1,h2⟩:=hx.tup_inv
   obtain⟨a',ys,rfl,g1,g2⟩:=hy.tup_inv
   cases rx;cases ry
   obtain⟨ae,r1,p1,_⟩:=I.tuple h1
   obtain⟨bU,r2,p2,_⟩:=I.tuple g1
   have s1:ae.toArray.size=l.length:=by have e1:=r1.length;have e3:=h2.len;simp;omega
   have s2:bU.toArray.size=m.length:=by have e1:=r2.length;have e3:=g2.len;simp;omega
   refine SeqAt.eq_tupleAt (e:=e) p1 p2 ⋯ (ZV r1 r2 h2 g2 λhi hj hx hy ru rv=>We I 39 (A:=X.A.in1) (k _ _ _ hi hj) (by show X.A.units+1+39<cLine;omega) hx hy ru rv) ?_
   rw[s1,s2]
   exact⟨.bl _,H,I,rfl,q⟩
 ·dsimp only at hb
  obtain⟨a,xs,rfl,h1,h2⟩:=hx.lst_inv
  obtain⟨a',ys,rfl,g1,g2⟩:=hy.lst_inv
  cases rx;cases ry
  obtain⟨ae,r1,p1,_⟩:=I.list h1
  obtain⟨bU,r2,p2,_⟩:=I.list g1
  have s1:ae.toArray.size=l.length:=by have e1:=r1.length;have e3:=h2.len;simp;omega
  have s2:bU.toArray.size=m.length:=by have e1:=r2.length;have e3:=g2.len;simp;omega
  split at hb
  ·rename_i gf
   obtain⟨e,k,rfl⟩:=Yn hb
   refine SeqAt.eq_listAt (e:=e) p1.isList p2.isList ⋯ ⋯ (ZV r1 r2 h2 g2 λhi hj hx hy ru rv=>We I 39 (A:=X.A.in1) (k _ _ _ hi hj) (by show X.A.units+1+39<cLine;omega) hx hy ru rv) ?_
   rw[show min l.length m.length=l.length by omega] at q
   rw[s1]
   exact⟨.bl _,H,I,rfl,q⟩
  ·rename_i gf
   cases hb
   refine SeqAt.eq_list_lengthsAt p1.isList p2.isList (by rw[s1,s2];simpa using gf) ⋯ ?_
   exact⟨.bl false,H,I,rfl,q⟩
theorem zcp {k:Nat} {K:Et} (hr:vV k X.A) (hK:X.K=K:=by rfl):OpR X (compareOp .NotEq) (zk1 K true):=by
 subst hK
 intro pins s σ H x y v u Q I rx ry h
 obtain⟨d,e,b,⟨l,m,hd⟩,hx,hy,hb,q⟩:=h
 have hu:X.A.units+41<cLine:=FA ⋯ hr.units
 rw[show (true !=b)= !b by cases b<;>rfl] at q
 unfold eqG at hb
 rcases hd with⟨rfl,rfl⟩|⟨rfl,rfl⟩
 ·dsimp only at hb
  cases ha:vX (eqG 39) l m with
  |none=>rw[ha] at hb;cases hb
  |some b'=>
   rw[ha] at hb
   cases hb
   obtain⟨e,k,rfl⟩:=Yn ha
   obtain⟨a,xs,rfl,h1,h2⟩:=hx.tup_inv
   obtain⟨a',ys,rfl,g1,g2⟩:=hy.tup_inv
   cases rx;cases ry
   obtain⟨ae,r1,p1,_⟩:=I.tuple h1
   obtain⟨bU,r2,p2,_⟩:=I.tuple g1
   have s1:ae.toArray.size=l.length:=by have e1:=r1.length;have e3:=h2.len;simp;omega
   have s2:bU.toArray.size=m.length:=by have e1:=r2.length;have e3:=g2.len;simp;omega
   refine SeqAt.RcNeAt.tuples (e:=e) p1 p2 ⋯ (ZV r1 r2 h2 g2 λhi hj hx hy ru rv=>We I 39 (A:=X.A.in1) (k _ _ _ hi hj) (by show X.A.units+1+39<cLine;omega) hx hy ru rv) _ _ _ _ ?_
   rw[s1,s2]
   exact⟨.bl _,H,I,rfl,q⟩
 ·dsimp only at hb
  obtain⟨a,xs,rfl,h1,h2⟩:=hx.lst_inv
  obtain⟨a',ys,rfl,g1,g2⟩:=hy.lst_inv
  cases rx;cases ry
  obtain⟨ae,r1,p1,_⟩:=I.list h1
  obtain⟨bU,r2,p2,_⟩:=I.list g1
  have s1:ae.toArray.size=l.length:=by have e1:=r1.length;have e3:=h2.len;simp;omega
  have s2:bU.toArray.size=m.length:=by have e1:=r2.length;have e3:=g2.len;simp;omega
  split at hb
  ·rename_i gf
   obtain⟨e,k,rfl⟩:=Yn hb
   refine SeqAt.RcNeAt.lists (e:=e) p1.isList p2.isList ⋯ ⋯ (ZV r1 r2 h2 g2 λhi hj hx hy ru rv=>We I 39 (A:=X.A.in1) (k _ _ _ hi hj) (by show X.A.units+1+39<cLine;omega) hx hy ru rv) _ _ _ _ ?_
   rw[show min l.length m.length=l.length by omega] at q
   rw[s1]
   exact⟨.bl _,H,I,rfl,q⟩
  ·rename_i gf
   cases hb
   refine SeqAt.RcNeAt.lists_lengths p1.isList p2.isList (by rw[s1,s2];simpa using gf) ⋯ _ _ _ _ ?_
   exact⟨.bl true,H,I,rfl,q⟩
end
end L2
namespace L2
open PySem PySem.Spec PyProof.Rows PySem.Calls PySem.W
section
variable {cmp:Nat->Nat->(Bool->Shared->Prop)->Shared->Prop} {r:Nat->Int} {n:Nat} {s:Shared}
noncomputable def Kr (r:Nat->Int) (p:Array Nat) (i:Nat):Int:=r (p.getD i 0)
theorem Wf {p q:Array Nat} {i j:Nat} (h:p[i]? =q[j]?):Kr r p i=Kr r q j:=by
 unfold Kr
 rw[HQ,HQ,h]
def PmN (n:Nat) (p:Array Nat):Prop:=p.Perm (FR (Fv n))
theorem PmN.size {p:Array Nat} (h:PmN n p):p.size=n:=by
 have:=Array.Perm.size_eq h
 simpa using this
theorem PmN.lt {p:Array Nat} (h:PmN n p) {i:Nat} (hi:i<n):p.getD i 0<n:=by
 have hs:=h.size
 have cA:i<p.size:=by omega
 have e:p.getD i 0=p[i]:=by simp[Hm,cA]
 rw[e]
 have:=(Array.Perm.mem_iff h).1 (Array.getElem_mem cA)
 simpa using this
theorem PmN.ne {p:Array Nat} (h:PmN n p) {i j:Nat} (hi:i<n) (hj:j<n) (er:i≠j):p.getD i 0≠p.getD j 0:=by
 have hs:=h.size
 have cA:i<p.size:=by omega
 have dq:j<p.size:=by omega
 have nd:p.toList.Nodup:=by
  have:=Ia h
  exact (this.nodup_iff).2 (by simpa using Hu)
 rw[show p.getD i 0=p.toList[i]'(by simpa using cA) by simp[Hm,cA],show p.getD j 0=p.toList[j]'(by simpa using dq) by simp[Hm,dq]]
 intro z
 have nd:=Gi.1 nd
 rcases Nat.lt_or_gt_of_ne er with h1|h1
 ·exact nd i j (by simpa using cA) (by simpa using dq) h1 z
 ·exact nd j i (by simpa using dq) (by simpa using cA) h1 z.symm
theorem PmN.rev {p:Array Nat} (h:PmN n p) (i j:Nat):PmN n (kas_rev p i j):=(mirror_perm _ _ _ _).trans h
theorem PmN.bub {p:Array Nat} (h:PmN n p) (k d:Nat):PmN n (bubble p k d):=(bubble_perm _ _ _).trans h
theorem zep {p:Array Nat} {i j:Nat} (hj:j<=p.size) (k:Nat):Kr r (kas_rev p i j) k=if i<=k/\k<j then Kr r p (i+j-1-k) else Kr r p k:=by
 have e:=getElem?_mirror_all (xs:=p) (i:=i) hj k
 unfold kas_rev
 by_cases h1:i<=k/\k<j
 ·rw[if_pos h1] at e ⊢;exact Wf e
 ·rw[if_neg h1] at e ⊢;exact Wf e
theorem zk3 {p:Array Nat} {src d:Nat} (hs:src<p.size) (hd:d<=src) (k:Nat):Kr r (bubble p src d) k=if k=src-d then Kr r p src else if src-d<k/\k<=src then Kr r p (k-1) else Kr r p k:=by
 have e:=getElem?_bubble hs d hd k
 by_cases h1:k=src-d
 ·rw[if_pos h1] at e ⊢;exact Wf e
 ·rw[if_neg h1] at e ⊢
  by_cases h2:src-d<k/\k<=src
  ·rw[if_pos h2] at e ⊢;exact Wf e
  ·rw[if_neg h2] at e ⊢;exact Wf e
theorem Us {p:Array Nat} {i j:Nat} (hj:j<=p.size) (he:∀k,i<=k->k<j->Kr r p k=Kr r p (j-1)) (k:Nat):Kr r (kas_rev p i j) k=Kr r p k:=by
 rw[zep hj]
 split
 ·rename_i h
  rw[he _ ⋯ ⋯,he k h.1 h.2]
 ·rfl
theorem zeq (hc:∀i j C,i<n->j<n->i≠j->C (decide (r i<r j)) s->cmp i j C s) {p:Array Nat} (hp:PmN n p) {Q:Nat->Shared->Prop}:∀(f k:Nat),1<=k->k+f=n->
  (∀m,k<=m->m<=n->(∀i,k<=i->i<m->Kr r p (i-1)<=Kr r p i)->(m<n->Kr r p m<Kr r p (m-1))->Q m s)->(kas_asc p f k).kasWp cmp Q s
 |0,k,h1,hk,q=>q k (EE _) ⋯ (λi a b=>by omega) (λz=>by omega)
 |f+1,k,h1,hk,q=>by
  unfold kas_asc
  refine hc _ _ _ (hp.lt ⋯) (hp.lt ⋯) (hp.ne ⋯ ⋯ ⋯) ?_
  by_cases h:Kr r p k<Kr r p (k-1)
  ·rw[show decide (r (p.getD k 0)<r (p.getD (k-1) 0))=true from decide_eq_true h];dsimp only;rw[if_pos rfl]
   exact q k (EE _) ⋯ (λi a b=>by omega) (λ_=>h)
  ·rw[show decide (r (p.getD k 0)<r (p.getD (k-1) 0))=false from decide_eq_false h];dsimp only;rw[if_neg (by simp)]
   refine zeq hc hp f (k+1) ⋯ ⋯ λm a b c d=>q m ⋯ b (λi e g=> ?_) d
   by_cases hi:i=k
   ·subst hi;omega
   ·exact c i ⋯ g
theorem Tq (hc:∀i j C,i<n->j<n->i≠j->C (decide (r i<r j)) s->cmp i j C s) {Q:Array Nat×Nat×Nat->Shared->Prop}:∀(f:Nat) (p:Array Nat) (k q:Nat),PmN n p->1<=k->k+f=n->(∀i,1<=i->i<k->Kr r p i<=Kr r p (i-1))->(∀i,k-(q+1)<=i->i<k->Kr r p i=Kr r p (k-1))->q+1<=k->
  (∀p' k' q',PmN n p'->1<=k'->k'<=n->(∀i,1<=i->i<k'->Kr r p' i<=Kr r p' (i-1))->(∀i,k'-(q'+1)<=i->i<k'->Kr r p' i=Kr r p' (k'-1))->q'+1<=k'->Q (p',k',q') s)->(kas_desc f p k q).kasWp cmp Q s
 |0,p,k,q,hp,h1,hk,hd,he,hq,h=>h p k q hp h1 ⋯ hd he hq
 |f+1,p,k,q,hp,h1,hk,hd,he,hq,h=>by
  unfold kas_desc
  refine hc _ _ _ (hp.lt ⋯) (hp.lt ⋯) (hp.ne ⋯ ⋯ ⋯) ?_
  by_cases h2:Kr r p k<Kr r p (k-1)
  ·rw[show decide (r (p.getD k 0)<r (p.getD (k-1) 0))=true from decide_eq_true h2];dsimp only;rw[if_pos rfl]
   split
   ·have hs:=hp.size
    have ek:=Us (r:=r) (p:=p) (i:=k-(q+1)) (j:=k) ⋯ he
    refine Tq hc f _ (k+1) 0 (hp.rev _ _) ⋯ ⋯ (λi a b=> ?_) (λi a b=> ?_) ⋯ h
    ·rw[ek,ek]
     by_cases hi:i=k
     ·subst hi;omega
     ·exact hd i a ⋯
    ·have:i=k:=by omega
     subst this
     simp
   ·refine Tq hc f _ (k+1) 0 hp ⋯ ⋯ (λi a b=> ?_) (λi a b=> ?_) ⋯ h
    ·by_cases hi:i=k
     ·subst hi;omega
     ·exact hd i a ⋯
    ·have:i=k:=by omega
     subst this
     simp
  ·rw[show decide (r (p.getD k 0)<r (p.getD (k-1) 0))=false from decide_eq_false h2];dsimp only;rw[if_neg (by simp)]
   refine hc _ _ _ (hp.lt ⋯) (hp.lt ⋯) (hp.ne ⋯ ⋯ ⋯) ?_
   by_cases h3:Kr r p (k-1)<Kr r p k
   ·rw[show decide (r (p.getD (k-1) 0)<r (p.getD k 0))=true from decide_eq_true h3];dsimp only;rw[if_pos rfl]
    exact h p k q hp h1 ⋯ hd he hq
   ·rw[show decide (r (p.getD (k-1) 0)<r (p.getD k 0))=false from decide_eq_false h3];dsimp only;rw[if_neg (by simp)]
    refine Tq hc f _ (k+1) (q+1) hp ⋯ ⋯ (λi a b=> ?_) (λi a b=> ?_) ⋯ h
    ·by_cases hi:i=k
     ·subst hi;omega
     ·exact hd i a ⋯
    ·rw[show k+1-1=k by omega]
     by_cases hi:i=k
     ·rw[hi]
     ·have:=he i ⋯ ⋯
      omega
def ZM (r:Nat->Int) (p:Array Nat) (m:Nat):Prop:=∀i,1<=i->i<m->Kr r p (i-1)<=Kr r p i
theorem zdt (hc:∀i j C,i<n->j<n->i≠j->C (decide (r i<r j)) s->cmp i j C s) {Q:Nat×Array Nat->Shared->Prop} {p:Array Nat} {k:Nat} (hp:PmN n p) (h1:1<=k) (hk:k<=n) (hd:∀i,1<=i->i<k->Kr r p i<=Kr r p (i-1))
  (h:∀m p',PmN n p'->1<=m->m<=n->ZM r p' m->Q (m,p') s):(kas_tail3 k n p).kasWp cmp Q s:=by
 unfold kas_tail3
 rw[KasT.kasWp_bind]
 have hs:=hp.size
 refine zeq hc (hp.rev 0 k) _ k h1 ⋯ λm a b c _=> ?_
 refine h m _ (hp.rev 0 k) ⋯ b λi e g=> ?_
 by_cases hi:i<k
 ·rw[zep ⋯,zep ⋯,if_pos ⋯,if_pos ⋯]
  have:=hd (0+k-1-(i-1)) ⋯ ⋯
  rw[show 0+k-1-(i-1)-1=0+k-1-i by omega] at this
  exact this
 ·exact c i ⋯ g
theorem UT (hc:∀i j C,i<n->j<n->i≠j->C (decide (r i<r j)) s->cmp i j C s) {Q:Nat×Array Nat->Shared->Prop} {p:Array Nat} {k:Nat} (hp:PmN n p) (h1:1<=k) (hk:k<n) (hd:∀i,1<=i->i<k+1->Kr r p i<=Kr r p (i-1))
  (h:∀m p',PmN n p'->1<=m->m<=n->ZM r p' m->Q (m,p') s):(kas_descPart k n p).kasWp cmp Q s:=by
 unfold kas_descPart
 rw[KasT.kasWp_bind]
 have h0:∀i,k+1-(0+1)<=i->i<k+1->Kr r p i=Kr r p (k+1-1):=λi a b=>by
  have:i=k:=by omega
  subst this
  simp
 refine Tq hc (n-(k+1)) p (k+1) 0 hp ⋯ ⋯ hd h0 ⋯ λp' k' q' a b c d e g=> ?_
 dsimp only
 have hs:=a.size
 split
 ·have ek:=Us (r:=r) (p:=p') (i:=k'-(q'+1)) (j:=k') ⋯ e
  exact zdt hc (a.rev _ _) b c (λi x y=>by rw[ek,ek];exact d i x y) h
 ·exact zdt hc a b c d h
theorem zfa {p:Array Nat} {m:Nat} (h:ZM r p m):∀(d i:Nat),i+d<m->Kr r p i<=Kr r p (i+d)
 |0,i,_=>IP _
 |d+1,i,hd=>by
  have h1:=zfa h d i ⋯
  have h2:=h (i+d+1) ⋯ ⋯
  rw[show i+d+1-1=i+d by omega] at h2
  exact Ip h1 h2
theorem Ut {p:Array Nat} {m i j:Nat} (h:ZM r p m) (er:i<=j) (hj:j<m):Kr r p i<=Kr r p j:=by
 have:=zfa h (j-i) i ⋯
 rwa [show i+(j-i)=j by omega] at this
theorem zhb (hc:∀i j C,i<n->j<n->i≠j->C (decide (r i<r j)) s->cmp i j C s) {Q:Nat×Array Nat->Shared->Prop} {p:Array Nat} (hp:PmN n p) (h1:1<=n)
  (h:∀m p',PmN n p'->1<=m->m<=n->ZM r p' m->Q (m,p') s):(kas_count n p).kasWp cmp Q s:=by
 unfold kas_count
 rw[KasT.kasWp_bind]
 refine zeq hc hp _ 1 ⋯ ⋯ λm a b c d=> ?_
 have hs:=hp.size
 by_cases hm:m=n
 ·subst hm
  rw[if_pos (by simp)]
  exact h m p hp a b c
 ·rw[if_neg (by simpa using hm)]
  have hd:=d ⋯
  by_cases h2:m>1
  ·rw[if_pos h2]
   refine hc _ _ _ (hp.lt ⋯) (hp.lt ⋯) (hp.ne ⋯ ⋯ ⋯) ?_
   by_cases h3:Kr r p 0<Kr r p (m-1)
   ·rw[show decide (r (p.getD 0 0)<r (p.getD (m-1) 0))=true from decide_eq_true h3];dsimp only;rw[if_pos rfl]
    exact h m p hp a b c
   ·rw[show decide (r (p.getD 0 0)<r (p.getD (m-1) 0))=false from decide_eq_false h3];dsimp only;rw[if_neg (by simp)]
    have he:∀i,0<=i->i<m->Kr r p i=Kr r p (m-1):=λi _ hi=>by
     have e1:=Ut (r:=r) c (show 0<=i by omega) hi
     have e2:=Ut (r:=r) c (show i<=m-1 by omega) ⋯
     omega
    have ek:=Us (r:=r) (p:=p) (i:=0) (j:=m) ⋯ he
    refine UT hc (hp.rev _ _) ⋯ ⋯ (λi x y=> ?_) h
    rw[ek,ek]
    by_cases hi:i=m
    ·subst hi;omega
    ·rw[he i ⋯ ⋯,he (i-1) ⋯ ⋯]
     exact IP _
  ·rw[if_neg h2]
   refine UT hc hp ⋯ ⋯ (λi x y=> ?_) h
   have:i=m:=by omega
   subst this
   omega
theorem zar (hc:∀i j C,i<n->j<n->i≠j->C (decide (r i<r j)) s->cmp i j C s) {Q:Nat->Shared->Prop} {p:Array Nat} {k:Nat} (hp:PmN n p) (hk:k<n) (ha:ZM r p k):∀(f lo hi:Nat),lo<=hi->hi<=k->hi-lo<=f->(∀i,i<lo->Kr r p i<=Kr r p k)->(∀i,hi<=i->i<k->Kr r p k<Kr r p i)->
  (∀l,l<=k->(∀i,i<l->Kr r p i<=Kr r p k)->(∀i,l<=i->i<k->Kr r p k<Kr r p i)->Q l s)->(kas_place p k f lo hi).kasWp cmp Q s
 |0,lo,hi,h1,h2,h3,hl,hh,q=>by
  have:lo=hi:=by omega
  subst this
  exact q lo h2 hl hh
 |f+1,lo,hi,h1,h2,h3,hl,hh,q=>by
  unfold kas_place
  split
  ·have:lo=hi:=by omega
   subst this
   exact q lo h2 hl hh
  ·rename_i cC
   have m1:lo<=(lo+hi) / 2:=by omega
   have m2:(lo+hi) / 2<hi:=by omega
   refine hc _ _ _ (hp.lt ⋯) (hp.lt ⋯) (hp.ne ⋯ ⋯ ⋯) ?_
   by_cases h4:Kr r p k<Kr r p ((lo+hi) / 2)
   ·rw[show decide (r (p.getD k 0)<r (p.getD ((lo+hi) / 2) 0))=true from decide_eq_true h4];dsimp only;rw[if_pos rfl]
    refine zar hc hp hk ha f lo _ m1 ⋯ ⋯ hl (λi a b=> ?_) q
    have:=Ut ha a b
    omega
   ·rw[show decide (r (p.getD k 0)<r (p.getD ((lo+hi) / 2) 0))=false from decide_eq_false h4];dsimp only;rw[if_neg (by simp)]
    refine zar hc hp hk ha f _ hi ⋯ h2 ⋯ (λi a=> ?_) hh q
    have:=Ut ha (show i<=(lo+hi) / 2 by omega) ⋯
    omega
theorem zhc (hc:∀i j C,i<n->j<n->i≠j->C (decide (r i<r j)) s->cmp i j C s) {Q:Array Nat->Shared->Prop}:∀(f:Nat) (p:Array Nat) (k:Nat),PmN n p->k+f=n->ZM r p k->(∀p',PmN n p'->ZM r p' n->Q p' s)->(kas_bin f p k).kasWp cmp Q s
 |0,p,k,hp,hk,ha,h=>by
  have:k=n:=by omega
  subst this
  exact h p hp ha
 |f+1,p,k,hp,hk,ha,h=>by
  unfold kas_bin
  rw[KasT.kasWp_bind]
  have hs:=hp.size
  refine zar hc hp ⋯ ha k 0 k ⋯ (EE _) ⋯ (λi a=>by omega) (λi a b=>by omega) λl a b c=> ?_
  refine zhc hc f _ (k+1) (hp.bub _ _) ⋯ (λi x y=> ?_) h
  have e:=λj=>zk3 (r:=r) (p:=p) (src:=k) (d:=k-l) ⋯ ⋯ j
  rw[e,e,show k-(k-l)=l by omega]
  by_cases h1:i-1=l
  ·rw[if_pos h1,if_neg ⋯,if_pos ⋯]
   have:=c (i-1) ⋯ ⋯
   omega
  ·rw[if_neg h1]
   by_cases h2:i=l
   ·rw[if_neg ⋯,if_pos h2]
    exact b (i-1) ⋯
   ·rw[if_neg h2]
    by_cases h3:l<i
    ·rw[if_pos (show l<i-1/\i-1<=k by omega),if_pos (show l<i/\i<=k by omega)]
     exact ha (i-1) ⋯ ⋯
    ·rw[if_neg ⋯,if_neg ⋯]
     exact ha i x ⋯
theorem ziW (hc:∀i j C,i<n->j<n->i≠j->C (decide (r i<r j)) s->cmp i j C s) {Q:Array Nat->Shared->Prop} (h1:1<=n) (h:∀p,PmN n p->ZM r p n->Q p s):(kas_sort n).kasWp cmp Q s:=by
 unfold kas_sort
 rw[KasT.kasWp_bind]
 refine zhb hc (JH _) h1 λm p a b c d=> ?_
 dsimp only
 split
 ·rw[show max m 1=m by omega]
  exact zhc hc _ p m a ⋯ d h
 ·have:m=n:=by omega
  subst this
  exact h p a d
end
section
variable {prog:Program} {w:World} {A:Around} {E:Value->Shared->Prop} {s:Shared}
def zer (prog:Program) (w:World) (A:Around) (r:Nat->Int) (vs:List Value) (s:Shared):Prop:=
 ∃κ,(∀Q:SortKind->Shared->Prop,Q κ s->wpAny (model prog w) A (keyKind' vs.toArray) Q (λ_ _=>False) s)/\∀i j C,i<vs.length->j<vs.length->i≠j->C (decide (r i<r j)) s->kas_ask prog w A κ vs i j C s
theorem zf6:∀(vs:List Value),vs.length<2->FR ((FR (Fv vs.length)).toList.map λi=>vs.getD i Value.none)=(vs.toArray.zip vs.toArray).map (·.2)
 |[],_=>by simp
 |[v],_=>by
  apply Array.toList_inj.1
  simp[IH]
 |_::_::_,h=>by simp at h;omega
theorem Uu {a:Addr} {vs:List Value} {n:Nat} {P:PySem.Fin->Shared->Prop} (r:Nat->Int) (dZ:s.heap.get? a=some (seqObj "list" vs.toArray n)) (few:vs.length<64)
  (hk:2<=vs.length->∀g:Heap,(∀b o,b≠a->s.heap.get? b=some o->g.get? b=some o)->zer prog w A r vs {s with heap:=g})
  (fin:∀p,PmN vs.length p->ZM r p vs.length->P (.done (.ret .none)) {s with heap:=sortedHeap s.heap a vs (FR (p.toList.map λi=>vs.getD i Value.none))}):
  wpAny (model prog w) A (Builtin.«list.sort» ⟨[.ref a],[]⟩) P E s:=by
 have lt:=Heap.lt_size dZ
 have hz:vs.toArray.size=vs.length:=by simp
 obtain⟨e1,x4⟩:∃c,(s.heap.update a (Obj.mapSeq λ_=>(#[]:Array Value))).get? a=some (seqObj "list" #[] c):=⟨_,get?_update_seq dZ λ_=> #[]⟩
 have old:∀b o,b≠a->s.heap.get? b=some o->(((s.heap.update a (Obj.mapSeq λ_=>(#[]:Array Value))).push (seqObj "tuple" vs.toArray 0)).push (seqObj "list" #[] 0)).get? b=some o:=λb o hb e=>
  Heap.get?_push_of_some _ (Heap.get?_push_of_some _ (by rw[Heap.get?_update_ne _ _ _ _ hb];exact e))
 have mR:(((s.heap.update a (Obj.mapSeq λ_=>(#[]:Array Value))).push (seqObj "tuple" vs.toArray 0)).push (seqObj "list" #[] 0)).get? a=some (seqObj "list" #[] e1):=Heap.get?_push_of_some _ (Heap.get?_push_of_some _ x4)
 rw[list_sort_plain]
 refine wpAny_bind (listItems_at dZ rfl (wpAny_bind (listUpdate_at dZ rfl (wpAny_bind (seqEpoch_at x4 rfl (wpAny_bind (wpAny_newTuple (wpAny_bind (wpAny_newList (wpAny_holding ?_) (Gk _))) (by show vs.length<=_;rw[sizeLine_eq];omega))))) (by rw[hz,sizeLine_eq];omega) (Gk _))))
 show wpAny (model prog w) A _ P E {s with heap:=(((s.heap.update a (Obj.mapSeq λ_=>(#[]:Array Value))).push (seqObj "tuple" vs.toArray 0)).push (seqObj "list" #[] 0))}
 dsimp only
 by_cases two:vs.toArray.size<2
 ·rw[if_pos two,if_pos two]
  refine wpAny_bind (wpAny_pure ?_)
  rw[StateT.run_pure]
  refine wpAny_bind (wpAny_pure ?_)
  dsimp only
  refine wpAny_bind (seqEpoch_at mR rfl (wpAny_bind (listUpdate_at mR rfl ?_ (hsz2:=by rw[G9];show (pairsOf vs).size<=_;rw[pairsOf_size,sizeLine_eq];omega))))
  simp only[bne_self_eq_false,G6,if_false]
  have:=fin (FR (Fv vs.length)) (JH _) (λi x y=>by omega)
  have eo:=zf6 vs ⋯
  rw[eo] at this
  exact wpAny_pure this
 ·rw[if_neg two,if_neg two]
  have h2:2<=vs.length:=by omega
  obtain⟨κ,kd,ask⟩:=hk h2 _ old
  refine wpAny_bind (wpAny_mono (kd (λk s'=>k=κ/\s'={s with heap:=(((s.heap.update a (Obj.mapSeq λ_=>(#[]:Array Value))).push (seqObj "tuple" vs.toArray 0)).push (seqObj "list" #[] 0))}) ⟨rfl,rfl⟩) ?_ λ_ _ z=>z.elim)
  rintro _ _ ⟨rfl,rfl⟩
  have tree:=ziW (cmp:=kas_ask prog w A _ vs) (r:=r) (n:=vs.length) (s:={s with heap:=(((s.heap.update a (Obj.mapSeq λ_=>(#[]:Array Value))).push (seqObj "tuple" vs.toArray 0)).push (seqObj "list" #[] 0))})
   (Q:=λp s'=>(PmN vs.length p/\ZM r p vs.length)/\s'={s with heap:=(((s.heap.update a (Obj.mapSeq λ_=>(#[]:Array Value))).push (seqObj "tuple" vs.toArray 0)).push (seqObj "list" #[] 0))}) ask ⋯ λp x y=>⟨⟨x,y⟩,rfl⟩
  refine wpAny_bind (wpAny_mono (kat_run (Q:=λst' s'=>∃p:Array Nat,arrOf st'=p.map (kas_item (vs.toArray.zip vs.toArray))/\failedOf st'=none/\(PmN vs.length p/\ZM r p vs.length)/\s'={s with heap:=(((s.heap.update a (Obj.mapSeq λ_=>(#[]:Array Value))).push (seqObj "tuple" vs.toArray 0)).push (seqObj "list" #[] 0))})
   rfl h2 few (λp' st' s' _ x y z=>⟨p',x,y,z⟩) tree) ?_ λ_ _ z=>z)
  rintro⟨⟨⟩,st'⟩ _ ⟨p,CF,hf,⟨pm,fR⟩,rfl⟩
  dsimp only
  have out:=kat_snds (ks:=vs) (vs:=vs) rfl CF
  have Ad:(FR (p.toList.map λi=>vs.getD i Value.none)).size=vs.length:=by rw[F1,Eu,FC,pm.size]
  rw[out]
  refine wpAny_bind (seqEpoch_at mR rfl (wpAny_bind (listUpdate_at mR rfl ?_ (Gk _) (by rw[Ad,sizeLine_eq];omega))))
  rw[hf]
  simp only[bne_self_eq_false,G6,if_false]
  exact wpAny_pure (fin p pm fR)
theorem zes {l:Addr} {vs:List Value} {Q:Value->Shared->Prop} (r:Nat->Int) (hl:s.heap.IsList l vs.toArray) (few:vs.length<64)
  (hk:2<=vs.length->∀g:Heap,(∀b o,s.heap.get? b=some o->g.get? b=some o)->zer prog w A.in1.in1 r vs {s with heap:=g})
  (fin:∀p,PmN vs.length p->ZM r p vs.length->Q (.ref (s.heap.objs.size+1)) {s with heap:=sortedAll s.heap vs (FR (p.toList.map λi=>vs.getD i Value.none))}):
  wpAny (model prog w) A (call (.builtin "sorted") [.ref l]) Q E s:=by
 refine call_function_entry kind_sorted plain_sorted entry_sorted (args_sorted1 _) ?_
 unfold Builtin.«sorted»
 refine wpAny_bind (m:=checkCount "sorted" 1 1 _) (wpAny_pure (wpAny_bind (collect_list hl (wpAny_bind (wpAny_newList ?_ (by rw[sizeLine_eq];omega))) (by rw[sizeLine_eq];omega))))
 have z1:((s.heap.push (seqObj "list" #[] 0)).update s.heap.objs.size (Obj.mapSeq (· ++vs.toArray))).objs.size=s.heap.objs.size+1:=by rw[Heap.size_update,size_push']
 have dZ:(((s.heap.push (seqObj "list" #[] 0)).update s.heap.objs.size (Obj.mapSeq (· ++vs.toArray))).push (seqObj "list" vs.toArray 0)).get? (s.heap.objs.size+1)=some (seqObj "list" vs.toArray 0):=by rw[<-z1];exact Heap.get?_push_size _ rfl
 have old:∀b o,s.heap.get? b=some o->(((s.heap.push (seqObj "list" #[] 0)).update s.heap.objs.size (Obj.mapSeq (· ++vs.toArray))).push (seqObj "list" vs.toArray 0)).get? b=some o:=λb o e=>by
  have lt:=Heap.lt_size e
  refine Heap.get?_push_of_some _ ?_
  rw[Heap.get?_update_ne _ _ _ _ (EH lt)]
  exact Heap.get?_push_of_some _ e
 show wpAny _ _ _ _ _ {s with heap:=(((s.heap.push (seqObj "list" #[] 0)).update s.heap.objs.size (Obj.mapSeq (· ++vs.toArray))).push (seqObj "list" vs.toArray 0))}
 rw[z1]
 refine wpAny_bind (wpAny_holding (wpAny_call_entry slot_list_sort ⟨_,dZ,rfl⟩ entry_list_sort (Uu r dZ few (λh2 g hg=>hk h2 g λb o e=>hg b o (EH (FI (Heap.lt_size e))) (old b o e)) λp x y=>⟨_,rfl,?_⟩) (args_list_sort _)))
 exact wpAny_pure ⟨_,rfl,fin p x y⟩
end
open PySem.AutoSeq1 (wpAny_loadPart')
open PySem.MeetsSeq PySem.MeetsSeq2 PySem.MeetsSeq3
section
variable {prog:Program} {w:World} {A:Around} {E:Value->Shared->Prop} {s:Shared}
end
section
variable {X:Cx}
end
end L2
namespace L2
open PySem PySem.Spec PyProof.Rows PySem.Calls PySem.W
section
variable {X:Cx} {pins:List (Addr×Obj)} {σ:St} {H:Hp} {s:Shared} {a:Addr} {d:V} {u r:Value} {A:Around} {E:Value->Shared->Prop} {kvs:List (Key×V)} {k:Key}
end
section
variable {X:Cx} {o e f:Expr} {apos bj:Pos} {td ty tx:TE}
end
open PySem.AutoSeq1 (wpAny_loadPart')
section
variable {prog:Program} {w:World} {A:Around} {E:Value->Shared->Prop} {s:Shared}
end
section
variable {X:Cx}
end
end L2
namespace L2
open PySem PySem.Spec PyProof.Rows PySem.Calls PySem.W
section
variable {prog:Program} {w:World} {A:Around} {E:Value->Shared->Prop} {s:Shared}
end
theorem zet:∀{kvs:List (Key×V)} {vs:List (Key×Value)} {i:Nat} {k:Key} {v:V},KV kvs vs->kvs[i]? =some (k,v)->∃u,vs[i]? =some (k,u)/\zP v u
 |_,_,i,k,v,.nil,h=>by simp at h
 |_,_,0,k,v,.cons h _,e=>by
  simp at e
  subst e
  obtain⟨e1,e2⟩:=h
  exact⟨_,by simp;exact Prod.ext e1.symm rfl,e2⟩
 |_,_,i+1,k,v,.cons _ l,e=>by
  obtain⟨u,e1,e2⟩:=zet (i:=i) l (by simpa using e)
  exact⟨u,by simpa using e1,e2⟩
theorem zj3 {P:Program} {w:World} {k:Key} {u:Value} (h:(zT P w).is k u=true):zP (kV k) u:=by
 have h:WL k u=true:=h
 rcases yw h with⟨i,t,rfl,rfl⟩|⟨x,t,rfl,rfl⟩
 ·exact⟨t,rfl⟩
 ·exact⟨t,rfl⟩
theorem zfb {X:Cx} {pins:List (Addr×Obj)} {σ:St} {H:Hp} {s:Shared} {a:Addr} {o:Obj} {kvs:List (Key×V)} {es:Array DictEntry} {ep:Nat} (I:Inv X pins σ H s) (h:H a=some (.frz o (.dK kvs))) (hd:o.data= .dict es ep):∃vs,KV kvs vs/\s.heap.DictAt (zT X.prog X.w) a vs ep:=by
 obtain⟨hg,_,_,vs,rel,o',es',ep',e1,e2,e3,e4⟩:=(show yr X.prog X.w H s.heap a (.frz o (.dK kvs)) from I.hok a _ h)
 rw[hg] at e1
 cases e1
 rw[hd] at e3
 cases e3
 exact⟨vs,rel,o,es,hg,e2,hd,e4⟩
noncomputable def zbM (p a:Addr):HO:= .ext λh=>h.IsItemsView p a
section
variable {X:Cx}
def zhd:V->List V->Hp->VK->Prop:=λx vs H Q=>∃(a:Addr) (kvs:List (Key×V)),x= .ref a/\vs=[]/\H a=some (.dK kvs)/\∀p,H p=none->Q (.ref p) (upd H p (zbM p a))
theorem zhe:MtR X "dict.items" zhd:=by
 intro pins s σ H x xs v us Q I rx r h
 obtain⟨a,kvs,rfl,rfl,ha,q⟩:=h
 cases rx
 cases r
 obtain⟨hz,lo,vs,rel,dd⟩:=zdb I.hok ha
 have hn:(s.heap.push {cls:= .type "dict_items",data:= .fields #[.ref a]}).get? s.heap.objs.size=some {cls:= .type "dict_items",data:= .fields #[.ref a]}:=Heap.get?_push_size _ rfl
 refine call_meetsIn Iz dd.typeIs PySem.F.entry_dict_items (PySem.F.args_dict_items_1 _) (meets_dict_items (zT X.prog X.w) a lo) ⟨⟨vs,dd⟩,?_⟩
 refine⟨.ref s.heap.objs.size,_,I.laid (t':=s.toks) (o:=zbM s.heap.objs.size a) (λ_ _ e=>Heap.get?_push_of_some _ e) (EE _) ⟨⟨_,hn,rfl,rfl⟩,⟨_,hn⟩,λh1 h2 ⟨o,e1,e2⟩ e3=>⟨o,e3 _ e1,e2⟩⟩,rfl,q _ I.fresh⟩
end
open PySem.AutoSeq1 (wpAny_loadPart')
section
variable {prog:Program} {w:World} {A:Around} {E:Value->Shared->Prop} {s:Shared}
end
section
variable {X:Cx}
end
end L2
namespace L2
open PySem PySem.Spec PyProof.Rows PySem.Calls
mutual
inductive yT (h:Heap):NK->Value->Prop where
 |int (i:Int) (t:Tok):yT h (.int i) (.int i t)
 |str (x:Str) (t:Tok):yT h (.str x) (.str x t)
 |tup {a:Addr} {o:Obj} {items:Array Value} {n:Nat} {l:List NK}:h.get? a=some o->o.cls= .type "tuple"->o.data= .seq items n->yx h l items.toList->yT h (.tup l) (.ref a)
inductive yx (h:Heap):List NK->List Value->Prop where
 |nil:yx h [] []
 |cons {k:NK} {v:Value} {ks:List NK} {vs:List Value}:yT h k v->yx h ks vs->yx h (k::ks) (v::vs)
end
mutual
noncomputable def Wg:NK->Nat
 | .int _=>1
 | .str _=>1
 | .tup l=>vO l+1
noncomputable def vO:List NK->Nat
 |[]=>0
 |k::r=>Wg k+vO r
end
section
variable {h h':Heap}
mutual
theorem yT.inj:∀{x y:NK} {v:Value},yT h x v->yT h y v->x=y
 |_,_,_,.int i t,hy=>by cases hy;rfl
 |_,_,_,.str x t,hy=>by cases hy;rfl
 |_,_,_,.tup e1 e2 e3 l1,hy=>by
  cases hy with
  |tup f1 f2 f3 l2=>
   rw[e1] at f1
   cases f1
   rw[e3] at f3
   injection f3 with g1 g2
   subst g1
   rw[yx.inj l1 l2]
theorem yx.inj:∀{x y:List NK} {v:List Value},yx h x v->yx h y v->x=y
 |_,_,_,.nil,hy=>by cases hy;rfl
 |_,_,_,.cons a l,hy=>by
  cases hy with
  |cons b m=>rw[yT.inj a b,yx.inj l m]
end
mutual
theorem yT.keeps {d:Addr} {o:Obj} {es:Array DictEntry} {ep:Nat} (ho:h.get? d=some o) (hd:o.data= .dict es ep) (hs:Heap.SameBut d h h'):∀{x:NK} {v:Value},yT h x v->yT h' x v
 |_,_,.int i t=> .int i t
 |_,_,.str x t=> .str x t
 |_,_,.tup (a:=a) e1 e2 e3 l=>by
  have bZ:a≠d:=by
   rintro rfl
   rw[ho] at e1
   cases e1
   rw[hd] at e3
   exact nomatch e3
  exact .tup ((hs.2 a bZ).trans e1) e2 e3 (yx.keeps ho hd hs l)
theorem yx.keeps {d:Addr} {o:Obj} {es:Array DictEntry} {ep:Nat} (ho:h.get? d=some o) (hd:o.data= .dict es ep) (hs:Heap.SameBut d h h'):∀{x:List NK} {v:List Value},yx h x v->yx h' x v
 |_,_,.nil=> .nil
 |_,_,.cons a l=> .cons (yT.keeps ho hd hs a) (yx.keeps ho hd hs l)
end
theorem yx.len:∀{x:List NK} {v:List Value},yx h x v->x.length=v.length
 |_,_,.nil=>rfl
 |_,_,.cons a l=>by simp[l.len]
theorem yx.get:∀{x:List NK} {v:List Value} {i:Nat} {k:NK},yx h x v->x[i]? =some k->∃u,v[i]? =some u/\yT h k u
 |_,_,_,_,.nil,e=>by simp at e
 |_,_,0,_,.cons a l,e=>by simp at e;subst e;exact⟨_,rfl,a⟩
 |_,_,i+1,k,.cons a l,e=>by
  obtain⟨u,e1,e2⟩:=l.get (i:=i) (k:=k) (by simpa using e)
  exact⟨u,by simpa using e1,e2⟩
end
theorem wQ:∀{l:List NK} {k:NK},k∈l->yv k<=wB l
 |[],_,h=>by cases h
 |a::r,k,h=>by
  unfold wB
  rcases EJ.1 h with rfl|h
  ·exact Nat.le_max_left _ _
  ·exact EW (wQ h) (Nat.le_max_right _ _)
section
variable {prog:Program} {w:World} {E:Value->Shared->Prop}
theorem zfc:∀(n:Nat) {A:Around} {s:Shared} {k:NK} {v:Value} {Q:Int->Shared->Prop},yv k<=n->A.units+n<cLine->yT s.heap k v->Q (yg w k) {s with toks:=s.toks+Wg k}->wpAny (model prog w) A (pyHash v) Q E s:=by
 intro n
 induction n with
 |zero=>
  intro A s k v Q hn hu hk h
  cases hk with
  |int i t=>exact wpAny_pyHash_int (by simpa [yg,Wg,zd1] using h)
  |str x t=>exact wpAny_pyHash_str (by simpa [yg,Wg,zd1] using h)
  |tup _ _ _ _=>unfold yv at hn;omega
 |succ n ih=>
  intro A s k v Q hn hu hk h
  cases hk with
  |int i t=>exact wpAny_pyHash_int (by simpa [yg,Wg,zd1] using h)
  |str x t=>exact wpAny_pyHash_str (by simpa [yg,Wg,zd1] using h)
  | @tup a o items m ks ho hc hd hi=>
   have ty:s.TypeIs (.ref a) "tuple":=⟨o,ho,hc⟩
   have fg:wB ks<=n:=by unfold yv at hn;omega
   have sl:=F.slot_tuple_hash
   unfold pyHash
   (try unfold pyHashByItsType)
   have main:∀{R:Value->Shared->Prop},R (.int (Builtin.Tuple.tupleHashOf (Yv w ks)) (s.toks+vO ks)) {s with toks:=s.toks+vO ks+1}->wpAny (model prog w) A.in1 (Builtin.«tuple.__hash__» ⟨[.ref a],[]⟩) (λfin s'=>∃v,fin=PySem.Fin.done (.ret v)/\R v s') E s:=λ{R} hR=>by
    refine wpAny_bind (m:=Builtin.Tuple.tupleItemsOf (.ref a)) (wpAny_tupleItemsOf ho hd (wpAny_bind ?_))
    rw[<-Hj]
    refine wpAny_forIn_list _ (λrest (acc:Array Int) s'=>∃pre post,ks=pre++post/\yx s.heap post rest/\acc.toList=Yv w pre/\s'={s with toks:=s.toks+vO pre}) _ ?_ ?_ _ _ ⟨[],ks,rfl,hi,by simp[Yv],by simp[vO]⟩
    ·rintro v1 more acc _ ⟨pre,post,rfl,hl,hb,rfl⟩
     cases hl with
     | @cons k _ post' _ h1 h8=>
      have app:∀(l:List NK) (k:NK),Yv w (l++[k])=Yv w l++[yg w k]/\vO (l++[k])=vO l+Wg k:=λl k=>by
       induction l with
       |nil=>simp[Yv,vO]
       |cons a r ih=>refine⟨by simp[Yv,ih.1],by simp[vO,ih.2];omega⟩
      refine wpAny_bind (ih (EW (wQ (by simp)) fg) (show A.units+1+n<cLine by omega) (show yT s.heap k v1 from h1) ?_)
      have goal:∃iQ ig,pre++k::post'=iQ++ig/\yx s.heap ig more/\(acc.push (yg w k)).toList=Yv w iQ/\({s with toks:=s.toks+vO pre+Wg k}:Shared)={s with toks:=s.toks+vO iQ}:=⟨pre++[k],post',by simp,h8,by rw[(app pre k).1];simp[hb],by rw[(app pre k).2,JS]⟩
      first|exact wpAny_pure goal|exact wpAny_bind (wpAny_pure (wpAny_pure goal))
    ·rintro acc _ ⟨pre,post,rfl,hl,hb,rfl⟩
     cases hl
     rw[Gz] at hR
     show wpAny _ _ (retInt (Builtin.Tuple.tupleHashOf acc.toList)) _ _ _
     rw[hb]
     refine wpAny_ret_mkInt ?_
     exact hR
   refine wpAny_bind (wpAny_cRoomFor_or (.inr (show A.units<cLine by omega)) (wpAny_bind (wpAny_specialOf ty sl.lookup ?_)))
   refine wpAny_ite_split (λz=>absurd z (by rw[beq_builtin_none];decide)) λ_=>wpAny_bind (wpAny_specialOf ty sl.lookup ?_)
   refine wpAny_bind (m:=callSpecialIfBoundUnlessNone? (.ref a) "__hash__" _) (wpAny_callSpecialIfBoundUnlessNone?_slot ty sl (wpAny_call_entry sl ty F.entry_tuple_hash (main ?_) (F.args_tuple_hash_1 _)))
   unfold yg Wg reduceHash at h
   have en:({s with toks:=s.toks+vO ks+1}:Shared)={s with toks:=s.toks+(vO ks+1)}:=by rw[JS]
   rw[en]
   refine wpAny_ite_split (λz=> ?_) λz=>wpAny_bind (wpAny_rule ?_)
   ·rw[if_pos z] at h;exact wpAny_pure h
   ·rw[if_neg z] at h;exact wpAny_pure h
theorem VO {A:Around} {s:Shared} {k j:NK} {v u:Value} (hu:A.units<cLine) (hk:yT s.heap k v) (hj:yT s.heap j u) (hd:(∀l,k≠ .tup l)\/∀l,j≠ .tup l):SeqAt.EqAt A s v u (decide (k=j)):=by
 have tp:∀{a:Addr} {o:Obj} {items:Array Value} {n:Nat},s.heap.get? a=some o->o.cls= .type "tuple"->o.data= .seq items n->s.heap.IsTuple a items:=λa b c=>⟨_,a,b,_,c⟩
 cases hk with
 |int i t=>
  cases hj with
  |int j t'=>
   rw[show decide (NK.int i=NK.int j)=(i==j) by rw[HD,decide_eq_true_iff,beq_iff_eq];exact⟨λe=>by cases e;rfl,λe=>by rw[e]⟩]
   exact SeqAt.EqAt.int_int _ _ _ _
  |str y t'=>rw[decide_eq_false (by intro e;cases e)];exact SeqAt.EqAt.int_str _ _ _ _
  |tup a b c _=>rw[decide_eq_false (by intro e;cases e)];exact SeqAt.EqAt.int_tuple _ _ (tp a b c) hu
 |str x t=>
  cases hj with
  |int j t'=>rw[decide_eq_false (by intro e;cases e)];exact SeqAt.EqAt.str_int _ _ _ _
  |str y t'=>
   rw[show decide (NK.str x=NK.str y)=(x==y) by rw[HD,decide_eq_true_iff,beq_iff_eq];exact⟨λe=>by cases e;rfl,λe=>by rw[e]⟩]
   exact SeqAt.EqAt.str_str _ _ _ _
  |tup a b c _=>rw[decide_eq_false (by intro e;cases e)];exact SeqAt.EqAt.str_tuple _ _ (tp a b c) hu
 |tup a b c _=>
  cases hj with
  |int j t'=>rw[decide_eq_false (by intro e;cases e)];exact SeqAt.EqAt.tuple_int _ _ (tp a b c) hu
  |str y t'=>rw[decide_eq_false (by intro e;cases e)];exact SeqAt.EqAt.tuple_str _ _ (tp a b c) hu
  |tup _ _ _ _=>
   rcases hd with h|h
   ·exact (h _ rfl).elim
   ·exact (h _ rfl).elim
theorem zdu {α:Type} (l m:List α) (e:Nat->Bool) (he:∀(j:Nat) a b,l[j]? =some a->m[j]? =some b->(e j=true↔a=b)):((Fv (min l.length m.length)).all e&&(l.length==m.length))=true↔l=m:=by
 rw[Gg,G4,beq_iff_eq]
 constructor
 ·rintro⟨h1,h2⟩
  refine Gr λj=> ?_
  by_cases hj:j<l.length
  ·have fV:j<m.length:=by omega
   rw[Er hj,Er fV]
   exact congrArg some ((he j _ _ (Er hj) (Er fV)).1 (h1 j (Fx.2 ⋯)))
  ·rw[Fe ⋯,Fe ⋯]
 ·rintro rfl
  refine⟨λj hj=> ?_,rfl⟩
  have hj:=Fx.1 hj
  have hj:j<l.length:=by omega
  exact (he j _ _ (Er hj) (Er hj)).2 rfl
theorem zfd:∀(n:Nat) {A:Around} {s:Shared} {k j:NK} {v u:Value},yv k<=n->A.units+n<cLine->yT s.heap k v->yT s.heap j u->SeqAt.EqAt A s v u (decide (k=j)):=by
 intro n
 induction n with
 |zero=>
  intro A s k j v u hn hu hk hj
  refine VO ⋯ hk hj (.inl λl e=> ?_)
  subst e
  unfold yv at hn
  omega
 |succ n ih=>
  intro A s k j v u hn hu hk hj
  cases hk with
  |int i t=>exact VO ⋯ (.int i t) hj (.inl λl e=>by cases e)
  |str i t=>exact VO ⋯ (.str i t) hj (.inl λl e=>by cases e)
  | @tup a o items m l ho hc hd hi=>
   cases hj with
   |int i t=>exact VO ⋯ (.tup ho hc hd hi) (.int i t) (.inr λl e=>by cases e)
   |str i t=>exact VO ⋯ (.tup ho hc hd hi) (.str i t) (.inr λl e=>by cases e)
   | @tup a' o' items' m' l' dz cI gj cA=>
    have fg:wB l<=n:=by unfold yv at hn;omega
    by_cases b6:a=a'
    ·subst b6
     have e:=(yT.tup ho hc hd hi).inj (yT.tup dz cI gj cA)
     rw[decide_eq_true e]
     exact SeqAt.EqAt.same _
    ·refine SeqAt.EqAt.of_refs b6 ?_
     have s1:items.size=l.length:=by have:=hi.len;simpa using this.symm
     have s2:items'.size=l'.length:=by have:=cA.len;simpa using this.symm
     have:=SeqAt.RcAt.tuples (A:=A) (s:=s) (e:=λq=>decide (l[q]? =l'[q]?)) ⟨o,ho,hc,m,hd⟩ ⟨o',dz,cI,m',gj⟩ ⋯ (λq h1 h2=>by
      have q1:l[q]? =some l[q]:=Er ⋯
      have q2:l'[q]? =some l'[q]:=Er ⋯
      obtain⟨u1,f1,g1⟩:=hi.get q1
      obtain⟨u2,f2,g2⟩:=cA.get q2
      have e1:items[q]=u1:=by rw[FQ] at f1;rw[GF h1] at f1;exact Fi f1
      have e2:items'[q]=u2:=by rw[FQ] at f2;rw[GF h2] at f2;exact Fi f2
      rw[e1,e2]
      have:=ih (A:=A.in1) (EW (wQ (EK ⋯)) fg) (by show A.units+1+n<cLine;omega) g1 g2
      rwa [show decide (l[q]? =l'[q]?)=decide (l[q]=l'[q]) by rw[q1,q2,decide_eq_decide,FN]])
     rw[s1,s2] at this
     have qJ:((Fv (min l.length l'.length)).all (λq=>decide (l[q]? =l'[q]?))&&(l.length==l'.length))=decide (NK.tup l=NK.tup l'):=by
      rw[HD,decide_eq_true_iff,zdu l l' _ λj a b ha hb=>by rw[decide_eq_true_iff,ha,hb,FN]]
      exact⟨λe=>by rw[e],λe=>by cases e;rfl⟩
     rwa [qJ] at this
theorem zas:∀(n:Nat) {A:Around} {s:Shared} {k:NK} {v:Value} {Q:Bool->Shared->Prop},yv k<=n->yT s.heap k v->Q true s->wpAny (model prog w) A (eqIsQuiet n v) Q E s:=by
 intro n
 induction n with
 |zero=>
  intro A s k v Q hn hk h
  cases hk with
  |int i t=>rw[eqIsQuiet_byValue _ rfl];exact wpAny_pure h
  |str x t=>rw[eqIsQuiet_byValue _ rfl];exact wpAny_pure h
  |tup _ _ _ _=>unfold yv at hn;omega
 |succ n ih=>
  intro A s k v Q hn hk h
  cases hk with
  |int i t=>rw[eqIsQuiet_byValue _ rfl];exact wpAny_pure h
  |str x t=>rw[eqIsQuiet_byValue _ rfl];exact wpAny_pure h
  | @tup a o items m ks ho hc hd hi=>
   have ty:s.TypeIs (.ref a) "tuple":=⟨o,ho,hc⟩
   have fg:wB ks<=n:=by unfold yv at hn;omega
   unfold eqIsQuiet
   refine wpAny_bind (wpAny_specialOf ty F.slot_tuple_eq.lookup (wpAny_bind (m:=isInstance (.ref a) (.type "tuple")) (wpAny_isInstance ty isSubtype_tuple_tuple ?_)))
   refine wpAny_ite_split nofun λ_=>wpAny_bind (wpAny_seqItems ho hd (wpAny_bind (m:=forIn items _ _) ?_))
   rw[<-Hj]
   refine wpAny_forIn_list _ (λrest acc s'=>acc.1=none/\s'=s/\∃post,(∀k∈post,yv k<=n)/\yx s.heap post rest) _ ?_ ?_ _ _ ⟨rfl,rfl,ks,λk hk=>EW (wQ hk) fg,hi⟩
   ·rintro v1 rest acc _ ⟨ha,rfl,post,bP,hl⟩
    cases hl with
    | @cons k _ post' _ h1 h8=>exact wpAny_bind (ih (bP k (by simp)) h1 (wpAny_ite_split nofun λ_=>wpAny_pure ⟨rfl,rfl,post',λu hu=>bP u (ED _ hu),h8⟩))
   ·rintro⟨a1,a2⟩ _ ⟨ha,rfl,_⟩
    cases ha
    exact wpAny_pure h
end
noncomputable def UU (prog:Program) (w:World):HeapKind prog w NK where
 is:=λh k a=>yT h k (.ref a)/\yv k<=8
 hash:=yg w
 draws:=Wg
 room:=λA=>A.units+8<cLine
 inj:=λhx hy=>hx.1.inj hy.1
 keeps:=λx ho hd hs=>⟨x.1.keeps ho hd hs,x.2⟩
 pyHash:=λhu hk h=>zfc 8 hk.2 hu hk.1 h
 eqBool:=λhu hx hy h=>zfd 8 hx.2 hu hx.1 hy.1 _ _ _ _ h
 quiet:=λhk h=>zas 8 hk.2 hk.1 h
mutual
inductive NIs (K:Et) (H:Hp):V->NK->Prop where
 |int (i:Int):NIs K H (.int i) (.int i)
 |str (x:Str):NIs K H (.str x) (.str x)
 |tup {a:Addr} {vs:List V} {l:List NK}:SqT K H a vs->WJ K H vs l->NIs K H (.ref a) (.tup l)
inductive WJ (K:Et) (H:Hp):List V->List NK->Prop where
 |nil:WJ K H [] []
 |cons {v:V} {k:NK} {vs:List V} {ks:List NK}:NIs K H v k->WJ K H vs ks->WJ K H (v::vs) (k::ks)
end
section
variable {X:Cx} {pins:List (Addr×Obj)} {σ:St} {H:Hp} {s:Shared}
mutual
theorem NIs.isNK (I:Inv X pins σ H s):∀{v:V} {k:NK} {u:Value},NIs X.K H v k->zP v u->yT s.heap k u
 |_,_,_,.int i,r=>by obtain⟨t,rfl⟩:=(show ∃t,_=Value.int i t from r);exact .int i t
 |_,_,_,.str x,r=>by obtain⟨t,rfl⟩:=(show ∃t,_=Value.str x t from r);exact .str x t
 |_,_,_,.tup (a:=a) h l,r=>by
  cases (show _=Value.ref a from r)
  obtain⟨ae,r1,⟨o,p1,p2,n,p3⟩,_⟩:=I.tuple h
  exact .tup p1 p2 p3 (WJ.isNK I l (by simpa using r1))
theorem WJ.isNK (I:Inv X pins σ H s):∀{v:List V} {k:List NK} {u:List Value},WJ X.K H v k->zY v u->yx s.heap k u
 |_,_,_,.nil,r=>by cases r;exact .nil
 |_,_,_,.cons h l,r=>by
  cases r with
  |cons a b=>exact .cons (NIs.isNK I h a) (WJ.isNK I l b)
end
end
def zhf (K:Et) (H:Hp) (ks:List (NK×Addr×V)):Prop:=∀p∈ks,NIs K H (.ref p.2.1) p.1/\yv p.1<=8
noncomputable def XN (ks:List (NK×Addr×V)) (k:NK):Option V:=(ks.find? λp=>decide (p.1=k)).map (·.2.2)
noncomputable def zat (ks:List (NK×Addr×V)) (k:NK) (b:Addr) (v:V):List (NK×Addr×V):=if (XN ks k).isSome=true then ks.map (λp=>if p.1=k then (p.1,p.2.1,v) else p) else ks++[(k,b,v)]
theorem zdv (ks:List (NK×Addr×V)) (k:NK) (b:Addr) (v:V):(zat ks k b v).length<=ks.length+1:=by
 unfold zat
 split
 ·rw[Eu];omega
 ·simp
noncomputable abbrev PN:List (NK×Addr×V)->List (NK×Addr×Value)->Prop:=Paired λ(p:NK×Addr×V) (q:NK×Addr×Value)=>p.1=q.1/\p.2.1=q.2.1/\zP p.2.2 q.2.2
theorem PN.val {ks:List (NK×Addr×V)} {xs:List (NK×Addr×Value)} (r:PN ks xs) (k:NK):WG (XN ks k) ((atKey xs k).map (·.2)):=by
 induction r with
 |nil=>exact G8
 | @cons p q ps qs h t ih=>
  obtain⟨h1,_,h2⟩:=h
  by_cases e:p.1=k
  ·have e':q.1=k:=h1.symm.trans e
   have b:atKey (q::qs) k=some q.2:=by simp[atKey,Fg,e']
   have a:XN (p::ps) k=some p.2.2:=by simp[XN,Fg,e]
   rw[a,b];exact h2
  ·have e':¬q.1=k:=λz=>e (h1.trans z)
   have b:atKey (q::qs) k=atKey qs k:=by simp[atKey,Fg,e']
   have a:XN (p::ps) k=XN ps k:=by simp[XN,Fg,e]
   rw[a,b];exact ih
theorem PN.put {ks:List (NK×Addr×V)} {xs:List (NK×Addr×Value)} (r:PN ks xs) (k:NK) {b:Addr} {y:V} {u:Value} (ry:zP y u):PN (zat ks k b y) (storedH xs k b u):=by
 have e:(XN ks k).isSome=(atKey xs k).isSome:=by rw[(r.val k).isSome_eq,GC]
 unfold zat storedH
 rw[e]
 by_cases q:(atKey xs k).isSome=true
 ·rw[if_pos q,if_pos q]
  clear q e
  induction r with
  |nil=>exact .nil
  | @cons p q ps qs h t ih=>
   rw[Ey,Ey]
   refine .cons ?_ ih
   obtain⟨h1,h2,h3⟩:=h
   unfold putAt
   by_cases e:p.1=k
   ·rw[if_pos e,if_pos (h1.symm.trans e)];exact⟨h1,h2,ry⟩
   ·rw[if_neg e,if_neg (λz=>e (h1.trans z))];exact⟨h1,h2,h3⟩
 ·rw[if_neg q,if_neg q];exact Paired.snoc r ⟨rfl,rfl,ry⟩
theorem PN.all {P:NK->Addr->Prop} {ks:List (NK×Addr×V)} {xs:List (NK×Addr×Value)} (r:PN ks xs) (h:∀p∈ks,P p.1 p.2.1):∀x∈xs,P x.1 x.2.1:=by
 induction r with
 |nil=>intro x hx;cases hx
 | @cons p q ps qs h' t ih=>
  intro x hx
  rcases EJ.1 hx with rfl|hx
  ·obtain⟨e1,e2,_⟩:=h'
   rw[<-e1,<-e2]
   exact h p (by simp)
  ·exact ih (λp hp=>h p (by simp[hp])) x hx
section
variable {X:Cx} {pins:List (Addr×Obj)} {σ:St} {H:Hp} {s:Shared} {a:Addr}
theorem zj4 {ks:List (NK×Addr×V)} (I:Inv X pins σ H s) (e:H a=some (.dN ks)) (hk:zhf X.K H ks):ks.length<=sizeLine/\(a==sysModules)=false/\∃xs,PN ks xs/\s.heap.DictOfH (UU X.prog X.w) a xs:=by
 obtain⟨z,y,xs,r,o,es,ep,h1,h2,h3,h4,h5⟩:=(show yr X.prog X.w H s.heap a (.dN ks) from I.hok a _ e)
 refine⟨z,y,xs,r,o,es,ep,h1,h2,h3,h4,?_,h5⟩
 exact PN.all r (P:=λk b=>(UU X.prog X.w).is s.heap k b) λp hp=>⟨(hk p hp).1.isNK I rfl,(hk p hp).2⟩
theorem zhg (I:Inv X pins σ H s) (e:H a=some (.dK [])):(a==sysModules)=false/\s.heap.DictOfH (UU X.prog X.w) a []:=by
 obtain⟨z,y,vs,r,o,es,ep,h1,h2,h3,h4,h5,_⟩:=zdb I.hok e
 cases r
 refine⟨y,o,es,ep,h1,h2,h3,?_,by simp,by simp⟩
 have:es.toList=[]:=by
  have:=h5.length
  simpa using this
 rw[this]
 rfl
end
def zbN (K:Et) (H:Hp) (a:Addr) (y:V) (r:Option V):Prop:=
 Vd H a y r\/∃k b,y= .ref b/\NIs K H y k/\yv k<=8/\((∃ks,H a=some (.dN ks)/\zhf K H ks/\r=XN ks k)\/(H a=some (.dK [])/\r=none))
def zhh (K:Et) (H:Hp) (a:Addr) (y v:V) (H':Hp):Prop:=
 zd9 H a y v H'\/∃k b,y= .ref b/\NIs K H y k/\yv k<=8/\((∃ks,H a=some (.dN ks)/\zhf K H ks/\ks.length<sizeLine/\H'=upd H a (.dN (zat ks k b v)))\/(H a=some (.dK [])/\H'=upd H a (.dN [(k,b,v)])))
section
variable {X:Cx} {pins:List (Addr×Obj)} {σ:St} {H:Hp} {s:Shared} {a:Addr} {y v d:V} {u r:Value} {o:Option V} {A:Around} {E:Value->Shared->Prop}
theorem dgN {k:NK} (I:Inv X pins σ H s) (h:(∃ks,H a=some (.dN ks)/\zhf X.K H ks/\o=XN ks k)\/(H a=some (.dK [])/\o=none)):(a==sysModules)=false/\∃xs,s.heap.DictOfH (UU X.prog X.w) a xs/\WG o ((atKey xs k).map (·.2)):=by
 rcases h with⟨ks,e,hk,rfl⟩|⟨e,rfl⟩
 ·obtain⟨_,hd,xs,rel,dd⟩:=zj4 I e hk
  exact⟨hd,xs,dd,rel.val k⟩
 ·obtain⟨hd,dd⟩:=zhg I e
  exact⟨hd,[],dd,G8⟩
theorem zeu {Q:Value->Shared->Prop} (hu:A.units+9<cLine) (I:Inv X pins σ H s) (g:zbN X.K H a y (some v)) (ry:zP y u) (h:∀w' s',Inv X pins σ H s'->zP v w'->Q w' s'):wpAny (model X.prog X.w) A (getItem (.ref a) u) Q E s:=by
 rcases g with g|⟨k,b,rfl,hk,hd,g⟩
 ·exact zbB ⋯ I g ry h
 ·cases (show u=Value.ref b from ry)
  obtain⟨_,xs,dd,rel⟩:=dgN I g
  obtain⟨w',hw,rw'⟩:=WG.some_of rel
  obtain⟨p,hp,jE⟩:=F8.mp hw
  refine wpAny_getItem_heap (knd:=UU X.prog X.w) (by show A.units+1+8<cLine;omega) ⟨hk.isNK I rfl,hd⟩ dd hp ?_
  rw[jE]
  exact h w' _ (I.tok _) rw'
theorem zhi {Q:Value->Shared->Prop} (hu:A.units+9<cLine) (I:Inv X pins σ H s) (g:zbN X.K H a y o) (ry:zP y u) (h:∀s',Inv X pins σ H s'->Q (.bool (!o.isSome)) s'):wpAny (model X.prog X.w) A (compareOp .NotIn u (.ref a)) Q E s:=by
 rcases g with g|⟨k,b,rfl,hk,hd,g⟩
 ·exact ze0 ⋯ I g ry h
 ·cases (show u=Value.ref b from ry)
  obtain⟨hs,xs,dd,rel⟩:=dgN I g
  refine wpAny_notIn_heap (knd:=UU X.prog X.w) (by show A.units+1+8<cLine;omega) ⟨hk.isNK I rfl,hd⟩ hs dd ?_
  have q:=rel.isSome_eq
  rw[GC] at q
  rw[<-q]
  exact h _ (I.tok _)
theorem zev {H':Hp} {Q:Unit->Shared->Prop} (hu:A.units+9<cLine) (I:Inv X pins σ H s) (g:zhh X.K H a y v H') (ry:zP y u) (rv:zP v r) (h:∀s',Inv X pins σ H' s'->Q () s'):
  wpAny (model X.prog X.w) A (setItem (.ref a) u r) Q E s:=by
 rcases g with g|⟨k,b,rfl,hk,hd,⟨ks,e,mh,hl,rfl⟩|⟨e,rfl⟩⟩
 ·exact zbC ⋯ I g ry rv h
 ·cases (show u=Value.ref b from ry)
  obtain⟨z,hs,xs,rel,dd⟩:=zj4 I e mh
  have hz:xs.length<=sizeLine:=by rw[<-Paired.length rel];exact z
  have eD:(zat ks k b v).length<=sizeLine:=by have:=zdv ks k b v;omega
  refine wpAny_setItem_heap (knd:=UU X.prog X.w) (hsz:=hz) (by show A.units+1+8<cLine;omega) ⟨hk.isNK I rfl,hd⟩ dd λh' dd' dC=>h _ ?_
  obtain⟨q,es,ep,hq,h2,h3,h4,_,h5⟩:=dd'
  exact Vw I (by rw[e];exact G8) dC ⟨q,hq⟩ ⟨eD,hs,_,rel.put k rv,q,es,ep,hq,h2,h3,h4,h5⟩
 ·cases (show u=Value.ref b from ry)
  obtain⟨hs,dd⟩:=zhg I e
  refine wpAny_setItem_heap (knd:=UU X.prog X.w) (hsz:=Gk _) (by show A.units+1+8<cLine;omega) ⟨hk.isNK I rfl,hd⟩ dd λh' dd' dC=>h _ ?_
  obtain⟨q,es,ep,hq,h2,h3,h4,_,h5⟩:=dd'
  refine Vw I (by rw[e];exact G8) dC ⟨q,hq⟩ ⟨by simp;decide,hs,_,?_,q,es,ep,hq,h2,h3,h4,h5⟩
  exact .cons ⟨rfl,rfl,rv⟩ .nil
theorem zcq (I:Inv X pins σ H s) (g:zbN X.K H a y o):s.TypeIs (.ref a) "dict":=by
 rcases g with g|⟨k,b,rfl,hk,hd,g⟩
 ·exact UQ I g
 ·obtain⟨_,xs,dd,_⟩:=dgN I g
  exact dd.typeIs
end
def zhj (K:Et) (td ty:TE):TE:=λσ H Q=>td σ H λx H1=>ty σ H1 λy H2=>∃a v,x= .ref a/\zbN K H2 a y (some v)/\Q v H2
def zj5 (K:Et) (neg:Bool) (ty td:TE):TE:=λσ H Q=>ty σ H λy H1=>td σ H1 λx H2=>∃a o,x= .ref a/\zbN K H2 a y o/\Q (.bl (neg !=o.isSome)) H2
def zhk (K:Et) (td ty tv:TE):TS:=λD σ H=>tv σ H λv H1=>td σ H1 λx H2=>ty σ H2 λy H3=>∃a H4,x= .ref a/\zhh K H3 a y v H4/\D.nx σ H4
section
variable {X:Cx} {o i e f value:Expr} {pos pos' jN apos bj:Pos} {td ty tv tx:TE} {K:Et} {r:Nat}
theorem zhl (hr:vV r X.A):X.A.units+9<cLine:=by have:=hr.un;omega
theorem zhm (hr:vV r X.A) (ho:PE X o td) (hi:PE X i ty) (hs:zkA i) (hK:X.K=K:=by rfl):PE X (.Subscript o i pos) (zhj K td ty):=by
 subst hK
 intro pins s σ H Q I h
 refine ze1 Ig.lookup hs (thn (ho pins s σ H _ I h) λu s1 ⟨x,H1,I1,rx,q1⟩=>thn (hi pins s1 σ H1 _ I1 q1) λiv s2 ⟨y,H2,I2,ry,a,v,ex,g,q2⟩=> ?_)
 subst ex
 obtain rfl:u=Value.ref a:=rx
 exact⟨zcq I2 g,zeu (zhl hr) I2 g ry λw' s3 I3 rw'=>⟨v,H2,I3,rw',q2⟩⟩
theorem zew (hr:vV r X.A) (hi:PE X i ty) (ho:PE X o td) (hK:X.K=K:=by rfl):PC X .NotIn i o (zj5 K true ty td):=by
 subst hK
 intro pins s σ H Q I h
 refine thn (hi pins s σ H _ I h) λiv s1 ⟨y,H1,I1,ry,q1⟩=>thn (ho pins s1 σ H1 _ I1 q1) λu s2 ⟨x,H2,I2,rx,a,ov,ex,g,q2⟩=> ?_
 subst ex
 obtain rfl:u=Value.ref a:=rx
 exact zhi (zhl hr) I2 g ry λs3 I3=>⟨.bl (true !=ov.isSome),H2,I3,by cases ov.isSome<;>rfl,q2⟩
theorem zhn (hr:vV r X.A) (ho:PE X o td) (hi:PE X i ty) (hv:PE X value tv) (hs:swapsWith value (some (.Subscript o i pos')) pos.line X.env=pure false) (hK:X.K=K:=by rfl):
  PS X (.Assign [.Subscript o i pos'] value pos) (zhk K td ty tv):=by
 subst hK
 intro pins s σ H D I h
 refine wpAny_Assign_Subscript (thn (hv pins s σ H _ I h) λr s1 ⟨v,H1,I1,rv,q1⟩=>thn (ho pins s1 σ H1 _ I1 q1) λu s2 ⟨x,H2,I2,rx,q2⟩=>thn (hi pins s2 σ H2 _ I2 q2) λiv s3 ⟨y,H3,I3,ry,a,H4,ex,g,q3⟩=> ?_) hs
 subst ex
 obtain rfl:u=Value.ref a:=rx
 exact zev (zhl hr) I3 g ry rv λs4 I4=>⟨σ,H4,I4,q3⟩
end
end L2
namespace L2
open PySem PySem.Spec PyProof.Rows PySem.Calls PySem.W
def zk4 (h:Heap) (a:Addr) (es:Array DictEntry) (ep:Nat):Prop:=∃o,h.get? a=some o/\o.ExactDict/\o.data= .dict es ep
section
variable {prog:Program} {w:World} {A:Around} {E:Value->Shared->Prop} {s:Shared} {d it:Addr} {es:Array DictEntry} {ep i:Nat}
theorem zk4.type (x:zk4 s.heap d es ep):s.TypeIs (.ref d) "dict":=by
 obtain⟨o,h1,h2,_⟩:=x
 exact⟨o,h1,h2.1⟩
end
noncomputable def ltL:List Int->List Int->Bool
 |[],[]=>false
 |[],_::_=>true
 |_::_,[]=>false
 |a::x,b::y=>if a=b then ltL x y else decide (a<b)
theorem Yo:∀x,ltL x x=false
 |[]=>rfl
 |a::x=>by unfold ltL;rw[if_pos rfl];exact Yo x
theorem Tr:∀x y,x≠y->ltL x y= !ltL y x
 |[],[],h=>(h rfl).elim
 |[],_::_,_=>rfl
 |_::_,[],_=>rfl
 |a::x,b::y,h=>by
  unfold ltL
  by_cases e:a=b
  ·subst e
   rw[if_pos rfl,if_pos rfl]
   exact Tr x y λz=>h (by rw[z])
  ·rw[if_neg e,if_neg (λz=>e z.symm)]
   by_cases l:a<b
   ·rw[decide_eq_true l,decide_eq_false ⋯];rfl
   ·rw[decide_eq_false l,decide_eq_true ⋯];rfl
theorem zex:∀x y z,ltL x y=true->ltL y z=true->ltL x z=true
 |[],[],z,h,_=>by cases h
 |[],_::_,[],_,h=>by cases h
 |[],_::_,_::_,_,_=>rfl
 |_::_,[],z,h,_=>by cases h
 |_::_,_::_,[],_,h=>by cases h
 |a::x,b::y,c::z,h,g=>by
  unfold ltL at h g ⊢
  by_cases e:a=b
  ·subst e
   rw[if_pos rfl] at h
   by_cases e2:a=c
   ·subst e2
    rw[if_pos rfl] at g ⊢
    exact zex x y z h g
   ·rw[if_neg e2] at g ⊢;exact g
  ·rw[if_neg e] at h
   have h:=of_decide_eq_true h
   by_cases e2:b=c
   ·subst e2;rw[if_neg e];exact decide_eq_true h
   ·rw[if_neg e2] at g
    have g:=of_decide_eq_true g
    rw[if_neg ⋯];exact decide_eq_true ⋯
theorem UV {α:Type} {P Q:α->Bool}:∀(l:List α),(∀a∈l,P a=true->Q a=true)->(∃a∈l,Q a=true/\P a=false)->l.countP P<l.countP Q
 |[],_,⟨_,h,_⟩=>by cases h
 |b::l,h,⟨a,ha,q,p⟩=>by
  have le:l.countP P<=l.countP Q:=List.countP_mono_left λx hx hp=>h x (by simp[hx]) hp
  rw[Jw,Jw]
  rcases EJ.1 ha with rfl|ha
  ·rw[p,q];simp;omega
  ·have:=UV l (λx hx=>h x (by simp[hx])) ⟨a,ha,q,p⟩
   by_cases hb:P b=true
   ·rw[hb,h b (by simp) hb];simp;omega
   ·rw[show P b=false by simpa using hb];simp;omega
noncomputable def wx (is:List (List Int)) (i:Nat):Int:=(is.countP λl=>ltL l (is.getD i []):Nat)
theorem Wy {is:List (List Int)} (nd:is.Nodup) {i j:Nat} (hi:i<is.length) (hj:j<is.length) (er:i≠j):ltL (is.getD i []) (is.getD j [])=decide (wx is i<wx is j):=by
 have ei:is.getD i []=is[i]:=by simp[Ew,hi]
 have ej:is.getD j []=is[j]:=by simp[Ew,hj]
 have ne:is[i]≠is[j]:=λz=>er ((FW nd).1 z)
 have key:∀{x y:List Int},x∈is->ltL x y=true->is.countP (λl=>ltL l x)<is.countP λl=>ltL l y:=λ{x y} hx h=>UV is (λa _ ha=>zex a x y ha h) ⟨x,hx,h,Yo x⟩
 unfold wx
 rw[ei,ej]
 cases h:ltL is[i] is[j] with
 |true=>
  have:=key (EK hi) h
  exact (decide_eq_true ⋯).symm
 |false=>
  have h2:ltL is[j] is[i]=true:=by have:=Tr is[i] is[j] ne;rw[h] at this;simpa using this
  have:=key (EK hj) h2
  exact (decide_eq_false ⋯).symm
noncomputable def Ya (is:List (List Int)):List Nat:=(Fv is.length).mergeSort λi j=>decide (wx is i<=wx is j)
theorem vD (is:List (List Int)):(Ya is).Perm (Fv is.length):=J8 _ _
theorem zdw (is:List (List Int)):((Ya is).map (wx is)).Pairwise (· <= ·):=by
 rw[Fh]
 have h:=Iw (le:=λi j=>decide (wx is i<=wx is j)) (by intro a b c h1 h2;simp at*;omega) (by intro a b;simp;omega) (Fv is.length)
 exact h.imp λh=>by simpa using h
theorem zfe {is:List (List Int)} (nd:is.Nodup) {p:Array Nat} (hp:PmN is.length p) (ha:ZM (wx is) p is.length):p.toList=Ya is:=by
 have hs:=hp.size
 have aL:p.toList.Perm (Fv is.length):=by
  have:=Ia hp
  simpa using this
 have e:p.toList.map (wx is)=(Ya is).map (wx is):=by
  refine Jv ((aL.trans (vD is).symm).map _) ?_ (zdw is)
  rw[Gi]
  intro i j hi hj er
  have cA:i<p.size:=by simpa using hi
  have dq:j<p.size:=by simpa using hj
  have:=Ut ha (Fc er) ⋯
  unfold Kr at this
  simp only[Jx,J3]
  rw[show p.getD i 0=p[i] by simp[Hm,cA],show p.getD j 0=p[j] by simp[Hm,dq]] at this
  exact this
 have inj:∀i j,i<is.length->j<is.length->wx is i=wx is j->i=j:=λi j hi hj h=>by
  by_cases q:i=j
  ·exact q
  ·have a:=Wy nd hi hj q
   have b:=Wy nd hj hi (λz=>q z.symm)
   rw[h,decide_eq_false ⋯] at a
   rw[<-h,decide_eq_false ⋯] at b
   have ne:is.getD i []≠is.getD j []:=λz=>q ((FW nd (h₀:=hi) (h₁:=hj)).1 (by simpa [Ew,hi,hj] using z))
   have:=Tr _ _ ne
   rw[a,b] at this
   cases this
 have len:p.toList.length=(Ya is).length:=by rw[aL.length_eq,(vD is).length_eq]
 refine Jy len λi hi dR=> ?_
 have e1:wx is p.toList[i]=wx is (Ya is)[i]:=by
  have:=congrArg (λl=>l[i]?) e
  simp only[EB,Er hi,Er dR,FZ] at this
  exact Fi this
 exact inj _ _ (by have:=aL.mem_iff.1 (EK hi);simpa using this) (by have:=(vD is).mem_iff.1 (EK dR);simpa using this) e1
section
variable {prog:Program} {w:World} {A:Around} {E:Value->Shared->Prop} {s:Shared}
end
section
variable {prog:Program} {w:World} {A:Around} {E:Value->Shared->Prop} {s:Shared} {T:String} {r d:Addr} {n:Nat} {P:Nat->Value->Prop} {OK:Heap->Prop} {Q:Value->Shared->Prop}
theorem zdx (K:Hl prog w T r d n P OK) (hh:A.handled=none) (hok:OK s.heap) (cP:n<64) (rk:Nat->Int)
  (hk:∀vs:List Value,vs.length=n->(∀(j:Nat) (v:Value),vs[j]? =some v->P j v)->2<=n->∀(g:Heap) (tk:Nat),(∀b o,s.heap.get? b=some o->g.get? b=some o)->zer prog w A.in1.in1 rk vs {s with heap:=g,toks:=tk})
  (h:∀(D:Addr) (h':Heap) (tk e:Nat) (vs:List Value) (p:Array Nat),vs.length=n->(∀(j:Nat) (v:Value),vs[j]? =some v->P j v)->PmN n p->ZM rk p n->(∀b o,s.heap.get? b=some o->h'.get? b=some o)->s.heap.objs.size<=D->h'.get? D=some (seqObj "list" (FR (p.toList.map λi=>vs.getD i Value.none)) e)->Q (.ref D) {s with heap:=h',toks:=tk}):
  wpAny (model prog w) A (call (.builtin "sorted") [.ref r]) Q E s:=by
 have hn:n<=sizeLine:=Ve cP
 refine call_function_entry kind_sorted plain_sorted entry_sorted (args_sorted1 _) ?_
 unfold Builtin.«sorted»
 refine wpAny_bind (m:=checkCount "sorted" 1 1 _) (wpAny_pure (wpAny_bind (XU (A:=A.in1) K hh hok hn λg tk acc kp lt b9=> ?_)))
 have hl:acc.toList.length=n:=by rw[FC];exact b9.1
 have hP:∀(j:Nat) (v:Value),acc.toList[j]? =some v->P j v:=λj v e=>b9.2 j v (by rw[<-FQ];exact e)
 refine wpAny_bind (wpAny_newList ?_ (by rw[hl];exact hn))
 have dZ:(g.push {cls:= .type "list",data:= .seq acc.toList.toArray}).get? g.objs.size=some (seqObj "list" acc.toList.toArray 0):=Heap.get?_push_size _ rfl
 have old:∀b o,s.heap.get? b=some o->b≠g.objs.size/\(g.push {cls:= .type "list",data:= .seq acc.toList.toArray}).get? b=some o:=λb o eb=>by
  have hb:=kp b o eb
  exact⟨EH (Heap.lt_size hb),Heap.get?_push_of_some _ hb⟩
 refine wpAny_bind (wpAny_holding (wpAny_call_entry slot_list_sort ⟨_,dZ,rfl⟩ entry_list_sort (Uu rk dZ ⋯ (λh2 g2 ji=>hk _ hl hP ⋯ g2 tk λb o eb=>ji b o (old b o eb).1 (old b o eb).2) λp pm fR=>⟨_,rfl,?_⟩) (args_list_sort _)))
 rw[hl] at pm fR
 obtain⟨e,he⟩:=sortedHeap_at (out:=FR (p.toList.map λi=>acc.toList.getD i Value.none)) dZ
 refine wpAny_pure ⟨_,rfl,h _ _ tk e acc.toList p hl hP pm fR (λb o eb=> ?_) (Fc lt) he⟩
 have iu:=Heap.lt_size (kp b o eb)
 rw[sortedHeap_old (EH iu) (by rw[Heap.size_push];exact FI iu)]
 exact (old b o eb).2
end
section
variable {X:Cx}
end
end L2
namespace L2
open PySem PySem.Spec PyProof.Rows PySem.Calls
open AutoSeq1 (wpAny_loadPart')
section
variable {prog:Program} {w:World} {A:Around} {E:Value->Shared->Prop} {s:Shared} {it t:Addr} {ae:Array Value}
end
section
variable {X:Cx}
end
end L2
namespace L2
open PySem PySem.Spec PyProof.Rows
section
variable {X:Cx}
end
end L2
namespace L2
open PySem PySem.Spec PyProof.Rows PySem.Calls PySem.W
section
variable {cmp:Nat->Nat->(Bool->Shared->Prop)->Shared->Prop} {r:Nat->Int} {n:Nat} {s:Shared}
end
section
variable {prog:Program} {w:World} {A:Around} {E:Value->Shared->Prop} {κ:SortKind} {it:Array Keyed} {s:Shared}
end
section
variable {X:Cx} {pins:List (Addr×Obj)} {σ:St} {H:Hp} {s:Shared} {h':Heap}
end
def zl7 (is:List (List Int)):Prop:=(2<=is.length->∀l∈is,l≠[])/\∀i j,i<j->j<is.length->ltL (is.getD j []) (is.getD i [])=true
section
variable {X:Cx} {k:Nat} {f:Addr} {fd:FuncData} {ps:List Str} {sp:Sp} {pins:List (Addr×Obj)} {σ:St} {H:Hp} {s:Shared}
end
section
variable {X:Cx}
end
section
variable {X:Cx}
end
end L2
namespace L2
open PySem PySem.Spec PyProof.Rows
namespace Sm
noncomputable def inB (b j:Nat):Bool:=b.testBit j
noncomputable def plL (b:Nat):List Nat:=(Fv 8).filter (inB b)
noncomputable def pl (b:Nat):Array Nat:=(plL b).toArray
noncomputable def st (h:Int):Nat->Nat×Nat
 |0=>(SetTable.bits h % 8,SetTable.bits h)
 |n+1=>SetTable.leap 7 (st h n).1 (st h n).2
noncomputable def pos (h:Int) (n:Nat):Nat:=(st h n).1
theorem ZG (h:Int) (n:Nat):pos h n<8:=by
 cases n with
 |zero=>exact Ih _ ∅
 |succ n=>exact Ih _ ∅
noncomputable def mkP (s:Nat×Nat):SetTable.Probe:={j:=s.1,more:=0,i:=s.1,perturb:=s.2,dummy:=none}
structure Tb (t:SetTable) (b:Nat):Prop where
 mask:t.mask=7
 place:t.place=pl b
 dum:t.dummies= #[]
theorem zff {i:Nat}:SetTable.runEnd 7 i=i:=by unfold SetTable.runEnd;rw[if_neg ⋯]
theorem zho {t:SetTable} {b:Nat} (h:Tb t b) (x:Int):t.probeStart x=mkP (st x 0):=by
 unfold SetTable.probeStart
 rw[h.mask]
 dsimp only
 rw[zff,Nat.sub_self]
 rfl
theorem zk5 {t:SetTable} {b:Nat} (h:Tb t b) (x:Int) (n:Nat):t.advance (mkP (st x n))=mkP (st x (n+1)):=by
 unfold SetTable.advance mkP
 rw[if_neg (FJ 0),h.mask]
 show (let (i,perturb):=SetTable.leap 7 (st x n).1 (st x n).2;({j:=i,more:=SetTable.runEnd 7 i-i,i:=i,perturb:=perturb,dummy:=none}:SetTable.Probe))=_
 rw[show SetTable.leap 7 (st x n).1 (st x n).2=st x (n+1) from rfl]
 show ({j:=(st x (n+1)).1,more:=SetTable.runEnd 7 (st x (n+1)).1-(st x (n+1)).1,i:=(st x (n+1)).1,perturb:=(st x (n+1)).2,dummy:=none}:SetTable.Probe)=_
 rw[zff,Nat.sub_self]
noncomputable def ix (b j:Nat):Nat:=((Fv j).filter (inB b)).length
theorem Wz:∀b<256,∀j<8,SetTable.below (pl b) j=ix b j/\(inB b j=true->(pl b)[ix b j]? =some j)/\(inB b j=false->((pl b)[ix b j]? ==some j)=false)/\(inB b j=false->SetTable.insertAt (pl b) (ix b j) j=pl (b+2^j)/\b+2^j<256):=by decide+kernel
theorem zfg {t:SetTable} {b:Nat} (h:Tb t b) (hb:b<256) {j:Nat} (hj:j<8):t.slot j=if inB b j then .live (ix b j) else .empty:=by
 obtain⟨h1,h2,h3,_⟩:=Wz b hb j hj
 unfold SetTable.slot
 rw[h.place,h.dum,h1]
 dsimp only
 cases hi:inB b j with
 |true=>rw[h2 hi,if_pos (by simp),if_pos rfl]
 |false=>
  rw[h3 hi]
  rfl
theorem zl8 (h:Int):∀n,(st h n).2=SetTable.bits h / 32^n
 |0=>by rw[Nat.pow_zero,Nat.div_one];rfl
 |n+1=>by
  show (st h n).2 / 32=_
  rw[zl8 h n,Nat.div_div_eq_div_mul,Nat.pow_succ]
theorem ziX (h:Int):SetTable.bits h<2^64:=by
 unfold SetTable.bits
 have h0:=Gn h (show (2^64:Int)≠0 by decide)
 have h1:=Gx h (show (0:Int)<2^64 by decide)
 omega
theorem zl9 (h:Int) {n:Nat} (hn:13<=n):(st h n).2=0:=by
 rw[zl8]
 refine Nat.div_eq_of_lt (F6 (ziX h) (EW (show 2^64<=32^13 by decide) (GH ∅ hn)))
noncomputable def lcg:Nat->Nat->Nat
 |0,i=>i
 |n+1,i=>(lcg n i*5+1) % 8
theorem zfh (h:Int):∀n,pos h (13+n)=lcg n (pos h 13)
 |0=>rfl
 |n+1=>by
  show ((st h (13+n)).1*5+1+(st h (13+n)).2 / 32) % (7+1)=(lcg n (pos h 13)*5+1) % 8
  rw[zl9 h (GY 13 n),<-zfh h n]
  rfl
theorem ziY:∀i<8,∀b<256,b≠255->∃n,n<8/\inB b (lcg n i)=false:=by decide+kernel
theorem met (h:Int) {b:Nat} (hb:b<256) (hn:b≠255):∃n,n<=20/\inB b (pos h n)=false:=by
 obtain⟨n,h1,h2⟩:=ziY (pos h 13) (ZG h 13) b hb hn
 exact⟨13+n,⋯,by rw[zfh];exact h2⟩
inductive zhp (f:Nat->Int) (b:Nat) (x:Int) (n:Nat):SetTable.Met->Prop
 |empty (m:Nat):n<=m->inB b (pos x m)=false->(∀k,n<=k->k<m->inB b (pos x k)=true/\f (pos x k)≠x)->zhp f b x n (.empty (pos x m) none)
 |cand (m:Nat):n<=m->inB b (pos x m)=true->f (pos x m)=x->(∀k,n<=k->k<m->inB b (pos x k)=true/\f (pos x k)≠x)->zhp f b x n (.candidate (pos x m) (ix b (pos x m)) (mkP (st x (m+1))))
theorem zhq {t:SetTable} {b:Nat} (h:Tb t b) (hb:b<256) (f:Nat->Int) (ha:Nat->Int) (BZ:∀j<8,inB b j=true->ha (ix b j)=f j) (x:Int) (e:Nat) (he:inB b (pos x e)=false):∀(fuel n:Nat),n<=e->e-n<fuel->∃m,SetTable.probe.go t ha x fuel (mkP (st x n))=some m/\zhp f b x n m:=by
 intro fuel
 induction fuel with
 |zero=>intro n _ h;omega
 |succ fuel ih=>
  intro n hn hf
  unfold SetTable.probe.go
  rw[show (mkP (st x n)).j=pos x n from rfl,zfg h hb (ZG x n)]
  cases hi:inB b (pos x n) with
  |false=>exact⟨_,rfl,.empty n (EE _) hi (λk h1 h2=>by omega)⟩
  |true=>
   rw[if_pos rfl]
   dsimp only
   rw[BZ _ (ZG x n) hi,zk5 h]
   by_cases hx:f (pos x n)=x
   ·rw[if_pos (by simpa using hx)]
    exact⟨_,rfl,.cand n (EE _) hi hx (λk h1 h2=>by omega)⟩
   ·rw[if_neg (by simpa using hx)]
    have bZ:n≠e:=λz=>by rw[z,he] at hi;cases hi
    obtain⟨m,e1,hm⟩:=ih (n+1) ⋯ ⋯
    refine⟨m,e1,?_⟩
    have ext:∀{m:Nat},(∀k,n+1<=k->k<m->inB b (pos x k)=true/\f (pos x k)≠x)->∀k,n<=k->k<m->inB b (pos x k)=true/\f (pos x k)≠x:=λhk k h1 h2=>by
     by_cases BL:k=n
     ·rw[BL];exact⟨hi,hx⟩
     ·exact hk k ⋯ h2
    cases hm with
    |empty m h1 h2 h3=>exact .empty m ⋯ h2 (ext h3)
    |cand m h1 h2 h3 h4=>exact .cand m ⋯ h2 h3 (ext h4)
def zfi (b:Nat) (f:Nat->Int):Prop:=∀j<8,inB b j=true->∃n,pos (f j) n=j/\∀m,m<n->inB b (pos (f j) m)=true
theorem zcr:∀b<256,∀j<8,inB b j=false->∀i<8,inB (b+2^j) i=(inB b i||decide (i=j)):=by decide+kernel
theorem zfi.put {b:Nat} {f:Nat->Int} (c:zfi b f) (hb:b<256) {x:Int} {n:Nat} (h0:inB b (pos x n)=false) (h1:∀m,m<n->inB b (pos x m)=true):zfi (b+2^pos x n) (λj=>if j=pos x n then x else f j):=by
 have kR:=zcr b hb _ (ZG x n) h0
 have up:∀{k:Nat} {y:Int},inB b (pos y k)=true->inB (b+2^pos x n) (pos y k)=true:=λ{k y} h=>by rw[kR _ (ZG y k),h];rfl
 intro j hj hi
 by_cases qw:j=pos x n
 ·subst qw
  dsimp only
  rw[if_pos rfl]
  exact⟨n,rfl,λm hm=>up (h1 m hm)⟩
 ·dsimp only
  rw[if_neg qw]
  rw[kR j hj,decide_eq_false qw,Hc] at hi
  obtain⟨k,e,hk⟩:=c j hj hi
  exact⟨k,e,λm hm=>up (hk m hm)⟩
end Sm
end L2
namespace L2
open PySem PySem.Spec PyProof.Rows PySem.Calls PySem.W
mutual
noncomputable def ZN:NK->Bool
 | .int _=>true
 | .str _=>false
 | .tup l=>Xs l
noncomputable def Xs:List NK->Bool
 |[]=>true
 |k::r=>ZN k&&Xs r
end
theorem zau:∀{l:List NK} {k:NK},Xs l=true->k∈l->ZN k=true
 |x::r,k,h,hk=>by
  unfold Xs at h
  rw[Gg] at h
  rcases EJ.1 hk with rfl|hk
  ·exact h.1
  ·exact zau h.2 hk
section
variable {prog:Program} {w:World} {E:Value->Shared->Prop}
theorem zdy:∀(n:Nat) {A:Around} {s:Shared} {k:NK} {v:Value} {Q:Bool->Shared->Prop},yv k<=n->yT s.heap k v->Q false s->wpAny (model prog w) A (ofAClassStatement n v) Q E s:=by
 intro n
 induction n with
 |zero=>
  intro A s k v Q hn hk h
  cases hk with
  |int i t=>exact wpAny_pure h
  |str x t=>exact wpAny_pure h
  |tup _ _ _ _=>unfold yv at hn;omega
 |succ n ih=>
  intro A s k v Q hn hk h
  cases hk with
  |int i t=>exact wpAny_pure h
  |str x t=>exact wpAny_pure h
  | @tup a o items m ks ho hc hd hi=>
   have ty:s.TypeIs (.ref a) "tuple":=⟨o,ho,hc⟩
   have fg:wB ks<=n:=by unfold yv at hn;omega
   unfold ofAClassStatement
   refine wpAny_bind (wpAny_typeOf ty ?_)
   dsimp only
   refine wpAny_bind (wpAny_pure ?_)
   refine wpAny_ite_split nofun λ_=>wpAny_bind (wpAny_seqItems ho hd ?_)
   dsimp only
   refine wpAny_bind (m:=forIn items _ _) ?_
   rw[<-Hj]
   refine wpAny_forIn_list _ (λrest acc s'=>acc.1=none/\s'=s/\∃post,(∀k∈post,yv k<=n)/\yx s.heap post rest) _ ?_ ?_ _ _ ⟨rfl,rfl,ks,λk hk=>EW (wQ hk) fg,hi⟩
   ·rintro v1 rest acc _ ⟨ha,rfl,post,bP,hl⟩
    cases hl with
    | @cons k _ post' _ h1 h8=>exact wpAny_bind (ih (bP k (by simp)) h1 (wpAny_ite_split nofun λ_=>wpAny_pure ⟨rfl,rfl,post',λu hu=>bP u (ED _ hu),h8⟩))
   ·rintro⟨a1,a2⟩ _ ⟨ha,rfl,_⟩
    cases ha
    exact wpAny_pure h
theorem zhr:∀(n:Nat) {A:Around} {s:Shared} {k:NK} {v:Value} {Q:Bool->Shared->Prop},yv k<=n->ZN k=true->yT s.heap k v->Q true s->wpAny (model prog w) A (hashByValue n v) Q E s:=by
 intro n
 induction n with
 |zero=>
  intro A s k v Q hn hi hk h
  cases hk with
  |int i t=>exact wpAny_pure h
  |str x t=>cases hi
  |tup _ _ _ _=>unfold yv at hn;omega
 |succ n ih=>
  intro A s k v Q hn gJ hk h
  cases hk with
  |int i t=>exact wpAny_pure h
  |str x t=>cases gJ
  | @tup a o items m ks ho hc hd hi=>
   have ty:s.TypeIs (.ref a) "tuple":=⟨o,ho,hc⟩
   have fg:wB ks<=n:=by unfold yv at hn;omega
   unfold hashByValue
   refine wpAny_bind (wpAny_specialOf ty F.slot_tuple_hash.lookup ?_)
   dsimp only
   refine wpAny_bind (wpAny_seqItems ho hd ?_)
   refine wpAny_bind (m:=forIn _ _ _) ?_
   show wpAny _ _ (forIn items _ _) _ _ _
   rw[<-Hj]
   refine wpAny_forIn_list _ (λrest acc s'=>acc.1=none/\s'=s/\∃post,(∀k∈post,yv k<=n/\ZN k=true)/\yx s.heap post rest) _ ?_ ?_ _ _ ⟨rfl,rfl,ks,λk hk=>⟨EW (wQ hk) fg,zau gJ hk⟩,hi⟩
   ·rintro v1 rest acc _ ⟨ha,rfl,post,bP,hl⟩
    cases hl with
    | @cons k _ post' _ h1 h8=>exact wpAny_bind (ih (bP k (by simp)).1 (bP k (by simp)).2 h1 (wpAny_ite_split nofun λ_=>wpAny_pure ⟨rfl,rfl,post',λu hu=>bP u (ED _ hu),h8⟩))
   ·rintro⟨a1,a2⟩ _ ⟨ha,rfl,_⟩
    cases ha
    exact wpAny_pure h
theorem zf7 {A:Around} {s:Shared} {k:NK} {c:Addr} (hk:yT s.heap k (.ref c)) (hd:yv k<=8) (ys:List Value) (hy:∀y∈ys,∃k' c',y= .ref c'/\yT s.heap k' (.ref c')/\yv k'<=8) {Q:Bool->Shared->Prop} (h:Q false s):wpAny (model prog w) A (searchCouldBeSeen (.ref c) ys) Q E s:=by
 unfold searchCouldBeSeen
 refine wpAny_bind (m:=forIn ys _ _) ?_
 refine wpAny_forIn_list _ (λrest acc s'=>acc.1=none/\s'=s/\∀y∈rest,∃k' c',y= .ref c'/\yT s.heap k' (.ref c')/\yv k'<=8) _ ?_ ?_ _ _ ⟨rfl,rfl,hy⟩
 ·rintro y rest acc _ ⟨ha,rfl,bP⟩
  obtain⟨k',c',rfl,h1,h2⟩:=bP y (by simp)
  have hr:=λy (hy:y∈rest)=>bP y (ED _ hy)
  dsimp only
  refine wpAny_ite_split (λ_=>wpAny_pure ⟨rfl,rfl,hr⟩) λ_=> ?_
  refine wpAny_bind (zas 8 hd hk (wpAny_ite_split nofun λ_=> ?_))
  refine wpAny_bind (zas 8 h2 h1 (wpAny_ite_split nofun λ_=> ?_))
  refine wpAny_bind (zdy 8 hd hk (wpAny_ite_split nofun λ_=> ?_))
  exact wpAny_bind (zdy 8 h2 h1 (wpAny_ite_split nofun λ_=>wpAny_pure ⟨rfl,rfl,hr⟩))
 ·rintro⟨a1,a2⟩ _ ⟨ha,rfl,_⟩
  cases ha
  exact wpAny_pure h
structure Xd (w:World) (h:Heap) (a:Addr) (b:Nat) (f:Nat->Int×Value) (kf:Nat->NK) (o:Obj) (ep:Nat) (t:SetTable):Prop where
 get:h.get? a=some o
 ex:o.ExactSet
 data:o.data= .set ((Sm.pl b).map f) ep t
 tb:Sm.Tb t b
 plain:t.plain=true
 lt:b<256
 few:(Sm.plL b).length<=4
 chain:Sm.zfi b λj=>(f j).1
 keys:∀j<8,Sm.inB b j=true->(f j).1=yg w (kf j)/\(∃c,(f j).2= .ref c/\yT h (kf j) (.ref c))/\yv (kf j)<=8
 inj:∀i<8,∀j<8,Sm.inB b i=true->Sm.inB b j=true->kf i=kf j->i=j
variable {a:Addr} {b:Nat} {f:Nat->Int×Value} {kf:Nat->NK} {o:Obj} {ep:Nat} {t:SetTable} {A:Around} {s:Shared}
theorem Sm.pl_size:(Sm.pl b).size=(Sm.plL b).length:=by unfold Sm.pl;simp
theorem Xd.fits {h:Heap} (S:Xd w h a b f kf o ep t):t.fits ((Sm.pl b).map f).size=true:=by
 have h1:=S.few
 unfold SetTable.fits SetTable.fill
 rw[S.tb.mask,S.tb.place,S.tb.dum,G9,Sm.pl_size]
 simp
 omega
theorem Sm.not255:∀b<256,(Sm.plL b).length<=4->b≠255:=by decide+kernel
theorem Sm.map_at {b j:Nat} {α:Type} {f:Nat->α} (hb:b<256) (hj:j<8) (hi:Sm.inB b j=true):((Sm.pl b).map f)[Sm.ix b j]? =some (f j):=by
 obtain⟨_,h2,_⟩:=Sm.Wz b hb j hj
 rw[Jc,h2 hi]
 rfl
theorem Xd.absent {h:Heap} (S:Xd w h a b f kf o ep t) {k:NK} {m:Nat} (he:Sm.inB b (Sm.pos (yg w k) m)=false) (hb:∀i<m,Sm.inB b (Sm.pos (yg w k) i)=true/\kf (Sm.pos (yg w k) i)≠k):∀j<8,Sm.inB b j=true->kf j≠k:=by
 rintro j hj hi rfl
 obtain⟨n,e,hn⟩:=S.chain j hj hi
 dsimp only at e hn
 rw[(S.keys j hj hi).1] at e hn
 rcases Ic n m with h1|h1|h1
 ·exact (hb n h1).2 (by rw[e])
 ·subst h1
  rw[e,hi] at he
  cases he
 ·rw[hn m h1] at he
  cases he
theorem zf8 (S:Xd w s.heap a b f kf o ep t) {k:NK} {c:Addr} (hk:yT s.heap k (.ref c)) (hd:yv k<=8) (hu:A.units+8<cLine) {Q:SetFound->Shared->Prop}
  (h1:∀j<8,Sm.inB b j=true->kf j=k->Q (.there none) s)
  (h2:∀m,Sm.inB b (Sm.pos (yg w k) m)=false->(∀i<m,Sm.inB b (Sm.pos (yg w k) i)=true)->(∀j<8,Sm.inB b j=true->kf j≠k)->Q (.free (Sm.pos (yg w k) m) false) s):
  wpAny (model prog w) A (setSearch a (.ref c) (yg w k) true) Q E s:=by
 obtain⟨e,Cq,he⟩:=Sm.met (yg w k) S.lt (Sm.not255 b S.lt S.few)
 have main:∀(fuel n:Nat) (fG:Option SetTable.Probe),fG.getD (t.probeStart (yg w k))=Sm.mkP (Sm.st (yg w k) n)->n<=e->e-n<fuel->(∀i<n,Sm.inB b (Sm.pos (yg w k) i)=true/\kf (Sm.pos (yg w k) i)≠k)->wpAny (model prog w) A (setSearchFrom a (.ref c) (yg w k) true fuel fG) Q E s:=by
  intro fuel
  induction fuel with
  |zero=>intro n _ _ _ h;omega
  |succ fuel ih=>
   intro n fG eI hn hf kP
   unfold setSearchFrom
   refine wpAny_bind (wpAny_setState_of S.get S.data S.fits ?_)
   dsimp only
   refine wpAny_ite_split (λz=>by
    unfold SetTable.gaveWay at z
    rw[S.tb.mask] at z
    cases z) λ_=> ?_
   rw[eI]
   obtain⟨m,e1,hm⟩:=Sm.zhq S.tb S.lt (λj=>(f j).1) (λi=>((((Sm.pl b).map f)[i]?).map (·.1)).getD 0) (λj hj hi=>by rw[Sm.map_at S.lt hj hi];rfl) (yg w k) e he (10*SetTable.turns t.mask) n hn (by rw[S.tb.mask];show e-n<220;omega)
   split
   rotate_left
   ·rename_i hq
    cases (hq _ e1)
   rename_i met heq
   obtain rfl:met=m:=Fi (heq.symm.trans e1)
   have il:∀i,Sm.inB b (Sm.pos (yg w k) i)=true->(f (Sm.pos (yg w k) i)).1≠yg w k->kf (Sm.pos (yg w k) i)≠k:=λi hi bZ eY=>bZ (by rw[(S.keys _ (Sm.ZG _ i) hi).1,eY])
   cases hm with
   |empty m qf uD bP=>
    have hb:∀i<m,Sm.inB b (Sm.pos (yg w k) i)=true/\kf (Sm.pos (yg w k) i)≠k:=λi hi=>by
     by_cases eE:i<n
     ·exact kP i eE
     ·have:=bP i ⋯ hi
      exact⟨this.1,il i this.1 this.2⟩
    exact wpAny_pure (h2 m uD (λi hi=>(hb i hi).1) (S.absent uD hb))
   |cand m qf jg Ed bP=>
    have BF:m<e:=by
     rcases Ic m e with h|h|h
     ·exact h
     ·rw[<-h,jg] at he;cases he
     ·rw[(bP e hn h).1] at he;cases he
    have hb:∀i<m,Sm.inB b (Sm.pos (yg w k) i)=true/\kf (Sm.pos (yg w k) i)≠k:=λi hi=>by
     by_cases eE:i<n
     ·exact kP i eE
     ·have:=bP i ⋯ hi
      exact⟨this.1,il i this.1 this.2⟩
    obtain⟨hh,⟨c',cI,qu⟩,gj⟩:=S.keys _ (Sm.ZG _ m) jg
    have Bf:∀y∈Gp (λx=>x.2) (Array.filter (λx=>x.1==yg w k) (Array.map f (Sm.pl b))).toList,∃k' c',y=Value.ref c'/\yT s.heap k' (.ref c')/\yv k'<=8:=by
     intro y hy
     obtain⟨p,hp,rfl⟩:=Ez.1 hy
     rw[Array.toList_filter,GZ] at hp
     obtain⟨j,hj,rfl⟩:=Ez.1 (Gm.1 hp).1
     have dq:=Gm.1 hj
     obtain⟨_,⟨cc,h3,h4⟩,h5⟩:=S.keys j (Fx.1 dq.1) dq.2
     exact⟨kf j,cc,h3,h4,h5⟩
    have my:f (Sm.pos (yg w k) m)=((f (Sm.pos (yg w k) m)).1,Value.ref c'):=by rw[<-cI]
    refine wpAny_ite_split (λhl=>wpAny_bind (zf7 hk hd _ Bf (wpAny_ite_split nofun λ_=> ?_))) λhl=> ?_
    all_goals
     rw[Sm.map_at S.lt (Sm.ZG _ m) jg,my]
     dsimp only
     refine wpAny_bind (wpAny_holding (zfd 8 gj hu qu hk _ _ _ _ ?_))
     refine wpAny_bind (wpAny_setState_of S.get S.data S.fits ?_)
     by_cases eY:kf (Sm.pos (yg w k) m)=k
     ·rw[decide_eq_true eY]
      exact wpAny_pure (h1 _ (Sm.ZG _ m) jg eY)
     ·rw[decide_eq_false eY]
      refine wpAny_ite_split nofun λ_=> ?_
      dsimp only
      rw[show t.sameMemory t.moves t.mask=some true by unfold SetTable.sameMemory;rw[if_pos (beq_self_eq_true _)]]
      dsimp only
      rw[if_pos rfl,Sm.zfg S.tb S.lt (Sm.ZG _ m),if_pos jg]
      dsimp only
      rw[Sm.map_at S.lt (Sm.ZG _ m) jg,my]
      dsimp only
      refine wpAny_bind (wpAny_isSame_ref_self ?_)
      refine wpAny_bind (wpAny_pure ?_)
      rw[if_pos rfl]
      dsimp only
      refine wpAny_ite_split nofun λ_=> ?_
      exact ih (m+1) (some (Sm.mkP (Sm.st (yg w k) (m+1)))) rfl BF ⋯ (λi hi=>by
       by_cases qA:i=m
       ·rw[qA];exact⟨jg,eY⟩
       ·exact hb i ⋯)
 exact main 100000 0 none (Sm.zho S.tb _) (Gk _) ⋯ (λi hi=>by omega)
end
section
variable {h h':Heap}
mutual
theorem yT.keepsS {d:Addr} {o:Obj} {es:Array (Int×Value)} {ep:Nat} {t:SetTable} (ho:h.get? d=some o) (hd:o.data= .set es ep t) (hs:Heap.SameBut d h h'):∀{x:NK} {v:Value},yT h x v->yT h' x v
 |_,_,.int i t=> .int i t
 |_,_,.str x t=> .str x t
 |_,_,.tup (a:=a) e1 e2 e3 l=>by
  have bZ:a≠d:=by
   rintro rfl
   rw[ho] at e1
   cases e1
   rw[hd] at e3
   exact nomatch e3
  exact .tup ((hs.2 a bZ).trans e1) e2 e3 (yx.keepsS ho hd hs l)
theorem yx.keepsS {d:Addr} {o:Obj} {es:Array (Int×Value)} {ep:Nat} {t:SetTable} (ho:h.get? d=some o) (hd:o.data= .set es ep t) (hs:Heap.SameBut d h h'):∀{x:List NK} {v:List Value},yx h x v->yx h' x v
 |_,_,.nil=> .nil
 |_,_,.cons a l=> .cons (yT.keepsS ho hd hs a) (yx.keepsS ho hd hs l)
end
end
theorem Sm.ins_map {α:Type} {f:Nat->α} {xs:Array Nat} {p j:Nat}:SetTable.insertAt (xs.map f) p (f j)=(SetTable.insertAt xs p j).map f:=by
 unfold SetTable.insertAt
 rw[Array.map_append,Array.map_push,Jj,Jj,G9]
theorem Sm.len_add:∀b<256,∀j<8,Sm.inB b j=false->(Sm.plL (b+2^j)).length=(Sm.plL b).length+1:=by decide+kernel
section
variable {prog:Program} {w:World} {E:Value->Shared->Prop}
variable {a:Addr} {b:Nat} {f:Nat->Int×Value} {kf:Nat->NK} {o:Obj} {ep:Nat} {t:SetTable} {A:Around} {s:Shared}
noncomputable def Wh {α:Type} (f:Nat->α) (j:Nat) (x:α) (i:Nat):α:=if i=j then x else f i
theorem zhs {α:Type} {f:Nat->α} {j:Nat} {x:α} (hb:b<256) (hj:j<8) (hi:Sm.inB b j=false):SetTable.insertAt ((Sm.pl b).map f) (Sm.ix b j) x=(Sm.pl (b+2^j)).map (Wh f j x):=by
 obtain⟨_,_,_,h4⟩:=Sm.Wz b hb j hj
 rw[<-(h4 hi).1,<-Sm.ins_map]
 have e1:Wh f j x j=x:=by unfold Wh;exact if_pos rfl
 rw[e1]
 congr 1
 apply Array.ext'
 unfold Sm.pl
 rw[GZ,GZ]
 refine FL λi cA=> ?_
 have cA:=(Gm.1 cA).2
 unfold Wh
 rw[if_neg λz=>by rw[z,hi] at cA;cases cA]
theorem zcs (S:Xd w s.heap a b f kf o ep t) {k:NK} {c:Addr} (hk:yT s.heap k (.ref c)) (hd:yv k<=8) (gJ:ZN k=true) (hu:A.units+8<cLine) (u9:(Sm.plL b).length<4) {Q:Bool->Shared->Prop}
  (h1:∀j<8,Sm.inB b j=true->kf j=k->Q false s)
  (h2:∀j h' o' t',j<8->Sm.inB b j=false->(∀i<8,Sm.inB b i=true->kf i≠k)->Heap.SameBut a s.heap h'->t'.led=t.led->Xd w h' a (b+2^j) (Wh f j (yg w k,.ref c)) (Wh kf j k) o' (ep+1) t'->Q true {s with heap:=h'}):
  wpAny (model prog w) A (setAddHashed a (.ref c) (yg w k)) Q E s:=by
 unfold setAddHashed setAddHashedIn
 refine wpAny_holding (wpAny_bind (wpAny_setState_of S.get S.data S.fits ?_))
 dsimp only
 refine wpAny_ite_split nofun λ_=> ?_
 refine wpAny_bind (zf8 S hk hd hu (λj hj hi eY=> ?_) (λm he hb b6=> ?_))
 ·exact wpAny_pure (h1 j hj hi eY)
 ·dsimp only
  refine wpAny_bind (wpAny_setState_of S.get S.data S.fits ?_)
  dsimp only
  have hj:=Sm.ZG (yg w k) m
  generalize mq:Sm.pos (yg w k) m=j at he hj ⊢
  obtain⟨g1,_,_,g4⟩:=Sm.Wz b S.lt j hj
  obtain⟨g5,g6⟩:=g4 he
  have hlen:=Sm.len_add b S.lt j hj he
  have p2:(t.put j).2=Sm.ix b j:=by
   show SetTable.below t.place j=_
   rw[S.tb.place]
   exact g1
  have p1:(t.put j).1.plain=true:=S.plain
  have p3:Sm.Tb (t.put j).1 (b+2^j):=⟨S.tb.mask,by
   show SetTable.insertAt t.place (SetTable.below t.place j) j=_
   rw[S.tb.place,g1]
   exact g5,by
   show (if SetTable.has t.dummies j then SetTable.eraseAt t.dummies (SetTable.below t.dummies j) else t.dummies)= #[]
   rw[S.tb.dum]
   rfl⟩
  have p4:(t.put j).1.led=t.led:=rfl
  generalize t.put j=P at p1 p2 p3 p4 ⊢
  obtain⟨t',p⟩:=P
  dsimp only at p1 p2 p3 p4 ⊢
  subst p2
  have kG:t'.tooFull=false:=by
   unfold SetTable.tooFull SetTable.fill
   rw[p3.mask,p3.place,p3.dum,Sm.pl_size,hlen]
   simp
   omega
  rw[if_pos p1]
  refine wpAny_bind (zhr 8 hd gJ hk ?_)
  rw[if_pos rfl,zhs S.lt hj he,kG]
  refine wpAny_bind (wpAny_storeSet_of S.get S.data ?_ (by rw[G9,Sm.pl_size,hlen];exact EW (show _<=100 by omega) ∅))
  refine wpAny_ite_split nofun λ_=>wpAny_pure ?_
  have eM:=Heap.SameBut.update s.heap a (Obj.putSet ((Sm.pl (b+2^j)).map (Wh f j (yg w k,.ref c))) t')
  have hg:(s.heap.update a (Obj.putSet ((Sm.pl (b+2^j)).map (Wh f j (yg w k,.ref c))) t')).get? a=some {o with data:= .set ((Sm.pl (b+2^j)).map (Wh f j (yg w k,.ref c))) (ep+1) t'}:=by
   have:=Heap.get?_update_self (Obj.putSet ((Sm.pl (b+2^j)).map (Wh f j (yg w k,.ref c))) t') S.get (by rw[putSet_of _ t' S.data];rfl)
   rw[putSet_of _ t' S.data] at this
   exact this
  have bits:=Sm.zcr b S.lt j hj he
  refine h2 j _ _ t' hj he b6 eM p4 ⟨hg,S.ex,rfl,p3,p1,g6,⋯,?_,?_,?_⟩
  ·have:=S.chain.put S.lt (x:=yg w k) (n:=m) (by rw[mq];exact he) hb
   rw[mq] at this
   have e:(λi=>(Wh f j (yg w k,Value.ref c) i).1)=λi=>if i=j then yg w k else (f i).1:=by
    funext i
    unfold Wh
    split<;>rfl
   rw[e]
   exact this
  ·intro i hi eE
   unfold Wh
   by_cases er:i=j
   ·rw[if_pos er,if_pos er]
    exact⟨rfl,⟨c,rfl,hk.keepsS S.get S.data eM⟩,hd⟩
   ·rw[if_neg er,if_neg er]
    rw[bits i hi,decide_eq_false er,Hc] at eE
    obtain⟨q1,⟨cc,q2,q3⟩,q4⟩:=S.keys i hi eE
    exact⟨q1,⟨cc,q2,q3.keepsS S.get S.data eM⟩,q4⟩
  ·intro i1 jJ i2 dR n1 n2
   unfold Wh
   rw[bits i1 jJ] at n1
   rw[bits i2 dR] at n2
   by_cases q1:i1=j
   ·by_cases q2:i2=j
    ·intro _;omega
    ·rw[if_pos q1,if_neg q2]
     rw[decide_eq_false q2,Hc] at n2
     exact λz=>absurd z.symm (b6 i2 dR n2)
   ·rw[decide_eq_false q1,Hc] at n1
    by_cases q2:i2=j
    ·rw[if_neg q1,if_pos q2]
     exact λz=>absurd z (b6 i1 jJ n1)
    ·rw[decide_eq_false q2,Hc] at n2
     rw[if_neg q1,if_neg q2]
     exact S.inj i1 jJ i2 dR n1 n2
end
section
variable {h h':Heap}
mutual
theorem yT.grow (hs:∀b o,h.get? b=some o->h'.get? b=some o):∀{x:NK} {v:Value},yT h x v->yT h' x v
 |_,_,.int i t=> .int i t
 |_,_,.str x t=> .str x t
 |_,_,.tup e1 e2 e3 l=> .tup (hs _ _ e1) e2 e3 (yx.grow hs l)
theorem yx.grow (hs:∀b o,h.get? b=some o->h'.get? b=some o):∀{x:List NK} {v:List Value},yx h x v->yx h' x v
 |_,_,.nil=> .nil
 |_,_,.cons a l=> .cons (yT.grow hs a) (yx.grow hs l)
end
end
section
variable {prog:Program} {w:World}
def zdz (w:World) (P:Nat->Value->Prop) (ks:List NK) (h:Heap) (S:Addr) (led:Bool) (i:Nat):Prop:=∃b f kf o ep t,Xd w h S b f kf o ep t/\t.led=led/\(Sm.plL b).length<=i/\(∀p<i,∀k,ks[p]? =some k->∃j<8,Sm.inB b j=true/\kf j=k)/\∀j<8,Sm.inB b j=true->∃p<i,ks[p]? =some (kf j)/\P p (f j).2
theorem Xd.move {h h':Heap} {a:Addr} {b:Nat} {f:Nat->Int×Value} {kf:Nat->NK} {o:Obj} {ep:Nat} {t:SetTable} (S:Xd w h a b f kf o ep t) (h1:h'.get? a=some o) (h2:∀j<8,Sm.inB b j=true->∀c,(f j).2= .ref c->yT h' (kf j) (.ref c)):Xd w h' a b f kf o ep t:=⟨h1,S.ex,S.data,S.tb,S.plain,S.lt,S.few,S.chain,λj hj hi=>by
 obtain⟨q1,⟨c,q2,q3⟩,q4⟩:=S.keys j hj hi
 exact⟨q1,⟨c,q2,h2 j hj hi c q2⟩,q4⟩,S.inj⟩
variable {A:Around} {R:Result->Shared->Prop} {I:Addr} {fp wr:List Addr} {G:Array GenState->Array GenState->Prop} {n:Nat} {P:Nat->Value->Prop} {St:Nat->Shared->Prop}
theorem ziZ (W:WalksS prog w A.in1 I fp wr G n P St) (S:Addr) (mD:S∉fp) (h0:Heap) (hold:∀b o,h0.get? b=some o->b∉S::wr) (led:Bool) (ks:List NK) (mh:ks.length=n) (gM:n<=4) (hu:A.units+9<cLine)
  (fO:∀i v,P i v->∃k c,ks[i]? =some k/\v= .ref c/\yT h0 k (.ref c)/\yv k<=8/\ZN k=true):
  ∀(q i:Nat) (s:Shared),n-i=q->i<=n->St i s->(∀b o,h0.get? b=some o->s.heap.get? b=some o)->zdz w P ks s.heap S led i->
   (∀s',Moved (S::wr) G s s'->zdz w P ks s'.heap S led n->R (.ok (.ret .none)) s')->
   codeAny (model prog w) A (.builtin "set.update.loop" ⟨[.ref S,.ref I],[]⟩) R s:=by
 have CJ:S∉wr:=λh=>mD (W.sub _ h)
 have ft:∀b∈wr,b∈S::wr:=λb hb=>ED _ hb
 have mv:∀{s s':Shared} {i:Nat},(∀b o,h0.get? b=some o->s'.heap.get? b=some o)->Moved wr G s s'->zdz w P ks s.heap S led i->zdz w P ks s'.heap S led i:=by
  rintro s s' i dz hm ⟨b,f,kf,o,ep,t,hS,h1,h2,h3,h4⟩
  refine⟨b,f,kf,o,ep,t,hS.move (hm.heap S _ CJ hS.get) (λj hj hi c hc=> ?_),h1,h2,h3,h4⟩
  obtain⟨p,_,e,hp⟩:=h4 j hj hi
  obtain⟨k,c',e',ev,hk,_⟩:=fO p _ hp
  rw[hc] at ev
  cases ev
  rw[e] at e'
  cases e'
  exact hk.grow dz
 intro q
 induction q with
 |zero=>
  intro i s hq hi eI ho hS hR
  obtain rfl:i=n:=by omega
  refine codeAny_builtin F.entry_set_update_loop ?_
  rw[Around.under_plainId F.plain_set_update_loop _]
  show wpAny _ A.in1 (pyNext (.ref I)>>=_) _ _ s
  refine wpAny_bind (W.done s _ _ eI λs' hm=> ?_)
  exact wpAny_pure (hR s' (hm.mono ft) (mv (λb o e=>hm.heap b o (λz=>hold b o e (ft b z)) (ho b o e)) hm hS))
 |succ q ih=>
  intro i s hq hi eI ho hS hR
  have cC:i<n:=by omega
  refine codeAny_builtin F.entry_set_update_loop ?_
  rw[Around.under_plainId F.plain_set_update_loop _]
  show wpAny _ A.in1 (pyNext (.ref I)>>=_) _ _ s
  refine wpAny_bind (W.item i s _ _ cC eI λv s' hP k9 hm=> ?_)
  obtain⟨k,c,ek,rfl,mo,hd,gJ⟩:=fO i v hP
  have dz:∀b o,h0.get? b=some o->s'.heap.get? b=some o:=λb o e=>hm.heap b o (λz=>hold b o e (ft b z)) (ho b o e)
  obtain⟨b,f,kf,o,ep,t,mC,g1,g2,g3,g4⟩:=mv dz hm hS
  show wpAny _ A.in1 (holding [Value.ref c] (setAdd S (.ref c))>>=_) _ _ s'
  refine wpAny_bind (wpAny_holding ?_)
  unfold setAdd
  refine wpAny_holding (wpAny_bind (zfc 8 hd (by show A.units+1+8<cLine;omega) (mo.grow dz) ?_))
  refine zcs (s:={s' with toks:=s'.toks+Wg k}) mC (mo.grow dz) hd gJ (by show A.units+1+8<cLine;omega) ⋯ (λj hj eE eY=> ?_) (λj h' o' t' hj he b6 eM gi qR=> ?_)
  ·refine wpAny_pure ⟨plainId_quiet F.plain_set_update_loop _,ih (i+1) _ ⋯ cC (W.frame _ s' s'.heap _ k9 (GY _ _) λb _ o e=>e) dz ⟨b,f,kf,o,ep,t,mC,g1,⋯,λp hp k' e=> ?_,λj hj eE=> ?_⟩ λs'' jb ju=> ?_⟩
   ·by_cases qa:p=i
    ·subst qa
     rw[ek] at e
     cases e
     exact⟨j,hj,eE,eY⟩
    ·exact g3 p ⋯ k' e
   ·obtain⟨p,hp,e,qS⟩:=g4 j hj eE
    exact⟨p,⋯,e,qS⟩
   ·exact hR s'' (Moved.trans W.gtrans ((hm.mono ft).then_heap (GY _ _) λb o hb e=>e) jb) ju
  ·have bits:=Sm.zcr b mC.lt j hj he
   have hlen:=Sm.len_add b mC.lt j hj he
   refine wpAny_pure ⟨plainId_quiet F.plain_set_update_loop _,ih (i+1) _ ⋯ cC (W.frame _ s' h' _ k9 (GY _ _) λb hb o e=> ?_) (λb o e=> ?_) ⟨_,_,_,o',_,t',qR,by rw[gi];exact g1,⋯,λp hp k' e=> ?_,λj' dq eE=> ?_⟩ λs'' jb ju=> ?_⟩
   ·rw[eM.2 b (λh:b=S=>mD (by rw[<-h];exact hb))];exact e
   ·rw[eM.2 b (λh:b=S=>hold b o e (by rw[h];exact EG))];exact dz b o e
   ·by_cases qa:p=i
    ·subst qa
     rw[ek] at e
     cases e
     exact⟨j,hj,by rw[bits j hj,decide_eq_true rfl,Bool.or_true],by unfold Wh;exact if_pos rfl⟩
    ·obtain⟨j',dq,jf,eY⟩:=g3 p ⋯ k' e
     have bZ:j'≠j:=λz=>by rw[z,he] at jf;cases jf
     exact⟨j',dq,by rw[bits j' dq,jf];rfl,by unfold Wh;rw[if_neg bZ];exact eY⟩
   ·unfold Wh
    by_cases kB:j'=j
    ·rw[if_pos kB,if_pos kB]
     exact⟨i,G5 i,ek,hP⟩
    ·rw[bits j' dq,decide_eq_false kB,Hc] at eE
     rw[if_neg kB,if_neg kB]
     obtain⟨p,hp,e,qS⟩:=g4 j' dq eE
     exact⟨p,⋯,e,qS⟩
   ·refine hR s'' (Moved.trans W.gtrans ((hm.mono ft).then_heap (GY _ _) λb o hb e=> ?_) jb) ju
    rw[eM.2 b (λh:b=S=>hb (by rw[h];exact EG))];exact e
end
section
variable {prog:Program} {w:World} {A:Around} {E:Value->Shared->Prop} {s:Shared}
noncomputable def Yk (w:World):Bool:= !w.params.followText "set-order"
noncomputable def zav (led:Bool):Obj:={cls:= .type "set",dict:=none,data:= .set #[] 0 (.fresh 0 0 led)}
theorem zk6 (x:Value) {Q₁:Value->Shared->Prop} (h:Q₁ (.ref s.heap.objs.size) {s with heap:=s.heap.push (zav (Yk w))}):
  codeAny (model prog w) A (.call (.builtin "set.__new__") ⟨[.type "set",x],[]⟩) (wants Q₁ E) s:=by
 refine codeAny_of_tree ?_
 show wpAny _ A.in1 (do checkBuiltinCall "set.__new__" ⟨[.type "set",x],[]⟩;again (.builtin "set.__new__" ⟨[.type "set",x],[]⟩)) _ _ s
 refine wpAny_bind (wpAny_of_eq (F.newCall_set_1 x) (wpAny_pure ⟨plainId_quiet F.plain_set_new _,codeAny_builtin F.entry_set_new ?_⟩))
 rw[Around.under_plainId F.plain_set_new _]
 unfold Builtin.«set.__new__» Builtin.Frozenset.newClass
 have ft:=sub_set_self
 obtain⟨hp,g,d,tk,os⟩:=s
 dsimp only
 wp_walk
 refine wpAny_askSetting (wpAny_pure ?_)
 dsimp only
 simp only[newObj]
 exact wpAny_bind (wpAny_alloc (wpAny_pure (wpAny_pure h)))
theorem zht {h:Heap} {a:Addr} (e:h.get? a=some (zav (Yk w))) (P:Nat->Value->Prop) (ks:List NK):zdz w P ks h a (Yk w) 0:=by
 have jG:∀j<8,Sm.inB 0 j=false:=by decide
 have me:Sm.pl 0= #[]:=by decide+kernel
 refine⟨0,λ_=>(0,.none),λ_=> .int 0,_,0,.fresh 0 0 (Yk w),⟨e,⟨rfl,rfl,rfl⟩,by show Data.set #[] 0 _=Data.set ((Sm.pl 0).map _) 0 _;rw[me,Array.map_empty],⟨rfl,me.symm,rfl⟩,rfl,∅,∅,λj hj hi=> ?_,λj hj hi=> ?_,λi hi j hj h1=> ?_⟩,rfl,∅,λp hp=>by omega,λj hj hi=> ?_⟩
 ·rw[jG j hj] at hi;cases hi
 ·rw[jG j hj] at hi;cases hi
 ·rw[jG i hi] at h1;cases h1
 ·rw[jG j hj] at hi;cases hi
end
end L2
set_option maxHeartbeats 3200000
namespace L2
open PySem PySem.Spec PyProof.Rows PySem.Calls PySem.W
section
variable {prog:Program} {w:World} {A:Around} {E:Value->Shared->Prop} {s:Shared}
theorem zi0 {l:Addr} {items:Array Value} {ks:List NK} {Q:Value->Shared->Prop} (hh:A.handled=none) (hu:A.units+13<cLine) (hl:s.heap.IsList l items) (mh:ks.length=items.size) (gM:items.size<=4)
  (fO:∀(i:Nat) v,items[i]? =some v->∃k c,ks[i]? =some k/\v= .ref c/\yT s.heap k (.ref c)/\yv k<=8/\ZN k=true)
  (h:∀(h':Heap) (tk:Nat),zdz w (λi v=>items[i]? =some v) ks h' s.heap.objs.size (Yk w) items.size->(∀b o,s.heap.get? b=some o->h'.get? b=some o)->s.toks<=tk->Q (.ref s.heap.objs.size) {s with heap:=h',toks:=tk}):
  wpAny (model prog w) A (call (.type "set") [.ref l]) Q E s:=by
 obtain⟨c,tl,BD⟩:=F.called_set.mro
 have uk:=F.called_set.made
 have ft:=F.called_set.sub
 refine wpAny_call (codeAny_of_tree ?_)
 show wpAny _ _ (callAny (.type "set") _) _ _ _
 refine wpAny_pure ⟨Code.quiet_builtin _ (by decide+kernel),codeAny_builtin F.entry_type_call ?_⟩
 rw[Around.under_plain (weight_type_call_type "set" [.ref l] []) rfl]
 have h1:=F.called_set.notType
 have h2:=F.called_set.canCreate
 have Ee:=F.typeCall_set_1 (.ref l)
 repeat (any_goals (first|assumption|wp_step))
 refine codeAny_mono (zk6 (.ref l) (E:=E) (Q₁:=λobj s₁=>obj= .ref s.heap.objs.size/\s₁={s with heap:=s.heap.push (zav (Yk w))}) ⟨rfl,rfl⟩) λr s₁ hr=> ?_
 cases r with
 |error e=>exact hr
 |ok fl=>
  cases fl with
  |ret obj=>
   obtain⟨rfl,rfl⟩:=hr
   have hS:(s.heap.push (zav (Yk w))).get? s.heap.objs.size=some (zav (Yk w)):=Heap.get?_push_size _ rfl
   have hT:Shared.TypeIs {s with heap:=s.heap.push (zav (Yk w))} (.ref s.heap.objs.size) "set":=⟨_,hS,rfl⟩
   have Eb:=F.called_set.init.lookup
   have Eg:=F.called_set.init.bind (.ref s.heap.objs.size)
   repeat (any_goals (first|assumption|wp_step))
   refine codeAny_mono (codeAny_call_builtin (R:=wants (λr s₂=>r= .none/\∃h' tk,s₂={s with heap:=h',toks:=tk}/\zdz w (λi v=>items[i]? =some v) ks h' s.heap.objs.size (Yk w) items.size/\(∀b o,s.heap.get? b=some o->h'.get? b=some o)/\s.toks<=tk) E) F.called_set.init.plain F.entry_set_init (check_set_init_1 hT ?_)) λr₂ s₂ hr₂=> ?_
   ·obtain⟨ol,fI,fA,nl,uE⟩:=hl
    obtain⟨Ao,jU,t4,oslots⟩:=ol
    simp only at fA uE
    subst fA
    subst uE
    have qc:(s.heap.push (zav (Yk w))).get? l=some {cls:= .type "list",dict:=jU,data:= .seq items nl,slots:=oslots}:=Heap.get?_push_of_some _ fI
    have Br:=F.sub_list_set
    have Bs:=F.sub_list_frozenset
    have bZ:(Value.type "list"==Value.type "dict")=false:=by decide
    have uo:(s.heap.push (zav (Yk w))).IsList l items:=⟨_,qc,rfl,nl,rfl⟩
    unfold Builtin.«set.__init__» noKeywords Builtin.Frozenset.updateFrom
    generalize CN:pyIter=PI
    wp_walk
    subst CN
    refine wpAny_pyIter_list uo ?_
    refine wpAny_bind (wpAny_runValue ?_)
    have um:l<s.heap.objs.size:=Heap.lt_size fI
    have mx:A.in1.in1.in1.handled=none:=by simp[hh]
    have hsz:(s.heap.push (zav (Yk w))).objs.size=s.heap.objs.size+1:=Heap.size_push ..
    have qg:l≠(s.heap.push (zav (Yk w))).objs.size:=by rw[hsz];exact EH (FI um)
    have old:∀b o,s.heap.get? b=some o->((s.heap.push (zav (Yk w))).push {cls:= .type "list_iterator",data:= .fields #[.ref l,.int 0 0]}).get? b=some o:=λb o e=>Heap.get?_push_of_some _ (Heap.get?_push_of_some _ e)
    refine ziZ ((Walks.list mx _ l qg items).toS) s.heap.objs.size (by rw[hsz];simp only[EJ,EZ,Hv,or_false,not_or];exact⟨EH (G5 _),Hi um⟩) s.heap (λb o e=>by
     have:=Heap.lt_size e
     rw[hsz]
     simp only[EJ,EZ,Hv,or_false,not_or]
     exact⟨EH this,EH (FI this)⟩) (Yk w) ks mh gM (by show A.units+1+1+9<cLine;omega) fO (items.size-0) 0 _ ⋯ (Gk _) ⟨⟨_,Heap.get?_push_size _ rfl,rfl,rfl⟩,(uo.push _)⟩ old (zht (Heap.get?_push_of_some _ hS) _ _) ?_
    intro s' hm i7
    obtain⟨h',g',d',tk',os'⟩:=s'
    have eg:g'=s.gens:=hm.gens
    have ed:d'=s.drawn:=hm.drawn
    have eo:os'=s.os:=hm.os
    have et:s.toks<=tk':=hm.toks
    subst eg
    subst ed
    subst eo
    show wpAny _ _ _ _ _ _
    refine wpAny_pure ?_
    show wpAny _ _ (ret Value.none) _ _ _
    refine wpAny_pure ⟨rfl,h',tk',rfl,i7,λb o e=> ?_,et⟩
    have hb:=Heap.lt_size e
    exact hm.heap b o (by rw[hsz];simp only[EJ,EZ,Hv,or_false,not_or];exact⟨EH hb,EH (FI hb)⟩) (old b o e)
   ·cases r₂ with
    |error e=>exact hr₂
    |ok fl₂=>
     cases fl₂ with
     |ret r=>
      obtain⟨rfl,h',tk,rfl,i7,qu,Bn⟩:=hr₂
      repeat (any_goals (first|assumption|wp_step))
      exact h _ _ i7 qu Bn
     |_=>exact hr₂.elim
  |_=>exact hr.elim
end
structure Xe (h:Heap) (a:Addr) (b:Nat) (f:Nat->Int×Value) (o:Obj) (ep:Nat) (t:SetTable):Prop where
 get:h.get? a=some o
 ex:o.ExactSet
 data:o.data= .set ((Sm.pl b).map f) ep t
 tb:Sm.Tb t b
 plain:t.plain=true
 lt:b<256
 few:(Sm.plL b).length<=4
theorem Xd.raw {w:World} {h:Heap} {a:Addr} {b:Nat} {f:Nat->Int×Value} {kf:Nat->NK} {o:Obj} {ep:Nat} {t:SetTable} (S:Xd w h a b f kf o ep t):Xe h a b f o ep t:=⟨S.get,S.ex,S.data,S.tb,S.plain,S.lt,S.few⟩
theorem Xe.fits {h:Heap} {a:Addr} {b:Nat} {f:Nat->Int×Value} {o:Obj} {ep:Nat} {t:SetTable} (S:Xe h a b f o ep t):t.fits ((Sm.pl b).map f).size=true:=by
 have h1:=S.few
 unfold SetTable.fits SetTable.fill
 rw[S.tb.mask,S.tb.place,S.tb.dum,G9,Sm.pl_size]
 simp
 omega
theorem zdA:Manifest.owners.lookup (String.ofList "rotareti_tes".toList.reverse)=some Manifest.sig_set_iterator:=by kernel_rfl
theorem wR:Slot "set_iterator" "__next__" "set_iterator.__next__":=
 .of (owner:="set_iterator") (n:="__next__") (by rw[typeLookup_type,builtinLookup_eq_fast];kernel_rfl) (by decide+kernel) (by decide+kernel) (by decide+kernel) (by first|exact .inl (by decide+kernel)|exact .inr (by decide+kernel)) (by rw[isSubtype_type];kernel_rfl)
theorem WT:entryFor table "set_iterator.__next__"=some Builtin.«set_iterator.__next__» :=entryFor_of_tree (by kernel_rfl)
theorem VP (a:Value):argsOk "set_iterator.__next__" ⟨[a],[]⟩:=by
 unfold argsOk
 rw[signature?_of (id:="set_iterator.__next__") (n:="__txen__".toList) (o:="rotareti_tes".toList) (by kernel_rfl) zdA]
 kernel_rfl
theorem zaw:entryFor table "set.__iter__"=some Builtin.«frozenset.__iter__» :=entryFor_alias (id':="frozenset.__iter__") (by kernel_rfl) rfl (by decide+kernel) (by kernel_rfl)
theorem zax {α:Type}:∀(l:List α) (i:Nat) (h:i<l.length),([l[i]]++l.eraseIdx i).Perm l
 |x::r,0,_=> .refl _
 |x::r,i+1,h=>by
  have:=zax r i (by simpa using h)
  rw[List.getElem_cons_succ,List.eraseIdx_cons_succ]
  exact (JN x _ _).trans (this.cons x)
theorem zfj {α:Type} (nx:Nat->Nat):∀(fuel k:Nat) (left:List α) (out:Array α),left.length<=fuel->(pickOrder.go nx fuel k left out).toList.Perm (out.toList++left)
 |0,k,left,out,h=>by
  have:left=[]:=List.eq_nil_of_length_eq_zero ⋯
  subst this
  unfold pickOrder.go
  rw[Gz]
 |fuel+1,k,[],out,h=>by
  unfold pickOrder.go
  rw[List.getElem?_nil,Gz]
 |fuel+1,k,x::r,out,h=>by
  unfold pickOrder.go
  have cC:nx k % (x::r).length<(x::r).length:=Ih _ (by simp)
  rw[Er cC]
  dsimp only
  have hl:((x::r).eraseIdx (nx k % (x::r).length)).length<=fuel:=by rw[List.length_eraseIdx_of_lt cC];simp only[F5] at h ⊢;omega
  refine (zfj nx fuel (k+1) _ _ hl).trans ?_
  rw[Array.toList_push,GD]
  refine List.Perm.append_left _ ?_
  exact zax _ _ cC
theorem Uv {α:Type} (nx:Nat->Nat) (xs:Array α):(pickOrder nx xs).toList.Perm xs.toList:=by
 unfold pickOrder
 refine (zfj nx xs.size 0 xs.toList #[] (by simp)).trans ?_
 simp
theorem Sm.below_walk:∀b<256,∀i<9,i<=(Sm.plL b).length->SetTable.below (Sm.pl b) (if i=0 then 0 else (Sm.plL b).getD (i-1) 0+1)=i:=by decide+kernel
section
variable {prog:Program} {w:World} {A:Around} {E:Value->Shared->Prop} {s:Shared} {d it:Addr}
variable {b:Nat} {f:Nat->Int×Value} {o:Obj} {ep:Nat} {t:SetTable}
noncomputable def zay (d:Addr) (slot i n ep:Nat):Obj:={cls:= .type "set_iterator",data:= .fields #[.int slot 0,.int i 0,.ref d,.int n 0,.int ep 0]}
theorem zi1 {Q:Value->Shared->Prop} (S:Xe s.heap d b f o ep t) (q:Q (.ref s.heap.objs.size) {s with heap:=s.heap.push (zay d 0 0 (Sm.plL b).length ep)}):wpAny (model prog w) A (pyIter (.ref d)) Q E s:=by
 have ty:s.TypeIs (.ref d) "set":=⟨o,S.get,S.ex.1⟩
 refine wpAny_pyIter_slot ty F.slot_set_iter (wpAny_call_entry F.slot_set_iter ty zaw ?_ (F.args_set_iter_1 _))
 unfold Builtin.«frozenset.__iter__»
 unfold Builtin.Frozenset.slot0 Builtin.Frozenset.sizeOf setDrawn setsByText
 have hsz:((Sm.pl b).map f).size=(Sm.plL b).length:=by rw[G9,Sm.pl_size]
 refine wpAny_bind (wpAny_bind (m:=slotArgs "__iter__" 0 ⟨[.ref d],[]⟩) ?_)
 refine wpAny_of_eq (a:=(Value.ref d,[])) rfl (wpAny_pure ?_)
 refine wpAny_bind (wpAny_bind (wpAny_setEntries_of S.get S.data S.fits (wpAny_pure ?_)))
 refine wpAny_bind (wpAny_bind (wpAny_setState_of S.get S.data S.fits (wpAny_bind (wpAny_bind (wpAny_askSetting (wpAny_pure (wpAny_pure ?_)))))))
 refine wpAny_ite_split (λz=> ?_) λ_=> ?_
 ·exfalso
  revert z
  show ((!_&&(!t.plain&&decide (_>1)))=true)->False
  rw[S.plain]
  simp
 ·refine wpAny_bind (wpAny_pure (wpAny_bind (wpAny_setEpoch_of S.get S.data S.fits ?_)))
  unfold newFields
  refine wpAny_bind (wpAny_newObj_type (wpAny_pure ⟨_,rfl,"set_iterator",_,⟨_,Heap.get?_push_size _ rfl,rfl⟩,wR.lookup,?_⟩))
  rw[hsz]
  exact q
noncomputable def Yp (w:World) (d:Addr) (ep:Nat) (es:Array (Int×Value)):Array (Int×Value):=if w.params.followText "set-order" then pickOrder (w.params.setOrder d ep) es else es
noncomputable def vz (w:World) (b i:Nat):Nat:=if w.params.followText "set-order" then 0 else if i=0 then 0 else (Sm.plL b).getD (i-1) 0+1
end
theorem VQ:Slot "set_iterator" "__iter__" "set_iterator.__iter__":=
 .of (owner:="set_iterator") (n:="__iter__") (by rw[typeLookup_type,builtinLookup_eq_fast];kernel_rfl) (by decide+kernel) (by decide+kernel) (by decide+kernel) (by first|exact .inl (by decide+kernel)|exact .inr (by decide+kernel)) (by rw[isSubtype_type];kernel_rfl)
theorem zbg:entryFor table "set_iterator.__iter__"=some Builtin.«dict_keyiterator.__iter__» :=entryFor_alias (id':="dict_keyiterator.__iter__") (by kernel_rfl) rfl (by decide+kernel) (by kernel_rfl)
theorem zct (a:Value):argsOk "set_iterator.__iter__" ⟨[a],[]⟩:=by
 unfold argsOk
 rw[signature?_of (id:="set_iterator.__iter__") (n:="__reti__".toList) (o:="rotareti_tes".toList) (by kernel_rfl) zdA]
 kernel_rfl
section
variable {prog:Program} {w:World} {A:Around} {E:Value->Shared->Prop} {s:Shared} {d it:Addr}
variable {b:Nat} {f:Nat->Int×Value} {o:Obj} {ep:Nat} {t:SetTable} {i:Nat}
theorem zaz (S:Xe s.heap d b f o ep t) (hl:t.led=Yk w) (hi:i<=(Sm.plL b).length) {Q:Option (Value×Nat)->Shared->Prop}
  (q:Q (((Yp w d ep ((Sm.pl b).map f))[i]?).map λe=>(e.2,vz w b (i+1))) s):wpAny (model prog w) A (setNext d (vz w b i) i ep) Q E s:=by
 have h4:=S.few
 unfold setNext setsByText
 refine wpAny_bind (wpAny_setState_of S.get S.data S.fits ?_)
 refine wpAny_bind (wpAny_bind (wpAny_askSetting (wpAny_pure ?_)))
 dsimp only
 have hsz:((Sm.pl b).map f).size=(Sm.plL b).length:=by rw[G9,Sm.pl_size]
 cases hT:w.params.followText "set-order" with
 |true=>
  have mB:(model prog w).w.params.followText "set-order"=true:=hT
  rw[mB]
  refine wpAny_ite_split (λ_=> ?_) λz=>absurd rfl z
  refine wpAny_ite_split (λz=>by simp at z) λ_=> ?_
  unfold setWalk setsByText
  refine wpAny_bind (wpAny_bind (wpAny_setState_of S.get S.data S.fits (wpAny_bind (wpAny_bind (wpAny_askSetting (wpAny_pure ?_))))))
  rw[mB]
  refine wpAny_ite_split (λ_=> ?_) λz=>absurd rfl z
  refine wpAny_bind (wpAny_askSetting (wpAny_pure ?_))
  refine wpAny_pure ?_
  unfold Yp vz at q
  unfold vz
  rw[hT] at q ⊢
  exact q
 |false=>
  have mB:(model prog w).w.params.followText "set-order"=false:=hT
  rw[mB]
  refine wpAny_ite_split nofun λ_=> ?_
  refine wpAny_ite_split (λz=>by
   exfalso
   revert z
   show ((!t.plain&&decide (_>1))=true)->False
   rw[S.plain]
   simp) λ_=> ?_
  have gi:t.led=true:=by rw[hl];unfold Yk;rw[hT];rfl
  refine wpAny_bind ?_
  show wpAny _ _ (if (!t.led&&_)=true then unsupported _ else pure ()) _ _ _
  rw[gi]
  refine wpAny_ite_split nofun λ_=>wpAny_pure (wpAny_pure ?_)
  unfold Yp vz at q
  unfold vz
  rw[hT] at q ⊢
  simp only[G6,if_false] at q ⊢
  rw[S.tb.place,Sm.below_walk b S.lt i ⋯ hi]
  rw[if_neg ⋯,Nat.add_sub_cancel] at q
  have e1:(Sm.pl b)[i]? =(Sm.plL b)[i]? :=by unfold Sm.pl;rw[List.getElem?_toArray]
  rw[Jc,e1] at q ⊢
  cases cA:(Sm.plL b)[i]? with
  |none=>rw[cA] at q;exact q
  |some j=>
   rw[cA] at q
   rw[show (Sm.plL b).getD i 0=j by rw[Ew,cA];rfl] at q
   exact q
theorem zi2 (S:Xe s.heap d b f o ep t) (hl:t.led=Yk w) (hit:s.heap.get? it=some (zay d (vz w b i) i (Sm.plL b).length ep)) {e:Int×Value} (he:(Yp w d ep ((Sm.pl b).map f))[i]? =some e) (hi:i<(Sm.plL b).length) {Q:Option Value->Shared->Prop}
  (q:∀h',h'.get? it=some (zay d (vz w b (i+1)) (i+1) (Sm.plL b).length ep)->Heap.SameBut it s.heap h'->Q (some e.2) {s with heap:=h'}):wpAny (model prog w) A (pyNext (.ref it)) Q E s:=by
 have ty:s.TypeIs (.ref it) "set_iterator":=⟨_,hit,rfl⟩
 have hsz:((Sm.pl b).map f).size=(Sm.plL b).length:=by rw[G9,Sm.pl_size]
 unfold pyNext
 refine wpAny_bind (wpAny_attempt (wpAny_callSpecial?_slot (name:=Str.ofString "__next__") ty wR (wpAny_call_entry wR ty WT ?_ (VP _))))
 unfold Builtin.«set_iterator.__next__»
 refine wpAny_bind (wpAny_of_eq (a:=(Value.ref it,[])) rfl ?_)
 dsimp only
 refine wpAny_bind (wpAny_fieldsOf hit rfl ?_)
 dsimp only
 refine wpAny_bind (wpAny_setEntries_of S.get S.data S.fits ?_)
 refine wpAny_ite_split (λz=>by rw[hsz] at z;simp at z) λ_=> ?_
 rw[Fw,Fw,Fw]
 refine wpAny_bind (zaz S hl (Fc hi) ?_)
 rw[he]
 dsimp only[JY]
 have hJ:(s.heap.update it (Obj.mapFields (·.setIfInBounds 0 (rawInt ((vz w b (i+1):Nat):Int))))).get? it=some (zay d (vz w b (i+1)) i (Sm.plL b).length ep):=Heap.get?_update_self _ hit rfl
 refine wpAny_bind (wpAny_setField hit rfl (by simp) ?_)
 refine wpAny_bind (wpAny_setField (s:={s with heap:=s.heap.update it (Obj.mapFields (·.setIfInBounds 0 (rawInt ((vz w b (i+1):Nat):Int))))}) hJ rfl (by simp) ?_)
 exact wpAny_pure ⟨_,rfl,wpAny_pure (q _ (Heap.get?_update_self _ hJ rfl) ((Heap.SameBut.update ..).trans (Heap.SameBut.update ..)))⟩
theorem zk7 (S:Xe s.heap d b f o ep t) (hl:t.led=Yk w) (hh:A.handled=none) (hit:s.heap.get? it=some (zay d (vz w b i) i (Sm.plL b).length ep)) (hi:i=(Sm.plL b).length) {Q:Option Value->Shared->Prop} (q:∀h',Heap.ExtBut it s.heap h'->Q none {s with heap:=h'}):wpAny (model prog w) A (pyNext (.ref it)) Q E s:=by
 have ty:s.TypeIs (.ref it) "set_iterator":=⟨_,hit,rfl⟩
 have hsz:((Sm.pl b).map f).size=(Sm.plL b).length:=by rw[G9,Sm.pl_size]
 have he:(Yp w d ep ((Sm.pl b).map f))[i]? =none:=by
  rw[Array.getElem?_eq_none_iff]
  unfold Yp
  split
  ·have:=(Uv (w.params.setOrder d ep) ((Sm.pl b).map f)).length_eq
   rw[FC,FC] at this
   rw[this,hsz,hi]
   exact EE _
  ·rw[hsz,hi]
   exact EE _
 unfold pyNext
 refine wpAny_bind (wpAny_attempt (wpAny_callSpecial?_slot (name:=Str.ofString "__next__") ty wR (wpAny_call_entry wR ty WT ?_ (VP _))))
 unfold Builtin.«set_iterator.__next__»
 refine wpAny_bind (wpAny_of_eq (a:=(Value.ref it,[])) rfl ?_)
 dsimp only
 refine wpAny_bind (wpAny_fieldsOf hit rfl ?_)
 dsimp only
 refine wpAny_bind (wpAny_setEntries_of S.get S.data S.fits ?_)
 refine wpAny_ite_split (λz=>by rw[hsz] at z;simp at z) λ_=> ?_
 rw[Fw,Fw,Fw]
 refine wpAny_bind (zaz S hl (GL hi) ?_)
 rw[he]
 dsimp only[JY]
 refine wpAny_bind (wpAny_setField hit rfl (by simp) ?_)
 refine wpAny_bind (m:=newExc (.type "StopIteration") []) ?_
 simp only[newExc,newTuple]
 refine wpAny_bind (wpAny_newObj_type (wpAny_bind (m:=firstArgMember _ _) (wpAny_of_eq (a:=Value.none) (by first|rfl|(simp only[firstArgMember];rfl)) (wpAny_newObj_type ?_ (by size_fits)))) (by size_fits))
 simp only[raiseNew]
 refine wpAny_bind (wpAny_handled ?_)
 rw[show A.in1.handled=none from hh]
 refine wpAny_bind (wpAny_pure (wpAny_throw ?_))
 refine wpAny_bind (wpAny_isInstance (b:=true) (T:="StopIteration") ⟨_,Heap.get?_push_size _ rfl,rfl⟩ isSubtype_stop ?_)
 exact wpAny_pure (q _ (((Heap.SameBut.update ..).extBut.push _).push _))
theorem Xe.at_ {h h':Heap} (S:Xe h d b f o ep t) (e:∀o,h.get? d=some o->h'.get? d=some o):Xe h' d b f o ep t:=⟨e _ S.get,S.ex,S.data,S.tb,S.plain,S.lt,S.few⟩
theorem Xe.ord_size {h:Heap} (S:Xe h d b f o ep t):(Yp w d ep ((Sm.pl b).map f)).size=(Sm.plL b).length:=by
 have hsz:((Sm.pl b).map f).size=(Sm.plL b).length:=by rw[G9,Sm.pl_size]
 unfold Yp
 split
 ·have:=(Uv (w.params.setOrder d ep) ((Sm.pl b).map f)).length_eq
  rw[FC,FC] at this
  rw[this,hsz]
 ·exact hsz
def zma (w:World) (d:Addr) (b:Nat) (f:Nat->Int×Value) (o:Obj) (ep:Nat) (t:SetTable) (h:Heap):Prop:=Xe h d b f o ep t/\t.led=Yk w
theorem zdB (hit:s.heap.get? it=some (zay d (vz w b i) i (Sm.plL b).length ep)) {Q:Value->Shared->Prop} (q:Q (.ref it) s):wpAny (model prog w) A (pyIter (.ref it)) Q E s:=by
 have ty:s.TypeIs (.ref it) "set_iterator":=⟨_,hit,rfl⟩
 refine wpAny_pyIter_slot ty VQ (wpAny_call_entry VQ ty zbg ?_ (zct _))
 show wpAny _ _ (ret (.ref it)) _ _ s
 exact wpAny_pure ⟨_,rfl,"set_iterator",_,ty,wR.lookup,q⟩
theorem zhu (hh:A.handled=none) (I:Addr) (bZ:d≠I):Walks prog w A I [I,d] [I] (Sm.plL b).length (λi v=>∃e,(Yp w d ep ((Sm.pl b).map f))[i]? =some e/\v=e.2) (λi h=>h.get? I=some (zay d (vz w b i) i (Sm.plL b).length ep)/\zma w d b f o ep t h) where
 sub:=λb hb=>by simp at hb;simp[hb]
 frame:=λ_ _ _ st hk=>⟨hk I (by simp) _ st.1,st.2.1.at_ λo e=>hk d (by simp) o e,st.2.2⟩
 item:=λi s Q E hi st hQ=>by
  have cC:i<(Yp w d ep ((Sm.pl b).map f)).size:=by rw[st.2.1.ord_size];exact hi
  exact zi2 st.2.1 st.2.2 st.1 (GF cC) hi λh' qy dC=>hQ _ h' s.toks ⟨_,GF cC,rfl⟩ ⟨qy,st.2.1.at_ λo e=>dC.extBut d o bZ e,st.2.2⟩ λb o hb e=>dC.extBut b o (λh=>hb (by simp[h])) e
 done:=λs Q E st hQ=>zk7 st.2.1 st.2.2 hh st.1 rfl λh' Ct=>hQ h' s.toks λb o hb e=>Ct b o (λh=>hb (by simp[h])) e
 self:=λ_ _ _ _ st hQ=>zdB st.1 hQ
theorem zi3 {Q:Bool->Shared->Prop} (ty:s.TypeIs (.ref d) "set") (q:Q false s):wpAny (model prog w) A (Builtin.List.listLengthHint (.ref d)) Q E s:=by
 unfold Builtin.List.listLengthHint
 refine wpAny_bind (wpAny_specialOf ty F.slot_set_len.lookup ?_)
 generalize hid:("set.__len__":String)=lZ
 wp_delta
 rw[show splitId lZ=some ("set","__len__") from by subst hid;decide+kernel]
 subst hid
 refine wpAny_bind (wpAny_isInstance (T:="set") (b:=true) ty (by rw[isSubtype_type];kernel_rfl) ?_)
 refine wpAny_ite_split (λb6=>absurd b6 ∅) (λ_=> ?_)
 refine wpAny_ite_split (λ_=> ?_) (λb6=>absurd (by decide+kernel) b6)
 refine wpAny_bind (wpAny_typeOf ty ?_)
 exact wpAny_pure q
theorem zk8:KdlSrc prog w "set" d d (Sm.plL b).length (λi v=>∃e,(Yp w d ep ((Sm.pl b).map f))[i]? =some e/\v=e.2) (zma w d b f o ep t) where
 type:=λ_ x=>⟨o,x.1.get,x.1.ex.1⟩
 there:=λ_ x=>⟨Heap.lt_size x.1.get,Heap.lt_size x.1.get⟩
 keep:=λ_ _ x hk=>⟨x.1.at_ λo e=>hk d (.inl rfl) o e,x.2⟩
 notList:=by decide
 notTuple:=by decide
 hint:=λ_ _ _ _ x q=>zi3 ⟨o,x.1.get,x.1.ex.1⟩ q
 iter:=λ_ s hh x=>⟨_,_,(λ_ _ hq=>zi1 x.1 hq),zhu hh _ (EH (Heap.lt_size x.1.get)),by
  refine⟨?_,x.1.at_ λo e=>Heap.get?_push_of_some _ e,x.2⟩
  rw[Heap.get?_push_size _ rfl]
  unfold vz
  split<;>rfl⟩
end
mutual
noncomputable def enc:NK->List Int
 | .int a=>[1,a]
 | .str _=>[2]
 | .tup l=>3::xk l
noncomputable def xk:List NK->List Int
 |[]=>[0]
 |k::r=>enc k++xk r
end
mutual
noncomputable def cp:NK->NK->Bool
 | .int _,.int _=>true
 | .tup x,.tup y=>cpL x y
 |_,_=>false
noncomputable def cpL:List NK->List NK->Bool
 |a::x,b::y=>cp a b&&cpL x y
 |_,_=>true
end
theorem wG {a:Int} {x y:List Int}:ltL (a::x) (a::y)=ltL x y:=by rw[ltL,if_pos rfl]
theorem Yb {a b:Int} {x y:List Int} (h:a≠b):ltL (a::x) (b::y)=decide (a<b):=by rw[ltL,if_neg h]
theorem Xf (k:NK):∃t r,enc k=t::r/\0<t:=by
 cases k with
 |int a=>exact⟨1,[a],by rw[enc],∅⟩
 |str x=>exact⟨2,[],by rw[enc],∅⟩
 |tup l=>exact⟨3,xk l,by rw[enc],∅⟩
mutual
theorem zaA:∀(a b:NK),cp a b=true->∀r s,ltL (enc a++r) (enc b++s)=if a=b then ltL r s else ltL (enc a) (enc b)
 | .int a,.int b,_,r,s=>by
  rw[enc,enc]
  show ltL (1::a::r) (1::b::s)=if NK.int a=NK.int b then _ else ltL [1,a] [1,b]
  rw[wG,wG]
  by_cases h:a=b
  ·rw[h,if_pos rfl,wG]
  ·rw[if_neg (λz=>h (by injection z)),Yb h,Yb h]
 | .tup x,.tup y,h,r,s=>by
  unfold cp at h
  rw[enc,enc]
  show ltL (3::(xk x++r)) (3::(xk y++s))=if NK.tup x=NK.tup y then _ else ltL (3::xk x) (3::xk y)
  rw[wG,wG,zfk x y h r s]
  by_cases hx:x=y
  ·rw[if_pos hx,if_pos (by rw[hx])]
  ·rw[if_neg hx,if_neg (λz=>hx (by injection z))]
 | .int _,.str _,h,_,_=>by simp[cp] at h
 | .int _,.tup _,h,_,_=>by simp[cp] at h
 | .str _,.int _,h,_,_=>by simp[cp] at h
 | .str _,.str _,h,_,_=>by simp[cp] at h
 | .str _,.tup _,h,_,_=>by simp[cp] at h
 | .tup _,.int _,h,_,_=>by simp[cp] at h
 | .tup _,.str _,h,_,_=>by simp[cp] at h
theorem zfk:∀(x y:List NK),cpL x y=true->∀r s,ltL (xk x++r) (xk y++s)=if x=y then ltL r s else ltL (xk x) (xk y)
 |[],[],_,r,s=>by
  rw[xk,if_pos rfl]
  show ltL (0::r) (0::s)=_
  rw[wG]
 |[],b::y,_,r,s=>by
  rw[if_neg (by simp),xk,xk]
  obtain⟨t,q,e,ht⟩:=Xf b
  rw[e]
  show ltL (0::r) (t::(q++xk y++s))=ltL [0] (t::(q++xk y))
  rw[Yb ⋯,Yb ⋯]
 |a::x,[],_,r,s=>by
  rw[if_neg (by simp),xk,xk]
  obtain⟨t,q,e,ht⟩:=Xf a
  rw[e]
  show ltL (t::(q++xk x++r)) (0::s)=ltL (t::(q++xk x)) [0]
  rw[Yb ⋯,Yb ⋯]
 |a::x,b::y,h,r,s=>by
  unfold cpL at h
  rw[Gg] at h
  rw[xk,xk,GD,GD,zaA a b h.1,zaA a b h.1,zfk x y h.2 r s]
  by_cases b6:a=b
  ·rw[if_pos b6,if_pos b6]
   by_cases m9:x=y
   ·rw[if_pos m9,if_pos (by rw[b6,m9])]
   ·rw[if_neg m9,if_neg (λz=>m9 (by injection z))]
  ·rw[if_neg b6,if_neg b6,if_neg (λz=>b6 (by injection z))]
end
theorem zcu {a b:NK} {x y:List NK} (h:cp a b=true):ltL (xk (a::x)) (xk (b::y))=if a=b then ltL (xk x) (xk y) else ltL (enc a) (enc b):=by
 rw[xk,xk,zaA a b h]
theorem Ts {a b:NK} (h:cp a b=true) (e:enc a=enc b):a=b:=by
 have h1:=zaA a b h [0] [1]
 have h2:=zaA a b h [1] [0]
 rw[e] at h1 h2
 by_cases b6:a=b
 ·exact b6
 ·rw[if_neg b6] at h1 h2
  have k:∀l r s:List Int,ltL (l++r) (l++s)=ltL r s:=λl r s=>by
   induction l with
   |nil=>rfl
   |cons q l ih=>rw[FX,FX,wG,ih]
  rw[k] at h1
  rw[k] at h2
  rw[<-h1] at h2
  exact absurd h2 ∅
section
open PySem.SeqAt
open PySem.AutoSeq1 (wpAny_loadPart')
open PySem.MeetsSeq PySem.MeetsSeq2 PySem.MeetsSeq3
variable {prog:Program} {w:World} {E:Value->Shared->Prop}
theorem zaB {a c:Int}:ltL (enc (.int a)) (enc (.int c))=decide (a<c):=by
 rw[enc,enc,wG]
 by_cases h:a=c
 ·rw[h,wG]
  exact (decide_eq_false ⋯).symm
 ·exact Yb h
theorem zmb:∀(n:Nat) {A:Around} {s:Shared} {k j:NK} {v u:Value} {Q:Value->Shared->Prop},yv k<=n->A.units+n<cLine->cp k j=true->yT s.heap k v->yT s.heap j u->Q (.bool (ltL (enc k) (enc j))) s->wpAny (model prog w) A (richCompare .Lt v u) Q E s:=by
 intro n
 induction n with
 |zero=>
  intro A s k j v u Q hn hu hc hk hj h
  cases hk with
  |int a t=>
   cases hj with
   |int c t'=>rw[zaB] at h;exact HT.zc6 A s a t c t' prog w E Q h
   |str _ _=>simp[cp] at hc
   |tup _ _ _ _=>simp[cp] at hc
  |str _ _=>cases hj<;>simp[cp] at hc
  |tup _ _ _ _=>unfold yv at hn;omega
 |succ n ih=>
  intro A s k j v u Q hn hu hc hk hj h
  cases hk with
  |int a t=>
   cases hj with
   |int c t'=>rw[zaB] at h;exact HT.zc6 A s a t c t' prog w E Q h
   |str _ _=>simp[cp] at hc
   |tup _ _ _ _=>simp[cp] at hc
  |str _ _=>cases hj<;>simp[cp] at hc
  | @tup l o items m ks ho fA hd hi=>
   cases hj with
   |int _ _=>simp[cp] at hc
   |str _ _=>simp[cp] at hc
   | @tup b o' items' m' js dz jn gj cA=>
    have qN:cpL ks js=true:=by unfold cp at hc;exact hc
    have fg:wB ks<=n:=by unfold yv at hn;omega
    have z1:items.size=ks.length:=by have:=hi.len;simpa using this.symm
    have z2:items'.size=js.length:=by have:=cA.len;simpa using this.symm
    have h':Q (.bool (ltL (xk ks) (xk js))) s:=by rw[enc,enc,wG] at h;exact h
    obtain⟨cls,dd,data,sl⟩:=o
    obtain⟨Dw,Eo,data2,lT⟩:=o'
    simp only at fA hd jn gj
    subst fA hd jn gj
    refine wpAny_richCompare_same_room (T:="tuple") ⟨_,ho,rfl⟩ ⟨_,dz,rfl⟩ F.slot_tuple_lt (wpAny_call_entry F.slot_tuple_lt ⟨_,ho,rfl⟩ F.entry_tuple_lt ?_ (F.args_tuple_lt_2 _ _)) ⋯
    obtain⟨hp,g,d,tk,os⟩:=s
    have f2:=AutoSeq1.sub_tuple_tuple
    dsimp only at ho dz hi cA h'
    wp_walk using wpAny_loadPart' ho,wpAny_loadPart' dz,wpAny_forIn_list _ (λrest b s'=>b.1=none/\s'=⟨hp,g,d,tk,os⟩/\∃(vs ws:List Value) (xs ys:List NK),rest=vs.zip ws/\yx hp xs vs/\yx hp ys ws/\cpL xs ys=true/\(∀k∈xs,yv k<=n)/\xs.length+items'.size=ys.length+items.size/\Q (.bool (ltL (xk xs) (xk ys))) ⟨hp,g,d,tk,os⟩) _
    case turn=>
     rintro⟨y,x⟩ rest b s' ⟨jr,rfl,vs,ws,xs,ys,hz,pT,md,hZ,gR,hlen,hR⟩
     cases pT with
     |nil=>rw[Jk] at hz;cases hz
     | @cons ka va xs' vs' tY pS=>
      cases md with
      |nil=>rw[Jd] at hz;cases hz
      | @cons kb vb ys' ws' tX pQ=>
       rw[Gh] at hz
       injection hz with Be kc
       injection Be with hy hx
       subst hy hx
       unfold cpL at hZ
       rw[Gg] at hZ
       rw[zcu hZ.1] at hR
       simp only[F5] at hlen
       have kK:=gR ka (by simp)
       refine wpAny_bind (zfd n kK (by show A.units+1+n<cLine;omega) tY tX prog w _ _ ?_)
       by_cases b6:ka=kb
       ·rw[decide_eq_true b6]
        rw[if_pos b6] at hR
        wp_walk
        exact⟨rfl,rfl,_,_,_,_,kc,pS,pQ,hZ.2,λk hk=>gR k (ED _ hk),⋯,hR⟩
       ·rw[decide_eq_false b6]
        rw[if_neg b6] at hR
        refine wpAny_ite_split (λ_=> ?_) λz=>absurd rfl z
        dsimp only
        refine wpAny_bind (wpAny_rule (wpAny_bind (ih (s:=⟨hp,g,d,tk,os⟩) kK (by show A.units+1+n<cLine;omega) hZ.1 tY tX ?_)))
        refine wpAny_bind (wpAny_pure (wpAny_pure ?_))
        exact wpAny_pure ⟨_,rfl,nofun,hR⟩
    case fin=>
     rintro⟨b1,b2⟩ s' ⟨jr,rfl,vs,ws,xs,ys,hz,pT,md,hZ,gR,hlen,hR⟩
     simp only at jr
     subst jr
     have hv:ltL (xk xs) (xk ys)=decide (items.size<items'.size):=by
      cases pT with
      |nil=>
       cases md with
       |nil=>
        simp only[HC] at hlen
        rw[Yo]
        exact (decide_eq_false ⋯).symm
       | @cons kb _ _ _ _ _=>
        simp only[HC,F5] at hlen
        obtain⟨t,q,e,ht⟩:=Xf kb
        rw[xk,xk,e]
        show ltL [0] (t::_)=_
        rw[Yb ⋯,decide_eq_true ht]
        exact (decide_eq_true ⋯).symm
      | @cons ka _ _ _ _ _=>
       cases md with
       |nil=>
        simp only[HC,F5] at hlen
        obtain⟨t,q,e,ht⟩:=Xf ka
        rw[xk,xk,e]
        show ltL (t::_) [0]=_
        rw[Yb ⋯,decide_eq_false ⋯]
        exact (decide_eq_false ⋯).symm
       |cons _ _=>
        rw[Gh] at hz
        cases hz
     rw[hv] at hR
     wp_walk
     exact⟨_,rfl,nofun,by simpa [Builtin.Tuple.tupleCompareSizes] using hR⟩
    case h=>exact⟨rfl,rfl,items.toList,items'.toList,ks,js,rfl,hi,cA,qN,λk hk=>EW (wQ hk) fg,⋯,h'⟩
end
section
variable {prog:Program} {w:World} {A:Around} {E:Value->Shared->Prop} {s:Shared}
theorem zcv {C:Bool->Shared->Prop} {n:Nat} {fl:Bool} (hu:A.units+n<cLine):∀(x y:List NK) (xs ys:List Value) (i:Nat) (fin:Bool),(fl&&i==0)=false->yx s.heap x xs->yx s.heap y ys->cpL x y=true->(∀k∈x,yv k<=n)->fin=decide (x.length<y.length)->C (ltL (xk x) (xk y)) s->KatLex prog w A fl fin C (xs.zip ys) i s
 |[],y,_,ys,i,fin,_,.nil,hy,hc,hd,hf,h=>by
  rw[Jk]
  refine kat_nil ?_
  cases y with
  |nil=>rw[hf];rw[Yo] at h;exact h
  |cons b y=>
   obtain⟨t,q,e,ht⟩:=Xf b
   rw[xk,xk,e] at h
   have h:C (ltL [0] (t::(q++xk y))) s:=h
   rw[Yb ⋯,decide_eq_true ht] at h
   rw[hf]
   simpa using h
 |a::x,[],_,_,i,fin,_,hx,.nil,hc,hd,hf,h=>by
  rw[Jd]
  refine kat_nil ?_
  obtain⟨t,q,e,ht⟩:=Xf a
  rw[xk,xk,e] at h
  have h:C (ltL (t::(q++xk x)) [0]) s:=h
  rw[Yb ⋯,decide_eq_false ⋯] at h
  rw[hf]
  simpa using h
 |a::x,b::y,_,_,i,fin,cZ,.cons ha hx,.cons hb hy,hc,hd,hf,h=>by
  rw[Gh]
  unfold cpL at hc
  rw[Gg] at hc
  rw[zcu hc.1] at h
  have kK:=hd a (by simp)
  refine kat_cons (zfd n kK hu ha hb _ _ _ _ ?_)
  refine kat_go (λe=> ?_) λe=> ?_
  ·have e:a=b:=of_decide_eq_true e
   rw[if_pos e] at h
   exact kat_yes (zcv hu x y _ _ (i+1) fin (by simp) hx hy hc.2 (λk hk=>hd k (ED _ hk)) (by rw[hf];simp) h)
  ·have e:¬a=b:=of_decide_eq_false e
   rw[if_neg e] at h
   refine kat_no ?_
   rw[cZ]
   exact kat_one _ _ (zmb n kK hu hc.1 ha hb (by exact h))
def Xt (b:Bool):NK->Prop
 | .tup (.tup _::_)=>b=false
 | .tup (.int _::_)=>b=true
 |_=>False
def zdC (k:NK):Prop:=Xt false k
noncomputable def tyB (b:Bool):Value:=if b then .type "int" else .type "tuple"
theorem zbO {b:Bool} {vs:List Value} {ks:List NK} (hl:ks.length=vs.length) (nd:ks.Nodup) (jm:∀a∈ks,∀b∈ks,cp a b=true) (qL:∀k∈ks,yv k<=8) (gG:∀k∈ks,Xt b k) (hu:A.units+8<cLine)
  (h:∀(i:Nat) k,ks[i]? =some k->∃a,vs[i]? =some (.ref a)/\yT s.heap k (.ref a)) (h2:2<=vs.length):zer prog w A (wx (ks.map enc)) vs s:=by
 have nd':(ks.map enc).Nodup:=by
  rw[Gf,Fh]
  exact FT (λha hb b6 e=>b6 (Ts (jm _ ha _ hb) e)) nd
 have firsts:∃fs:List Value,KatTups s.heap vs fs/\fs.length=vs.length/\∀v∈fs,(b=true/\∃i t,v=Value.int i t)\/(b=false/\∃a o,v=Value.ref a/\s.heap.get? a=some o/\o.cls= .type "tuple"):=by
  have key:∀(vs:List Value) (ks:List NK),ks.length=vs.length->(∀k∈ks,Xt b k)->(∀(i:Nat) k,ks[i]? =some k->∃a,vs[i]? =some (.ref a)/\yT s.heap k (.ref a))->∃fs:List Value,KatTups s.heap vs fs/\fs.length=vs.length/\∀v∈fs,(b=true/\∃i t,v=Value.int i t)\/(b=false/\∃a o,v=Value.ref a/\s.heap.get? a=some o/\o.cls= .type "tuple"):=by
   intro vs
   induction vs with
   |nil=>intro ks _ _ _;exact⟨[],KatTups.nil,rfl,by simp⟩
   |cons v vs ih=>
    intro ks hl gG h
    cases ks with
    |nil=>simp at hl
    |cons k ks=>
     obtain⟨fs,k1,k2,k3⟩:=ih ks (by simpa using hl) (λk hk=>gG k (by simp[hk])) λi k' e=>by
      have:=h (i+1) k' (by simpa using e)
      simpa using this
     obtain⟨a,e1,e2⟩:=h 0 k rfl
     have e1:v= .ref a:=by simpa using e1
     subst e1
     have hk:=gG k (by simp)
     cases e2 with
     | @tup _ o items m l ho hc hd hi=>
      cases l with
      |nil=>exact hk.elim
      |cons k0 l=>
       generalize hL:items.toList=L at hi
       cases hi with
       | @cons _ f _ _ hf _=>
        have qF:items[0]? =some f:=by rw[<-FQ,hL];rfl
        refine⟨f::fs,KatTups.cons ho hc hd (f:=f) qF k1,by simp[k2],λv hv=> ?_⟩
        rcases EJ.1 hv with rfl|hv
        ·cases hf with
         |int i t=>exact .inl ⟨hk,i,t,rfl⟩
         |str x t=>exact hk.elim
         | @tup b' o' _ _ _ dz cI _ _=>exact .inr ⟨hk,b',o',rfl,dz,cI⟩
        ·exact k3 v hv
  exact key vs ks hl gG h
 obtain⟨fs,k1,k2,k3⟩:=firsts
 refine⟨tuples' (tyB b !=Value.type "tuple"),λQ q=>kat_kind k1 ⋯ (T:=tyB b) (λv hv=> ?_) (by cases b<;>decide) q,λi j C jJ uw er hc=> ?_⟩
 ·rcases k3 v hv with⟨rfl,i,t,rfl⟩|⟨rfl,a,o,rfl,ho,fA⟩
  ·exact .now
  ·rw[show tyB false=o.cls from fA.symm]
   exact (Looks.ld ho).andThen .now
 ·have dR:i<ks.length:=by omega
  have fV:j<ks.length:=by omega
  obtain⟨a,e1,e2⟩:=h i ks[i] (Er dR)
  obtain⟨a',g1,g2⟩:=h j ks[j] (Er fV)
  have r:=Wy nd' (by rw[Eu];exact dR) (by rw[Eu];exact fV) er
  have ei:(ks.map enc).getD i []=enc ks[i]:=by rw[Ew,EB,Er dR];rfl
  have ej:(ks.map enc).getD j []=enc ks[j]:=by rw[Ew,EB,Er fV];rfl
  rw[ei,ej] at r
  have iK:=jm _ (EK dR) _ (EK fV)
  have uF:=qL _ (EK dR)
  have gH:=gG _ (EK dR)
  have iY:=gG _ (EK fV)
  generalize ks[i]=k at e2 r iK uF gH
  generalize ks[j]=k' at g2 r iK iY
  unfold kas_ask
  rw[show vs.getD i Value.none= .ref a by rw[Ew,e1];rfl,show vs.getD j Value.none= .ref a' by rw[Ew,g1];rfl]
  rw[show (tyB b !=Value.type "tuple")=b by cases b<;>decide]
  cases e2 with
  | @tup _ o items m l ho fA hd hi=>
   cases g2 with
   | @tup _ o' items' m' l' dz jn gj cA=>
    have z1:items.size=l.length:=by have:=hi.len;simpa using this.symm
    have z2:items'.size=l'.length:=by have:=cA.len;simpa using this.symm
    have fg:wB l<=7:=by unfold yv at uF;omega
    rw[enc,enc,wG] at r
    rw[<-r] at hc
    unfold cp at iK
    refine kat_lt ho hd dz gj ?_
    rw[z1,z2]
    cases b with
    |false=>exact zcv (n:=7) ⋯ _ _ _ _ 0 _ rfl hi cA iK (λk hk=>EW (wQ hk) fg) rfl hc
    |true=>
     generalize items.toList=B4 at hi ⊢
     generalize items'.toList=bU at cA ⊢
     cases hi with
     |nil=>exact gH.elim
     | @cons k0 f l0 _ hf hi=>
      cases cA with
      |nil=>exact iY.elim
      | @cons DP f' DM _ Cp cA=>
       cases hf with
       |str _ _=>exact gH.elim
       |tup _ _ _ _=>exact absurd gH (by simp[Xt])
       |int x t=>
        cases Cp with
        |str _ _=>exact iY.elim
        |tup _ _ _ _=>exact absurd iY (by simp[Xt])
        |int y t'=>
         rw[Gh]
         unfold cpL at iK
         rw[Gg] at iK
         rw[zcu iK.1] at hc
         refine kat_cons (wpAny_eqBool_int ?_)
         refine kat_go (λe=> ?_) λe=> ?_
         ·have e:x=y:=by simpa using e
          rw[if_pos (by rw[e])] at hc
          exact kat_yes (zcv (n:=7) ⋯ _ _ _ _ 1 _ rfl hi cA iK.2 (λk hk=>EW (wQ (ED _ hk)) fg) (by simp) hc)
         ·have e:¬x=y:=by simpa using e
          rw[if_neg (λz=>e (by injection z)),zaB] at hc
          exact kat_no (kat_lt_int hc)
theorem zhv {vs:List Value} {ks:List NK} (hl:ks.length=vs.length) (nd:ks.Nodup) (jm:∀a∈ks,∀b∈ks,cp a b=true) (qL:∀k∈ks,yv k<=8) (gG:∀k∈ks,zdC k) (hu:A.units+8<cLine)
  (h:∀(i:Nat) k,ks[i]? =some k->∃a,vs[i]? =some (.ref a)/\yT s.heap k (.ref a)) (h2:2<=vs.length):zer prog w A (wx (ks.map enc)) vs s:=zbO hl nd jm qL gG hu h h2
end
theorem zaC {α β:Type} {f:α->β} {l':List β} {l:List α} (h:l'.Perm (l.map f)):∃m:List α,m.Perm l/\l'=m.map f:=by
 generalize e:l.map f=q at h
 induction h generalizing l with
 |nil=>exact⟨[],by rw[List.map_eq_nil_iff.1 e],rfl⟩
 | @cons x l1 l2 _ ih=>
  obtain⟨a,r,rfl,rfl,e2⟩:=HE.1 e
  obtain⟨m,h1,h2⟩:=ih e2
  exact⟨a::m,h1.cons a,by rw[Ey,h2]⟩
 | @swap x y l1=>
  obtain⟨a,r,rfl,rfl,e2⟩:=HE.1 e
  obtain⟨c,r2,rfl,rfl,e3⟩:=HE.1 e2
  exact⟨c::a::r2,JN ..,by rw[Ey,Ey,e3]⟩
 |trans _ _ B6 pB=>
  obtain⟨m,h1,h2⟩:=pB e
  obtain⟨m2,h3,h4⟩:=B6 h2.symm
  exact⟨m2,h3.trans h1,h4⟩
theorem Uw {is:List (List Int)} (nd:is.Nodup):((Ya is).map λi=>is.getD i []).Pairwise λa b=>ltL a b=true:=by
 have h1:=zdw is
 have hp:=vD is
 have hn:(Ya is).Nodup:=hp.nodup_iff.2 Hu
 rw[Fh] at h1 ⊢
 have h3:=Kb h1 hn
 refine FT (λ{a b} ha hb b6=> ?_) h3
 have hi:a<is.length:=by have:=hp.mem_iff.1 ha;simpa using this
 have hj:b<is.length:=by have:=hp.mem_iff.1 hb;simpa using this
 rw[Wy nd hi hj b6.2]
 have h4:=Wy nd hj hi (GP b6.2)
 refine decide_eq_true ?_
 have hle:=b6.1
 by_cases h:wx is a<wx is b
 ·exact h
 ·exfalso
  have he:wx is a=wx is b:=by omega
  have r1:=Wy nd hi hj b6.2
  rw[he,decide_eq_false ⋯] at r1
  rw[he,decide_eq_false ⋯] at h4
  have bZ:is.getD a []≠is.getD b []:=λz=>b6.2 ((FW nd (h₀:=hi) (h₁:=hj)).1 (by simpa [Ew,hi,hj] using z))
  have:=Tr _ _ bZ
  rw[r1,h4] at this
  cases this
section
variable {prog:Program} {w:World} {A:Around} {E:Value->Shared->Prop} {s:Shared}
theorem zf9 {S:Addr} {P:Nat->Value->Prop} {ks:List NK} {Q:Value->Shared->Prop} (hh:A.handled=none) (hu:A.units+12<cLine) (hA:zdz w P ks s.heap S (Yk w) ks.length) (jm:∀a∈ks,∀b∈ks,cp a b=true) (gG:∀k∈ks,zdC k)
  (h:∀(D:Addr) (h':Heap) (tk e:Nat) (outs:List (NK×Value)),(∀b o,s.heap.get? b=some o->h'.get? b=some o)->s.heap.objs.size<=D->h'.get? D=some (seqObj "list" (FR (outs.map (·.2))) e)->(outs.map λx=>enc x.1).Pairwise (λa b=>ltL a b=true)->(∀k,(∃x∈outs,x.1=k)↔k∈ks)->(∀x∈outs,∃p,ks[p]? =some x.1/\P p x.2)->Q (.ref D) {s with heap:=h',toks:=tk}):
  wpAny (model prog w) A (call (.builtin "sorted") [.ref S]) Q E s:=by
 obtain⟨b,f,kf,o,ep,t,hS,gi,hlen,eE,fJ⟩:=hA
 have h4:=hS.few
 obtain⟨ord,aL,qb⟩:∃ord:List Nat,ord.Perm (Sm.plL b)/\(Yp w S ep ((Sm.pl b).map f)).toList=ord.map f:=by
  unfold Yp
  split
  ·have:=Uv (w.params.setOrder S ep) ((Sm.pl b).map f)
   rw[GZ] at this
   exact zaC this
  ·exact⟨Sm.plL b,List.Perm.refl _,by rw[GZ];rfl⟩
 have aC:∀j∈ord,j<8/\Sm.inB b j=true:=λj hj=>by
  have:=Gm.1 (aL.mem_iff.1 hj)
  exact⟨Fx.1 this.1,this.2⟩
 have gK:ord.Nodup:=aL.nodup_iff.2 (JZ _ Hu)
 have fI:ord.length=(Sm.plL b).length:=aL.length_eq
 have hB:∀j∈ord,kf j∈ks:=λj hj=>by
  obtain⟨p,_,e,_⟩:=fJ j (aC j hj).1 (aC j hj).2
  exact EA e
 have jB:(ord.map kf).Nodup:=by
  rw[Gf,Fh]
  exact FT (λha hb b6 e=>b6 (hS.inj _ (aC _ ha).1 _ (aC _ hb).1 (aC _ ha).2 (aC _ hb).2 e)) gK
 have kM:∀a∈ord.map kf,∀c∈ord.map kf,cp a c=true:=λa ha c hc=>by
  obtain⟨j,hj,rfl⟩:=Ez.1 ha
  obtain⟨j',dq,rfl⟩:=Ez.1 hc
  exact jm _ (hB j hj) _ (hB j' dq)
 have tf:((ord.map kf).map enc).Nodup:=by
  rw[Gf,Fh]
  exact FT (λha hb b6 e=>b6 (Ts (kM _ ha _ hb) e)) jB
 have valAt:∀(i:Nat) v,(∃e,(Yp w S ep ((Sm.pl b).map f))[i]? =some e/\v=e.2)->∃j,ord[i]? =some j/\v=(f j).2:=by
  rintro i v ⟨e,he,rfl⟩
  rw[<-FQ,qb,EB] at he
  cases hj:ord[i]? with
  |none=>rw[hj] at he;cases he
  |some j=>rw[hj] at he;cases he;exact⟨j,rfl,rfl⟩
 refine zdx (zk8 (b:=b) (f:=f) (o:=o) (ep:=ep) (t:=t)) hh ⟨hS.raw,gi⟩ ⋯ (wx ((ord.map kf).map enc)) (λvs hv hp h2 g tk hg=> ?_) λD h' tk e vs p hv hp pm fR kp hD dS=> ?_
 ·refine zhv (by rw[Eu,fI,hv]) jB kM (λk hk=> ?_) (λk hk=> ?_) (by show A.units+1+1+8<cLine;omega) (λi k e=> ?_) ⋯
  ·obtain⟨j,hj,rfl⟩:=Ez.1 hk
   exact (hS.keys j (aC j hj).1 (aC j hj).2).2.2
  ·obtain⟨j,hj,rfl⟩:=Ez.1 hk
   exact gG _ (hB j hj)
  ·rw[EB] at e
   cases hj:ord[i]? with
   |none=>rw[hj] at e;cases e
   |some j=>
    rw[hj] at e
    cases e
    have hi:i<vs.length:=by rw[hv,<-fI];exact (Es.1 hj).1
    obtain⟨j',dq,pR⟩:=valAt i _ (hp i _ (Er hi))
    rw[hj] at dq
    cases dq
    have uv:=aC j (EA hj)
    obtain⟨_,⟨c,hc,hk⟩,_⟩:=hS.keys j uv.1 uv.2
    exact⟨c,by rw[Er hi,pR,hc],hk.grow hg⟩
 ·have je:((ord.map kf).map enc).length=(Sm.plL b).length:=by rw[Eu,Eu,fI]
  rw[<-je] at pm fR
  have rj:=zfe tf pm fR
  have fY:∀i∈Ya ((ord.map kf).map enc),i<ord.length:=λi hi=>by
   have:=(vD ((ord.map kf).map enc)).mem_iff.1 hi
   rw[Fx,je,<-fI] at this
   exact this
  have at_:∀i (hi:i<ord.length),(ord.map kf).getD i (.int 0)=kf ord[i]/\vs.getD i Value.none=(f ord[i]).2/\((ord.map kf).map enc).getD i []=enc (kf ord[i]):=λi hi=>by
   have hj:=Er hi
   refine⟨by rw[Ew,EB,hj];rfl,?_,by rw[Ew,EB,EB,hj];rfl⟩
   have dR:i<vs.length:=by rw[hv,<-fI];exact hi
   obtain⟨j',dq,pR⟩:=valAt i _ (hp i _ (Er dR))
   rw[hj] at dq
   cases dq
   rw[Ew,Er dR]
   exact pR
  refine h D h' tk e ((Ya ((ord.map kf).map enc)).map λi=>((ord.map kf).getD i (.int 0),vs.getD i Value.none)) kp hD ?_ ?_ (λk=>⟨?_,λhk=> ?_⟩) (λx hx=> ?_)
  ·have e0:∀l:List Nat,(l.map λi=>vs.getD i Value.none)=(l.map λi=>((ord.map kf).getD i (.int 0),vs.getD i Value.none)).map (·.2):=λl=>by
    induction l with
    |nil=>rfl
    |cons q l ih=>rw[Ey,Ey,Ey,ih]
   rw[dS,rj,e0]
  ·have e0:∀l:List Nat,(∀i∈l,i<ord.length)->(l.map λi=>((ord.map kf).getD i (.int 0),vs.getD i Value.none)).map (λx=>enc x.1)=l.map λi=>((ord.map kf).map enc).getD i []:=λl=>by
    induction l with
    |nil=>intro _;rfl
    |cons q l ih=>
     intro hl
     rw[Ey,Ey,Ey,ih λi hi=>hl i (ED _ hi)]
     have:=at_ q (hl q (EG ..))
     show enc ((ord.map kf).getD q (.int 0))::_=_
     rw[this.1,this.2.2]
   rw[e0 _ fY]
   exact Uw tf
  ·rintro⟨x,hx,rfl⟩
   obtain⟨i,hi,rfl⟩:=Ez.1 hx
   show (ord.map kf).getD i (.int 0)∈ks
   rw[(at_ i (fY i hi)).1]
   exact hB _ (EK _)
  ·obtain⟨p',jF,e'⟩:=Gv hk
   obtain⟨j,hj,qz,eY⟩:=eE p' jF k (by rw[Er jF,e'])
   have BQ:j∈ord:=aL.mem_iff.2 (Gm.2 ⟨Fx.2 hj,qz⟩)
   obtain⟨i,hi,e2⟩:=Gv BQ
   refine⟨_,Ez.2 ⟨i,(vD _).mem_iff.2 (Fx.2 (by rw[je,<-fI];exact hi)),rfl⟩,?_⟩
   show (ord.map kf).getD i (.int 0)=k
   rw[(at_ i hi).1,e2,eY]
  ·obtain⟨i,hi,rfl⟩:=Ez.1 hx
   have mr:=fY i hi
   obtain⟨p',_,e1,e2⟩:=fJ ord[i] (aC _ (EK mr)).1 (aC _ (EK mr)).2
   refine⟨p',?_,?_⟩
   ·show ks[p']? =some ((ord.map kf).getD i (.int 0))
    rw[(at_ i mr).1];exact e1
   ·show P p' (vs.getD i Value.none)
    rw[(at_ i mr).2.1];exact e2
end
def Yc (l:List NK):Prop:=(l.map enc).Pairwise λa b=>ltL a b=true
theorem zdD:∀{l m:List NK},Yc l->Yc m->(∀k,k∈l↔k∈m)->l=m
 |[],[],_,_,_=>rfl
 |[],b::m,_,_,h=>absurd ((h b).2 (EG ..)) (by simp)
 |a::l,[],_,_,h=>absurd ((h a).1 (EG ..)) (by simp)
 |a::l,b::m,h1,h2,h=>by
  unfold Yc at h1 h2
  rw[Ey,List.pairwise_cons] at h1 h2
  obtain⟨a1,a2⟩:=h1
  obtain⟨b1,b2⟩:=h2
  have la:∀k∈l,ltL (enc a) (enc k)=true:=λk hk=>a1 _ (Ez.2 ⟨k,hk,rfl⟩)
  have lb:∀k∈m,ltL (enc b) (enc k)=true:=λk hk=>b1 _ (Ez.2 ⟨k,hk,rfl⟩)
  have e:a=b:=by
   apply FP
   intro ne
   have ha:a∈m:=by
    rcases EJ.1 ((h a).1 (EG ..)) with z|z
    ·exact absurd z ne
    ·exact z
   have hb:b∈l:=by
    rcases EJ.1 ((h b).2 (EG ..)) with z|z
    ·exact absurd z.symm ne
    ·exact z
   have:=zex _ _ _ (la b hb) (lb a ha)
   rw[Yo] at this
   cases this
  subst e
  have na:∀{q:List NK},(∀k∈q,ltL (enc a) (enc k)=true)->a∉q:=λhq z=>by
   have:=hq a z
   rw[Yo] at this
   cases this
  rw[zdD (l:=l) (m:=m) a2 b2 λk=>⟨λhk=> ?_,λhk=> ?_⟩]
  ·rcases EJ.1 ((h k).1 (ED _ hk)) with rfl|z
   ·exact absurd hk (na la)
   ·exact z
  ·rcases EJ.1 ((h k).2 (ED _ hk)) with rfl|z
   ·exact absurd hk (na lb)
   ·exact z
open Classical in
noncomputable def wW (ks:List NK):List NK:=if h:∃l,Yc l/\∀k,k∈l↔k∈ks then Classical.choose h else []
theorem zaD {ks l:List NK} (h:Yc l) (e:∀k,k∈l↔k∈ks):wW ks=l:=by
 have hx:∃l,Yc l/\∀k,k∈l↔k∈ks:=⟨l,h,e⟩
 unfold wW
 rw[dif_pos hx]
 exact zdD (IY hx).1 h λk=>((IY hx).2 k).trans (e k).symm
structure KOk (b:Bool) (ks:List NK):Prop where
 cmp:∀x∈ks,∀y∈ks,cp x y=true
 dep:∀k∈ks,yv k<=8
 fst:∀k∈ks,Xt b k
section
variable {X:Cx}
def Zs (K:Et) (H:Hp) (ys:List V) (ks:List NK) (outs:List (NK×V)):Prop:=Yc (outs.map (·.1))/\(∀k,k∈outs.map (·.1)↔k∈ks)/\∀x∈outs,∃p:Nat,ks[p]? =some x.1/\ys[p]? =some x.2
def zdE (K:Et) (te:TE):TE:=λσ H Q=>te σ H λx H1=>∃p ys ks,x= .ref p/\SqX K H1 p ys/\WJ K H1 ys ks/\ks.length<=4/\KOk false ks/\(∀k∈ks,ZN k=true)/\∀l outs,Zs K H1 ys ks outs->H1 l=none->Q (.ref l) (upd H1 l (.lst (outs.map (·.2))))
theorem WJ.at_ {K:Et} {H:Hp}:∀{vs:List V} {ks:List NK},WJ K H vs ks->ks.length=vs.length/\∀(i:Nat) k,ks[i]? =some k->∃v,vs[i]? =some v/\NIs K H v k
 |_,_,.nil=>⟨rfl,λi k e=>by simp at e⟩
 |_,_,.cons h l=>by
  obtain⟨e,f⟩:=l.at_
  refine⟨by simp[e],λi k hk=> ?_⟩
  cases i with
  |zero=>simp at hk;subst hk;exact⟨_,rfl,h⟩
  |succ i=>exact f i k (by simpa using hk)
theorem NIs.isRef {K:Et} {H:Hp} {b:Bool} {v:V} {k:NK} (h:NIs K H v k) (f:Xt b k):∃a,v= .ref a:=by
 cases h with
 |int _=>exact f.elim
 |str _=>exact f.elim
 |tup _ _=>exact⟨_,rfl⟩
theorem VR:∀{ys:List V} {ae:List Value},zY ys ae->∀{i:Nat} {v:V},ys[i]? =some v->∃u,ae[i]? =some u/\zP v u
 |_,_,.nil,_,_,e=>by simp at e
 |_,_,.cons h _,0,_,e=>by simp at e;subst e;exact⟨_,rfl,h⟩
 |_,_,.cons _ l,i+1,_,e=>by
  obtain⟨u,e1,e2⟩:=VR l (i:=i) (by simpa using e)
  exact⟨u,by simpa using e1,e2⟩
theorem zey {m:Nat} {K:Et} {e:Expr} {te:TE} {p p2 pos dG:Pos} (hr:vV m X.A) (hc:X.calm=true) (hg:Gl X "sorted") (hm:X.mg "sorted"=none) (ji:Gl X "set") (ku:X.mg "set"=none) (ha:PE X e te) (hK:X.K=K:=by rfl)
  (jk:starEach [e] X.env=[(false,eval e X.env)]:=by rfl) (he:starEach [.Call (.Name "set" p2) [e] [] dG] X.env=[(false,eval (.Call (.Name "set" p2) [e] [] dG) X.env)]:=by rfl):
  PE X (.Call (.Name "sorted" p) [.Call (.Name "set" p2) [e] [] dG] [] pos) (zdE K te):=by
 subst hK
 intro pins s σ H Q I h
 have hu:X.A.units+41<cLine:=FA ⋯ hr.units
 refine wpAny_Call_Name_kw (Yw I hg hm Boot.«sorted» ?_ ∅ ∅)
 refine HB ?_ he rfl
 rw[he]
 show wpAny _ _ (spliced ((false,eval (.Call (.Name "set" p2) [e] [] dG) X.env)::backTo pos [])) _ _ s
 refine Calls.spliced_cons ?_
 refine wpAny_Call_Name_kw (Yw I ji ku Boot.«set» ?_ ∅ ∅)
 refine FU ?_ jk rfl
 refine thn (za ha zg jk dG pins s σ H (λvs H1=>∃p ys ks,vs=[.ref p]/\SqX X.K H1 p ys/\WJ X.K H1 ys ks/\ks.length<=4/\KOk false ks/\(∀k∈ks,ZN k=true)/\∀l outs,Zs X.K H1 ys ks outs->H1 l=none->Q (.ref l) (upd H1 l (.lst (outs.map (·.2))))) I ?_) λus s1 ⟨vs,H1,I1,r1,q1⟩=> ?_
 ·have h:te σ H λx H1=>∃p ys ks,x= .ref p/\SqX X.K H1 p ys/\WJ X.K H1 ys ks/\ks.length<=4/\KOk false ks/\(∀k∈ks,ZN k=true)/\∀l outs,Zs X.K H1 ys ks outs->H1 l=none->Q (.ref l) (upd H1 l (.lst (outs.map (·.2)))):=h
  show te σ H λx H1=>∃p ys ks,[x]=[V.ref p]/\SqX X.K H1 p ys/\WJ X.K H1 ys ks/\ks.length<=4/\KOk false ks/\(∀k∈ks,ZN k=true)/\∀l outs,Zs X.K H1 ys ks outs->H1 l=none->Q (.ref l) (upd H1 l (.lst (outs.map (·.2))))
  simpa only[IG,and_true] using h
 obtain⟨p,ys,ks,rfl,hq,hn,h4,ok,gJ,q⟩:=q1
 obtain⟨u,rfl,ru⟩:=ZZ r1
 cases ru
 obtain⟨z,ae,n,r,hl,e1⟩:=I1.lstR hq
 have hL:s1.heap.IsList p ae.toArray:=⟨_,e1,rfl,n,rfl⟩
 obtain⟨mj,dS⟩:=hn.at_
 have Bg:ae.length=ys.length:=r.length.symm
 have i5:ae.toArray.size=ks.length:=by rw[F1];omega
 refine zi0 (ks:=ks) (I1.ok.hd hc) ⋯ hL i5.symm ⋯ (λi v hv=> ?_) λh' tk hS hk ht=> ?_
 ·have hi:i<ks.length:=by
   rw[<-i5]
   exact (HS.1 hv).1
  obtain⟨v',e2,e3⟩:=dS i _ (Er hi)
  obtain⟨u,e4,e5⟩:=VR r e2
  have Bj:ae[i]? =some v:=by simpa using hv
  rw[Bj] at e4
  cases e4
  obtain⟨a,rfl⟩:=e3.isRef (ok.fst _ (EK hi))
  have e6:v=Value.ref a:=e5
  exact⟨_,a,Er hi,e6,by rw[<-e6];exact e3.isNK I1 e5,ok.dep _ (EK hi),gJ _ (EK hi)⟩
 refine Calls.spliced_nil ?_
 rw[show ae.toArray.size=ks.length from i5] at hS
 refine zf9 (s:={s1 with heap:=h',toks:=tk}) (I1.ok.hd hc) ⋯ hS ok.cmp ok.fst λD h2 x9 e outs kp hD jt g9 aC fJ=> ?_
 have kept:∀b o,s1.heap.get? b=some o->h2.get? b=some o:=λb o e=>kp b o (hk b o e)
 have hsz:s1.heap.objs.size<=D:=by
  refine EW ?_ hD
  obtain⟨_,_,_,_,_,_,CM,_⟩:=hS
  exact Fc (Heap.lt_size CM.get)
 have hex:∀outs:List (NK×Value),(∀x∈outs,∃p:Nat,ks[p]? =some x.1/\ae.toArray[p]? =some x.2)->∃os:List (NK×V),os.map (·.1)=outs.map (·.1)/\zY (os.map (·.2)) (outs.map (·.2))/\∀x∈os,∃p:Nat,ks[p]? =some x.1/\ys[p]? =some x.2:=by
  intro outs
  induction outs with
  |nil=>intro _;exact⟨[],rfl,.nil,by simp⟩
  |cons o outs ih=>
   intro ho
   obtain⟨os,f1,f2,f3⟩:=ih λx hx=>ho x (ED _ hx)
   obtain⟨p,g1,g2⟩:=ho o (EG ..)
   obtain⟨v,e2,e3⟩:=dS p _ g1
   obtain⟨u,e4,e5⟩:=VR r e2
   have g2:ae[p]? =some o.2:=by simpa using g2
   rw[g2] at e4
   cases e4
   refine⟨(o.1,v)::os,by simp[f1],.cons e5 f2,λx hx=> ?_⟩
   rcases EJ.1 hx with rfl|hx
   ·exact⟨p,g1,e2⟩
   ·exact f3 x hx
 obtain⟨os,f1,f2,f3⟩:=hex outs fJ
 have kU:Zs X.K H1 ys ks os:=by
  refine⟨?_,λk=> ?_,f3⟩
  ·unfold Yc
   rw[f1,Fj]
   exact g9
  ·rw[f1,Ez]
   exact aC k
 refine⟨.ref D,_,I1.laid (o:= .lst (os.map (·.2))) (t':=x9) kept hsz ⟨?_,outs.map (·.2),e,f2,?_⟩,rfl,q _ os kU (I1.hok.fresh hsz)⟩
 ·have gK:(os.map (·.1)).Nodup:=by
   have:=kU.1
   unfold Yc at this
   rw[Fh] at this
   exact this.imp λ{a b} h e=>by subst e;rw[Yo] at h;cases h
  have:=gK.length_le_of_subset (l₂:=ks) λk hk=>(kU.2.1 k).1 hk
  rw[Eu] at this ⊢
  exact EW (EW this h4) ∅
 ·rw[jt]
def zhw (K:Et) (b:Bool):List V->Hp->VK->Prop:=λxs H Q=>∃(p:Addr) (ys:List V) (ks:List NK),xs=[.ref p]/\SqL K H p ys/\WJ K H ys ks/\ks.length<64/\KOk b ks/\ks.Nodup/\∀l outs,Zs K H ys ks outs->outs.length=ks.length->H l=none->Q (.ref l) (upd H l (.lst (outs.map (·.2))))
def zk9 (K:Et) (b:Bool) (R:Hp->V->NK->Prop):List V->Hp->VK->Prop:=λxs H Q=>∃(p:Addr) (ys:List V) (ks:List NK),xs=[.ref p]/\SqL K H p ys/\ks.length=ys.length/\(∀(i:Nat) k,ks[i]? =some k->∃v,ys[i]? =some v/\R H v k)/\ks.length<64/\KOk b ks/\ks.Nodup/\∀l outs,Zs K H ys ks outs->outs.length=ks.length->H l=none->Q (.ref l) (upd H l (.lst (outs.map (·.2))))
theorem zez {b:Bool} {K:Et} {R:Hp->V->NK->Prop} (hK:X.K=K)
  (hA:∀{pins:List (Addr×Obj)} {s:Shared} {σ:St} {H:Hp} {ys:List V} {ks:List NK} {ae:List Value},Inv X pins σ H s->zY ys ae->(∀(i:Nat) k,ks[i]? =some k->∃v,ys[i]? =some v/\R H v k)->ae.length=ks.length->KOk b ks->ks.Nodup->2<=ae.length->∀g,(∀c o,s.heap.get? c=some o->g.get? c=some o)->zer X.prog X.w X.A.in1.in1 (wx (ks.map enc)) ae {s with heap:=g}):vF X (.builtin "sorted") (zk9 K b R):=by
 subst hK
 intro pins s σ H xs us Q I r h
 obtain⟨p,ys,ks,rfl,hq,mj,dS,cP,ok,nd,q⟩:=h
 obtain⟨u,rfl,ru⟩:=ZZ r
 cases ru
 obtain⟨ae,rv,pl,hz⟩:=I.list hq
 have Bg:ae.length=ys.length:=rv.length.symm
 have hlen:ae.length=ks.length:=by omega
 have nd':(ks.map enc).Nodup:=by
  rw[Gf,Fh]
  exact FT (λha hb b6 e=>b6 (Ts (ok.cmp _ ha _ hb) e)) nd
 refine zes (wx (ks.map enc)) pl.isList (by rw[hlen];exact cP) (λh2 g hg=>hA I rv dS hlen ok nd h2 g hg) λp pm fR=> ?_
 have ml:(ks.map enc).length=ae.length:=by rw[Eu];omega
 rw[<-ml] at pm fR
 have ep:=zfe nd' pm fR
 rw[ep]
 have aL:=vD (ks.map enc)
 have iR:∀i∈Ya (ks.map enc),i<ks.length:=λi hi=>by
  have:=aL.mem_iff.1 hi
  rw[Fx,Eu] at this
  exact this
 obtain⟨rj,he⟩:=sortedAll_at s.heap ae (FR ((Ya (ks.map enc)).map λi=>ae.getD i Value.none))
 have fI:(Ya (ks.map enc)).length=ks.length:=by rw[aL.length_eq,Hr,Eu]
 have kU:Zs X.K H ys ks ((Ya (ks.map enc)).map λi=>(ks.getD i (.int 0),ys.getD i .non)):=by
  have e0:((Ya (ks.map enc)).map λi=>(ks.getD i (.int 0),ys.getD i V.non)).map (·.1)=(Ya (ks.map enc)).map λi=>ks.getD i (.int 0):=by rw[Fj];rfl
  refine⟨?_,λk=> ?_,λx hx=> ?_⟩
  ·unfold Yc
   rw[e0,Fj]
   have:=Uw nd'
   have e1:∀l:List Nat,(∀i∈l,i<ks.length)->l.map (enc ∘ λi=>ks.getD i (.int 0))=l.map λi=>(ks.map enc).getD i []:=λl hl=>FL λi hi=>by
    have:=hl i hi
    simp[Ew,this]
   rw[e1 _ iR]
   exact this
  ·rw[e0,Ez]
   constructor
   ·rintro⟨i,hi,rfl⟩
    have:=iR i hi
    rw[Ew,Er this]
    exact EK this
   ·intro hk
    obtain⟨i,hi,rfl⟩:=Gv hk
    exact⟨i,aL.mem_iff.2 (Fx.2 (by rw[Eu];exact hi)),by rw[Ew,Er hi];rfl⟩
  ·obtain⟨i,hi,rfl⟩:=Ez.1 hx
   have h1:=iR i hi
   have h2:i<ys.length:=by omega
   exact⟨i,by simp[Ew,h1],by simp[Ew,h2]⟩
 have hv:∀l:List Nat,(∀i∈l,i<ks.length)->zY (l.map λi=>ys.getD i V.non) (l.map λi=>ae.getD i Value.none):=by
  intro l
  induction l with
  |nil=>intro _;exact .nil
  |cons i l ih=>
   intro hl
   refine .cons ?_ (ih λj hj=>hl j (ED _ hj))
   have h1:i<ys.length:=by have:=hl i (EG ..);omega
   obtain⟨u,e4,e5⟩:=VR rv (Er h1)
   dsimp only
   rw[Ew,Ew,Er h1,e4]
   exact e5
 have hs:ks.length<=sizeLine:=by have:=hz;omega
 refine⟨.ref (s.heap.objs.size+1),_,I.laid (t':=s.toks) (λ_ _=>sortedAll_old) (GK _) (show yr X.prog X.w _ _ _ (.lst (((Ya (ks.map enc)).map λi=>(ks.getD i (.int 0),ys.getD i V.non)).map (·.2))) from ⟨by rw[Eu,Eu,fI];exact hs,(Ya (ks.map enc)).map λi=>ae.getD i Value.none,rj,by rw[Fj];exact hv _ iR,by rw[he]⟩),rfl,q _ _ kU (by rw[Eu,fI]) (I.hok.fresh (GK _))⟩
theorem zeA {m:Nat} {b:Bool} {K:Et} (hr:vV m X.A) (hK:X.K=K:=by rfl):vF X (.builtin "sorted") (zhw K b):=by
 subst hK
 have hu:X.A.units+41<cLine:=FA ⋯ hr.units
 intro pins s σ H xs us Q I r h
 obtain⟨p,ys,ks,e,hq,hn,cP,ok,nd,q⟩:=h
 refine zez (b:=b) (R:=λH v k=>NIs X.K H v k) rfl (λ{pins s σ H ys ks ae} I rv dS hlen ok nd h2 g hg=>zbO hlen.symm nd ok.cmp ok.dep ok.fst (by show X.A.units+1+1+8<cLine;omega) (λi k hk=> ?_) h2) pins s σ H xs us Q I r ⟨p,ys,ks,e,hq,hn.at_.1,hn.at_.2,cP,ok,nd,q⟩
 obtain⟨v,e2,e3⟩:=dS i k hk
 obtain⟨u,e4,e5⟩:=VR rv e2
 obtain⟨a,rfl⟩:=e3.isRef (ok.fst _ (EA hk))
 have e6:u=Value.ref a:=e5
 exact⟨a,by rw[e4,e6],(by rw[<-e6];exact (e3.isNK I e5).grow hg)⟩
end
noncomputable def Kym (a:Addr) (o:Obj) (kvs:List (Key×V)):It:=
 ⟨λi H=>H a=some (.frz o (.dK kvs))/\∃k v,kvs[i]? =some (k,v),λi H x H'=>H'=H/\∃k v,x=kV k/\kvs[i]? =some (k,v),λi H=>H a=some (.frz o (.dK kvs))/\kvs.length<=i⟩
theorem zga {P:Program} {w:World} {K:Et} {tg:Expr} (a it:Addr) (o:Obj) (kvs:List (Key×V)) {es:Array DictEntry} {ep:Nat} (hd:o.data= .dict es ep):
  zfK P w K tg (Kym a o kvs) [it] it (λi h=>h.IsKeyIter it a i kvs.length ep) where
 mem:=by simp
 obj:=λi h st b hb=>by
  obtain⟨ob,e1,_,e2⟩:=st
  have:b=it:=by simpa using hb
  subst this
  exact⟨_,e1,λv z=>by rw[e2] at z;cases z⟩
 keep:=λi h h' st k=>st.at λo e=>k it (by simp) o e
 item:=by
  intro X hP hw hK hc i pins s σ H E I hf st hg
  subst hP hw hK
  obtain⟨ha,ke,v,hx⟩:=hg
  obtain⟨vs,rel,hm⟩:=zfb I ha hd
  obtain⟨u,hu,ru⟩:=zet rel hx
  have hl:=rel.length
  rw[hl] at st
  refine wpAny_pyNext_dict_item st hm hu λkey h1 hk hit hs=>⟨_,rfl,?_⟩
  refine letGo_keyiter (s':={s with heap:=h1}) hit ?_
  refine⟨kV ke,H,Inv.turnedL (t':=s.toks) (fp:=[it]) I (λb o hb eo=>(hs.2 b (by simpa using hb)).trans eo) hf,zj3 hk,⟨rfl,ke,v,rfl,hx⟩,by rw[hl];exact hit,λb hb=>(hf b hb).1⟩
 done:=by
  intro X hP hw hK hc i pins s σ H E I hf st hg
  subst hP hw hK
  obtain⟨ha,hx⟩:=hg
  obtain⟨vs,rel,hm⟩:=zfb I ha hd
  have hl:=rel.length
  rw[hl] at st
  refine wpAny_pyNext_dict_end (I.ok.hd hc) st hm (Fe ⋯) λh' eb=>⟨rfl,Inv.turnedL (t':=s.toks) (fp:=[it]) I (λb o hb eo=> ?_) hf⟩
  exact eb b o (λz=>hb (by simp[z])) eo
 self:=λ_ _ _ _ _ st h=>wpAny_pyIter_keyiter st h
section
variable {X:Cx}
def zhx (t:TE):TI:=λσ H R=>t σ H λx H1=>∃(p a:Addr) (kvs:List (Key×V)),x= .ref p/\H1 p=some (WN p a)/\Rd H1 a (.dK kvs)/\(H1 a=some (.dK kvs)->∀o,R (Kym a o kvs) (upd H1 a (.frz o (.dK kvs))))/\∀o,H1 a=some (.frz o (.dK kvs))->R (Kym a o kvs) H1
theorem zi4 {tg e:Expr} {t:TE} (he:PE X e t):PI X tg e (zhx t):=by
 intro pins s σ H R I h
 refine thn (he pins s σ H _ I h) λu s1 ⟨x,H1,I1,rx,p,a,kvs,ex,hp,ha,q1,q2⟩=> ?_
 subst ex
 cases rx
 have hv:HH s1.heap p a:=(show yr X.prog X.w H1 s1.heap p (WN p a) from I1.hok p _ hp).1
 obtain⟨hz,lo,vs,rel,ob,es,ep,e1,e2,e3,e4⟩:=XH I1.hok ha
 have hl:=rel.length
 refine kdl_pyIter_keys (knd:=zT X.prog X.w) hv ⟨ob,es,e1,e2,e3,e4⟩ ?_
 have hi:(s1.heap.push {cls:= .type "dict_keyiterator",data:= .fields #[.ref a,.int 0 0,.int vs.length 0,.int ep 0]}).get? s1.heap.objs.size=some {cls:= .type "dict_keyiterator",data:= .fields #[.ref a,.int 0 0,.int vs.length 0,.int ep 0]}:=Heap.get?_push_size _ rfl
 have fin:∀H2,Inv X pins σ H2 s1->R (Kym a ob kvs) H2->PIE X pins σ tg R (.ref s1.heap.objs.size) {s1 with heap:=s1.heap.push {cls:= .type "dict_keyiterator",data:= .fields #[.ref a,.int 0 0,.int vs.length 0,.int ep 0]}}:=λH2 I2 q=>by
  have I3:=I2.kept (t':=s1.toks) (h':=s1.heap.push {cls:= .type "dict_keyiterator",data:= .fields #[.ref a,.int 0 0,.int vs.length 0,.int ep 0]}) (λb o e=>Heap.get?_push_of_some _ e)
  refine⟨s1.heap.objs.size,[s1.heap.objs.size],_,_,_,rfl,I3,zga a s1.heap.objs.size ob kvs e3,⟨_,hi,rfl,by rw[hl];rfl⟩,λb hb=> ?_,q⟩
  have hb:s1.heap.objs.size<=b:=by
   have:b=s1.heap.objs.size:=by simpa using hb
   exact GL this.symm
  exact Inv.fpOk I2 hb (I2.hok.fresh hb)
 rcases ha with ha|⟨o,ha⟩
 ·exact fin (upd H1 a (.frz ob (.dK kvs))) (Vw (ob:= .frz ob (.dK kvs)) (h':=s1.heap) (t':=s1.toks) I1 (by rw[ha];exact G8) ⟨rfl,λ_ _=>rfl⟩ ⟨ob,e1⟩ ⟨e1,hz,lo,vs,rel,ob,es,ep,e1,e2,e3,e4⟩) (q1 ha ob)
 ·have:o=ob:=by
   obtain⟨hg,_⟩:=(show yr X.prog X.w H1 s1.heap a (.frz o (.dK kvs)) from I1.hok a _ ha)
   rw[hg] at e1
   exact Fi e1
  subst this
  exact fin _ I1 (q2 o ha)
end
section
variable {prog:Program} {w:World} {A:Around} {E:Value->Shared->Prop} {s:Shared}
theorem zbP {it t:Addr} {items:Array Value} (bZ:t≠it):∀(n i:Nat) (s:Shared) (Q:List Value->Shared->Prop),s.heap.IsListIter it t i->s.heap.IsList t items->i+n<=items.size->
  (∀h',h'.IsListIter it t (i+n)->Heap.SameBut it s.heap h'->Q ((items.toList.drop i).take n) {s with heap:=h'})->wpAny (model prog w) A (draw (.ref it) n) Q E s
 |0,i,s,Q,hit,_,_,hQ=>by
  show wpAny _ _ (pure []) Q E s
  exact wpAny_pure (by simpa using hQ s.heap hit (Heap.SameBut.refl ..))
 |n+1,i,s,Q,hit,ht,hle,hQ=>by
  have cC:i<items.size:=by omega
  show wpAny _ _ (pyNext (.ref it)>>=_) Q E s
  refine wpAny_bind (wpAny_pyNext_list_item hit ht (x:=items[i]) (by simp[cC]) λh₁ hit₁ hs₁=> ?_)
  refine wpAny_bind (wpAny_holding (zbP bZ n (i+1) _ _ hit₁ (ht.at λo e=>(hs₁.2 t bZ).trans e) ⋯ λh₂ hit₂ hs₂=>wpAny_pure ?_))
  have hd:items.toList.drop i=items[i]::items.toList.drop (i+1):=by simp[List.drop_eq_getElem_cons,cC]
  have:=hQ h₂ (by rw[show i+(n+1)=i+1+n by omega];exact hit₂) (hs₁.trans hs₂)
  rw[hd,List.take_succ_cons] at this
  exact this
theorem zdF {t:Addr} {items:Array Value} {targets:List (Bool×(Value->Sem Unit))} {Q:Unit->Shared->Prop} (hh:A.handled=none) (ht:s.heap.IsList t items)
  (hn:targets.length=items.size) (k8:targets.findIdx? (·.1)=none)
  (h:∀h',Heap.ExtBut s.heap.objs.size s.heap h'->wpAny (model prog w) A (assignInOrder (targets.map (·.2)) items.toList) Q E {s with heap:=h'}):
  wpAny (model prog w) A (unpack (.ref t) targets) Q E s:=by
 unfold unpack
 rw[hn,k8]
 refine wpAny_bind (wpAny_holding ?_)
 have cC:t≠s.heap.objs.size:=by obtain⟨o,ho,_⟩:=ht;exact EH (Heap.lt_size ho)
 unfold unpackItems
 refine wpAny_bind ?_
 unfold notIterableAtAll
 refine wpAny_bind (wpAny_specialOf ht.typeIs F.slot_list_iter.lookup ?_)
 refine wpAny_pure ?_
 simp only[G6,if_false]
 refine wpAny_bind (wpAny_holding (wpAny_pyIter_list ht ?_))
 refine wpAny_bind (wpAny_holding (zbP cC items.size 0 _ _ ⟨_,Heap.get?_push_size _ rfl,rfl,rfl⟩ (ht.push _) ⋯ λh₁ hit₁ hs₁=> ?_))
 have bP:List.take items.size (List.drop 0 items.toList)=items.toList:=by
  rw[List.drop_zero];exact Ge (by simp)
 rw[bP]
 rw[if_neg (by simp)]
 have ht₁:h₁.IsList t items:=(ht.push _).at λo e=>(hs₁.2 t cC).trans e
 refine wpAny_bind (wpAny_holding (wpAny_pyNext_list_end hh hit₁ ht₁ (by simp) λh₂ he₂=> ?_))
 simp only[Option.isSome_none,G6,if_false]
 refine wpAny_pure (h h₂ λb o hb e=>he₂ b o hb (hs₁.extBut b o hb (Heap.get?_push_of_some _ e)))
theorem zi5 {d:Addr} {es:Array DictEntry} {ep:Nat} {Q:Value->Shared->Prop} (hd:(d==sysModules)=false) (x:zk4 s.heap d es ep) (Ci:(es.size:Int)<2^63)
  (h:∀t,Q (.int es.size t) {s with toks:=s.toks+1+1}):wpAny (model prog w) A (call (.builtin "len") [.ref d]) Q E s:=by
 have ty:=x.type
 obtain⟨o,h1,h2,h3⟩:=id x
 refine Calls.call_function_entry kind_len plain_len entry_len (args_len1 _) ?_
 unfold Builtin.«len»
 refine wpAny_bind (m:=oneArg "len" _) (wpAny_pure ?_)
 refine wpAny_bind (m:=callSpecial? (.ref d) (Str.ofString "__len__")) (wpAny_callSpecial?_slot (name:=Str.ofString "__len__") ty F.slot_dict_len
  (wpAny_call_entry F.slot_dict_len ty F.entry_dict_len ?_ (F.args_dict_len_1 _)))
 show wpAny _ _ (dictSize d>>=_) _ _ s
 unfold dictSize
 refine wpAny_bind (wpAny_bind (wpAny_dictEntries h1 h3 (wpAny_pure ?_)))
 show wpAny _ _ (Builtin.Dict.pendingCount d>>=_) _ _ s
 refine wpAny_bind (wpAny_pendingCount_other hd ?_)
 refine wpAny_ret_mkInt ?_
 rw[Nat.add_zero]
 show wpAny _ _ _ _ _ {s with toks:=s.toks+1}
 refine wpAny_bind (wpAny_holding (wpAny_pure ?_))
 refine wpAny_bind (wpAny_letGo ?_)
 show wpAny _ _ (if ((es.size:Nat):Int)<0 then _ else _) _ _ _
 rw[if_neg ⋯]
 show wpAny _ _ (if ((es.size:Nat):Int)≥2^63 then _ else _) _ _ _
 rw[if_neg ⋯]
 exact wpAny_bind (wpAny_mkInt (wpAny_pure ⟨_,rfl,h _⟩))
end
section
variable {X:Cx}
def zj6 (K:Et) (n:Nat) (t:TGs):TG:=λv σ H Q=>∃a xs,v= .ref a/\SqL K H a xs/\xs.length=n/\t xs σ H Q
theorem zi6 {K:Et} {es:List Expr} {k:Nat} {t:TGs} {n:Nat} {pos:Pos} (hc:X.calm=true) (h:PGs X es t) (hK:X.K=K:=by rfl)
  (hn:(assignEach es X.env).length=n:=by rfl) (eI:(assignEach es X.env).findIdx? (·.1)=none:=by rfl):PG X (.Tuple es k pos) (zj6 K n t):=by
 subst hK
 intro pins s σ H v u Q I r hw
 obtain⟨a,xs,e1,hq,hl,hw⟩:=hw
 subst e1
 cases r
 obtain⟨ae,rv,pl,hz⟩:=I.list hq
 rw[assign_Tuple]
 refine wpAny_bind (wpAny_standAt (zdF (I.ok.hd hc) pl.isList (by simp[hn,<-hl,rv.length]) eI λh' hx=> ?_))
 have I1:Inv X pins σ H {s with heap:=h'}:=I.kept (t':=s.toks) λb o e=>hx b o (EH (Heap.lt_size e)) e
 exact h pins _ σ H xs _ Q I1 (by simpa using rv) hw
def zj7:List V->Hp->VK->Prop:=λxs H Q=>∃a,xs=[V.ref a]/\((∃kvs,Rd H a (.dK kvs)/\Q (.int kvs.length) H)\/∃ks,H a=some (.dN ks)/\Q (.int ks.length) H)
theorem zgb:vF X (.builtin "len") zj7:=by
 intro pins s σ H xs us Q I r h
 obtain⟨a,rfl,h⟩:=h
 obtain⟨u,rfl,ru⟩:=ZZ r
 cases ru
 rcases h with⟨kvs,ha,q⟩|⟨ks,ha,q⟩
 ·exact zlS I ha λt s' I'=>⟨.int kvs.length,H,I',⟨t,rfl⟩,q⟩
 ·obtain⟨hz,lo,xs,rel,o,es,ep,h1,h2,h3,h4,h5⟩:=(show yr X.prog X.w H s.heap a (.dN ks) from I.hok a _ ha)
  have hl:es.size=ks.length:=by
   have e1:es.size=xs.length:=by rw[<-FC,h4,Eu]
   have e2:ks.length=xs.length:=by
    clear h4 h5 ha hz q e1
    induction rel with
    |nil=>rfl
    |cons _ _ ih=>simp[ih]
   omega
  refine zi5 lo ⟨o,h1,h2,h3⟩ (by rw[hl];rw[sizeLine_eq] at hz;omega) λt=> ?_
  rw[hl]
  exact⟨.int ks.length,H,I.tok _,⟨t,rfl⟩,q⟩
end
theorem zfl:∀{v v':V} {u:Value},zP v u->zP v' u->v=v':=by
 intro v v' u h h'
 cases v<;>cases v'<;>simp only[zP] at h h'<;>first
  |rfl
  |(subst h;cases h';rfl)
  |(obtain⟨t,rfl⟩:=h;obtain⟨t',e⟩:=h';cases e;rfl)
  |(subst h;obtain⟨t',e⟩:=h';cases e;done)
  |(obtain⟨t,rfl⟩:=h;obtain⟨t',e⟩:=h';cases e;done)
  |(obtain⟨t,rfl⟩:=h;cases h';done)
  |(subst h;cases h';done)
theorem zcw:∀{vs vs':List V} {us:List Value},zY vs us->zY vs' us->vs=vs'
 |_,_,_,.nil,.nil=>rfl
 |_,_,_,.cons a r,.cons b s=>by rw[zfl a b,zcw r s]
section
variable {X:Cx} {pins:List (Addr×Obj)} {σ:St} {H:Hp} {s:Shared}
theorem zla (I:Inv X pins σ H s) {a:Addr} {xs ys:List V} (h:SqT X.K H a xs) (g:SqT X.K H a ys):xs=ys:=by
 obtain⟨ae,r1,⟨o,p1,p2,n,p3⟩,_⟩:=I.tuple h
 obtain⟨its',r2,⟨o',q1,q2,n',q3⟩,_⟩:=I.tuple g
 rw[p1] at q1
 cases q1
 rw[p3] at q3
 injection q3 with q3 _
 have:ae=its':=by simpa using congrArg Ik q3
 subst this
 exact zcw r1 r2
theorem zlb (I:Inv X pins σ H s) {a:Addr} {xs ys:List V} (h:SqL X.K H a xs) (g:SqL X.K H a ys):xs=ys:=by
 obtain⟨ae,r1,⟨o,n,p1,_,_,p3⟩,_⟩:=I.list h
 obtain⟨its',r2,⟨o',n',q1,_,_,q3⟩,_⟩:=I.list g
 rw[p1] at q1
 cases q1
 rw[p3] at q3
 injection q3 with q3 _
 have:ae=its':=by simpa using congrArg Ik q3
 subst this
 exact zcw r1 r2
theorem zfm {f:D->D->Option Bool} {K:Et} (hf:∀{v:V} {d d' e:D} {b b':Bool},f d e=some b->f d' e=some b'->Is K H v d->Is K H v d'->b=b'):∀{xs:List V} {l l' m:List D} {b b':Bool},vX f l m=some b->vX f l' m=some b'->IsL K H xs l->IsL K H xs l'->b=b':=by
 intro xs
 induction xs with
 |nil=>
  intro l l' m b b' h h' i i'
  cases i
  cases i'
  rw[h] at h'
  exact Fi h'
 |cons v xs ih=>
  intro l l' m b b' h h' i i'
  cases i with
  | @cons _ d _ l a i=>
   cases i' with
   | @cons _ d' _ l' a' i'=>
    cases m with
    |nil=>unfold vX at h h';cases h;cases h';rfl
    |cons e m=>
     unfold vX at h h'
     obtain⟨x,h1,h2⟩:=Fb.1 h
     obtain⟨x',qW,qV⟩:=Fb.1 h'
     obtain⟨y,h3,rfl⟩:=F8.1 h2
     obtain⟨y',qU,rfl⟩:=F8.1 qV
     rw[hf h1 qW a a',ih h3 qU i i']
theorem zlc (I:Inv X pins σ H s):∀(n:Nat) {v:V} {d d' e:D} {b b':Bool},eqG n d e=some b->eqG n d' e=some b'->Is X.K H v d->Is X.K H v d'->b=b':=by
 intro n
 have flat:∀{n:Nat} {v:V} {d d' e:D} {b b':Bool},d=d'->eqG n d e=some b->eqG n d' e=some b'->b=b':=λ{n v d d' e b b'} q h h'=>by
  subst q
  rw[h] at h'
  exact Fi h'
 induction n with
 |zero=>
  intro v d d' e b b' h h' i i'
  cases i<;>cases i'<;>first
   |exact flat (v:= .non) rfl h h'
   |(cases e<;>simp[eqG] at h)
   |(cases e<;>simp[eqG] at h')
 |succ n ih=>
  intro v d d' e b b' h h' i i'
  cases i<;>cases i'<;>first
   |exact flat (v:= .non) rfl h h'
   |(cases e<;>simp[eqG] at h h';done)
   |skip
  ·rename_i a xs l hs hl ys l' gl gs
   have:=zla I hs gs
   subst this
   cases e<;>simp only[eqG,reduceCtorEq] at h h'
   obtain⟨x,h1,rfl⟩:=F8.1 h
   obtain⟨x',qW,rfl⟩:=F8.1 h'
   rw[zfm (f:=eqG n) (λa b c d=>ih a b c d) h1 qW hl gl,show l.length=l'.length by have:=hl.len;have:=gl.len;omega]
  ·rename_i a xs l hs hl ys l' gl gs
   have:=zlb I hs gs
   subst this
   have qp:l.length=l'.length:=by have:=hl.len;have:=gl.len;omega
   cases e<;>simp only[eqG,reduceCtorEq] at h h'
   rw[qp] at h
   split at h
   ·rename_i hq
    rw[if_pos hq] at h'
    exact zfm (f:=eqG n) (λa b c d=>ih a b c d) h h' hl gl
   ·rename_i hq
    rw[if_neg hq] at h'
    cases h
    cases h'
    rfl
end
section
variable {X:Cx}
def zmc (K:Et) (neg:Bool):R2:=λx y H Q=>∃(p:Addr) (xs:List V) (ds:List D) (d:D) (bs:List Bool),y= .ref p/\SqL K H p xs/\IsL K H xs ds/\Is K H x d/\bs.length=ds.length/\(∀(i:Nat) e b,ds[i]? =some e->bs[i]? =some b->eqG 39 e d=some b)/\Q (.bl (neg !=bs.any id)) H
theorem zhy {K:Et} {H:Hp}:∀{xs:List V} {ds:List D},IsL K H xs ds->∀{i:Nat} {v:V},xs[i]? =some v->∃d,ds[i]? =some d/\Is K H v d
 |_,_,.nil,_,_,e=>by simp at e
 |_,_,.cons h _,0,_,e=>by simp at e;subst e;exact⟨_,rfl,h⟩
 |_,_,.cons _ l,i+1,_,e=>by
  obtain⟨d,e1,e2⟩:=zhy l (i:=i) (by simpa using e)
  exact⟨d,by simpa using e1,e2⟩
def zfn (X:Cx) (H:Hp) (d:D) (u:Value) (b:Bool):Prop:=∃v e,zP v u/\Is X.K H v e/\eqG 39 e d=some b
open Classical in
noncomputable def Vl (X:Cx) (H:Hp) (d:D) (u:Value):Bool:=decide (zfn X H d u true)
open Classical in
theorem zbQ {pins:List (Addr×Obj)} {σ:St} {H:Hp} {s:Shared} {d:D} {u:Value} {b:Bool} (I:Inv X pins σ H s) (h:zfn X H d u b):Vl X H d u=b:=by
 unfold Vl
 obtain⟨v,e,h1,h2,h3⟩:=id h
 cases b with
 |true=>exact decide_eq_true h
 |false=>
  refine decide_eq_false λ⟨v',e',g1,g2,g3⟩=> ?_
  rw[zfl h1 g1] at h2
  exact absurd (zlc I 39 h3 g3 h2 g2) ∅
theorem zdG {pins:List (Addr×Obj)} {σ:St} {H:Hp} {s:Shared} {xs:List V} {ds:List D} {bs:List Bool} {d:D} {ae:List Value} (I:Inv X pins σ H s) (r:zY xs ae) (hi:IsL X.K H xs ds) (hl:bs.length=ds.length) (he:∀(i:Nat) e b,ds[i]? =some e->bs[i]? =some b->eqG 39 e d=some b):
  ae.map (Vl X H d)=bs/\∀u∈ae,zfn X H d u (Vl X H d u):=by
 have DW:=hi.len
 have kC:=r.length
 have key:∀(i:Nat) u,ae[i]? =some u->∃b,bs[i]? =some b/\zfn X H d u b:=λi u e=>by
  have cC:i<xs.length:=by rw[kC];exact (Es.1 e).1
  obtain⟨u',e1,e2⟩:=r.get (Er cC)
  rw[e] at e1
  cases e1
  obtain⟨dd,e3,e4⟩:=zhy hi (Er cC)
  have hb:i<bs.length:=by omega
  exact⟨bs[i],Er hb,_,dd,e2,e4,he i dd _ e3 (Er hb)⟩
 refine⟨Gr λi=> ?_,λu hu=> ?_⟩
 ·rw[EB]
  cases e:ae[i]? with
  |none=>rw[Fe (by have:=Gj.1 e;omega)];rfl
  |some u=>
   obtain⟨b,h1,h2⟩:=key i u e
   rw[h1]
   show some (Vl X H d u)=_
   rw[zbQ I h2]
 ·obtain⟨i,e⟩:=Fu hu
  obtain⟨b,h1,h2⟩:=key i u e
  rw[zbQ I h2]
  exact h2
theorem zbR {m:Nat} {K:Et} (hr:vV m X.A) (hK:X.K=K:=by rfl):OpR X (compareOp .NotIn) (zmc K true):=by
 subst hK
 intro pins s σ H x y v u Q I rx ry h
 obtain⟨p,xs,ds,d,bs,rfl,hq,hi,hx,hl,he,q⟩:=h
 have hu:X.A.units+41<cLine:=FA ⋯ hr.units
 cases ry
 obtain⟨ae,r,pl,hz⟩:=I.list hq
 obtain⟨e1,e2⟩:=zdG I r hi hl he
 refine SeqAt.notIn_listAt (Vl X H d) pl.isList (λw hw=> ?_) ⟨.bl _,H,I,rfl,?_⟩
 ·obtain⟨v',e',g1,g2,g3⟩:=e2 w (by simpa using hw)
  exact We I 39 (A:=X.A.in1) g3 (by show X.A.units+1+39<cLine;omega) g2 hx g1 rx
 ·rw[show ae.toArray.any (Vl X H d)=bs.any id by rw[<-e1,JW];simp[Function.comp_def]]
  rw[JR] at q
  exact q
end
section
variable {prog:Program} {w:World} {A:Around} {E:Value->Shared->Prop} {s:Shared}
theorem zbh {r d:Addr} {kvs:List (Key×Value)} {ep:Nat} {R:List Value->Shared->Prop} (hh:A.handled=none) (hv:s.heap.IsItemsView r d) (hm:s.heap.DictAt (zT prog w) d kvs ep) (hn:kvs.length<=sizeLine)
  (fin:∀(g:Heap) (k:Nat) (as:List Addr),(∀b o,s.heap.get? b=some o->g.get? b=some o)->s.heap.objs.size<g.objs.size->as.length=kvs.length->KdxG (zT prog w) kvs s.heap.objs.size g as->R (as.map Value.ref) {s with heap:=g,toks:=k}):
  wpAny (model prog w) A (collect (.ref r)) R E s:=by
 have lr:r<s.heap.objs.size:=let ⟨_,ho,_⟩:=hv;Heap.lt_size ho
 have ld:d<s.heap.objs.size:=hm.lt_size
 unfold collect
 refine wpAny_bind (wpAny_runValue (codeAny_builtin entry_proto_collect' ?_))
 rw[Around.under_plainId HP _]
 refine wpAny_bind (m:=newList []) (wpAny_newObj_type (wpAny_pure ⟨plainId_quiet GN _,codeAny_builtin entry_list_iadd' ?_⟩))
 rw[Around.under_plainId GN _]
 have dZ:(s.heap.push {cls:= .type "list",data:= .seq ([]:List Value).toArray}).get? s.heap.objs.size=some {cls:= .type "list",data:= .seq #[]}:=Heap.get?_push_size _ rfl
 have y0:s.heap.objs.size<=(s.heap.push {cls:= .type "list",data:= .seq ([]:List Value).toArray}).objs.size:=by rw[Heap.size_push];exact GK _
 have step:=kdx_extend (A:=A) (s:={s with heap:=s.heap.push {cls:= .type "list",data:= .seq ([]:List Value).toArray}}) (knd:=zT prog w) (kvs:=kvs) (ep:=ep)
  (R:=λ(q:Result) (s':Shared)=>∃(g:Heap) (k:Nat) (as:List Addr) (xs:Array Value) (c:Nat),q= .ok (.ret (.ref s.heap.objs.size))/\s'={s with heap:=g,toks:=k}/\(∀b o,s.heap.get? b=some o->g.get? b=some o)/\g.get? s.heap.objs.size=some {cls:= .type "list",dict:=none,data:= .seq xs c,slots:= #[]}/\as.length=kvs.length/\KdxG (zT prog w) kvs s.heap.objs.size g as/\xs.toList=as.map Value.ref)
  hh (let ⟨o,ho,x⟩:=hv;⟨o,Heap.get?_push_of_some _ ho,x⟩) (hm.push _) s.heap.objs.size (Hi lr) (EH ld) (.ref s.heap.objs.size) 0 dZ
  (λg k xs c as kp ha hl hG hx=>⟨g,k,as,xs,c,rfl,rfl,λb o e=>kp b o (EH (Heap.lt_size e)) (Heap.get?_push_of_some _ e),ha,hl,hG.low y0,hx⟩) hn
 have done:∀(g:Heap) (k:Nat) (as:List Addr) (xs:Array Value) (c:Nat),(∀b o,s.heap.get? b=some o->g.get? b=some o)->g.get? s.heap.objs.size=some {cls:= .type "list",dict:=none,data:= .seq xs c,slots:= #[]}->as.length=kvs.length->KdxG (zT prog w) kvs s.heap.objs.size g as->xs.toList=as.map Value.ref->R xs.toList {s with heap:=g,toks:=k}:=λg k as xs c kp ha hl hG hx=>by
  rw[hx]
  exact fin g k as kp (Heap.lt_size ha) hl hG
 refine wpAny_mono step (λf s' x=> ?_) λe s' x=> ?_
 ·cases f with
  |done f0=>
   obtain⟨g,k,as,xs,c,e,rfl,kp,ha,hl,hG,hx⟩:=x
   cases e
   exact wpAny_bind (wpAny_load ha (wpAny_pure (done g k as xs c kp ha hl hG hx)))
  |again c0=>
   refine⟨x.1,codeAny_mono x.2 λq s2 y=> ?_⟩
   obtain⟨g,k,as,xs,c,rfl,rfl,kp,ha,hl,hG,hx⟩:=y
   exact wpAny_bind (wpAny_load ha (wpAny_pure (done g k as xs c kp ha hl hG hx)))
 ·obtain⟨_,_,_,_,_,z,_⟩:=x
  cases z
theorem zhz {vs:List Value} {fs:List Int} (hl:fs.length=vs.length) (nd:fs.Nodup)
  (h:∀i,i<vs.length->∃(a:Addr) (o:Obj) (ae:Array Value) (n:Nat) (t:Tok) (r:List Value),vs.getD i Value.none= .ref a/\s.heap.get? a=some o/\o.cls= .type "tuple"/\o.data= .seq ae n/\ae.toList= .int (fs.getD i 0) t::r) (h2:2<=vs.length):zer prog w A (λi=>fs.getD i 0) vs s:=by
 have firsts:∃ks:List Value,KatTups s.heap vs ks/\ks.length=vs.length/\∀v∈ks,∃i t,v=Value.int i t:=by
  have key:∀(vs:List Value) (fs:List Int),fs.length=vs.length->(∀i,i<vs.length->∃(a:Addr) (o:Obj) (ae:Array Value) (n:Nat) (t:Tok) (r:List Value),vs.getD i Value.none= .ref a/\s.heap.get? a=some o/\o.cls= .type "tuple"/\o.data= .seq ae n/\ae.toList= .int (fs.getD i 0) t::r)->∃ks:List Value,KatTups s.heap vs ks/\ks.length=vs.length/\∀v∈ks,∃i t,v=Value.int i t:=by
   intro vs
   induction vs with
   |nil=>intro fs _ _;exact⟨[],KatTups.nil,rfl,by simp⟩
   |cons v vs ih=>
    intro fs hl h
    cases fs with
    |nil=>simp at hl
    |cons f fs=>
     obtain⟨ks,k1,k2,k3⟩:=ih fs (by simpa using hl) λi hi=>by
      have:=h (i+1) (by simpa using hi)
      simpa using this
     obtain⟨a,o,ae,n,t,r,e1,e2,e3,e4,e5⟩:=h 0 (by simp)
     have e1:v= .ref a:=by simpa using e1
     subst e1
     refine⟨Value.int f t::ks,KatTups.cons e2 e3 e4 (f:=Value.int f t) (by rw[<-FQ,e5];rfl) k1,by simp[k2],λv hv=> ?_⟩
     rcases EJ.1 hv with rfl|hv
     ·exact⟨_,_,rfl⟩
     ·exact k3 v hv
  exact key vs fs hl h
 obtain⟨ks,k1,k2,k3⟩:=firsts
 refine⟨tuples' (Value.type "int" !=Value.type "tuple"),λQ q=>kat_kind k1 ⋯ (T:= .type "int") (λv hv=> ?_) ∅ q,λi j C jJ uw er hc=> ?_⟩
 ·obtain⟨i,t,rfl⟩:=k3 v hv
  exact .now
 ·obtain⟨a,o,ae,n,t,r,e1,e2,e3,e4,e5⟩:=h i jJ
  obtain⟨a',o',its',n',t',r',g1,g2,g3,g4,g5⟩:=h j uw
  unfold kas_ask
  rw[e1,g1]
  rw[show (Value.type "int" !=Value.type "tuple")=true by decide]
  refine kat_lt e2 e4 g2 g4 ?_
  rw[e5,g5,Gh]
  have bZ:fs.getD i 0≠fs.getD j 0:=λz=>by
   have dR:i<fs.length:=by omega
   have fV:j<fs.length:=by omega
   simp only[Ew,Er dR,Er fV,Ju] at z
   exact er ((FW nd).1 z)
  refine kat_cons (wpAny_eqBool_int ?_)
  refine kat_go (λe=>absurd (by simpa using e) bZ) λ_=>kat_no (kat_lt_int hc)
theorem zcx {r d:Addr} {kvs:List (Key×Value)} {ep:Nat} {ns:List Int} {Q:Value->Shared->Prop} (hh:A.handled=none) (hv:s.heap.IsItemsView r d) (hm:s.heap.DictAt (zT prog w) d kvs ep) (hk:kvs.map (·.1)=ns.map Ft) (nd:ns.Nodup) (cP:kvs.length<64)
  (h:∀(D:Addr) (h':Heap) (tk e:Nat) (as:List Addr) (p:Array Nat),(∀b o,s.heap.get? b=some o->h'.get? b=some o)->s.heap.objs.size<D->(∀a∈as,s.heap.objs.size<a/\a<D)->as.Pairwise (· < ·)->as.length=kvs.length->(∀(j:Nat) a,as[j]? =some a->∃key k x,kvs[j]? =some (k,x)/\WL k key=true/\h'.get? a=some {cls:= .type "tuple",data:= .seq #[key,x]})->
   PmN kvs.length p->ZM (λi=>ns.getD i 0) p kvs.length->h'.get? D=some (seqObj "list" (FR (p.toList.map λi=>(as.map Value.ref).getD i Value.none)) e)->Q (.ref D) {s with heap:=h',toks:=tk}):
  wpAny (model prog w) A (call (.builtin "sorted") [.ref r]) Q E s:=by
 have hn:kvs.length<=sizeLine:=Ve cP
 have fg:ns.length=kvs.length:=by rw[<-Eu (f:=(Ft:Int->Key)),<-hk,Eu]
 refine call_function_entry kind_sorted plain_sorted entry_sorted (args_sorted1 _) ?_
 unfold Builtin.«sorted»
 refine wpAny_bind (m:=checkCount "sorted" 1 1 _) (wpAny_pure (wpAny_bind (zbh (A:=A.in1) hh hv hm hn λg tk as kp lt hl hG=> ?_)))
 have i5:(as.map Value.ref).length=kvs.length:=by rw[Eu];exact hl
 refine wpAny_bind (wpAny_newList ?_ (by rw[i5];exact hn))
 have dZ:(g.push {cls:= .type "list",data:= .seq (as.map Value.ref).toArray}).get? g.objs.size=some (seqObj "list" (as.map Value.ref).toArray 0):=Heap.get?_push_size _ rfl
 have pairs:∀(j:Nat) a,as[j]? =some a->∃key k x,kvs[j]? =some (k,x)/\WL k key=true/\g.get? a=some {cls:= .type "tuple",data:= .seq #[key,x]}:=hG.pairs
 refine wpAny_bind (wpAny_holding (wpAny_call_entry slot_list_sort ⟨_,dZ,rfl⟩ entry_list_sort (Uu (λi=>ns.getD i 0) dZ (by rw[i5];exact cP) (λh2 g2 ji=>zhz (by rw[i5];exact fg) nd (λi hi=> ?_) h2) λp pm fR=>⟨_,rfl,?_⟩) (args_list_sort _)))
 ·rw[i5] at hi
  have kD:i<as.length:=by omega
  obtain⟨key,k,x,f1,f2,f3⟩:=pairs i _ (Er kD)
  have BM:k= .inl (ns.getD i 0):=by
   have e1:(kvs.map (·.1))[i]? =some k:=by rw[EB,f1];rfl
   have dR:i<ns.length:=by omega
   rw[hk,EB,Er dR] at e1
   rw[Ew,Er dR]
   exact (Fi e1).symm
  subst BM
  rcases yw f2 with⟨m,t,e1,rfl⟩|⟨_,_,e1,_⟩
  ·injection e1 with e1
   subst e1
   exact⟨as[i],_,_,_,t,[x],by simp[Ew,kD],ji _ _ (EH (Heap.lt_size f3)) (Heap.get?_push_of_some _ f3),rfl,rfl,rfl⟩
  ·cases e1
 ·rw[i5] at pm fR
  obtain⟨e,he⟩:=sortedHeap_at (out:=FR (p.toList.map λi=>(as.map Value.ref).getD i Value.none)) dZ
  have old:∀b o,g.get? b=some o->(sortedHeap (g.push {cls:= .type "list",data:= .seq (as.map Value.ref).toArray}) g.objs.size (as.map Value.ref) (FR (p.toList.map λi=>(as.map Value.ref).getD i Value.none))).get? b=some o:=λb o eb=>by
   have iu:=Heap.lt_size eb
   rw[sortedHeap_old (EH iu) (by rw[Heap.size_push];exact FI iu)]
   exact Heap.get?_push_of_some _ eb
  refine wpAny_pure ⟨_,rfl,h _ _ tk e as p (λb o eb=>old b o (kp b o eb)) lt (λa ha=>⟨hG.above a ha,?_⟩) hG.rise hl (λj a ja=> ?_) pm fR he⟩
  ·obtain⟨j,ja⟩:=Fu ha
   obtain⟨_,_,_,_,_,f3⟩:=pairs j a ja
   exact Heap.lt_size f3
  ·obtain⟨key,k,x,f1,f2,f3⟩:=pairs j a ja
   exact⟨key,k,x,f1,f2,old _ _ f3⟩
end
section
variable {X:Cx} {pins:List (Addr×Obj)} {σ:St} {H H':Hp} {s:Shared} {h':Heap}
theorem zhA {t':Nat} (I:Inv X pins σ H s) (k:∀b u,s.heap.get? b=some u->h'.get? b=some u) (old:WH H H') (new:∀b u,H' b=some u->H b=some u\/s.heap.objs.size<=b) (ok:∀b u,H' b=some u->H b=none->yr X.prog X.w H' h' b u):
  Inv X pins σ H' {s with heap:=h',toks:=t'}:=by
 refine I.un ⟨λb u q _ _ _=>k b u q,λb u q _ _ _=>⟨u.slots,k b u q⟩,λb u q n _=> ?_,λb u q _=>⟨u,k b u q⟩,λb xs q=>old _ _ q,λb u xs q=>old _ _ q,λb ps q=>⟨#[],by rw[old _ _ q];simp⟩⟩ λb u q=> ?_
 ·cases e:H' b with
  |none=>rfl
  |some o=>
   rcases new b o e with z|z
   ·rw[n] at z;cases z
   ·exact absurd (F6 (Heap.lt_size q) z) (FJ _)
 ·cases e:H b with
  |none=>exact ok b u q e
  |some o=>
   have:=old b o e
   rw[q] at this
   cases this
   exact (I.hok b _ e).stay (λc v _ z=>k c v z) (λc z=>old c _ z) λc xs z=>old c _ z
end
section
variable {X:Cx}
noncomputable def zld (kvs:List (Key×V)) (ns:List Int):List (Int×V):=(yX ns).map λk=>(k,(ZD kvs (.inl k)).getD .non)
inductive Vm (H:Hp):List Addr->List (Int×V)->Prop
 |nil:Vm H [] []
 |cons {p:Addr} {x:Int×V} {ps:List Addr} {xs:List (Int×V)}:H p=some (.tup [.int x.1,x.2])->Vm H ps xs->Vm H (p::ps) (x::xs)
def zfo:List V->Hp->VK->Prop:=λxs H Q=>∃(p a:Addr) (kvs:List (Key×V)) (ns:List Int),xs=[.ref p]/\H p=some (zbM p a)/\H a=some (.dK kvs)/\kvs.map (·.1)=ns.map Ft/\ns.length<64/\
 ∀H1 ps l,WH H H1->Vm H1 ps (zld kvs ns)->H1 l=none->Q (.ref l) (upd H1 l (.lst (ps.map V.ref)))
theorem zmd {P:Program} {w:World} {h:Heap} {a:Addr} {kvs:List (Key×V)} {vs:List (Key×Value)} {ns:List Int} {ep:Nat} (rel:KV kvs vs) (hm:h.DictAt (zT P w) a vs ep) (hk:kvs.map (·.1)=ns.map Ft):ns.Nodup/\vs.map (·.1)=ns.map Ft:=by
 have e:vs.map (·.1)=kvs.map (·.1):=by
  clear hm hk
  unfold KV at rel
  induction rel with
  |nil=>rfl
  |cons a _ ih=>rw[Ey,Ey,ih,a.1]
 obtain⟨o,es,_,_,_,_,_,nd⟩:=hm
 rw[e,hk] at nd
 exact⟨(Fh.1 nd).imp λh z=>h (by rw[z]),e.trans hk⟩
noncomputable def zcy (H:Hp) (as:List Addr) (kvs:List (Key×V)):Hp:=λb=>match (as.zip kvs).find? λx=>decide (x.1=b) with
 |some x=>some (.tup [kV x.2.1,x.2.2])
 |none=>H b
theorem zfp {H:Hp} {as:List Addr} {kvs:List (Key×V)} (nd:as.Nodup) {j:Nat} {a:Addr} {k:Key} {v:V} (h1:as[j]? =some a) (h2:kvs[j]? =some (k,v)):zcy H as kvs a=some (.tup [kV k,v]):=by
 have:(as.zip kvs).find? (λx=>decide (x.1=a))=some (a,k,v):=by
  induction as generalizing j kvs with
  |nil=>simp at h1
  |cons b as ih=>
   cases kvs with
   |nil=>simp at h2
   |cons q kvs=>
    rw[Gh,Fg]
    cases j with
    |zero=>simp at h1 h2;subst h1 h2;simp
    |succ j=>
     have h1:as[j]? =some a:=by simpa using h1
     have bZ:b≠a:=λe=>(FO.1 nd).1 (e ▸ EA h1)
     simp only[decide_eq_false bZ]
     exact ih (FO.1 nd).2 h1 (by simpa using h2)
 unfold zcy
 rw[this]
theorem VS {H:Hp} {as:List Addr} {kvs:List (Key×V)} {b:Addr} (h:b∉as):zcy H as kvs b=H b:=by
 have:(as.zip kvs).find? (λx=>decide (x.1=b))=none:=Hk.2 λx hx=>by
  obtain⟨x1,x2⟩:=x
  have:=(GA hx).1
  simp
  exact λe=>h (e ▸ this)
 unfold zcy
 rw[this]
theorem zfq:∀{kvs:List (Key×V)} {j:Nat} {k:Key} {v:V},(kvs.map (·.1)).Nodup->kvs[j]? =some (k,v)->ZD kvs k=some v
 |a::r,0,k,v,nd,h=>by simp at h;subst h;simp[ZD]
 |a::r,j+1,k,v,nd,h=>by
  rw[Ey,FO] at nd
  have h:r[j]? =some (k,v):=by simpa using h
  have:a.1≠k:=λe=>nd.1 (Ez.2 ⟨_,EA h,e.symm⟩)
  have ih:=zfq nd.2 h
  unfold ZD at ih ⊢
  rw[Fg,decide_eq_false this]
  exact ih
theorem zdH (hc:X.calm=true):vF X (.builtin "sorted") zfo:=by
 intro pins s σ H xs us Q I r h
 obtain⟨p,a,kvs,ns,rfl,hp,ha,hk,cP,q⟩:=h
 obtain⟨u,rfl,ru⟩:=ZZ r
 cases ru
 obtain⟨hz,lo,vs,rel,dd⟩:=zdb I.hok ha
 obtain⟨ep,dS⟩:=dd.dictAt
 have hv:s.heap.IsItemsView p a:=(show yr X.prog X.w H s.heap p (zbM p a) from I.hok p _ hp).1
 obtain⟨nd,iE⟩:=zmd rel dS hk
 have Bi:vs.length=ns.length:=by rw[<-Eu (f:=(·.1)),iE,Eu]
 refine zcx (I.ok.hd hc) hv dS iE nd ⋯ λD h' tk e as pm kp hD fx g9 hl pairs q9 kQ kx=> ?_
 have t8:as.Nodup:=g9.imp λh e=>absurd h (by rw[e];exact FJ _)
 have mj:kvs.length=ns.length:=by rw[<-Eu (f:=(·.1)),hk,Eu]
 have AA:(kvs.map (·.1)).Nodup:=by
  rw[hk,Gf,Fh]
  exact nd.imp λh z=>h (by injection z)
 rw[Bi] at q9 kQ hl
 have aL:pm.toList.Perm (Fv ns.length):=by
  have:=Ia q9
  simpa using this
 have sX:∀i∈pm.toList,i<ns.length:=λi hi=>Fx.1 (aL.mem_iff.1 hi)
 have kA:pm.toList.map (λi=>ns.getD i 0)=yX ns:=by
  refine TZ ?_ ?_
  ·refine (aL.map _).trans ?_
   have:(Fv ns.length).map (λi=>ns.getD i 0)=ns:=by
    apply Jy
    ·simp
    ·intro i h1 h2
     simp[Ew,h2]
   rw[this]
  ·rw[Gi]
   intro i j hi hj er
   have cA:i<pm.size:=by simpa using hi
   have dq:j<pm.size:=by simpa using hj
   have hs:=q9.size
   have:=Ut kQ (Fc er) ⋯
   unfold Kr at this
   simp only[Jx,J3]
   rw[show pm.getD i 0=pm[i] by simp[Hm,cA],show pm.getD j 0=pm[j] by simp[Hm,dq]] at this
   exact this
 have at_:∀i,i<ns.length->∃a v,as[i]? =some a/\as.getD i 0=a/\kvs[i]? =some (.inl (ns.getD i 0),v)/\ZD kvs (.inl (ns.getD i 0))=some v:=λi hi=>by
  have kD:i<as.length:=by omega
  have uy:i<kvs.length:=by omega
  have jc:kvs[i].1= .inl (ns.getD i 0):=by
   have:(kvs.map (·.1))[i]? =(ns.map Ft)[i]? :=by rw[hk]
   rw[EB,EB,Er uy,Er hi] at this
   rw[Ew,Er hi]
   exact Fi this
  have iE:kvs[i]? =some (.inl (ns.getD i 0),kvs[i].2):=by rw[Er uy,<-jc]
  exact⟨as[i],kvs[i].2,Er kD,by simp[Ew,kD],iE,zfq AA iE⟩
 have oR:∀b u,H b=some u->b∉as:=λb u e hb=>absurd (Ja (I.hok.lt e) (fx b hb).1) (FJ _)
 have sm:WH H (zcy H as kvs):=λb u e=>by rw[VS (oR b u e)];exact e
 have CP:D∉as:=λhb=>absurd (fx D hb).2 (FJ _)
 have CO:zcy H as kvs D=none:=by rw[VS CP];exact I.hok.fresh (Fc hD)
 have tups:Vm (zcy H as kvs) (pm.toList.map λi=>as.getD i 0) (zld kvs ns):=by
  unfold zld
  rw[<-kA,Fj]
  have:∀l:List Nat,(∀i∈l,i<ns.length)->Vm (zcy H as kvs) (l.map λi=>as.getD i 0) (l.map ((λk=>(k,(ZD kvs (.inl k)).getD .non)) ∘ λi=>ns.getD i 0)):=by
   intro l
   induction l with
   |nil=>intro _;exact .nil
   |cons i l ih=>
    intro hl
    obtain⟨a',v,e1,e2,e3,e4⟩:=at_ i (hl i (EG ..))
    refine .cons ?_ (ih λj hj=>hl j (ED _ hj))
    dsimp only[HV]
    rw[e2,e4,zfp t8 e1 e3]
    rfl
  exact this _ sX
 refine⟨.ref D,_,zhA (H':=upd (zcy H as kvs) D (.lst ((pm.toList.map λi=>as.getD i 0).map V.ref))) (t':=tk) I kp (λb u e=> ?_) (λb u e=> ?_) (λb u e n=> ?_),rfl,q _ _ D sm tups CO⟩
 ·have:b≠D:=EH (Ja (I.hok.lt e) hD)
  rw[yj this]
  exact sm b u e
 ·by_cases hb:b=D
  ·exact .inr (hb ▸ Fc hD)
  ·rw[yj hb] at e
   by_cases hm:b∈as
   ·exact .inr (Fc (fx b hm).1)
   ·rw[VS hm] at e
    exact .inl e
 ·by_cases hb:b=D
  ·subst hb
   rw[yl] at e
   cases e
   have fU:pm.toList.length=ns.length:=by rw[aL.length_eq,Hr]
   refine⟨by rw[Eu,Eu,fU];exact Ve cP,_,_,?_,kx⟩
   have:∀l:List Nat,(∀i∈l,i<ns.length)->zY ((l.map λi=>as.getD i 0).map V.ref) (l.map λi=>(as.map Value.ref).getD i Value.none):=by
    intro l
    induction l with
    |nil=>intro _;exact .nil
    |cons i l ih=>
     intro hl
     obtain⟨a',v,e1,e2,_⟩:=at_ i (hl i (EG ..))
     refine .cons ?_ (ih λj hj=>hl j (ED _ hj))
     dsimp only
     rw[e2,Ew,EB,e1]
     rfl
   exact this _ sX
  ·rw[yj hb] at e
   by_cases hm:b∈as
   ·obtain⟨j,hj⟩:=Fu hm
    have mq:j<ns.length:=by rw[<-hl];exact (Es.1 hj).1
    obtain⟨a',v,e1,_,e3,_⟩:=at_ j mq
    rw[hj] at e1
    cases e1
    rw[zfp t8 hj e3] at e
    cases e
    obtain⟨key,k,x,f1,f2,f3⟩:=pairs j b hj
    obtain⟨x',g1,g2⟩:=zet rel e3
    rw[f1] at g1
    cases g1
    exact⟨by show 2<=sizeLine;decide,[key,x],.cons (zj3 (P:=X.prog) (w:=X.w) f2) (.cons g2 .nil),_,f3,rfl,_,rfl⟩
   ·rw[VS hm] at e
    rw[n] at e
    cases e
end
section
variable {X:Cx}
noncomputable def zdI (ns:List Int):Int:=ns.foldl (λa b=>if b>a then b else a) (ns.headD 0)
theorem zhB (ns:List Int):∀k,k<ns.length->ns.getD (argBest (λi j=>decide (ns.getD i 0>ns.getD j 0)) k) 0=(ns.take (k+1)).foldl (λa b=>if b>a then b else a) (ns.headD 0)/\argBest (λi j=>decide (ns.getD i 0>ns.getD j 0)) k<=k:=by
 intro k
 induction k with
 |zero=>
  intro h
  cases ns with
  |nil=>simp at h
  |cons a r=>simp[argBest]
 |succ k ih=>
  intro h
  obtain⟨h1,h2⟩:=ih ⋯
  have hg:ns[k+1]? =some (ns.getD (k+1) 0):=by rw[Ew,Er h];rfl
  obtain⟨hi,e⟩:=Es.1 hg
  rw[Hw hi,e,Ie,<-h1]
  have hb:∀f:Nat->Nat->Bool,argBest f (k+1)=if f (k+1) (argBest f k)=true then k+1 else argBest f k:=λf=>rfl
  rw[hb,JI,List.foldl_nil]
  by_cases q:ns.getD (k+1) 0>ns.getD (argBest (λi j=>decide (ns.getD i 0>ns.getD j 0)) k) 0
  ·rw[if_pos (decide_eq_true q),if_pos q]
   exact⟨rfl,EE _⟩
  ·rw[if_neg (by rw[decide_eq_false q];decide),if_neg q]
   exact⟨rfl,⋯⟩
def zj8 (K:Et):List V->Hp->VK->Prop:=λxs H Q=>∃(p:Addr) (ns:List Int),xs=[.ref p]/\SqL K H p (ns.map V.int)/\ns≠[]/\Q (.int (zdI ns)) H
theorem zgc {K:Et} (hc:X.calm=true) (hK:X.K=K:=by rfl):vF X (.builtin "max") (zj8 K):=by
 subst hK
 intro pins s σ H xs us Q I r h
 obtain⟨p,ns,rfl,hq,bZ,q⟩:=h
 obtain⟨u,rfl,ru⟩:=ZZ r
 cases ru
 obtain⟨ae,rv,pl,hz⟩:=I.list hq
 have lt:p<s.heap.objs.size:=by
  obtain⟨o,n,e,_⟩:=id pl
  exact Heap.lt_size e
 have hl:=rv.length
 rw[Eu] at hl
 have dm:0<ns.length:=List.length_pos_iff.2 bZ
 have at_:∀(i:Nat) (v:Value),ae.toArray[i]? =some v->i<ns.length/\∃t,v=Value.int (ns.getD i 0) t:=λi v hv=>by
  have hv:ae[i]? =some v:=by simpa using hv
  have hi:i<ns.length:=by rw[hl];exact (Es.1 hv).1
  obtain⟨u,hu,t,ru⟩:=rv.get (i:=i) (x:=V.int ns[i]) (by rw[EB,Er hi];rfl)
  rw[hu] at hv
  cases hv
  exact⟨hi,t,by rw[ru,Ew,Er hi];rfl⟩
 refine call_max_walkS (wpAny_pyIter_list pl.isList ?_)
 have W:=(Walks.list (prog:=X.prog) (w:=X.w) (A:=X.A.in1) (I.ok.hd hc) s.heap.objs.size p (EH lt) ae.toArray).toS
 refine⟨s.heap.objs.size,_,_,_,_,_,_,λi j=>decide (ns.getD i 0>ns.getD j 0),rfl,W,?_,?_,?_,?_,?_⟩
 ·exact⟨⟨_,Heap.get?_push_size _ rfl,rfl,rfl⟩,Heap.IsList.push pl.isList _⟩
 ·intro b hb
  rw[Heap.size_push]
  rcases (by simpa using hb:b=s.heap.objs.size\/b=p) with rfl|rfl
  ·exact G5 _
  ·exact FI lt
 ·rw[F1];omega
 ·exact CmpOf.ints_gt (λi=>ns.getD i 0) (λi v hv=>(at_ i v hv).2)
 ·intro v s' hv m
  have I1:Inv X pins σ H {s with heap:=s'.heap,toks:=s'.toks}:=I.kept λb o e=>m.heap b o (λz=>by
   have z:b=s.heap.objs.size:=by simpa using z
   exact absurd (Heap.lt_size e) (by rw[z];exact FJ _)) (Heap.get?_push_of_some _ e)
  have e:({s with heap:=s'.heap,toks:=s'.toks}:Shared)=s':=by
   have h1:=m.gens
   have h2:=m.drawn
   have h3:=m.os
   cases s'
   simp only at h1 h2 h3
   subst h1 h2 h3
   rfl
  rw[e] at I1
  obtain⟨_,t,rfl⟩:=at_ _ v hv
  refine⟨.int (zdI ns),H,I1,⟨t,?_⟩,q⟩
  have:=(zhB ns (ns.length-1) ⋯).1
  rw[show ns.length-1+1=ns.length by omega,F9] at this
  rw[F1,<-hl,this]
  rfl
theorem zdJ {prog:Program} {w:World} {A:Around} {E:Value->Shared->Prop} {s:Shared} {T:String} {r d:Addr} {n:Nat} {P:Nat->Value->Prop} {OK:Heap->Prop} {Q:Value->Shared->Prop} (K:Hl prog w T r d n P OK) (hh:A.handled=none) (hok:OK s.heap) (cP:n<64) {ns:List Int} (iD:∀vs:List Value,vs.length=n->(∀(j:Nat) (v:Value),vs[j]? =some v->P j v)->IntsAre vs ns)
  (h:∀(D:Addr) (h':Heap) (tk e:Nat) (out:Array Value),(∀b o,s.heap.get? b=some o->h'.get? b=some o)->s.heap.objs.size<=D->h'.get? D=some (seqObj "list" out e)->IntsAre out.toList (yX ns).reverse->Q (.ref D) {s with heap:=h',toks:=tk}):
  wpAny (model prog w) A (call (.builtin "sorted") [.ref r] [(Str.ofString "reverse",.bool true)]) Q E s:=by
 have hn:n<=sizeLine:=Ve cP
 refine call_function_entry_kw kind_sorted plain_sorted entry_sorted (args_sorted_rev _ _) ?_
 unfold Builtin.«sorted»
 refine wpAny_bind (m:=checkCount "sorted" 1 1 _) (wpAny_pure (wpAny_bind (XU (A:=A.in1) K hh hok hn λg tk acc kp lt b9=> ?_)))
 have hl:acc.toList.length=n:=by rw[FC];exact b9.1
 have hI:=iD acc.toList hl (λj v e=>b9.2 j v (by rw[<-FQ];exact e))
 refine wpAny_bind (wpAny_newList ?_ (by rw[hl];exact hn))
 have dZ:(g.push {cls:= .type "list",data:= .seq acc.toList.toArray}).get? g.objs.size=some (seqObj "list" acc.toList.toArray 0):=Heap.get?_push_size _ rfl
 refine wpAny_bind (wpAny_holding (wpAny_call_entry_kw slot_list_sort ⟨_,dZ,rfl⟩ entry_list_sort (list_sort_tree_rev dZ hI ⋯ λout ns' a1 a2 a3=>⟨_,rfl,?_⟩) (args_list_sort_rev _ _)))
 obtain⟨e,he⟩:=sortedHeap_at (out:=out) dZ
 refine wpAny_pure ⟨_,rfl,h _ _ tk e out (λb o eb=> ?_) (Fc lt) he ?_⟩
 ·have iu:=Heap.lt_size (kp b o eb)
  rw[sortedHeap_old (EH iu) (by rw[Heap.size_push];exact FI iu)]
  exact Heap.get?_push_of_some _ (kp b o eb)
 ·have:ns'.reverse=yX ns:=by
   refine TZ ((List.reverse_perm _).trans a2) ?_
   rw[List.pairwise_reverse]
   exact a3
  rw[<-this,List.reverse_reverse]
  exact a1
def zhC (K:Et) (te:TE):TE:=λσ H Q=>zc8 K "dict" zbG te σ H λx H1=>∃(p a:Addr) (kvs:List (Key×V)) (ns:List Int),x= .ref p/\H1 p=some (WN p a)/\Rd H1 a (.dK kvs)/\kvs.map (·.1)=ns.map Ft/\ns.length<64/\∀l,H1 l=none->Q (.ref l) (upd H1 l (.lst ((yX ns).reverse.map V.int)))
theorem zhD {K:Et} {e:Expr} {te:TE} {pp kp pos tq:Pos} {tp:Nat} (hc:X.calm=true) (hg:Gl X "sorted") (hm:X.mg "sorted"=none) (ha:PE X e (zc8 K "dict" zbG te))
  (Cr:starEach [e] X.env=[(false,eval e X.env)]:=by rfl) (he:backTo pos (starEach [e] X.env)=(false,eval e X.env)::backTo pos (starEach [] X.env):=by rfl) (fU:(backTo pos (starEach [e] X.env)).any (·.1)=false:=by rfl):
  PE X (.Call (.Name "sorted" pp) [e] [⟨some "reverse",.Constant (.bool true) tp tq,kp⟩] pos) (zhC K te):=by
 intro pins s σ H Q I h
 refine wpAny_Call_Name_kw (Yw I hg hm boot_sorted ?_ ∅ ∅)
 refine callWith_kw (thn (za ha zg Cr pos pins s σ H (λvs H1=>∃x,vs=[x]/\∃(p a:Addr) (kvs:List (Key×V)) (ns:List Int),x= .ref p/\H1 p=some (WN p a)/\Rd H1 a (.dK kvs)/\kvs.map (·.1)=ns.map Ft/\ns.length<64/\∀l,H1 l=none->Q (.ref l) (upd H1 l (.lst ((yX ns).reverse.map V.int)))) I ?_) λus s1 ⟨vs,H1,I1,r1,q1⟩=> ?_) he fU rfl rfl
 ·have h:zc8 K "dict" zbG te σ H _:=h
  show zc8 K "dict" zbG te σ H λx H1=>∃y,[x]=[y]/\_
  simpa only[IG,and_true,exists_eq_left'] using h
 obtain⟨x,rfl,p,a,kvs,ns,rfl,hp,CH,hk,cP,q⟩:=q1
 obtain⟨u,rfl,ru⟩:=ZZ r1
 cases ru
 show wpAny _ _ (evalAll [(do let v <-eval (.Constant (.bool true) tp tq) X.env;standAt pos;pure v)]) _ _ s1
 refine wpAny_evalAll_cons (wpAny_bind (wpAny_of_eq (a:=Value.bool true) rfl (wpAny_bind (wpAny_standAt (wpAny_pure ?_)))))
 refine wpAny_evalAll_nil ?_
 obtain⟨hz,lo,vs,rel,dd⟩:=XH I1.hok CH
 obtain⟨ep,dS⟩:=dd.dictAt
 have hv:HH s1.heap p a:=(show yr X.prog X.w H1 s1.heap p (WN p a) from I1.hok p _ hp).1
 have hl:vs.length=ns.length:=by rw[<-rel.length,<-Eu (f:=(·.1)),hk,Eu]
 refine zdJ (PySem.W.kdl_keys (knd:=zT X.prog X.w) (kvs:=vs) (ep:=ep)) (I1.ok.hd hc) ⟨hv,dS⟩ (by rw[hl];exact cP) (ns:=ns) (λus hu hp=>zbF rel hk us hu hp) λD g tk e out kp hD jt hi=> ?_
 exact zdn I1 kp hD jt hi (by rw[Gd,YT];exact Ve cP) q
end
end L2
namespace L2
open PySem PySem.Spec PyProof.Rows PySem.Calls
section
variable {K:Et} {E:XK}
noncomputable def Tt:D->D->Bool
 | .tup _,.tup _=>true
 | .lst _,.lst _=>true
 |_,_=>false
noncomputable def zbi (neg:Bool):Op2:=λx y S=>match wa S 40 x,wa S 40 y with
 |some d,some e=>if Tt d e then (eqG 40 d e).map λb=>(.bl (neg !=b),S) else none
 |_,_=>none
theorem zeB {d e:D} (h:Tt d e=true):∃l m,(d= .tup l/\e= .tup m)\/(d= .lst l/\e= .lst m):=by
 unfold Tt at h
 split at h
 ·exact⟨_,_,.inl ⟨rfl,rfl⟩⟩
 ·exact⟨_,_,.inr ⟨rfl,rfl⟩⟩
 ·cases h
theorem zaE {neg:Bool}:Vf K (zk1 K neg) (zbi neg):=by
 intro F j σ H ρ S S' x y z u v Q E1 hx hy h k
 unfold zbi at h
 split at h
 ·rename_i d e e1 e2
  split at h
  ·rename_i hb
   cases hg:eqG 40 d e with
   |none=>rw[hg] at h;cases h
   |some b=>
    rw[hg] at h
    cases h
    exact⟨d,e,b,zeB hb,(VF E1 40 _ _ _ hx e1).1,(VF E1 40 _ _ _ hy e2).1,hg,k _ _ _ Ext.refl E1 (.bl _)⟩
  ·cases h
 ·cases h
end
section
variable {S:Sto} {x y:Xv} {P:Xv->Sto->Prop} {p q:Int}
theorem zaF {neg b:Bool} {d e:D} (h1:wa S 40 x=some d) (h2:wa S 40 y=some e) (hs:Tt d e=true) (hb:eqG 40 d e=some b) (k:P (.bl (neg !=b)) S):WO (zbi neg x y S) P:= .of (by unfold zbi;rw[h1,h2];dsimp only;rw[if_pos hs,hb];rfl) k
theorem Ux {n:Nat}:∀(l m:List Int),l.length=m.length->vX (eqG n) (l.map D.int) (m.map D.int)=some (decide (l=m))
 |[],[],_=>by simp[vX]
 |[],_::_,h=>by simp at h
 |_::_,[],h=>by simp at h
 |a::l,b::m,h=>by
  have ih:=Ux (n:=n) l m (by simpa using h)
  have e:eqG n (.int a) (.int b)=some (a==b):=by cases n<;>rfl
  simp only[Ey,vX,e,EC,ih,FZ]
  by_cases h1:a=b
  ·subst h1;simp
  ·simp[h1]
theorem zdK (l m:List Int):eqG 40 (.lst (l.map D.int)) (.lst (m.map D.int))=some (decide (l=m)):=by
 unfold eqG
 dsimp only
 rw[Eu,Eu]
 by_cases h:l.length=m.length
 ·rw[if_pos h,Ux l m h]
 ·rw[if_neg h]
  have:l≠m:=λz=>h (by rw[z])
  simp[this]
theorem zhE {ρc:Rho} {get:Sto->Option (List Xv)} {g:TwG} {c:TwT} {m:TwE} {xs:List Xv} (hl:xs.length<=sizeLine) (J:Nat->List Xv->Sto->Prop) (hg:∀i es S,i<=xs.length->J i es S->get S=some xs)
  (h:∀(i:Nat) (x:Xv) es S,xs[i]? =some x->es.length<=i->J i es S->W (g x ρc S) λρ1 S1=>W (c ρ1 S1) λb S2=>(b=true->W (m ρ1 S2) λy S3=>J (i+1) (es++[y]) S3)/\(b=false->J (i+1) es S2)) (h0:J 0 [] S)
  (k:∀es S,es.length<=xs.length->J xs.length es S->P (.ref S.length) (S++[.lst es])):W (vL get g c m ρc (xs.length+1) 0 [] S) P:=by
 have aux:∀(n i:Nat) (es:List Xv) (S:Sto),i+n=xs.length->es.length<=i->J i es S->W (vL get g c m ρc (n+1) i es S) P:=by
  intro n
  induction n with
  |zero=>
   intro i es S e el hj
   unfold vL
   rw[hg i es S ⋯ hj,EC,Fe ⋯]
   dsimp only
   rw[if_pos ⋯]
   exact .of rfl (k es S ⋯ (by rw[show xs.length=i by omega];exact hj))
  |succ n ih=>
   intro i es S e el hj
   unfold vL
   have hi:i<xs.length:=by omega
   rw[hg i es S ⋯ hj,EC,Er hi]
   obtain⟨ρ1,S1,e1,b,S2,e2,t,f⟩:=h i _ es S (Er hi) el hj
   dsimp only[rn]
   rw[e1]
   dsimp only[rn]
   rw[e2]
   dsimp only[rn]
   cases b with
   |true=>
    obtain⟨y,S3,e3,q⟩:=t rfl
    rw[if_pos rfl,e3]
    dsimp only[rn]
    rw[if_pos ⋯]
    exact ih (i+1) (es++[y]) S3 ⋯ (by simp;omega) q
   |false=>
    rw[if_neg (by simp)]
    exact ih (i+1) es S2 ⋯ ⋯ (f rfl)
 exact aux xs.length 0 [] S ⋯ (by simp) h0
end
section
variable {K:Et} {E:XK}
end
section
variable {K:Et} {E:XK}
end
noncomputable def kX:Key->Xv
 | .inl i=> .int i
 | .inr z=> .str z
section
variable {K:Et} {E:XK}
theorem zme {j:List Addr} {H:Hp} {k:Key}:Xis K j H (kX k) (kV k):=by
 cases k
 ·exact .int _
 ·exact .str _
theorem KX.get {j:List Addr} {H:Hp}:∀{kvs:List (Key×Xv)} {ks:List (Key×V)} {i:Nat} {k:Key} {x:Xv},KX K j H kvs ks->kvs[i]? =some (k,x)->∃v,ks[i]? =some (k,v)/\Xis K j H x v
 |_,_,i,k,x,.nil,h=>by simp at h
 |_,_,0,k,x,.cons h _,e=>by
  simp at e
  obtain⟨rfl,rfl⟩:=e
  exact⟨_,rfl,h⟩
 |_,_,i+1,k,x,.cons _ l,e=>by
  obtain⟨v,e1,e2⟩:=KX.get (i:=i) l (by simpa using e)
  exact⟨v,by simpa using e1,e2⟩
end
noncomputable def zbj (y:Xv):Option NK:=match y with
 | .tup l=>(XJ (.tup l)).bind λk=>if yv k<=8 then some k else none
 | .ct l=>(XJ (.ct l)).bind λk=>if yv k<=8 then some k else none
 |_=>none
noncomputable def ZO (kvs:List (NK×Xv×Xv)) (k:NK):Option Xv:=(kvs.find? λp=>decide (p.1=k)).map (·.2.2)
noncomputable def zdL (kvs:List (NK×Xv×Xv)) (k:NK) (x y:Xv):List (NK×Xv×Xv):=if (ZO kvs k).isSome=true then kvs.map (λp=>if p.1=k then (p.1,p.2.1,y) else p) else kvs++[(k,x,y)]
noncomputable def WU (S:Sto) (x y:Xv):Option (Option Xv):=match x with
 | .ref n=>match S[n]? with
  |some (.dk kvs)=>match Wa y with
   |some key=>some (xi kvs key)
   |none=>if kvs.isEmpty=true/\(zbj y).isSome=true then some none else none
  |some (.dn kvs)=>(zbj y).map (ZO kvs)
  |_=>none
 |_=>none
noncomputable def zaG (S:Sto) (x y z:Xv):Option Sto:=match x with
 | .ref n=>match S[n]? with
  |some (.dk kvs)=>match Wa y with
   |some key=>if kvs.length<sizeLine then some (S.set n (.dk (XM kvs key z))) else none
   |none=>if kvs.isEmpty=true then (zbj y).map λk=>S.set n (.dn [(k,y,z)]) else none
  |some (.dn kvs)=>if kvs.length<sizeLine then (zbj y).map λk=>S.set n (.dn (zdL kvs k y z)) else none
  |_=>none
 |_=>none
section
variable {K:Et} {E:XK} {F:Fm} {j:List Addr} {H:Hp} {σ:St} {ρ:Rho} {S:Sto} {x y z:Xv} {u v w:V}
mutual
theorem Xis.nis:∀{x:Xv} {v:V} {k:NK},Xis K j H x v->XJ x=some k->NIs K H v k
 |_,_,_,.non,e=>by simp[XJ] at e
 |_,_,_,.bl b,e=>by simp[XJ] at e
 |_,_,_,.int i,e=>by simp[XJ] at e;subst e;exact .int i
 |_,_,_,.str i,e=>by simp[XJ] at e;subst e;exact .str i
 |_,_,_,.tup h l,e=>by
  simp only[XJ,F8] at e
  obtain⟨m,e1,rfl⟩:=e
  exact .tup (SqT.of h) (zV.nis l e1)
 |_,_,_,.ct h l,e=>by
  simp only[XJ,F8] at e
  obtain⟨m,e1,rfl⟩:=e
  exact .tup (h H) (zV.nis l e1)
 |_,_,_,.ref h,e=>by simp[XJ] at e
theorem zV.nis:∀{x:List Xv} {v:List V} {k:List NK},zV K j H x v->XV x=some k->WJ K H v k
 |_,_,_,.nil,e=>by simp[XV] at e;subst e;exact .nil
 |_,_,_,.cons h l,e=>by
  simp only[XV,Fb,F8] at e
  obtain⟨a,e1,b,e2,rfl⟩:=e
  exact .cons (Xis.nis h e1) (zV.nis l e2)
end
theorem Tu {k:NK} (h:Xis K j H x v) (e:zbj x=some k):∃b,v= .ref b/\NIs K H v k/\yv k<=8/\XJ x=some k:=by
 cases h with
 |tup h l=>
  simp only[zbj,Fb] at e
  obtain⟨k',e1,e2⟩:=e
  split at e2
  ·cases e2;exact⟨_,rfl,(Xis.tup h l).nis e1,by assumption,e1⟩
  ·cases e2
 |ct h l=>
  simp only[zbj,Fb] at e
  obtain⟨k',e1,e2⟩:=e
  split at e2
  ·cases e2;exact⟨_,rfl,(Xis.ct h l).nis e1,by assumption,e1⟩
  ·cases e2
 |_=>simp[zbj] at e
theorem NX.len:∀{kvs:List (NK×Xv×Xv)} {ks:List (NK×Addr×V)},NX K j H kvs ks->ks.length=kvs.length
 |_,_,.nil=>rfl
 |_,_,.cons _ _ _ l=>by simp[l.len]
theorem NX.nis:∀{kvs:List (NK×Xv×Xv)} {ks:List (NK×Addr×V)},NX K j H kvs ks->zhf K H ks
 |_,_,.nil,p,hp=>by cases hp
 |_,_,.cons e h1 _ l,p,hp=>by
  rcases EJ.1 hp with rfl|hp
  ·exact⟨h1.nis e.1,e.2⟩
  ·exact l.nis p hp
theorem NX.val {k:NK}:∀{kvs:List (NK×Xv×Xv)} {ks:List (NK×Addr×V)},NX K j H kvs ks->(∀y,ZO kvs k=some y->∃w,XN ks k=some w/\Xis K j H y w)/\(ZO kvs k=none->XN ks k=none)
 |_,_,.nil=>⟨λ_ e=>by simp[ZO] at e,λ_=>rfl⟩
 |(k1,x1,y1)::r,(_,b1,w1)::rs,.cons ek h1 h l=>by
  obtain⟨i1,i2⟩:=NX.val (k:=k) l
  by_cases e:k1=k
  ·subst e
   refine⟨λy ey=> ?_,λey=> ?_⟩
   ·simp[ZO] at ey
    subst ey
    exact⟨w1,by simp[XN],h⟩
   ·simp[ZO] at ey
  ·have e1:ZO ((k1,x1,y1)::r) k=ZO r k:=by simp[ZO,Fg,e]
   have e2:XN ((k1,b1,w1)::rs) k=XN rs k:=by simp[XN,Fg,e]
   rw[e1,e2]
   exact⟨i1,i2⟩
theorem NX.append:∀{kvs r:List (NK×Xv×Xv)} {ks rs:List (NK×Addr×V)},NX K j H kvs ks->NX K j H r rs->NX K j H (kvs++r) (ks++rs)
 |_,_,_,_,.nil,h=>h
 |_,_,_,_,.cons e h1 h l,g=> .cons e h1 h (l.append g)
theorem NX.put {k:NK} {b:Addr} (hk:XJ x=some k/\yv k<=8) (hx:Xis K j H x (.ref b)) (hy:Xis K j H y v) {kvs:List (NK×Xv×Xv)} {ks:List (NK×Addr×V)} (h:NX K j H kvs ks):NX K j H (zdL kvs k x y) (zat ks k b v):=by
 have e:(XN ks k).isSome=(ZO kvs k).isSome:=by
  cases ev:ZO kvs k with
  |none=>rw[h.val.2 ev];rfl
  |some z=>obtain⟨w,g,_⟩:=h.val.1 _ ev;rw[g];rfl
 unfold zdL zat
 rw[e]
 split
 ·rename_i hc
  clear hc e
  induction h with
  |nil=>exact .nil
  | @cons k1 x1 y1 b1 v1 r rs ek h1 h l ih=>
   rw[Ey,Ey]
   by_cases e:k1=k
   ·rw[if_pos e,if_pos e];exact .cons ek h1 hy ih
   ·rw[if_neg e,if_neg e];exact .cons ek h1 h ih
 ·exact h.append (.cons hk hx hy .nil)
theorem En.dn {n:Nat} {kvs:List (NK×Xv×Xv)} (E1:En K F j H σ ρ S) (hx:Xis K j H (.ref n) v) (h:S[n]? =some (.dn kvs)):∃a ks,v= .ref a/\j[n]? =some a/\H a=some (.dN ks)/\NX K j H kvs ks:=by
 obtain⟨a,rfl,hj⟩:=hx.ref_inv
 obtain⟨ks,e1,e2⟩:=E1.cel _ _ _ h hj
 exact⟨a,ks,rfl,hj,e1,e2⟩
theorem En.dgetN {r:Option Xv} (E1:En K F j H σ ρ S) (hx:Xis K j H x u) (hy:Xis K j H y w) (h:WU S x y=some r):∃a o,u= .ref a/\zbN K H a w o/\o.isSome=r.isSome/\(∀z zd,Xis K j H z zd->Xis K j H (r.getD z) (o.getD zd))/\∀z,r=some z->∃z',o=some z'/\Xis K j H z z':=by
 unfold WU at h
 split at h
 ·rename_i n
  split at h
  ·rename_i kvs hs
   have hd:ZF S (.ref n)=some (n,kvs):=yL hs
   obtain⟨a,ks,rfl,hj,f1,f2⟩:=E1.dk hx hd
   split at h
   ·rename_i key ek
    cases h
    obtain⟨o,g1,g2,g3⟩:=zck (key:=key) f1 f2
    refine⟨a,o,rfl,.inl (by rw[Wx hy ek];exact g1),g2,g3,λz hz=> ?_⟩
    have:=g3 .non .non .non
    rw[hz] at this g2
    cases o with
    |none=>cases g2
    |some z'=>exact⟨z',rfl,this⟩
   ·split at h
    ·rename_i hc
     cases h
     obtain⟨k,hk⟩:=G2.1 hc.2
     obtain⟨b,rfl,hn,hW,_⟩:=Tu hy hk
     have:kvs=[]:=Jz.1 hc.1
     subst this
     cases f2
     exact⟨a,none,rfl,.inr ⟨k,b,rfl,hn,hW,.inr ⟨f1,rfl⟩⟩,rfl,λz zd hz=>hz,λz hz=>by cases hz⟩
    ·cases h
  ·rename_i kvs hs
   obtain⟨a,ks,rfl,hj,f1,f2⟩:=E1.dn hx hs
   rw[F8] at h
   obtain⟨k,hk,rfl⟩:=h
   obtain⟨b,rfl,hn,hW,_⟩:=Tu hy hk
   refine⟨a,XN ks k,rfl,.inr ⟨k,b,rfl,hn,hW,.inl ⟨ks,f1,f2.nis,rfl⟩⟩,?_,λz zd hz=> ?_,λz hz=>f2.val.1 z hz⟩
   ·cases ev:ZO kvs k with
    |none=>rw[f2.val.2 ev];rfl
    |some z=>obtain⟨w,g,_⟩:=f2.val.1 _ ev;rw[g];rfl
   ·cases ev:ZO kvs k with
    |none=>rw[f2.val.2 ev];exact hz
    |some z=>obtain⟨w,g,g2⟩:=f2.val.1 _ ev;rw[g];exact g2
  ·cases h
 ·cases h
theorem En.dputN {S':Sto} (E1:En K F j H σ ρ S) (hx:Xis K j H x u) (hy:Xis K j H y w) (hz:Xis K j H z v) (h:zaG S x y z=some S'):∃a H',u= .ref a/\zhh K H a w v H'/\En K F j H' σ ρ S'/\Ext j H j H':=by
 unfold zaG at h
 split at h
 ·rename_i n
  split at h
  ·rename_i kvs hs
   have hd:ZF S (.ref n)=some (n,kvs):=yL hs
   obtain⟨a,ks,rfl,hj,f1,f2⟩:=E1.dk hx hd
   split at h
   ·rename_i key ek
    split at h
    ·rename_i hl
     cases h
     obtain⟨E4,X4⟩:=E1.wdk hd hj (f2.put (k:=key) hz)
     refine⟨a,_,rfl,.inl ?_,E4,X4⟩
     rw[Wx hy ek]
     exact zd9.k f1 (by rw[f2.len];exact hl)
    ·cases h
   ·split at h
    ·rename_i hc
     rw[F8] at h
     obtain⟨k,hk,rfl⟩:=h
     obtain⟨b,rfl,hn,hW,pM⟩:=Tu hy hk
     have:kvs=[]:=Jz.1 hc
     subst this
     cases f2
     obtain⟨E4,X4⟩:=E1.write (o:= .dN [(k,b,v)]) (c':= .dn [(k,y,z)]) hs rfl hj rfl λX=>⟨_,yl,.cons ⟨pM,hW⟩ (hy.mono X) (hz.mono X) .nil⟩
     exact⟨a,_,rfl,.inr ⟨k,b,rfl,hn,hW,.inr ⟨f1,rfl⟩⟩,E4,X4⟩
    ·cases h
  ·rename_i kvs hs
   obtain⟨a,ks,rfl,hj,f1,f2⟩:=E1.dn hx hs
   split at h
   ·rename_i hl
    rw[F8] at h
    obtain⟨k,hk,rfl⟩:=h
    obtain⟨b,rfl,hn,hW,pM⟩:=Tu hy hk
    obtain⟨E4,X4⟩:=E1.write (o:= .dN (zat ks k b v)) (c':= .dn (zdL kvs k y z)) hs rfl hj rfl λX=>⟨_,yl,(f2.put ⟨pM,hW⟩ hy hz).mono X⟩
    exact⟨a,_,rfl,.inr ⟨k,b,rfl,hn,hW,.inl ⟨ks,f1,f2.nis,by rw[f2.len];exact hl,rfl⟩⟩,E4,X4⟩
   ·cases h
  ·cases h
 ·cases h
noncomputable def zeC (d k:TwE):TwE:=λρ S=>rb (d ρ S) λx S1=>rb (k ρ S1) λy S2=>(WU S2 x y).bind λo=>o.map λz=> .ok z S2
theorem zhF {td ty:TE} {d k:TwE} (hd:RE K E td d) (hk:RE K E ty k):RE K E (zhj K td ty) (zeC d k):=by
 intro F j σ H ρ S r Q En0 e kk
 rcases zB e with⟨x,S1,e1,e⟩|⟨c,S1,e1,rfl⟩
 ·refine hd En0 e1 λj1 H1 X1 E1 u hu=> ?_
  rcases zB e with⟨y,S2,e2,e⟩|⟨c,S2,e2,rfl⟩
  ·refine hk E1 e2 λj2 H2 X2 E2 w hw=> ?_
   cases ed:WU S2 x y with
   |none=>rw[ed] at e;cases e
   |some o=>
    rw[ed,EC] at e
    cases o with
    |none=>cases e
    |some z=>
     cases e
     obtain⟨a,o,rfl,g,_,_,g3⟩:=E2.dgetN (hu.mono X2) hw ed
     obtain⟨z',rfl,hz⟩:=g3 z rfl
     exact⟨a,z',rfl,g,kk _ _ (X1.trans X2) E2 _ hz⟩
  ·exact hk E1 e2 (PX.mono kk X1)
 ·exact hd En0 e1 kk
noncomputable def zhG (neg:Bool) (k d:TwE):TwE:=λρ S=>rb (k ρ S) λy S1=>rb (d ρ S1) λx S2=>(WU S2 x y).map λo=> .ok (.bl (neg !=o.isSome)) S2
theorem zi7 {neg:Bool} {td ty:TE} {d k:TwE} (hk:RE K E ty k) (hd:RE K E td d):RE K E (zj5 K neg ty td) (zhG neg k d):=by
 intro F j σ H ρ S r Q En0 e kk
 rcases zB e with⟨y,S1,e1,e⟩|⟨c,S1,e1,rfl⟩
 ·refine hk En0 e1 λj1 H1 X1 E1 u hu=> ?_
  rcases zB e with⟨x,S2,e2,e⟩|⟨c,S2,e2,rfl⟩
  ·refine hd E1 e2 λj2 H2 X2 E2 w hw=> ?_
   cases ed:WU S2 x y with
   |none=>rw[ed] at e;cases e
   |some o=>
    rw[ed] at e
    cases e
    obtain⟨a,o',rfl,g,g1,_,_⟩:=E2.dgetN hw (hu.mono X2) ed
    refine⟨a,o',rfl,g,kk _ _ (X1.trans X2) E2 _ ?_⟩
    rw[g1]
    exact .bl _
  ·exact hd E1 e2 (PX.mono kk X1)
 ·exact hk En0 e1 kk
noncomputable def zcz (d k v:TwE):TwS:=λρ S=>sb (v ρ S) λz S1=>sb (d ρ S1) λx S2=>sb (k ρ S2) λy S3=>(zaG S3 x y z).map λS4=> .nx ρ S4
theorem zhH {td ty tv:TE} {d k v:TwE} (hd:RE K E td d) (hk:RE K E ty k) (hv:RE K E tv v):RS K E (zhk K td ty tv) (zcz d k v):=by
 intro F j D' σ H ρ S fl E0 e kk
 rcases xE e with⟨z,S1,e1,e⟩|⟨c,S1,e1,rfl⟩
 ·refine hv E0 e1 λj1 H1 X1 E1 wz pP=> ?_
  rcases xE e with⟨x,S2,e2,e⟩|⟨c,S2,e2,rfl⟩
  ·refine hd E1 e2 λj2 H2 X2 E2 u hu=> ?_
   rcases xE e with⟨y,S3,e3,e⟩|⟨c,S3,e3,rfl⟩
   ·refine hk E2 e3 λj3 H3 X3 E3 w hw=> ?_
    cases ed:zaG S3 x y z with
    |none=>rw[ed] at e;cases e
    |some S4=>
     rw[ed] at e
     cases e
     obtain⟨a,H4,rfl,g,E4,X4⟩:=E3.dputN (hu.mono X3) hw (pP.mono (X2.trans X3)) ed
     exact⟨a,H4,rfl,g,kk _ _ _ (X1.trans (X2.trans (X3.trans X4))) E4⟩
   ·exact hk E2 e3 (PX.mono kk (X1.trans X2))
  ·exact hd E1 e2 (PX.mono kk X1)
 ·exact hv E0 e1 kk
end
section
variable {K:Et} {j:List Addr} {H:Hp}
end
section
variable {ρ:Rho} {S:Sto} {P:Xv->Sto->Prop} {N:Rho->Sto->Prop} {R:Xv->Sto->Prop} {a b m z:TwE} {x y:Xv}
theorem zhI (h:W (a ρ S) λx S1=>W (b ρ S1) λy S2=>∃z,WU S2 x y=some (some z)/\P z S2):W (zeC a b ρ S) P:=
 W.bind (h.imp λ_ _ h=>W.bind (h.imp λ_ _ h=>by obtain⟨z,e1,q⟩:=h;rw[e1];exact .of rfl q))
theorem zi8 {neg:Bool} (h:W (a ρ S) λy S1=>W (b ρ S1) λx S2=>∃o,WU S2 x y=some o/\P (.bl (neg !=o.isSome)) S2):W (zhG neg a b ρ S) P:=
 W.bind (h.imp λ_ _ h=>W.bind (h.imp λ_ _ h=>by obtain⟨o,e1,q⟩:=h;rw[e1];exact .of rfl q))
theorem zhJ (h:W (m ρ S) λz S1=>W (a ρ S1) λx S2=>W (b ρ S2) λy S3=>∃S4,zaG S3 x y z=some S4/\N ρ S4):WS (zcz a b m ρ S) N R:=
 WS.bind (h.imp λ_ _ h=>WS.bind (h.imp λ_ _ h=>WS.bind (h.imp λ_ _ h=>by obtain⟨S4,e1,q⟩:=h;rw[e1];exact .nx rfl q)))
end
section
variable {K:Et} {E:XK} {F:Fm} {j:List Addr} {H:Hp} {σ:St} {ρ:Rho} {S:Sto} {x:Xv} {v:V} {nm f m:Str} {C:Addr}
end
section
variable {ρ:Rho} {S:Sto} {P:Xv->Sto->Prop} {N:Rho->Sto->Prop} {R:Xv->Sto->Prop} {o m:TwE} {ms:List TwE} {nm f:Str}
end
section
variable {K:Et} {E:XK} {j:List Addr} {H:Hp}
end
section
variable {K:Et} {E:XK} {F:Fm} {j:List Addr} {H:Hp} {σ:St} {ρ:Rho} {S:Sto} {x:Xv} {v:V} {c:Str} {C:Addr}
end
end L2
namespace L2
open PySem
section
variable {ρ:Rho} {S S':Sto} {x y:Xv} {a b m o:TwE} {c:TwT} {s t:TwS} {i k:Nat} {P:Xv->Sto->Prop} {PL:List Xv->Sto->Prop} {N:Rho->Sto->Prop} {R:Xv->Sto->Prop} {X:Str->Sto->Prop}
end
end L2
namespace L2
open PySem PySem.Spec PyProof.Rows PySem.Calls
section
variable {K:Et} {E:XK} {F:Fm} {j:List Addr} {H:Hp} {σ:St} {ρ:Rho} {S:Sto} {x:Xv} {v:V} {nm f:Str} {C:Addr}
end
structure zmx (tw:TwF) (S:Sto) (l:List Xv) (is:List (List Int)):Prop where
 len:is.length=l.length
 key:∀(i:Nat) x,l[i]? =some x->∃k,tw [x] S=some (.ok k S)/\k.tupOf=some ((is.getD i []).map Xv.int)
 fall:zl7 is
section
variable {K:Et} {E:XK} {j:List Addr} {H:Hp}
end
section
variable {K:Et} {E:XK} {F:Fm} {j:List Addr} {H:Hp} {σ:St} {ρ:Rho} {S:Sto}
end
mutual
noncomputable def unk:NK->Xv
 | .int i=> .int i
 | .str x=> .str x
 | .tup l=> .tup (zcA l)
noncomputable def zcA:List NK->List Xv
 |[]=>[]
 |k::r=>unk k::zcA r
end
theorem Xg:∀l:List NK,zcA l=l.map unk
 |[]=>rfl
 |k::r=>by rw[zcA,Ey,Xg r]
mutual
theorem zdM:∀k:NK,XJ (unk k)=some k
 | .int i=>by rw[unk,XJ]
 | .str x=>by rw[unk,XJ]
 | .tup l=>by rw[unk,XJ,WA l];rfl
theorem WA:∀l:List NK,XV (zcA l)=some l
 |[]=>by rw[zcA,XV]
 |k::r=>by rw[zcA,XV,zdM k,WA r];rfl
end
open Classical in
noncomputable def Wi:Xv->Sto->Option (Xv×Sto):=λx S=>(zv S x).bind λl=>(XV l).bind λks=>if l=ks.map unk/\ks.length<=4/\KOk false ks/\(∀k∈ks,ZN k=true) then some (.ref S.length,S++[.lst ((wW ks).map unk)]) else none
open Classical in
noncomputable def zaH (b:Bool):Opn:=λxs S=>match xs with
 |[x]=>(zv S x).bind λl=>(XV l).bind λks=>if l=ks.map unk/\ks.length<64/\KOk b ks/\ks.Nodup then some (.ref S.length,S++[.lst ((wW ks).map unk)]) else none
 |_=>none
section
variable {K:Et} {E:XK}
theorem Vn {j:List Addr} {H:Hp} {ys:List V} {ks:List NK} (hl:zV K j H (ks.map unk) ys):∀{outs:List (NK×V)},(∀x∈outs,∃p:Nat,ks[p]? =some x.1/\ys[p]? =some x.2)->zV K j H ((outs.map (·.1)).map unk) (outs.map (·.2))
 |[],_=> .nil
 |o::outs,h=>by
  obtain⟨p,e1,e2⟩:=h o (EG ..)
  obtain⟨v,e3,e4⟩:=hl.get (i:=p) (x:=unk o.1) (by rw[EB,e1];rfl)
  rw[e2] at e3
  cases e3
  exact .cons e4 (Vn hl λx hx=>h x (ED _ hx))
theorem zeD {to:TE} {o:TwE} (h:RE K E to o):RE K E (zdE K to) (eUn Wi o):=by
 intro F j σ H ρ S r Q En0 e k
 rcases zB e with⟨x,S1,e1,e⟩|⟨c,S1,e1,rfl⟩
 ·refine h En0 e1 λj1 H1 X1 E1 u hu=> ?_
  obtain⟨z,S2,e2,rfl⟩:=wF e
  unfold Wi at e2
  rw[Fb] at e2
  obtain⟨l,e3,e2⟩:=e2
  rw[Fb] at e2
  obtain⟨ks,e4,e2⟩:=e2
  split at e2
  ·rename_i hc
   cases e2
   obtain⟨rfl,h4,ok,gJ⟩:=hc
   obtain⟨a,vs,rfl,f1,f2⟩:=E1.lstAt hu e3
   refine⟨a,vs,ks,rfl,f1,f2.nis e4,h4,ok,gJ,λp outs so hp=> ?_⟩
   have hr:wW ks=outs.map (·.1):=zaD so.1 so.2.1
   obtain⟨E2,X2,h3⟩:=E1.lst (Vn f2 so.2.2) hp
   rw[hr] at k
   exact k _ _ (X1.trans X2) E2 _ h3
  ·cases e2
 ·exact h En0 e1 k
theorem zhK {b:Bool}:zaa K (zhw K b) (zaH b):=by
 intro F j σ H ρ S S' xs z vs Q E1 hv h k
 unfold zaH at h
 split at h
 ·rename_i x
  rw[Fb] at h
  obtain⟨l,e3,e2⟩:=h
  rw[Fb] at e2
  obtain⟨ks,e4,e2⟩:=e2
  split at e2
  ·rename_i hc
   cases e2
   obtain⟨rfl,h4,ok,nd⟩:=hc
   obtain⟨w,rfl,hx⟩:=hv.d1
   obtain⟨p,ws,rfl,h1,h2⟩:=E1.lstAt hx e3
   refine⟨p,ws,ks,rfl,h1.sql,h2.nis e4,h4,ok,nd,λq outs so _ hq=> ?_⟩
   have hr:wW ks=outs.map (·.1):=zaD so.1 so.2.1
   obtain⟨E2,X2,h3⟩:=E1.lst (Vn h2 so.2.2) hq
   rw[hr] at k
   exact k _ _ _ X2 E2 h3
  ·cases e2
 ·cases h
end
theorem zeE {S:Sto} {x:Xv} {ks:List NK} {P:Xv->Sto->Prop} (h:zv S x=some (ks.map unk)) (h4:ks.length<=4) (ok:KOk false ks) (hn:∀k∈ks,ZN k=true) (k:P (.ref S.length) (S++[.lst ((wW ks).map unk)])):WO (Wi x S) P:= .of (by
 unfold Wi
 rw[h,EC,<-Xg,WA,EC,Xg,if_pos ⟨rfl,h4,ok,hn⟩]) k
theorem zhL {b:Bool} {S:Sto} {x:Xv} {ks:List NK} {P:Xv->Sto->Prop} (h:zv S x=some (ks.map unk)) (h4:ks.length<64) (ok:KOk b ks) (nd:ks.Nodup) (k:P (.ref S.length) (S++[.lst ((wW ks).map unk)])):WO (zaH b [x] S) P:= .of (by
 unfold zaH
 dsimp only
 rw[h,EC,<-Xg,WA,EC,Xg,if_pos ⟨rfl,h4,ok,nd⟩]) k
noncomputable def zdN (kvs:List (Key×Xv)):List Xv:=kvs.map λp=>kX p.1
noncomputable def zhM (n:Nat) (S:Sto):Option (List Xv):=match S[n]? with
 |some (.fdk kvs)=>some (zdN kvs)
 |_=>none
noncomputable def zhN (m:TwE):TwI:=λρ S=>rb (m ρ S) λx S1=>(wb S1 x).map λp=> .ok (zhM p.1) (S1.set p.1 (.fdk p.2))
section
variable {K:Et} {E:XK}
theorem zhO {S:Sto} {n:Nat} {c:Ce} (h:S[n]? =some c):S.set n c=S:=by
 obtain⟨hi,e⟩:=Es.1 h
 rw[<-e]
 exact Hz hi
theorem zi9 {t:TE} {m:TwE} (h:RE K E t m):RI K E (zhx (zc8 K "dict" zbG t)) (zhN m):=by
 intro F j σ H ρ S r R En0 e k
 rcases zB e with⟨x,S1,e1,e⟩|⟨c,S1,e1,rfl⟩
 ·cases e4:wb S1 x with
  |none=>rw[e4] at e;cases e
  |some p=>
   obtain⟨n,kvs⟩:=p
   rw[e4] at e
   cases e
   refine h En0 e1 λj1 H1 X1 E1 u hu=> ?_
   obtain⟨a,ks,rfl,hj,h1,h2⟩:=E1.dr hu e4
   refine⟨ziT h1,a,ks,rfl,rfl,h1,λp hp=> ?_⟩
   obtain⟨E2,X2⟩:=E1.new (o:=WN p a) hp
   have fin:∀o j3 H3,Ext j1 (upd H1 p (WN p a)) j3 H3->En K F j3 H3 σ ρ (S1.set n (.fdk kvs))->H3 a=some (.frz o (.dK ks))->R (Kym a o ks) H3:=λo j3 H3 X3 E3 CG=>by
    refine k _ _ (X1.trans (X2.trans X3)) E3 _ ?_
    intro F2 j2 H2 σ2 ρ2 S2 xs i X4 E4 e5
    unfold zhM at e5
    split at e5
    ·rename_i oT ec
     cases e5
     have ha:H2 a=some (.frz o (.dK ks)):=X4.imm _ _ CG rfl
     obtain⟨o',ks',f1,f2⟩:=E4.cel n _ a ec (X4.pre n a (X3.pre n a (X2.pre n a hj)))
     rw[ha] at f1
     cases f1
     refine⟨λy ey=> ?_,λhle=>⟨ha,by rw[f2.len];unfold zdN at hle;rw[Eu] at hle;omega⟩⟩
     unfold zdN at ey
     rw[EB] at ey
     cases ep:oT[i]? with
     |none=>rw[ep] at ey;cases ey
     |some q=>
      obtain⟨kk,xx⟩:=q
      rw[ep] at ey
      cases ey
      obtain⟨v,g1,g2⟩:=f2.get ep
      refine⟨⟨ha,kk,v,g1⟩,?_⟩
      rintro v' H' ⟨rfl,k2,v2,rfl,g3⟩
      rw[g1] at g3
      cases g3
      exact⟨WH.refl _,zme⟩
    ·cases e5
   refine⟨p,a,ks,rfl,yl,h1.new hp,λh3 o=> ?_,λo h3=> ?_⟩
   ·have hs:S1[n]? =some (.dk kvs):=by
     cases x<;>simp only[wb,reduceCtorEq] at e4
     split at e4
     ·rename_i hs
      cases e4
      exact hs
     ·rename_i hs
      cases e4
      obtain⟨o',ks',f1,_⟩:=E2.cel n _ a hs (X2.pre n a hj)
      rw[h3] at f1
      cases f1
     ·cases e4
    obtain⟨E3,X3⟩:=E2.writeF (n:=n) (c':= .fdk kvs) (o:= .frz o (.dK ks)) hs rfl (X2.pre n a hj) (λX=>⟨o,ks,yl,(h2.mono X2).mono X⟩)
    exact fin o _ _ X3 E3 yl
   ·have hs:S1[n]? =some (.fdk kvs):=by
     cases x<;>simp only[wb,reduceCtorEq] at e4
     split at e4
     ·rename_i hs
      cases e4
      obtain⟨ks',f1,_⟩:=E2.cel n _ a hs (X2.pre n a hj)
      rw[h3] at f1
      cases f1
     ·rename_i hs
      cases e4
      exact hs
     ·cases e4
    rw[zhO hs] at fin
    exact fin o _ _ Ext.refl E2 h3
 ·exact h En0 e1 k
end
theorem zhP {ρ:Rho} {S:Sto} {m:TwE} {Q':(Sto->Option (List Xv))->Sto->Prop} (h:W (m ρ S) λx S1=>∃n kvs,wb S1 x=some (n,kvs)/\Q' (zhM n) (S1.set n (.fdk kvs))):W (zhN m ρ S) Q':=W.bind (h.imp λx S1 h=>by
 obtain⟨n,kvs,e,q⟩:=h
 rw[e]
 exact .of rfl q)
noncomputable def gL (n:Nat) (gs:zce):TwG:=λx ρ S=>(zv S x).bind λl=>if l.length=n then gs l ρ S else none
theorem zle {K:Et} {E:XK} {n:Nat} {t:TGs} {gs:zce} (h:RGs K E t gs):RG K E (zj6 K n t) (gL n gs):=by
 intro F j σ H ρ S r x v R E0 hx e k
 unfold gL at e
 rw[Fb] at e
 obtain⟨l,e1,e⟩:=e
 split at e
 ·rename_i hl
  obtain⟨a,vs,rfl,h1,h2⟩:=E0.lstAt hx e1
  exact⟨a,vs,rfl,h1.sql,by rw[h2.len];exact hl,h E0 h2 e k⟩
 ·cases e
noncomputable def zdO:Opn:=λxs S=>match xs with
 |[.ref n]=>match S[n]? with
  |some (.dk kvs)=>some (.int kvs.length,S)
  |some (.fdk kvs)=>some (.int kvs.length,S)
  |some (.dn kvs)=>some (.int kvs.length,S)
  |_=>none
 |_=>none
theorem zja {K:Et}:zaa K zj7 zdO:=by
 intro F j σ H ρ S S' xs z vs Q E1 hv h k
 unfold zdO at h
 split at h
 ·rename_i n
  obtain⟨w,rfl,hx⟩:=hv.d1
  obtain⟨a,rfl,hj⟩:=hx.ref_inv
  refine⟨a,rfl,?_⟩
  split at h
  ·rename_i kvs hs
   cases h
   obtain⟨ks,e1,e2⟩:=E1.cel _ _ _ hs hj
   exact .inl ⟨ks,.inl e1,k _ _ _ Ext.refl E1 (by rw[e2.len];exact .int _)⟩
  ·rename_i kvs hs
   cases h
   obtain⟨o,ks,e1,e2⟩:=E1.cel _ _ _ hs hj
   exact .inl ⟨ks,.inr ⟨o,e1⟩,k _ _ _ Ext.refl E1 (by rw[e2.len];exact .int _)⟩
  ·rename_i kvs hs
   cases h
   obtain⟨ks,e1,e2⟩:=E1.cel _ _ _ hs hj
   exact .inr ⟨ks,e1,k _ _ _ Ext.refl E1 (by rw[e2.len];exact .int _)⟩
  ·cases h
 ·cases h
noncomputable def zeF (d:D):List D->Option (List Bool)
 |[]=>some []
 |e::r=>(eqG 39 e d).bind λb=>(zeF d r).map (b:: ·)
theorem zfr {d:D}:∀{ds:List D} {bs:List Bool},zeF d ds=some bs->bs.length=ds.length/\∀(i:Nat) e b,ds[i]? =some e->bs[i]? =some b->eqG 39 e d=some b
 |[],bs,h=>by cases h;exact⟨rfl,λi e b h=>by simp at h⟩
 |e::r,bs,h=>by
  unfold zeF at h
  rw[Fb] at h
  obtain⟨b,h1,h⟩:=h
  rw[F8] at h
  obtain⟨bs',h2,rfl⟩:=h
  obtain⟨i1,i2⟩:=zfr h2
  refine⟨by rw[F5,F5,i1],λi e' b' q1 q2=> ?_⟩
  cases i with
  |zero=>simp at q1 q2;subst q1 q2;exact h1
  |succ i=>exact i2 i e' b' (by simpa using q1) (by simpa using q2)
noncomputable def zeG (neg:Bool):Op2:=λx y S=>(zv S y).bind λl=>(vC (wa S 40) l).bind λds=>(wa S 40 x).bind λd=>(zeF d ds).map λbs=>(.bl (neg !=bs.any id),S)
noncomputable def VT:Xv->Sto->Option (Xv×Sto):=λx S=>(ZF S x).bind λp=>(vN p.2).bind λns=>if ns.length<64 then some (.ref S.length,S++[.lst ((yX ns).map λk=> .tup [.int k,(xi p.2 (.inl k)).getD .non])]) else none
noncomputable def zdP:Opn:=λxs S=>match xs with
 |[x]=>((zv S x).bind Ym).bind λns=>if ns=[] then none else some (.int (zdI ns),S)
 |_=>none
noncomputable def Uy:Xv->Sto->Option (Xv×Sto):=λx S=>((wb S x).bind λp=>vN p.2).bind λns=>if ns.length<64 then some (.ref S.length,S++[.lst ((yX ns).reverse.map Xv.int)]) else none
section
variable {K:Et} {E:XK}
theorem zhQ {neg:Bool}:Vf K (zmc K neg) (zeG neg):=by
 intro F j σ H ρ S S' x y z u v Q E1 hx hy h k
 unfold zeG at h
 rw[Fb] at h
 obtain⟨l,e1,h⟩:=h
 rw[Fb] at h
 obtain⟨ds,e2,h⟩:=h
 rw[Fb] at h
 obtain⟨d,e3,h⟩:=h
 rw[F8] at h
 obtain⟨bs,e4,h⟩:=h
 cases h
 obtain⟨p,ws,rfl,h1,h2⟩:=E1.lstAt hy e1
 obtain⟨i1,i2⟩:=zfr e4
 exact⟨p,ws,ds,d,bs,rfl,h1.sql,(XZ (λa b c=>VF E1 40 a b c) h2 e2).1,(VF E1 40 _ _ _ hx e3).1,i1,i2,k _ _ _ Ext.refl E1 (.bl _)⟩
theorem zjb:zaa K (zj8 K) zdP:=by
 intro F j σ H ρ S S' xs z vs Q E1 hv h k
 unfold zdP at h
 split at h
 ·rename_i x
  rw[Fb] at h
  obtain⟨ns,e,h⟩:=h
  rw[Fb] at e
  obtain⟨l,e,e2⟩:=e
  split at h
  ·cases h
  ·rename_i bZ
   cases h
   obtain⟨w,rfl,hx⟩:=hv.d1
   obtain⟨p,ws,rfl,h1,h2⟩:=E1.lstAt hx e
   refine⟨p,ns,rfl,?_,bZ,k _ _ _ Ext.refl E1 (.int _)⟩
   rw[<-VE e2 h2]
   exact h1.sql
 ·cases h
theorem zhR {to:TE} {o:TwE} (h:RE K E to o):RE K E (zhC K to) (eUn Uy o):=by
 intro F j σ H ρ S r Q En0 e k
 rcases zB e with⟨x,S1,e1,e⟩|⟨c,S1,e1,rfl⟩
 ·obtain⟨z,S3,e3,rfl⟩:=wF e
  refine h En0 e1 λj1 H1 X1 E1 u hu=> ?_
  unfold Uy at e3
  cases e4:wb S1 x with
  |none=>rw[e4] at e3;cases e3
  |some p=>
   obtain⟨n,kvs⟩:=p
   rw[e4] at e3
   cases e2:vN kvs with
   |none=>simp[e2] at e3
   |some ns=>
    simp only[EC,e2] at e3
    split at e3
    ·rename_i cP
     cases e3
     obtain⟨a,ks,rfl,hj,h1,h2⟩:=E1.dr hu e4
     refine⟨ziT h1,a,ks,rfl,rfl,h1,λp hp=> ?_⟩
     obtain⟨E2,X2⟩:=E1.new (o:=WN p a) hp
     refine⟨p,a,ks,ns,rfl,yl,h1.new hp,h2.keys.trans (YZ e2),cP,λq hq=> ?_⟩
     obtain⟨E3,X3,h3⟩:=E2.lst (zV.ints (yX ns).reverse) hq
     exact k _ _ (X1.trans (X2.trans X3)) E3 _ h3
    ·cases e3
 ·exact h En0 e1 k
theorem zj9 {j:List Addr} {H:Hp} {kvs:List (Key×Xv)} {ks:List (Key×V)} (h:KX K j H kvs ks):∀(ns:List Int),(∀n∈ns,(Ft n:Key)∈kvs.map (·.1))->∀{ps:List Addr},Vm H ps (ns.map λk=>(k,(ZD ks (.inl k)).getD .non))->zV K j H (ns.map λk=>Xv.tup [.int k,(xi kvs (.inl k)).getD .non]) (ps.map V.ref)
 |[],_,_,.nil=> .nil
 |n::ns,hm,_,.cons e r=>by
  refine .cons (.tup e (.cons (.int _) (.cons ?_ .nil))) (zj9 h ns (λm BH=>hm m (ED _ BH)) r)
  obtain⟨i1,_⟩:=KX.val (k:=(Ft n:Key)) h
  have aC:=hm n (EG ..)
  cases ev:xi kvs (Ft n:Key) with
  |none=>
   unfold xi at ev
   rw[IQ,Hk] at ev
   obtain⟨q,q1,q2⟩:=Ez.1 aC
   exact absurd (decide_eq_true q2) (ev q q1)
  |some y=>
   obtain⟨w,w1,w2⟩:=i1 y ev
   dsimp only
   rw[w1]
   exact w2
theorem zgd {to:TE} {o:TwE} (h:RE K E to o):RE K E (tCB zfo (UO (zc8 K "dict" zhd to) zd7)) (eUn VT o):=by
 intro F j σ H ρ S r Q En0 e k
 rcases zB e with⟨x,S1,e1,e⟩|⟨c,S1,e1,rfl⟩
 ·obtain⟨z,S3,e3,rfl⟩:=wF e
  refine h En0 e1 λj1 H1 X1 E1 u hu=> ?_
  unfold VT at e3
  cases e4:ZF S1 x with
  |none=>rw[e4] at e3;cases e3
  |some p=>
   obtain⟨n,kvs⟩:=p
   rw[e4] at e3
   cases e2:vN kvs with
   |none=>simp[e2] at e3
   |some ns=>
    simp only[EC,e2] at e3
    split at e3
    ·rename_i cP
     cases e3
     obtain⟨a,ks,rfl,hj,h1,h2⟩:=E1.dk hu e4
     refine⟨tyD h1,a,ks,rfl,rfl,h1,λp hp=> ?_⟩
     obtain⟨E2,X2⟩:=E1.new (o:=zbM p a) hp
     have hk:=h2.keys.trans (YZ e2)
     refine⟨p,a,ks,ns,rfl,yl,by rw[yj (xT h1 hp)];exact h1,hk,cP,λH2 ps l sm ts hl=> ?_⟩
     have X3:Ext j1 (upd H1 p (zbM p a)) j1 H2:=Ext.same sm
     have E3:=E2.heap sm
     have h3:=zj9 ((h2.mono X2).mono X3) (yX ns) (λm hm=>by
      rw[YZ e2]
      exact Ez.2 ⟨m,(Zc ns).mem_iff.1 hm,rfl⟩) ts
     obtain⟨E4,X4,h4⟩:=E3.lst h3 hl
     exact k _ _ (X1.trans (X2.trans (X3.trans X4))) E4 _ h4
    ·cases e3
 ·exact h En0 e1 k
end
section
variable {S:Sto} {x y:Xv} {P:Xv->Sto->Prop}
theorem zlf {neg:Bool} {l:List Xv} {ds:List D} {d:D} {bs:List Bool} (h1:zv S y=some l) (h2:vC (wa S 40) l=some ds) (h3:wa S 40 x=some d) (h4:zeF d ds=some bs) (k:P (.bl (neg !=bs.any id)) S):WO (zeG neg x y S) P:= .of (by
 unfold zeG
 rw[h1,EC,h2,EC,h3,EC,h4]
 rfl) k
theorem zjc {l:List Xv} {ns:List Int} (h1:zv S x=some l) (h2:Ym l=some ns) (h3:ns≠[]) (k:P (.int (zdI ns)) S):WO (zdP [x] S) P:= .of (by
 unfold zdP
 dsimp only
 rw[h1,EC,h2,EC,if_neg h3]) k
theorem zhS {n:Nat} {kvs:List (Key×Xv)} {ns:List Int} (h:wb S x=some (n,kvs)) (e:vN kvs=some ns) (cP:ns.length<64) (k:P (.ref S.length) (S++[.lst ((yX ns).reverse.map Xv.int)])):WO (Uy x S) P:= .of (by unfold Uy;rw[h,EC,e,EC,if_pos cP]) k
theorem zge {n:Nat} {kvs:List (Key×Xv)} {ns:List Int} (h:ZF S x=some (n,kvs)) (e:vN kvs=some ns) (cP:ns.length<64) (k:P (.ref S.length) (S++[.lst ((yX ns).map λk=> .tup [.int k,(xi kvs (.inl k)).getD .non])])):WO (VT x S) P:= .of (by unfold VT;rw[h,EC,e,EC,if_pos cP]) k
end
end L2
namespace Mth
open PySem.Builtin.Int (intBits)
end Mth
namespace Prf
open PySem PySem.Spec PyProof.Rows L2
open PySem.Builtin.Int (intBits)
set_option maxHeartbeats 4000000
section
variable {P:Program} {w:World} {K:Et} {mg:Str->Option Value} {base:Heap} {fu:Nat}
noncomputable def top (i:Nat):Stmt:=PySem.Challenge.pw_lots_k73_laid_together.main.body.getD i (.Pass ⟨0,0,0,0⟩)
noncomputable abbrev xA:Stmt:=top 2
noncomputable abbrev Yd:Stmt:=top 3
noncomputable abbrev Vo:Stmt:=top 4
noncomputable abbrev wH:Stmt:=top 5
noncomputable abbrev Ye:Stmt:=top 7
noncomputable abbrev wI:Stmt:=top 8
noncomputable abbrev Yf:Stmt:=top 9
noncomputable abbrev xr:Stmt:=top 10
noncomputable abbrev yY:Stmt:=top 11
noncomputable abbrev Wj:Stmt:=top 12
noncomputable abbrev xj:Stmt:=top 14
noncomputable abbrev wd:Stmt:=top 15
noncomputable abbrev yP:Stmt:=top 16
noncomputable abbrev wJ:Stmt:=top 17
noncomputable abbrev wK:Stmt:=top 18
noncomputable abbrev xt:Stmt:=top 19
noncomputable abbrev xu:Stmt:=top 20
noncomputable abbrev xw:Stmt:=top 21
noncomputable abbrev we:Stmt:=top 22
noncomputable abbrev yG:Stmt:=top 23
noncomputable abbrev yH:Stmt:=top 24
noncomputable abbrev xS:Stmt:=top 25
noncomputable abbrev Zg:Stmt:=top 26
noncomputable abbrev yq:Stmt:=top 27
noncomputable abbrev yC:Stmt:=top 28
noncomputable abbrev wL:Stmt:=top 29
noncomputable abbrev zaI:Stmt:=top 30
theorem xO:yb ["one","other","rest"] ["one","other"] (zq xA):=⟨rfl,rfl,rfl, *...*,rfl, *...*, *...*⟩
theorem Uz:yb ["top","bottom","part"] ["top","bottom"] (zq Yd):=⟨rfl,rfl,rfl, *...*,rfl, *...*, *...*⟩
theorem zjd:yb ["one","other"] ["one","other"] (zq Vo):=⟨rfl,rfl,rfl, *...*,rfl, *...*, *...*⟩
theorem Yq:yb ["pairs","totals","thing","share"] ["pairs"] (zq wH):=⟨rfl,rfl,rfl, *...*,rfl, *...*, *...*⟩
theorem WB:yb ["net","marks","told","finer"] ["net","marks"] (zq Ye):=⟨rfl,rfl,rfl, *...*,rfl, *...*, *...*⟩
theorem Wl:yb ["keys","numbers","key"] ["keys"] (zq wI):=⟨rfl,rfl,rfl, *...*,rfl, *...*, *...*⟩
theorem WC:yb ["net","classes","keys","node","choices"] ["net","classes"] (zq Yf):=⟨rfl,rfl,rfl, *...*,rfl, *...*, *...*⟩
theorem WV:yb ["choices","classes","by_classes"] ["choices","classes"] (zq xr):=⟨rfl,rfl,rfl, *...*,rfl, *...*, *...*⟩
theorem zaJ:yb ["parts","classes"] ["parts","classes"] (zq yY):=⟨rfl,rfl,rfl, *...*,rfl, *...*, *...*⟩
theorem Tv:yb ["net","classes","nodes","node","choices"] ["net","classes"] (zq Wj):=⟨rfl,rfl,rfl, *...*,rfl, *...*, *...*⟩
theorem Ti:yb ["_law_script","_law_k"] ["_law_script","_law_k"] (zq xj):=⟨rfl,rfl,rfl, *...*,rfl, *...*, *...*⟩
theorem zbk:yb ["_law_number","_law_prime","_law_many"] ["_law_number","_law_prime","_law_many"] (zq wd):=⟨rfl,rfl,rfl, *...*,rfl, *...*, *...*⟩
theorem wS:yb ["_law_top","_law_bottom","_law_one","_law_other"] ["_law_top","_law_bottom"] (zq yP):=⟨rfl,rfl,rfl, *...*,rfl, *...*, *...*⟩
theorem zcB:yb ["_law_cell"] ["_law_cell"] (zq wJ):=⟨rfl,rfl,rfl, *...*,rfl, *...*, *...*⟩
theorem VU:yb ["_law_script","_law_count","_law_place","_law_turned"] ["_law_script","_law_count","_law_place"] (zq wK):=⟨rfl,rfl,rfl, *...*,rfl, *...*, *...*⟩
theorem wT:yb ["_law_script","_law_first","_law_count","_law_net","_law_place","_law_node"] ["_law_script"] (zq xt):=⟨rfl,rfl,rfl, *...*,rfl, *...*, *...*⟩
theorem yI:yb ["_law_script","_law_count","_law_table","_law_k","_law_cell","_law_place","_law_slot","_law_weights","_law_to"] ["_law_script"] (zq xu):=⟨rfl,rfl,rfl, *...*,rfl, *...*, *...*⟩
theorem YD:yb ["_law_script","_law_node","_law_to","_law_copies","_law_cell","_law_weights"] ["_law_script","_law_node","_law_to","_law_copies"] (zq xw):=⟨rfl,rfl,rfl, *...*,rfl, *...*, *...*⟩
theorem xB:yb ["_law_script","_law_node","_law_weights","_law_homes_here","_law_parts_here","_law_whole","_law_to","_law_split_here","_law_k","_law_weight"] ["_law_script","_law_node","_law_weights","_law_homes_here"] (zq we):=⟨rfl,rfl,rfl, *...*,rfl, *...*, *...*⟩
theorem ve:yb ["_law_script","_law_count","_law_many","_law_homes_here","_law_copies","_law_begun"] ["_law_script","_law_count"] (zq yG):=⟨rfl,rfl,rfl, *...*,rfl, *...*, *...*⟩
theorem ye:yb ["_law_script","_law_table","_law_homes_here","_law_count","_law_net","_law_marks","_law_cell","_law_base","_law_home","_law_node","_law_slot","_law_gain_here","_law_weights"] ["_law_script"] (zq yH):=⟨rfl,rfl,rfl, *...*,rfl, *...*, *...*⟩
theorem Xu:yb ["_law_net","_law_copied","_law_choices"] ["_law_net"] (zq xS):=⟨rfl,rfl,rfl, *...*,rfl, *...*, *...*⟩
theorem Zh:yb ["_law_choice","_law_classes","_law_sums","_law_node","_law_share","_law_top","_law_bottom"] ["_law_choice","_law_classes"] (zq Zg):=⟨rfl,rfl,rfl, *...*,rfl, *...*, *...*⟩
theorem ZP:yb ["_law_found","_law_number"] ["_law_found"] (zq yq):=⟨rfl,rfl,rfl, *...*,rfl, *...*, *...*⟩
theorem Yr:yb ["_law_found","_law_part"] ["_law_found"] (zq yC):=⟨rfl,rfl,rfl, *...*,rfl, *...*, *...*⟩
theorem Zt:yb ["_law_found","_law_choices","_law_classes","_law_due","_law_choice","_law_kind"] ["_law_found","_law_choices","_law_classes"] (zq wL):=⟨rfl,rfl,rfl, *...*,rfl, *...*, *...*⟩
theorem vP:yb ["_law_script","_law_net","_law_marks","_law_classes","_law_handed","_law_asked","_law_found","_law_node","_law_choices","_law_choice"] ["_law_script"] (zq zaI):=⟨rfl,rfl,rfl, *...*,rfl, *...*, *...*⟩
set_option genInjectivity false in
set_option genSizeOf false in
structure Tx (K:Et) (mg:Str->Option Value) where
 b0:Addr
 aN:FuncData
 bR:Fun K "common_part" "common_part" xA b0 aN
 cO:mg "common_part"=some (.ref b0)
 cR:yW K aN ["one","other"] []
 di:Addr
 cL:FuncData
 eh:Fun K "lowest" "lowest" Yd di cL
 eV:mg "lowest"=some (.ref di)
 fc:yW K cL ["top","bottom"] []
 eN:Addr
 dD:FuncData
 fE:Fun K "plus" "plus" Vo eN dD
 g8:mg "plus"=some (.ref eN)
 gw:yW K dD ["one","other"] []
 cj:Addr
 bH:FuncData
 cY:Fun K "gathered" "gathered" wH cj bH
 dM:mg "gathered"=some (.ref cj)
 dY:yW K bH ["pairs"] []
 dg:Addr
 cJ:FuncData
 e8:Fun K "rounds" "rounds" Ye dg cJ
 eU:mg "rounds"=some (.ref dg)
 eZ:yW K cJ ["net","marks"] []
 cg:Addr
 bG:FuncData
 cq:Fun K "numbered" "numbered" wI cg bG
 cT:mg "numbered"=some (.ref cg)
 cV:yW K bG ["keys"] []
 dh:Addr
 cK:FuncData
 dj:Fun K "parted" "parted" Yf dh cK
 dJ:mg "parted"=some (.ref dh)
 dX:yW K cK ["net","classes"] []
 bo:Addr
 aS:FuncData
 bz:Fun K "choices_by" "choices_by" xr bo aS
 bX:mg "choices_by"=some (.ref bo)
 c9:yW K aS ["choices","classes"] []
 aZ:Addr
 aM:FuncData
 bQ:Fun K "gathered_by" "gathered_by" yY aZ aM
 cN:mg "gathered_by"=some (.ref aZ)
 cQ:yW K aM ["parts","classes"] []
 eO:Addr
 dE:FuncData
 eR:Fun K "laid" "laid" Wj eO dE
 fq:mg "laid"=some (.ref eO)
 fB:yW K dE ["net","classes"] []
 aP:Addr
 aF:FuncData
 ai:Fun K "_law_cell_at" "_law_cell_at" xj aP aF
 aj:mg "_law_cell_at"=some (.ref aP)
 ak:yW K aF ["_law_script","_law_k"] []
 bt:Addr
 aV:FuncData
 af:Fun K "_law_mixed" "_law_mixed" wd bt aV
 ag:mg "_law_mixed"=some (.ref bt)
 ah:yW K aV ["_law_number","_law_prime","_law_many"] []
 aH:Addr
 aA:FuncData
 ay:Fun K "_law_fraction" "_law_fraction" yP aH aA
 aE:mg "_law_fraction"=some (.ref aH)
 aG:yW K aA ["_law_top","_law_bottom"] []
 bM:Addr
 bg:FuncData
 cG:Fun K "_law_gain" "_law_gain" wJ bM bg
 dy:mg "_law_gain"=some (.ref bM)
 dB:yW K bg ["_law_cell"] []
 bL:Addr
 bf:FuncData
 b7:Fun K "_law_name" "_law_name" wK bL bf
 bF:mg "_law_name"=some (.ref bL)
 bJ:yW K bf ["_law_script","_law_count","_law_place"] []
 bK:Addr
 bb:FuncData
 cF:Fun K "_law_rows" "_law_rows" xt bK bb
 dw:mg "_law_rows"=some (.ref bK)
 dA:yW K bb ["_law_script"] []
 bx:Addr
 aY:FuncData
 cz:Fun K "_law_bases" "_law_bases" xu bx aY
 d9:mg "_law_bases"=some (.ref bx)
 df:yW K aY ["_law_script"] []
 bp:Addr
 aT:FuncData
 cu:Fun K "_law_split" "_law_split" xw bp aT
 d3:mg "_law_split"=some (.ref bp)
 da:yW K aT ["_law_script","_law_node","_law_to","_law_copies"] []
 bq:Addr
 aU:FuncData
 bA:Fun K "_law_parts" "_law_parts" we bq aU
 bY:mg "_law_parts"=some (.ref bq)
 cf:yW K aU ["_law_script","_law_node","_law_weights","_law_homes_here"] []
 bu:Addr
 aW:FuncData
 cw:Fun K "_law_homes" "_law_homes" yG bu aW
 d7:mg "_law_homes"=some (.ref bu)
 dc:yW K aW ["_law_script","_law_count"] []
 bw:Addr
 aX:FuncData
 cy:Fun K "_law_blown" "_law_blown" yH bw aX
 d8:mg "_law_blown"=some (.ref bw)
 de:yW K aX ["_law_script"] []
 bN:Addr
 bh:FuncData
 bO:Fun K "_law_copy" "_law_copy" xS bN bh
 cB:mg "_law_copy"=some (.ref bN)
 cD:yW K bh ["_law_net"] []
 cM:Addr
 c7:FuncData
 dv:Fun K "_law_by" "_law_by" Zg cM c7
 eG:mg "_law_by"=some (.ref cM)
 eK:yW K c7 ["_law_choice","_law_classes"] []
 aw:Addr
 av:FuncData
 ax:Fun K "_law_is_fraction" "_law_is_fraction" yq aw av
 aI:mg "_law_is_fraction"=some (.ref aw)
 aJ:yW K av ["_law_found"] []
 aB:Addr
 az:FuncData
 aR:Fun K "_law_is_choice" "_law_is_choice" yC aB az
 bT:mg "_law_is_choice"=some (.ref aB)
 bV:yW K az ["_law_found"] []
 ck:Addr
 bI:FuncData
 cx:Fun K "_law_has" "_law_has" wL ck bI
 cU:mg "_law_has"=some (.ref ck)
 cW:yW K bI ["_law_found","_law_choices","_law_classes"] []
 fe:Addr
 dU:FuncData
 iN:Fun K "law" "law" zaI fe dU
 jZ:mg "law"=some (.ref fe)
 lQ:yW K dU ["_law_script"] []
 g7:mg "abs"=none
 fm:mg "bool"=none
 aK:mg "enumerate"=none
 fZ:mg "int"=none
 ao:mg "isinstance"=none
 b8:mg "len"=none
 bW:mg "list"=none
 iq:mg "max"=none
 aD:mg "range"=none
 dI:mg "reversed"=none
 ip:mg "set"=none
 bS:mg "sorted"=none
 dH:mg "sum"=none
 cH:mg "tuple"=none
 aQ:Addr
 dO:mg "NOUGHT"=some (.ref aQ)
 dW:∀H,SqT K H aQ [.int 0,.int 1]
local macro_rules | `(tactic| walk_at "q1") => `(tactic| first | exact .inl rfl | exact .inr rfl | assumption)
noncomputable def Yg (fu:Nat):TwS:=(zI (yk (eFn zgY [(ze 0)]) (gN 0)) (zI (yk (eFn zgY [(ze 1)]) (gN 1)) (zI (sWh fu (bE (eOp zaf (ze 1) (eC (.int 0)))) (zI (yk (eOp Xp (ze 0) (ze 1)) (gN 2)) (zI (yk (ze 1) (gN 0)) (yk (ze 2) (gN 1))))) (xo (ze 0)))))
noncomputable def Wm (fu:Nat):TwF:=xh 2 1 (Yg fu)
theorem zaK (T:Tx K mg):xJ P w K mg base (CXE P w) 1 T.b0 T.aN ["one","other"] (sTw K 2 (Wm fu)):=
 T.bR.okE xO (λvs H Q E h=>h.1) (λaO A outer s H vs Q E hr h=>⟨_,(@zk _ _ _ _ _ (@zO _ _ 0 _ _ _ _ xO.nd rfl (EF rfl) (zD zc3 rfl T.g7 boot_abs (@za _ _ _ _ _ (pv 0) zg zi)) (by rfl) (by walk_at "q1")) (@zk _ _ _ _ _ (@zO _ _ 1 _ _ _ _ xO.nd rfl (EF rfl) (zD zc3 rfl T.g7 boot_abs (@za _ _ _ _ _ (pv 1) zg zi)) (by rfl) (by walk_at "q1")) (@zk _ _ _ _ _ (TJ PassesOwn.leaving (xb (XO (pv 1) zm)) (@zk _ _ _ _ _ (@zO _ _ 2 _ _ _ _ xO.nd rfl (EF rfl) (zJ ZC (pv 0) (pv 1)) (by rfl) (by walk_at "q1")) (@zk _ _ _ _ _ (@zO _ _ 0 _ _ _ _ xO.nd rfl (EF rfl) (pv 1) (by rfl) (by walk_at "q1")) (@zr _ _ _ (@zO _ _ 1 _ _ _ _ xO.nd rfl (EF rfl) (pv 2) (by rfl) (by walk_at "q1")))))) (@zr _ _ _ (@zR _ _ _ _ (pv 0)))))),xM (n:=2) (k:=1) (b:=Yg fu) rfl (zu (zF (xc zgZ (zc (zb 0) zh)) zo) (zu (zF (xc zgZ (zc (zb 1) zh)) zo) (zu (zac (xW (XY (zb 1) (zn _))) (zu (zF (zt ZE (zb 0) (zb 1)) zo) (zu (zF (zb 1) zo) (zF (zb 2) zo)))) (zS (zb 0))))) h⟩)
noncomputable def UA (fu:Nat):TwS:=(zI (yk (zC (Wm fu) [(ze 0),(ze 1)]) (gN 2)) (zI (sIf (bE (eOp dLt (ze 1) (eC (.int 0)))) (yk (eUn Uk (ze 2)) (gN 2)) xg) (xo (wj [(eOp Vh (ze 0) (ze 2)),(eOp Vh (ze 1) (ze 2))]))))
noncomputable def UB (fu:Nat):TwF:=xh 2 1 (UA fu)
theorem zgf (T:Tx K mg):xJ P w K mg base (CXE P w) 2 T.di T.cL ["top","bottom"] (sTw K 2 (UB fu)):=
 T.eh.okE Uz (λvs H Q E h=>h.1) (λaO A outer s H vs Q E hr h=>⟨_,(@zk _ _ _ _ _ (@zO _ _ 2 _ _ _ _ Uz.nd rfl (EF rfl) (zw (zaK (fu:=fu) T) (hr.mono ∅) rfl T.cO T.bR.kp T.cR .nil zM (@za _ _ _ _ _ (pv 0) (@za _ _ _ _ _ (pv 1) zg zi) zi)) (by rfl) (by walk_at "q1")) (@zk _ _ _ _ _ (xG (xb (zjK (pv 1) zm)) (@zr _ _ _ (@zO _ _ 2 _ _ _ _ Uz.nd rfl (EF rfl) (zbu Ug (pv 2)) (by rfl) (by walk_at "q1"))) ym) (@zr _ _ _ (@zR _ _ _ _ (@yz _ _ _ _ _ (@za _ _ _ _ _ (zJ Vz (pv 0) (pv 2)) (@za _ _ _ _ _ (zJ Vz (pv 1) (pv 2)) zg yi) yi)))))),xM (n:=2) (k:=1) (b:=UA fu) rfl (zu (zF (zx (zc (zb 0) (zc (zb 1) zh))) zo) (zu (xK (xW (zj2 (zb 1) (zn _))) (zF (zbH Ul (zb 2)) zo) yn) (zS (yA (zc (zt VD (zb 0) (zb 2)) (zc (zt VD (zb 1) (zb 2)) zh)))))) h⟩)
noncomputable def zcC (fu:Nat):TwS:=(xo (zC (UB fu) [(eOp vw (eOp ZL (eOp Zr (ze 0) (eC (.int 0))) (eOp Zr (ze 1) (eC (.int 1)))) (eOp ZL (eOp Zr (ze 1) (eC (.int 0))) (eOp Zr (ze 0) (eC (.int 1))))),(eOp ZL (eOp Zr (ze 0) (eC (.int 1))) (eOp Zr (ze 1) (eC (.int 1))))]))
noncomputable def zcD (fu:Nat):TwF:=xh 2 0 (zcC fu)
theorem zje (T:Tx K mg):xJ P w K mg base (CXE P w) 3 T.eN T.dD ["one","other"] (sTw K 2 (zcD fu)):=
 T.fE.okE zjd (λvs H Q E h=>h.1) (λaO A outer s H vs Q E hr h=>⟨_,(@zr _ _ _ (@zR _ _ _ _ (zw (zgf (fu:=fu) T) (hr.mono ∅) rfl T.eV T.eh.kp T.fc .nil zM (@za _ _ _ _ _ (zJ yM (zJ vi (@yh _ _ _ _ _ _ _ (yR (K:=K)) (pv 0) zm (λ_ _=>rfl)) (@yh _ _ _ _ _ _ _ (yR (K:=K)) (pv 1) zm (λ_ _=>rfl))) (zJ vi (@yh _ _ _ _ _ _ _ (yR (K:=K)) (pv 1) zm (λ_ _=>rfl)) (@yh _ _ _ _ _ _ _ (yR (K:=K)) (pv 0) zm (λ_ _=>rfl)))) (@za _ _ _ _ _ (zJ vi (@yh _ _ _ _ _ _ _ (yR (K:=K)) (pv 0) zm (λ_ _=>rfl)) (@yh _ _ _ _ _ _ _ (yR (K:=K)) (pv 1) zm (λ_ _=>rfl))) zg yi) yi)))),xM (n:=2) (k:=0) (b:=zcC fu) rfl (zS (zx (zc (zt yN (zt vj (zt xX (zb 0) (zn _)) (zt xX (zb 1) (zn _))) (zt vj (zt xX (zb 1) (zn _)) (zt xX (zb 0) (zn _)))) (zc (zt vj (zt xX (zb 0) (zn _)) (zt xX (zb 1) (zn _))) zh)))) h⟩)
noncomputable def Wn (fu:Nat):TwS:=(zI (yk Vj (gN 1)) (zI (vW (iL (ze 0)) (gT 2 (zZ (gN 2) (zZ (gN 3) vB))) (Ur (ze 1) (ze 2) (zC (zcD fu) [(zaj (ze 1) (ze 2) (eC (.ct [.int 0,.int 1]))),(ze 3)]))) (xo (wu [none,some 1] (iL (eFn zal [(ze 1)])) (gN 0) (bE (eOp (zbi true) (VJ (ze 1) (ze 0)) (eC (.ct [.int 0,.int 1])))) (wj [(ze 0),(VJ (ze 1) (ze 0))])))))
noncomputable def Wo (fu:Nat):TwF:=xh 1 3 (Wn fu)
theorem zdQ (T:Tx K mg):xJ P w K mg base (CXE P w) 4 T.cj T.bH ["pairs"] (sTw K 1 (Wo fu)):=
 T.cY.okE Yq (λvs H Q E h=>h.1) (λaO A outer s H vs Q E hr h=>⟨_,(@zk _ _ _ _ _ (@zO _ _ 1 _ _ _ _ Yq.nd rfl (Im rfl) XS (by rfl) (by walk_at "q1")) (@zk _ _ _ _ _ (xl PassesOwn.leaving rfl (yo (K:=K) (pv 0)) (wo (K:=K) (n:=2) rfl (zL (zy (i:=2) Yq.nd rfl (EF rfl)) (zL (zy (i:=3) Yq.nd rfl (EF rfl)) xU))) (@zr _ _ _ (Tk (YR hr) (pv 1) (pv 2) (zw (zje (fu:=fu) T) (hr.mono ∅) rfl T.g8 T.fE.kp T.gw .nil zM (@za _ _ _ _ _ (TR (YR hr) (pv 1) (pv 2) (zeU (v:= .ref T.aQ) rfl T.dO rfl) ⟨rfl,rfl,rfl,rfl⟩) (@za _ _ _ _ _ (pv 3) zg zi) yc)) rfl))) (@zr _ _ _ (@zR _ _ _ _ (vH (N':=["thing","totals"]) rfl (blk (osc:=zq wH) rfl (by decide+kernel)) (yD (vJ (i:=1) rfl rfl xn)) (yo (K:=K) (zD (zef rfl) rfl T.bS PyProof.Rows.Boot.«sorted» (@za _ _ _ _ _ (pv 1) zg zi))) (yd rfl) (λC s₀ H₀ fp=>zy (i:=0) (show (["thing","totals"]:List Str).Nodup from by decide+kernel) rfl (EF rfl)) (λC s₀ H₀ fp=>ze3 (Wt (zcp (K:=K) hr) (Vx (YR hr) (pv 1) (pv 0) (λ_ _=>rfl)) (zeU (v:= .ref T.aQ) rfl T.dO rfl) (by rfl))) (λC s₀ H₀ fp=>(@yz _ _ _ _ _ (@za _ _ _ _ _ (pv 0) (@za _ _ _ _ _ (Vx (YR hr) (pv 1) (pv 0) (λ_ _=>rfl)) zg zX) zi)))))))),xM (n:=1) (k:=3) (b:=Wn fu) rfl (zu (zF VI zo) (zu (xm (yE (zb 0)) (vK (zN zo (zN zo xY))) (Tn (zb 1) (zb 2) (zx (zc (zak (zb 1) (zb 2) (ziO λj H=> .ct (λH=>T.dW H) (.cons (.int _) (.cons (.int _) (.nil))))) (zc (zb 3) zh))))) (zS (xp (cap:=[none,some 1]) (yE (xc zg0 (zc (zb 1) zh))) zo (Ww (zt zaE (VL (zb 1) (zb 0)) (ziO λj H=> .ct (λH=>T.dW H) (.cons (.int _) (.cons (.int _) (.nil)))))) (yA (zc (zb 0) (zc (VL (zb 1) (zb 0)) zh))))))) h⟩)
noncomputable def Wp (fu:Nat):TwS:=(zI (yk Vj (gN 1)) (zI (vW (iL (ze 0)) (gN 2) (sIf (bE (zhG true (ze 2) (ze 1))) (zcz (ze 1) (ze 2) (eFn zdO [(ze 1)])) xg)) (xo (wu [none,some 1] (iL (ze 0)) (gN 0) wU (zeC (ze 1) (ze 0))))))
noncomputable def Ys (fu:Nat):TwF:=xh 1 2 (Wp fu)
theorem UW (T:Tx K mg):xJ P w K mg base (CXE P w) 1 T.cg T.bG ["keys"] (sTw K 1 (Ys fu)):=
 T.cq.okE Wl (λvs H Q E h=>h.1) (λaO A outer s H vs Q E hr h=>⟨_,(@zk _ _ _ _ _ (@zO _ _ 1 _ _ _ _ Wl.nd rfl (Im rfl) XS (by rfl) (by walk_at "q1")) (@zk _ _ _ _ _ (xl PassesOwn.leaving rfl (yo (K:=K) (pv 0)) (zy (i:=2) Wl.nd rfl (EF rfl)) (@zr _ _ _ (xG (xb (zew (K:=K) hr (pv 2) (pv 1))) (@zr _ _ _ (zhn (K:=K) hr (pv 1) (pv 2) (zD zgb rfl T.b8 boot_len (@za _ _ _ _ _ (pv 1) zg zi)) rfl)) ym))) (@zr _ _ _ (@zR _ _ _ _ (vH (N':=["key","numbers"]) rfl (blk (osc:=zq wI) rfl (by decide+kernel)) (yD (vJ (i:=1) rfl rfl xn)) (yo (K:=K) (pv 0)) (yd rfl) (λC s₀ H₀ fp=>zy (i:=0) (show (["key","numbers"]:List Str).Nodup from by decide+kernel) rfl (EF rfl)) (λC s₀ H₀ fp=>xV) (λC s₀ H₀ fp=>(zhm (K:=K) hr (pv 1) (pv 0) (λ_ _=>rfl)))))))),xM (n:=1) (k:=2) (b:=Wp fu) rfl (zu (zF VI zo) (zu (xm (yE (zb 0)) zo (xK (xW (zi7 (zb 2) (zb 1))) (zhH (zb 1) (zb 2) (xc zja (zc (zb 1) zh))) yn)) (zS (xp (cap:=[none,some 1]) (yE (zb 0)) zo xZ (zhF (zb 1) (zb 0)))))) h⟩)
noncomputable def Yh (fu:Nat):TwS:=(xo (zC (Wo fu) [(wu [none,none,some 1] (iL (ze 0)) (gT 2 (zZ (gN 0) (zZ (gN 1) vB))) wU (wj [(eOp xf (ze 2) (ze 0)),(ze 1)]))]))
noncomputable def Yi (fu:Nat):TwF:=xh 2 0 (Yh fu)
theorem zaL (T:Tx K mg):xJ P w K mg base (CXE P w) 5 T.aZ T.aM ["parts","classes"] (sTw K 2 (Yi fu)):=
 T.bQ.okE zaJ (λvs H Q E h=>h.1) (λaO A outer s H vs Q E hr h=>⟨_,(@zr _ _ _ (@zR _ _ _ _ (zw (zdQ (fu:=fu) T) (hr.mono ∅) rfl T.dM T.cY.kp T.dY .nil zM (za (vH (N':=["number","share","classes"]) rfl (blk (osc:=zq yY) rfl (by decide+kernel)) (yD (yD (vJ (i:=1) rfl rfl xn))) (yo (K:=K) (pv 0)) (Vy (wD (yd rfl) (wD (yd rfl) Wv wE) wE)) (λC s₀ H₀ fp=>wo (K:=K) (n:=2) rfl (zL (zy (i:=0) (show (["number","share","classes"]:List Str).Nodup from by decide+kernel) rfl (EF rfl)) (zL (zy (i:=1) (show (["number","share","classes"]:List Str).Nodup from by decide+kernel) rfl (EF rfl)) xU))) (λC s₀ H₀ fp=>xV) (λC s₀ H₀ fp=>(@yz _ _ _ _ _ (@za _ _ _ _ _ (@yh _ _ _ _ _ _ _ (zK (K:=K)) (pv 2) (pv 0) (λ_ _=>rfl)) (@za _ _ _ _ _ (pv 1) zg zi) zX)))) zg)))),xM (n:=2) (k:=0) (b:=Yh fu) rfl (zS (zx (zc (xp (cap:=[none,none,some 1]) (yE (zb 0)) (vK (zN zo (zN zo xY))) xZ (yA (zc (zt yp (zb 2) (zb 0)) (zc (zb 1) zh)))) zh))) h⟩)
noncomputable def YE (fu:Nat):TwS:=(zI (yk (wu [none,none,some 1] (iL (ze 0)) (gT 2 (zZ (gN 0) (zZ (gN 1) vB))) wU (wj [(ze 0),(eFn Um [(zC (Yi fu) [(ze 1),(ze 2)])])])) (gN 2)) (xo (eUn Wi (ze 2))))
noncomputable def Zo (fu:Nat):TwF:=xh 2 1 (YE fu)
theorem WW (T:Tx K mg):xJ P w K mg base (CXE P w) 6 T.bo T.aS ["choices","classes"] (sTw K 2 (Zo fu)):=
 T.bz.okE WV (λvs H Q E h=>h.1) (λaO A outer s H vs Q E hr h=>⟨_,(@zk _ _ _ _ _ (Zb (i:=2) (N':=["gain","parts","classes"]) rfl (blk (osc:=zq xr) rfl (by decide+kernel)) (yD (yD (vJ (i:=1) rfl rfl xn))) (yo (K:=K) (pv 0)) (Vy (wD (yd rfl) (wD (yd rfl) Wv wE) wE)) (λC s₀ H₀ fp=>wo (K:=K) (n:=2) rfl (zL (zy (i:=0) (show (["gain","parts","classes"]:List Str).Nodup from by decide+kernel) rfl (EF rfl)) (zL (zy (i:=1) (show (["gain","parts","classes"]:List Str).Nodup from by decide+kernel) rfl (EF rfl)) xU))) (λC s₀ H₀ fp=>xV) (λC s₀ H₀ fp=>(@yz _ _ _ _ _ (@za _ _ _ _ _ (pv 0) (@za _ _ _ _ _ (ZU (UR (K:=K)) rfl T.cH boot_tuple (@za _ _ _ _ _ (zw (zaL (fu:=fu) T) (hr.mono ∅) rfl T.cN T.bQ.kp T.cQ .nil zdl (@za _ _ _ _ _ (pv 1) (@za _ _ _ _ _ (pv 2) zg zi) zi)) zg yc)) zg yc) zi))) WV.nd rfl rfl) (@zr _ _ _ (@zR _ _ _ _ (zey (K:=K) hr rfl rfl T.bS rfl T.ip (pv 2))))),xM (n:=2) (k:=1) (b:=YE fu) rfl (zu (Ze (xp (cap:=[none,none,some 1]) (yE (zb 0)) (vK (zN zo (zN zo xY))) xZ (yA (zc (zb 0) (zc (xc zdq (zc (zx (zc (zb 1) (zc (zb 2) zh))) zh)) zh))))) (zS (zeD (zb 2)))) h⟩)
noncomputable def UC (fu:Nat):TwS:=(zI (yk (YU []) (gN 2)) (zI (vW (iEn (ze 0)) (gT 2 (zZ (gN 3) (zZ (gN 4) vB))) (vA (eMt yt (ze 2) [(wj [(eOp xf (ze 1) (ze 3)),(eFn Um [(zC (Zo fu) [(ze 4),(ze 1)])])])]))) (xo (zC (Ys fu) [(ze 2)]))))
noncomputable def ZW (fu:Nat):TwF:=xh 2 3 (UC fu)
theorem zbS (T:Tx K mg):xJ P w K mg base (CXE P w) 7 T.dh T.cK ["net","classes"] (sTw K 2 (ZW fu)):=
 T.dj.okE WC (λvs H Q E h=>h.1) (λaO A outer s H vs Q E hr h=>⟨_,(@zk _ _ _ _ _ (@zO _ _ 2 _ _ _ _ WC.nd rfl (EF rfl) (@vq _ _ _ _ zg) (by rfl) (by walk_at "q1")) (@zk _ _ _ _ _ (xl PassesOwn.leaving rfl (VB (K:=K) rfl T.aK (@za _ _ _ _ _ (pv 0) zg zi)) (wo (K:=K) (n:=2) rfl (zL (zy (i:=3) WC.nd rfl (EF rfl)) (zL (zy (i:=4) WC.nd rfl (EF rfl)) xU))) (@zr _ _ _ (wO (YQ Fs Fk Fo yJ (pv 2) (@za _ _ _ _ _ (@yz _ _ _ _ _ (@za _ _ _ _ _ (@yh _ _ _ _ _ _ _ (zK (K:=K)) (pv 1) (pv 3) (λ_ _=>rfl)) (@za _ _ _ _ _ (ZU (UR (K:=K)) rfl T.cH boot_tuple (@za _ _ _ _ _ (zw (WW (fu:=fu) T) (hr.mono ∅) rfl T.bX T.bz.kp T.c9 .nil zM (@za _ _ _ _ _ (pv 4) (@za _ _ _ _ _ (pv 1) zg zi) zi)) zg yc)) zg yc) zX)) zg yQ))))) (@zr _ _ _ (@zR _ _ _ _ (zw (UW (fu:=fu) T) (hr.mono ∅) rfl T.cT T.cq.kp T.cV .nil zM (@za _ _ _ _ _ (pv 2) zg zi)))))),xM (n:=2) (k:=3) (b:=UC fu) rfl (zu (zF (vt zh) zo) (zu (xm (VH (zb 0)) (vK (zN zo (zN zo xY))) (wP (YV yZ (zb 2) (zc (yA (zc (zt yp (zb 1) (zb 3)) (zc (xc zdq (zc (zx (zc (zb 4) (zc (zb 1) zh))) zh)) zh))) zh)))) (zS (zx (zc (zb 2) zh))))) h⟩)
noncomputable def UD (fu:Nat):TwS:=(zI (yk (YU [(zC (Ys fu) [(ze 1)])]) (gN 2)) (zI (yk (zC (ZW fu) [(ze 0),(eOp xf (ze 2) (eUn Uk (eC (.int 1))))]) (gN 3)) (zI (sWh fu (bE (eOp (zbi true) (ze 3) (eOp xf (ze 2) (eUn Uk (eC (.int 1)))))) (zI (vA (eMt yt (ze 2) [(ze 3)])) (yk (zC (ZW fu) [(ze 0),(eOp xf (ze 2) (eUn Uk (eC (.int 1))))]) (gN 3)))) (xo (ze 2)))))
noncomputable def WD (fu:Nat):TwF:=xh 2 2 (UD fu)
theorem zgg (T:Tx K mg):xJ P w K mg base (CXE P w) 8 T.dg T.cJ ["net","marks"] (sTw K 2 (WD fu)):=
 T.e8.okE WB (λvs H Q E h=>h.1) (λaO A outer s H vs Q E hr h=>⟨_,(@zk _ _ _ _ _ (@zO _ _ 2 _ _ _ _ WB.nd rfl (EF rfl) (@vq _ _ _ _ (@za _ _ _ _ _ (zw (UW (fu:=fu) T) (hr.mono ∅) rfl T.cT T.cq.kp T.cV .nil zM (@za _ _ _ _ _ (pv 1) zg zi)) zg yc)) (by rfl) (by walk_at "q1")) (@zk _ _ _ _ _ (@zO _ _ 3 _ _ _ _ WB.nd rfl (EF rfl) (zw (zbS (fu:=fu) T) (hr.mono ∅) rfl T.dJ T.dj.kp T.dX .nil zM (@za _ _ _ _ _ (pv 0) (@za _ _ _ _ _ (@yh _ _ _ _ _ _ _ (zK (K:=K)) (pv 2) (zbu Ug zm) (λ_ _=>rfl)) zg zX) zi)) (by rfl) (by walk_at "q1")) (@zk _ _ _ _ _ (TJ PassesOwn.leaving (Wt (zcp (K:=K) hr) (pv 3) (@yh _ _ _ _ _ _ _ (zK (K:=K)) (pv 2) (zbu Ug zm) (λ_ _=>rfl)) (by rfl)) (@zk _ _ _ _ _ (wO (YQ Fs Fk Fo yJ (pv 2) (@za _ _ _ _ _ (pv 3) zg zi))) (@zr _ _ _ (@zO _ _ 3 _ _ _ _ WB.nd rfl (EF rfl) (zw (zbS (fu:=fu) T) (hr.mono ∅) rfl T.dJ T.dj.kp T.dX .nil zM (@za _ _ _ _ _ (pv 0) (@za _ _ _ _ _ (@yh _ _ _ _ _ _ _ (zK (K:=K)) (pv 2) (zbu Ug zm) (λ_ _=>rfl)) zg zX) zi)) (by rfl) (by walk_at "q1"))))) (@zr _ _ _ (@zR _ _ _ _ (pv 2)))))),xM (n:=2) (k:=2) (b:=UD fu) rfl (zu (zF (vt (zc (zx (zc (zb 1) zh)) zh)) zo) (zu (zF (zx (zc (zb 0) (zc (zt yp (zb 2) (zbH Ul (zn _))) zh))) zo) (zu (zac (Ww (zt zaE (zb 3) (zt yp (zb 2) (zbH Ul (zn _))))) (zu (wP (YV yZ (zb 2) (zc (zb 3) zh))) (zF (zx (zc (zb 0) (zc (zt yp (zb 2) (zbH Ul (zn _))) zh))) zo))) (zS (zb 2))))) h⟩)
noncomputable def zcE (fu:Nat):TwS:=(zI (yk (YU []) (gN 2)) (zI (vW (iEn (ze 0)) (gT 2 (zZ (gN 3) (zZ (gN 4) vB))) (sIf (bE (eOp zae (eOp xf (ze 1) (ze 3)) (eFn Yj [(ze 2)]))) (vA (eMt yt (ze 2) [(wu [none,none] (iL (zC (Zo fu) [(ze 4),(ze 1)])) (gT 2 (zZ (gN 0) (zZ (gN 1) vB))) wU (wj [(ze 0),(eFn WQ [(ze 1)])]))])) xg)) (xo (ze 2))))
noncomputable def Tw (fu:Nat):TwF:=xh 2 3 (zcE fu)
theorem zfs (T:Tx K mg):xJ P w K mg base (CXE P w) 7 T.eO T.dE ["net","classes"] (sTw K 2 (Tw fu)):=
 T.eR.okE Tv (λvs H Q E h=>h.1) (λaO A outer s H vs Q E hr h=>⟨_,(@zk _ _ _ _ _ (@zO _ _ 2 _ _ _ _ Tv.nd rfl (EF rfl) (@vq _ _ _ _ zg) (by rfl) (by walk_at "q1")) (@zk _ _ _ _ _ (xl PassesOwn.leaving rfl (VB (K:=K) rfl T.aK (@za _ _ _ _ _ (pv 0) zg zi)) (wo (K:=K) (n:=2) rfl (zL (zy (i:=3) Tv.nd rfl (EF rfl)) (zL (zy (i:=4) Tv.nd rfl (EF rfl)) xU))) (@zr _ _ _ (xG (xb (Va (@yh _ _ _ _ _ _ _ (zK (K:=K)) (pv 1) (pv 3) (λ_ _=>rfl)) (zD (yK (K:=K)) rfl T.b8 boot_len (@za _ _ _ _ _ (pv 2) zg zi)))) (@zr _ _ _ (wO (YQ Fs Fk Fo yJ (pv 2) (za (vH (N':=["gain","parts"]) rfl (blk (osc:=zq Wj) rfl (by decide+kernel)) (yD (yD xn)) (yo (K:=K) (zw (WW (fu:=fu) T) (hr.mono ∅) rfl T.bX T.bz.kp T.c9 .nil zM (@za _ _ _ _ _ (pv 4) (@za _ _ _ _ _ (pv 1) zg zi) zi))) (Vy (wD (yd rfl) (wD (yd rfl) Wv wE) wE)) (λC s₀ H₀ fp=>wo (K:=K) (n:=2) rfl (zL (zy (i:=0) (show (["gain","parts"]:List Str).Nodup from by decide+kernel) rfl (EF rfl)) (zL (zy (i:=1) (show (["gain","parts"]:List Str).Nodup from by decide+kernel) rfl (EF rfl)) xU))) (λC s₀ H₀ fp=>xV) (λC s₀ H₀ fp=>(@yz _ _ _ _ _ (@za _ _ _ _ _ (pv 0) (@za _ _ _ _ _ (ZU (Xo (K:=K)) rfl T.bW boot_list (@za _ _ _ _ _ (pv 1) zg zi)) zg yc) zi)))) zg)))) ym))) (@zr _ _ _ (@zR _ _ _ _ (pv 2))))),xM (n:=2) (k:=3) (b:=zcE fu) rfl (zu (zF (vt zh) zo) (zu (xm (VH (zb 0)) (vK (zN zo (zN zo xY))) (xK (xW (Vi (zt yp (zb 1) (zb 3)) (xc vM (zc (zb 2) zh)))) (wP (YV yZ (zb 2) (zc (xp (cap:=[none,none]) (yE (zx (zc (zb 4) (zc (zb 1) zh)))) (vK (zN zo (zN zo xY))) xZ (yA (zc (zb 0) (zc (xc Tm (zc (zb 1) zh)) zh)))) zh))) yn)) (zS (zb 2)))) h⟩)
noncomputable def ZH (fu:Nat):TwS:=(zI (sIf (bE (eOp dLt (ze 1) (eFn Yj [(ze 0)]))) (xo (eOp xf (ze 0) (ze 1))) xg) (xo (eC (.int 0))))
noncomputable def zH (fu:Nat):TwF:=xh 2 0 (ZH fu)
theorem zQ (T:Tx K mg):xJ P w K mg base (CXE P w) 1 T.aP T.aF ["_law_script","_law_k"] (sTw K 2 (zH fu)):=
 T.ai.okE Ti (λvs H Q E h=>h.1) (λaO A outer s H vs Q E hr h=>⟨_,(@zk _ _ _ _ _ (xG (xb (zjK (pv 1) (zD (yK (K:=K)) rfl T.b8 boot_len (@za _ _ _ _ _ (pv 0) zg zi)))) (@zr _ _ _ (@zR _ _ _ _ (@yh _ _ _ _ _ _ _ (zK (K:=K)) (pv 0) (pv 1) (λ_ _=>rfl)))) ym) (@zr _ _ _ (@zR _ _ _ _ zm))),xM (n:=2) (k:=0) (b:=ZH fu) rfl (zu (xK (xW (zj2 (zb 1) (xc vM (zc (zb 0) zh)))) (zS (zt yp (zb 0) (zb 1))) yn) (zS (zn _))) h⟩)
noncomputable def YF (fu:Nat):TwS:=(xo (eOp Xp (eOp Xp (eOp zf3 (eOp Xp (ze 0) (eC (.int 1000003))) (eC (.int 48271))) (ze 1)) (ze 2)))
noncomputable def zA (fu:Nat):TwF:=xh 3 0 (YF fu)
theorem zG (T:Tx K mg):xJ P w K mg base (CXE P w) 1 T.bt T.aV ["_law_number","_law_prime","_law_many"] (sTw K 3 (zA fu)):=
 T.af.okE zbk (λvs H Q E h=>h.1) (λaO A outer s H vs Q E hr h=>⟨_,(@zr _ _ _ (@zR _ _ _ _ (zJ ZC (zJ ZC (zJ zd5 (zJ ZC (pv 0) zm) zm) (pv 1)) (pv 2)))),xM (n:=3) (k:=0) (b:=YF fu) rfl (zS (zt ZE (zt ZE (zt zej (zt ZE (zb 0) (zn _)) (zn _)) (zb 1)) (zb 2))) h⟩)
noncomputable def Zi (fu:Nat):TwS:=(zI (yk (ze 0) (gN 2)) (zI (yk (ze 1) (gN 3)) (zI (sWh fu (bE (eOp dGt (ze 3) (eC (.int 0)))) (ziP 2 3 [(ze 3),(eOp Xp (ze 2) (ze 3))])) (xo (wj [(eOp Vh (ze 0) (ze 2)),(eOp Vh (ze 1) (ze 2))])))))
noncomputable def xP (fu:Nat):TwF:=xh 2 2 (Zi fu)
theorem Zj (T:Tx K mg):xJ P w K mg base (CXE P w) 1 T.aH T.aA ["_law_top","_law_bottom"] (sTw K 2 (xP fu)):=
 T.ay.okE wS (λvs H Q E h=>h.1) (λaO A outer s H vs Q E hr h=>⟨_,(@zk _ _ _ _ _ (@zO _ _ 2 _ _ _ _ wS.nd rfl (EF rfl) (pv 0) (by rfl) (by walk_at "q1")) (@zk _ _ _ _ _ (@zO _ _ 3 _ _ _ _ wS.nd rfl (EF rfl) (pv 1) (by rfl) (by walk_at "q1")) (@zk _ _ _ _ _ (TJ PassesOwn.leaving (xb (zc2 (pv 3) zm)) (@zr _ _ _ (zkp (i:=2) (j:=3) rfl wS.nd rfl rfl ∅ rfl rfl (@za _ _ _ _ _ (pv 3) (@za _ _ _ _ _ (zJ ZC (pv 2) (pv 3)) zg yi) zi) rfl))) (@zr _ _ _ (@zR _ _ _ _ (@yz _ _ _ _ _ (@za _ _ _ _ _ (zJ Vz (pv 0) (pv 2)) (@za _ _ _ _ _ (zJ Vz (pv 1) (pv 2)) zg yi) yi))))))),xM (n:=2) (k:=2) (b:=Zi fu) rfl (zu (zF (zb 0) zo) (zu (zF (zb 1) zo) (zu (zac (xW (zdp (zb 3) (zn _))) (zkI (zc (zb 3) (zc (zt ZE (zb 2) (zb 3)) zh)))) (zS (yA (zc (zt VD (zb 0) (zb 2)) (zc (zt VD (zb 1) (zb 2)) zh))))))) h⟩)
noncomputable def Xw (fu:Nat):TwS:=(zI (sIf (bE (eOp dGt (zC (zA fu) [(ze 0),(eC (.int 60013)),(eC (.int 3))]) (eC (.int 0)))) (xo (wj [(eC (.int 0)),(eC (.int 1))])) xg) (xo (zC (xP fu) [(eOp Xp (ze 0) (eOp zei (eC (.int 10)) (eC (.int 60)))),(eOp vw (eC (.int 1)) (zC (zA fu) [(ze 0),(eC (.int 10007)),(eC (.int 4))]))])))
noncomputable def Xx (fu:Nat):TwF:=xh 1 0 (Xw fu)
theorem zcF (T:Tx K mg):xJ P w K mg base (CXE P w) 2 T.bM T.bg ["_law_cell"] (sTw K 1 (Xx fu)):=
 T.cG.okE zcB (λvs H Q E h=>h.1) (λaO A outer s H vs Q E hr h=>⟨_,(@zk _ _ _ _ _ (xG (xb (zc2 (zw (zG (fu:=fu) T) (hr.mono ∅) rfl T.ag T.af.kp T.ah .nil zM (@za _ _ _ _ _ (pv 0) (@za _ _ _ _ _ zm (@za _ _ _ _ _ zm zg zj) zj) zi)) zm)) (@zr _ _ _ (@zR _ _ _ _ (@yz _ _ _ _ _ (@za _ _ _ _ _ zm (@za _ _ _ _ _ zm zg zj) zj)))) ym) (@zr _ _ _ (@zR _ _ _ _ (zw (Zj (fu:=fu) T) (hr.mono ∅) rfl T.aE T.ay.kp T.aG .nil zM (@za _ _ _ _ _ (zJ ZC (pv 0) (zJ zd6 zm zm)) (@za _ _ _ _ _ (zJ yM zm (zw (zG (fu:=fu) T) (hr.mono ∅) rfl T.ag T.af.kp T.ah .nil zM (@za _ _ _ _ _ (pv 0) (@za _ _ _ _ _ zm (@za _ _ _ _ _ zm zg zj) zj) zi))) zg yi) yi))))),xM (n:=1) (k:=0) (b:=Xw fu) rfl (zu (xK (xW (zdp (zx (zc (zb 0) (zc (zn _) (zc (zn _) zh)))) (zn _))) (zS (yA (zc (zn _) (zc (zn _) zh)))) yn) (zS (zx (zc (zt ZE (zb 0) (zt zek (zn _) (zn _))) (zc (zt yN (zn _) (zx (zc (zb 0) (zc (zn _) (zc (zn _) zh))))) zh))))) h⟩)
noncomputable def Xy (fu:Nat):TwS:=(zI (yk (eOp Xp (eOp vw (ze 2) (zC (zA fu) [(zC (zH fu) [(ze 0),(eC (.int 1))]),(eC (.int 30011)),(ze 1)])) (ze 1)) (gN 3)) (zI (sIf (bE (eOp zae (zC (zA fu) [(zC (zH fu) [(ze 0),(eC (.int 1))]),(eC (.int 40009)),(eC (.int 2))]) (eC (.int 1)))) (xo (eOp zf2 (eOp zf2 (ze 1) (eC (.int 1))) (ze 3))) xg) (xo (ze 3))))
noncomputable def vQ (fu:Nat):TwF:=xh 3 1 (Xy fu)
theorem Xz (T:Tx K mg):xJ P w K mg base (CXE P w) 2 T.bL T.bf ["_law_script","_law_count","_law_place"] (sTw K 3 (vQ fu)):=
 T.b7.okE VU (λvs H Q E h=>h.1) (λaO A outer s H vs Q E hr h=>⟨_,(@zk _ _ _ _ _ (@zO _ _ 3 _ _ _ _ VU.nd rfl (EF rfl) (zJ ZC (zJ yM (pv 2) (zw (zG (fu:=fu) T) (hr.mono ∅) rfl T.ag T.af.kp T.ah .nil zM (@za _ _ _ _ _ (zw (zQ (fu:=fu) T) (hr.mono ∅) rfl T.aj T.ai.kp T.ak .nil zM (@za _ _ _ _ _ (pv 0) (@za _ _ _ _ _ zm zg zj) zi)) (@za _ _ _ _ _ zm (@za _ _ _ _ _ (pv 1) zg zi) zj) yc))) (pv 1)) (by rfl) (by walk_at "q1")) (@zk _ _ _ _ _ (xG (xb (Va (zw (zG (fu:=fu) T) (hr.mono ∅) rfl T.ag T.af.kp T.ah .nil zM (@za _ _ _ _ _ (zw (zQ (fu:=fu) T) (hr.mono ∅) rfl T.aj T.ai.kp T.ak .nil zM (@za _ _ _ _ _ (pv 0) (@za _ _ _ _ _ zm zg zj) zi)) (@za _ _ _ _ _ zm (@za _ _ _ _ _ zm zg zj) zj) yc)) zm)) (@zr _ _ _ (@zR _ _ _ _ (zJ zb0 (zJ zb0 (pv 1) zm) (pv 3)))) ym) (@zr _ _ _ (@zR _ _ _ _ (pv 3))))),xM (n:=3) (k:=1) (b:=Xy fu) rfl (zu (zF (zt ZE (zt yN (zb 2) (zx (zc (zx (zc (zb 0) (zc (zn _) zh))) (zc (zn _) (zc (zb 1) zh))))) (zb 1)) zo) (zu (xK (xW (Vi (zx (zc (zx (zc (zb 0) (zc (zn _) zh))) (zc (zn _) (zc (zn _) zh)))) (zn _))) (zS (zt zci (zt zci (zb 1) (zn _)) (zb 3))) yn) (zS (zb 3)))) h⟩)
noncomputable def XA (fu:Nat):TwS:=(zI (yk (eOp vw (eC (.int 1)) (zC (zA fu) [(zC (zH fu) [(ze 0),(eC (.int 0))]),(eC (.int 80021)),(eC (.int 15))])) (gN 1)) (zI (yk (eOp vw (eOp vw (ze 1) (eC (.int 1))) (zC (zA fu) [(zC (zH fu) [(ze 0),(eC (.int 0))]),(eC (.int 90001)),(eC (.int 15))])) (gN 2)) (zI (yk (wu [none] (iR1 (ze 2)) (gN 0) wU (YU [])) (gN 3)) (zI (vW (iR1 (ze 2)) (gN 4) (zI (yk (zC (vQ fu) [(ze 0),(ze 2),(ze 4)]) (gN 5)) (sIf (zkF (bE (eOp zaf (ze 4) (eOp zf2 (ze 1) (eC (.int 1))))) (bE (eOp zaf (ze 4) (eOp zf2 (ze 2) (eC (.int 1)))))) (vA (eMt yt (eOp xf (ze 3) (ze 5)) [(wj [(wj [(eC (.int 0)),(eC (.int 1))]),(YU [(wj [(zC (vQ fu) [(ze 0),(ze 2),(eOp vw (ze 4) (eC (.int 1)))]),(wj [(eC (.int 1)),(eC (.int 1))])])])])])) (sIf (bE (eOp zae (zC (zA fu) [(zC (zH fu) [(ze 0),(eC (.int 2))]),(eC (.int 10007)),(eC (.int 2))]) (eC (.int 1)))) (vA (eMt yt (eOp xf (ze 3) (ze 5)) [(wj [(wj [(eOp vw (eC (.int 1)) (eOp Xp (zC (zH fu) [(ze 0),(eC (.int 2))]) (eOp zei (eC (.int 10)) (eC (.int 9))))),(eC (.int 1))]),(YU [(wj [(ze 5),(wj [(eC (.int 1)),(eC (.int 1))])])])])])) xg)))) (xo (wj [(ze 3),(wu [none] (iR1 (ze 2)) (gN 0) wU (eC (.int 4)))]))))))
noncomputable def XB (fu:Nat):TwF:=xh 1 5 (XA fu)
theorem zcG (T:Tx K mg):xJ P w K mg base (CXE P w) 3 T.bK T.bb ["_law_script"] (sTw K 1 (XB fu)):=
 T.cF.okE wT (λvs H Q E h=>h.1) (λaO A outer s H vs Q E hr h=>⟨_,(@zk _ _ _ _ _ (@zO _ _ 1 _ _ _ _ wT.nd rfl (EF rfl) (zJ yM zm (zw (zG (fu:=fu) T) (hr.mono ∅) rfl T.ag T.af.kp T.ah .nil zM (@za _ _ _ _ _ (zw (zQ (fu:=fu) T) (hr.mono ∅) rfl T.aj T.ai.kp T.ak .nil zM (@za _ _ _ _ _ (pv 0) (@za _ _ _ _ _ zm zg zj) zi)) (@za _ _ _ _ _ zm (@za _ _ _ _ _ zm zg zj) zj) yc))) (by rfl) (by walk_at "q1")) (@zk _ _ _ _ _ (@zO _ _ 2 _ _ _ _ wT.nd rfl (EF rfl) (zJ yM (zJ yM (pv 1) zm) (zw (zG (fu:=fu) T) (hr.mono ∅) rfl T.ag T.af.kp T.ah .nil zM (@za _ _ _ _ _ (zw (zQ (fu:=fu) T) (hr.mono ∅) rfl T.aj T.ai.kp T.ak .nil zM (@za _ _ _ _ _ (pv 0) (@za _ _ _ _ _ zm zg zj) zi)) (@za _ _ _ _ _ zm (@za _ _ _ _ _ zm zg zj) zj) yc))) (by rfl) (by walk_at "q1")) (@zk _ _ _ _ _ (Zb (i:=3) (N':=["_law_k"]) rfl (blk (osc:=zq xt) rfl (by decide+kernel)) (yD xn) (xH rfl T.aD (@za _ _ _ _ _ (pv 2) zg zi)) (yd rfl) (λC s₀ H₀ fp=>zy (i:=0) (show (["_law_k"]:List Str).Nodup from by decide+kernel) rfl (EF rfl)) (λC s₀ H₀ fp=>xV) (λC s₀ H₀ fp=>(@vq _ _ _ _ zg)) wT.nd rfl rfl) (@zk _ _ _ _ _ (xl PassesOwn.leaving rfl (xH rfl T.aD (@za _ _ _ _ _ (pv 2) zg zi)) (zy (i:=4) wT.nd rfl (EF rfl)) (@zk _ _ _ _ _ (@zO _ _ 5 _ _ _ _ wT.nd rfl (EF rfl) (zw (Xz (fu:=fu) T) (hr.mono ∅) rfl T.bF T.b7.kp T.bJ .nil zM (@za _ _ _ _ _ (pv 0) (@za _ _ _ _ _ (pv 2) (@za _ _ _ _ _ (pv 4) zg zi) zi) zi)) (by rfl) (by walk_at "q1")) (@zr _ _ _ (xG (PW.pt (zkk (xb (XO (pv 4) (zJ zb0 (pv 1) zm))) (ziy (xb (XO (pv 4) (zJ zb0 (pv 2) zm)))))) (@zr _ _ _ (wO (YQ Fs Fk Fo yJ (@yh _ _ _ _ _ _ _ (zK (K:=K)) (pv 3) (pv 5) (λ_ _=>rfl)) (@za _ _ _ _ _ (@yz _ _ _ _ _ (@za _ _ _ _ _ (@yz _ _ _ _ _ (@za _ _ _ _ _ zm (@za _ _ _ _ _ zm zg zj) zj)) (@za _ _ _ _ _ (@vq _ _ _ _ (@za _ _ _ _ _ (@yz _ _ _ _ _ (@za _ _ _ _ _ (zw (Xz (fu:=fu) T) (hr.mono ∅) rfl T.bF T.b7.kp T.bJ .nil zM (@za _ _ _ _ _ (pv 0) (@za _ _ _ _ _ (pv 2) (@za _ _ _ _ _ (zJ yM (pv 4) zm) zg yi) zi) zi)) (@za _ _ _ _ _ (@yz _ _ _ _ _ (@za _ _ _ _ _ zm (@za _ _ _ _ _ zm zg zj) zj)) zg yQ) yc)) zg yQ)) zg zcc) yQ)) zg yQ)))) (@zr _ _ _ (xG (xb (Va (zw (zG (fu:=fu) T) (hr.mono ∅) rfl T.ag T.af.kp T.ah .nil zM (@za _ _ _ _ _ (zw (zQ (fu:=fu) T) (hr.mono ∅) rfl T.aj T.ai.kp T.ak .nil zM (@za _ _ _ _ _ (pv 0) (@za _ _ _ _ _ zm zg zj) zi)) (@za _ _ _ _ _ zm (@za _ _ _ _ _ zm zg zj) zj) yc)) zm)) (@zr _ _ _ (wO (YQ Fs Fk Fo yJ (@yh _ _ _ _ _ _ _ (zK (K:=K)) (pv 3) (pv 5) (λ_ _=>rfl)) (@za _ _ _ _ _ (@yz _ _ _ _ _ (@za _ _ _ _ _ (@yz _ _ _ _ _ (@za _ _ _ _ _ (zJ yM zm (zJ ZC (zw (zQ (fu:=fu) T) (hr.mono ∅) rfl T.aj T.ai.kp T.ak .nil zM (@za _ _ _ _ _ (pv 0) (@za _ _ _ _ _ zm zg zj) zi)) (zJ zd6 zm zm))) (@za _ _ _ _ _ zm zg zj) yi)) (@za _ _ _ _ _ (@vq _ _ _ _ (@za _ _ _ _ _ (@yz _ _ _ _ _ (@za _ _ _ _ _ (pv 5) (@za _ _ _ _ _ (@yz _ _ _ _ _ (@za _ _ _ _ _ zm (@za _ _ _ _ _ zm zg zj) zj)) zg yQ) zi)) zg yQ)) zg zcc) yQ)) zg yQ)))) ym)))))) (@zr _ _ _ (@zR _ _ _ _ (@yz _ _ _ _ _ (@za _ _ _ _ _ (pv 3) (za (vH (N':=["_law_k"]) rfl (blk (osc:=zq xt) rfl (by decide+kernel)) (yD xn) (xH rfl T.aD (@za _ _ _ _ _ (pv 2) zg zi)) (yd rfl) (λC s₀ H₀ fp=>zy (i:=0) (show (["_law_k"]:List Str).Nodup from by decide+kernel) rfl (EF rfl)) (λC s₀ H₀ fp=>xV) (λC s₀ H₀ fp=>zm)) zg) zi)))))))),xM (n:=1) (k:=5) (b:=XA fu) rfl (zu (zF (zt yN (zn _) (zx (zc (zx (zc (zb 0) (zc (zn _) zh))) (zc (zn _) (zc (zn _) zh))))) zo) (zu (zF (zt yN (zt yN (zb 1) (zn _)) (zx (zc (zx (zc (zb 0) (zc (zn _) zh))) (zc (zn _) (zc (zn _) zh))))) zo) (zu (Ze (xp (cap:=[none]) (xL (zb 2)) zo xZ (vt zh))) (zu (xm (xL (zb 2)) zo (zu (zF (zx (zc (zb 0) (zc (zb 2) (zc (zb 4) zh)))) zo) (xK (zkG (xW (XY (zb 4) (zt zci (zb 1) (zn _)))) (xW (XY (zb 4) (zt zci (zb 2) (zn _))))) (wP (YV yZ (zt yp (zb 3) (zb 5)) (zc (yA (zc (yA (zc (zn _) (zc (zn _) zh))) (zc (vt (zc (yA (zc (zx (zc (zb 0) (zc (zb 2) (zc (zt yN (zb 4) (zn _)) zh)))) (zc (yA (zc (zn _) (zc (zn _) zh))) zh))) zh)) zh))) zh))) (xK (xW (Vi (zx (zc (zx (zc (zb 0) (zc (zn _) zh))) (zc (zn _) (zc (zn _) zh)))) (zn _))) (wP (YV yZ (zt yp (zb 3) (zb 5)) (zc (yA (zc (yA (zc (zt yN (zn _) (zt ZE (zx (zc (zb 0) (zc (zn _) zh))) (zt zek (zn _) (zn _)))) (zc (zn _) zh))) (zc (vt (zc (yA (zc (zb 5) (zc (yA (zc (zn _) (zc (zn _) zh))) zh))) zh)) zh))) zh))) yn)))) (zS (yA (zc (zb 3) (zc (xp (cap:=[none]) (xL (zb 2)) zo xZ (zn _)) zh)))))))) h⟩)
noncomputable def YG (fu:Nat):TwS:=(zI (yk (eOp vw (eC (.int 1)) (zC (zA fu) [(zC (zH fu) [(ze 0),(eC (.int 0))]),(eC (.int 99991)),(eC (.int 4))])) (gN 1)) (zI (yk (wu [none] (iR1 (ze 1)) (gN 0) wU Vj) (gN 2)) (zI (vW (iEn (eSl zeg (ze 0) (ze6 (eC (.int 3))) (ze6 (eC (.int 33))))) (gT 2 (zZ (gN 3) (zZ (gN 4) vB))) (zI (yk (eOp Xp (ze 3) (ze 1)) (gN 5)) (sIf (bE (eOp dGt (zC (zA fu) [(eOp vw (zC (zH fu) [(ze 0),(eC (.int 2))]) (eOp ZL (ze 5) (ze 5))),(eC (.int 70001)),(eC (.int 4))]) (eC (.int 0)))) (zI (yk (zC (zA fu) [(ze 4),(eC (.int 20011)),(eC (.int 2))]) (gN 6)) (zI (sIf (bE (zkL true (ze 6) (eOp xf (ze 2) (ze 5)))) (Ur (eOp xf (ze 2) (ze 5)) (ze 6) (YU [(zC (Xx fu) [(ze 4)]),Vj])) xg) (zI (yk (eOp xf (VJ (eOp xf (ze 2) (ze 5)) (ze 6)) (eC (.int 1))) (gN 7)) (zI (yk (zC (zA fu) [(ze 4),(eC (.int 99991)),(ze 1)]) (gN 8)) (Ur (ze 7) (ze 8) (eOp vw (eOp vw (zaj (ze 7) (ze 8) (eC (.int 0))) (eC (.int 1))) (zC (zA fu) [(ze 4),(eC (.int 131071)),(eC (.int 9))]))))))) xg))) (xo (ze 2)))))
noncomputable def Zp (fu:Nat):TwF:=xh 1 8 (YG fu)
theorem zbl (T:Tx K mg):xJ P w K mg base (CXE P w) 3 T.bx T.aY ["_law_script"] (sTw K 1 (Zp fu)):=
 T.cz.okE yI (λvs H Q E h=>h.1) (λaO A outer s H vs Q E hr h=>⟨_,(@zk _ _ _ _ _ (@zO _ _ 1 _ _ _ _ yI.nd rfl (EF rfl) (zJ yM zm (zw (zG (fu:=fu) T) (hr.mono ∅) rfl T.ag T.af.kp T.ah .nil zM (@za _ _ _ _ _ (zw (zQ (fu:=fu) T) (hr.mono ∅) rfl T.aj T.ai.kp T.ak .nil zM (@za _ _ _ _ _ (pv 0) (@za _ _ _ _ _ zm zg zj) zi)) (@za _ _ _ _ _ zm (@za _ _ _ _ _ zm zg zj) zj) yc))) (by rfl) (by walk_at "q1")) (@zk _ _ _ _ _ (Zb (i:=2) (N':=["_law_k"]) rfl (blk (osc:=zq xu) rfl (by decide+kernel)) (yD xn) (xH rfl T.aD (@za _ _ _ _ _ (pv 1) zg zi)) (yd rfl) (λC s₀ H₀ fp=>zy (i:=0) (show (["_law_k"]:List Str).Nodup from by decide+kernel) rfl (EF rfl)) (λC s₀ H₀ fp=>xV) (λC s₀ H₀ fp=>XS) yI.nd rfl rfl) (@zk _ _ _ _ _ (xl PassesOwn.leaving rfl (VB (K:=K) rfl T.aK (@za _ _ _ _ _ (zgB (zgP (K:=K)) (pv 0) (zeW zm) (zeW zm)) zg zX)) (wo (K:=K) (n:=2) rfl (zL (zy (i:=3) yI.nd rfl (EF rfl)) (zL (zy (i:=4) yI.nd rfl (EF rfl)) xU))) (@zk _ _ _ _ _ (@zO _ _ 5 _ _ _ _ yI.nd rfl (EF rfl) (zJ ZC (pv 3) (pv 1)) (by rfl) (by walk_at "q1")) (@zr _ _ _ (xG (xb (zc2 (zw (zG (fu:=fu) T) (hr.mono ∅) rfl T.ag T.af.kp T.ah .nil zM (@za _ _ _ _ _ (zJ yM (zw (zQ (fu:=fu) T) (hr.mono ∅) rfl T.aj T.ai.kp T.ak .nil zM (@za _ _ _ _ _ (pv 0) (@za _ _ _ _ _ zm zg zj) zi)) (zJ vi (pv 5) (pv 5))) (@za _ _ _ _ _ zm (@za _ _ _ _ _ zm zg zj) zj) yi)) zm)) (@zk _ _ _ _ _ (@zO _ _ 6 _ _ _ _ yI.nd rfl (EF rfl) (zw (zG (fu:=fu) T) (hr.mono ∅) rfl T.ag T.af.kp T.ah .nil zM (@za _ _ _ _ _ (pv 4) (@za _ _ _ _ _ zm (@za _ _ _ _ _ zm zg zj) zj) zi)) (by rfl) (by walk_at "q1")) (@zk _ _ _ _ _ (xG (xb (zfQ (YR hr) (pv 6) (@yh _ _ _ _ _ _ _ (zK (K:=K)) (pv 2) (pv 5) (λ_ _=>rfl)))) (@zr _ _ _ (Tk (YR hr) (@yh _ _ _ _ _ _ _ (zK (K:=K)) (pv 2) (pv 5) (λ_ _=>rfl)) (pv 6) (@vq _ _ _ _ (@za _ _ _ _ _ (zw (zcF (fu:=fu) T) (hr.mono ∅) rfl T.dy T.cG.kp T.dB .nil zM (@za _ _ _ _ _ (pv 4) zg zi)) (za XS zg) yc)) rfl)) ym) (@zk _ _ _ _ _ (@zO _ _ 7 _ _ _ _ yI.nd rfl (EF rfl) (@yh _ _ _ _ _ _ _ (zK (K:=K)) (Vx (YR hr) (@yh _ _ _ _ _ _ _ (zK (K:=K)) (pv 2) (pv 5) (λ_ _=>rfl)) (pv 6) (λ_ _=>rfl)) zm (λ_ _=>rfl)) (by rfl) (by walk_at "q1")) (@zk _ _ _ _ _ (@zO _ _ 8 _ _ _ _ yI.nd rfl (EF rfl) (zw (zG (fu:=fu) T) (hr.mono ∅) rfl T.ag T.af.kp T.ah .nil zM (@za _ _ _ _ _ (pv 4) (@za _ _ _ _ _ zm (@za _ _ _ _ _ (pv 1) zg zi) zj) zi)) (by rfl) (by walk_at "q1")) (@zr _ _ _ (Tk (YR hr) (pv 7) (pv 8) (zJ yM (zJ yM (TR (YR hr) (pv 7) (pv 8) zm ⟨rfl,rfl,rfl,rfl⟩) zm) (zw (zG (fu:=fu) T) (hr.mono ∅) rfl T.ag T.af.kp T.ah .nil zM (@za _ _ _ _ _ (pv 4) (@za _ _ _ _ _ zm (@za _ _ _ _ _ zm zg zj) zj) zi))) rfl)))))) ym)))) (@zr _ _ _ (@zR _ _ _ _ (pv 2)))))),xM (n:=1) (k:=8) (b:=YG fu) rfl (zu (zF (zt yN (zn _) (zx (zc (zx (zc (zb 0) (zc (zn _) zh))) (zc (zn _) (zc (zn _) zh))))) zo) (zu (Ze (xp (cap:=[none]) (xL (zb 1)) zo xZ VI)) (zu (xm (VH (zkH (zb 0) (ze7 (zn _)) (ze7 (zn _)))) (vK (zN zo (zN zo xY))) (zu (zF (zt ZE (zb 3) (zb 1)) zo) (xK (xW (zdp (zx (zc (zt yN (zx (zc (zb 0) (zc (zn _) zh))) (zt vj (zb 5) (zb 5))) (zc (zn _) (zc (zn _) zh)))) (zn _))) (zu (zF (zx (zc (zb 4) (zc (zn _) (zc (zn _) zh)))) zo) (zu (xK (xW (zf4 (zb 6) (zt yp (zb 2) (zb 5)))) (Tn (zt yp (zb 2) (zb 5)) (zb 6) (vt (zc (zx (zc (zb 4) zh)) (zc VI zh)))) yn) (zu (zF (zt yp (VL (zt yp (zb 2) (zb 5)) (zb 6)) (zn _)) zo) (zu (zF (zx (zc (zb 4) (zc (zn _) (zc (zb 1) zh)))) zo) (Tn (zb 7) (zb 8) (zt yN (zt yN (zak (zb 7) (zb 8) (zn _)) (zn _)) (zx (zc (zb 4) (zc (zn _) (zc (zn _) zh)))))))))) yn))) (zS (zb 2))))) h⟩)
noncomputable def YH (fu:Nat):TwS:=(zI (yk (zC (zH fu) [(ze 0),(eOp vw (eC (.int 33)) (eOp Xp (eOp vw (ze 1) (eOp zf3 (eC (.int 7)) (ze 2))) (eC (.int 30))))]) (gN 4)) (zI (yk (wu [none,some 1,some 4] (iR1 (ze 3)) (gN 0) wU (zC (zA fu) [(eOp vw (eOp vw (ze 2) (eOp ZL (eOp zf3 (eC (.int 11)) (ze 0)) (ze 0))) (ze 1)),(eC (.int 50021)),(eC (.int 4))])) (gN 5)) (zI (sIf (bE (eOp zae (eFn zag [(ze 5)]) (eC (.int 0)))) (yk (eC (.int 1)) (Vg (ze 5) (eOp Xp (ze 1) (ze 3)))) xg) (xo (ze 5)))))
noncomputable def YI (fu:Nat):TwF:=xh 4 2 (YH fu)
theorem zbm (T:Tx K mg):xJ P w K mg base (CXE P w) 2 T.bp T.aT ["_law_script","_law_node","_law_to","_law_copies"] (sTw K 4 (YI fu)):=
 T.cu.okE YD (λvs H Q E h=>h.1) (λaO A outer s H vs Q E hr h=>⟨_,(@zk _ _ _ _ _ (@zO _ _ 4 _ _ _ _ YD.nd rfl (Im rfl) (zw (zQ (fu:=fu) T) (hr.mono ∅) rfl T.aj T.ai.kp T.ak .nil zM (@za _ _ _ _ _ (pv 0) (@za _ _ _ _ _ (zJ yM zm (zJ ZC (zJ yM (pv 1) (zJ zd5 zm (pv 2))) zm)) zg yi) zi)) (by rfl) (by walk_at "q1")) (@zk _ _ _ _ _ (Zb (i:=5) (N':=["_law_k","_law_node","_law_cell"]) rfl (blk (osc:=zq xw) rfl (by decide+kernel)) (yD (vJ (i:=1) rfl rfl (vJ (i:=4) rfl rfl xn))) (xH rfl T.aD (@za _ _ _ _ _ (pv 3) zg zi)) (yd rfl) (λC s₀ H₀ fp=>zy (i:=0) (show (["_law_k","_law_node","_law_cell"]:List Str).Nodup from by decide+kernel) rfl (EF rfl)) (λC s₀ H₀ fp=>xV) (λC s₀ H₀ fp=>(zw (zG (fu:=fu) T) (hr.mono ∅) rfl T.ag T.af.kp T.ah .nil zdl (@za _ _ _ _ _ (zJ yM (zJ yM (pv 2) (zJ vi (zJ zd5 zm (pv 0)) (pv 0))) (pv 1)) (@za _ _ _ _ _ zm (@za _ _ _ _ _ zm zg zj) zj) yi))) YD.nd rfl rfl) (@zk _ _ _ _ _ (xG (xb (Va (zD (YS (K:=K) rfl) rfl T.dH PyProof.Rows.Boot.«sum» (@za _ _ _ _ _ (pv 5) zg zi)) zm)) (@zr _ _ _ (Vc zm (zd2 (pv 5) (zJ ZC (pv 1) (pv 3)) TL))) ym) (@zr _ _ _ (@zR _ _ _ _ (pv 5)))))),xM (n:=4) (k:=2) (b:=YH fu) rfl (zu (zF (zx (zc (zb 0) (zc (zt yN (zn _) (zt ZE (zt yN (zb 1) (zt zej (zn _) (zb 2))) (zn _))) zh))) zo) (zu (Ze (xp (cap:=[none,some 1,some 4]) (xL (zb 3)) zo xZ (zx (zc (zt yN (zt yN (zb 2) (zt vj (zt zej (zn _) (zb 0)) (zb 0))) (zb 1)) (zc (zn _) (zc (zn _) zh)))))) (zu (xK (xW (Vi (xc zah (zc (zb 5) zh)) (zn _))) (zF (zn _) (zab (zb 5) (zt ZE (zb 1) (zb 3)))) yn) (zS (zb 5))))) h⟩)
noncomputable def YJ (fu:Nat):TwS:=(zI (yk (YU []) (gN 4)) (zI (yk (eUn zds (ze 2)) (gN 5)) (zI (vW (zhN (ze 2)) (gN 6) (zI (yk (zC (YI fu) [(ze 0),(ze 1),(ze 6),(eFn Yj [(eOp xf (ze 3) (ze 6))])]) (gN 7)) (vW (iEn (ze 7)) (gT 2 (zZ (gN 8) (zZ (gN 9) vB))) (sIf (bE (eOp dGt (ze 9) (eC (.int 0)))) (vA (eMt yt (ze 4) [(wj [(eOp xf (eOp xf (ze 3) (ze 6)) (ze 8)),(zC (xP fu) [(eOp ZL (VJ (ze 2) (ze 6)) (ze 9)),(eOp ZL (ze 5) (eFn zag [(ze 7)]))])])])) xg)))) (xo (eFn (zaH true) [(ze 4)])))))
noncomputable def xC (fu:Nat):TwF:=xh 4 6 (YJ fu)
theorem WX (T:Tx K mg):xJ P w K mg base (CXE P w) 3 T.bq T.aU ["_law_script","_law_node","_law_weights","_law_homes_here"] (sTw K 4 (xC fu)):=
 T.bA.okE xB (λvs H Q E h=>h.1) (λaO A outer s H vs Q E hr h=>⟨_,(@zk _ _ _ _ _ (@zO _ _ 4 _ _ _ _ xB.nd rfl (EF rfl) (@vq _ _ _ _ zg) (by rfl) (by walk_at "q1")) (@zk _ _ _ _ _ (@zO _ _ 5 _ _ _ _ xB.nd rfl (EF rfl) (zD (zfZ rfl) rfl T.dH PyProof.Rows.Boot.«sum» (@za _ _ _ _ _ (zb6 Gu Io PySem.F.type_dict_values ziL (pv 2)) zg yc)) (by rfl) (by walk_at "q1")) (@zk _ _ _ _ _ (xl PassesOwn.leaving rfl (zi4 (zb6 Gu Hs IT ze5 (pv 2))) (zy (i:=6) xB.nd rfl (EF rfl)) (@zk _ _ _ _ _ (@zO _ _ 7 _ _ _ _ xB.nd rfl (EF rfl) (zw (zbm (fu:=fu) T) (hr.mono ∅) rfl T.d3 T.cu.kp T.da .nil zM (@za _ _ _ _ _ (pv 0) (@za _ _ _ _ _ (pv 1) (@za _ _ _ _ _ (pv 6) (@za _ _ _ _ _ (zD (yK (K:=K)) rfl T.b8 boot_len (@za _ _ _ _ _ (@yh _ _ _ _ _ _ _ (zK (K:=K)) (pv 3) (pv 6) (λ_ _=>rfl)) zg zX)) zg yc) zi) zi) zi)) (by rfl) (by walk_at "q1")) (@zr _ _ _ (xl PassesOwn.leaving rfl (VB (K:=K) rfl T.aK (@za _ _ _ _ _ (pv 7) zg zi)) (wo (K:=K) (n:=2) rfl (zL (zy (i:=8) xB.nd rfl (EF rfl)) (zL (zy (i:=9) xB.nd rfl (EF rfl)) xU))) (@zr _ _ _ (xG (xb (zc2 (pv 9) zm)) (@zr _ _ _ (wO (YQ Fs Fk Fo yJ (pv 4) (@za _ _ _ _ _ (@yz _ _ _ _ _ (@za _ _ _ _ _ (@yh _ _ _ _ _ _ _ (zK (K:=K)) (@yh _ _ _ _ _ _ _ (zK (K:=K)) (pv 3) (pv 6) (λ_ _=>rfl)) (pv 8) (λ_ _=>rfl)) (@za _ _ _ _ _ (zw (Zj (fu:=fu) T) (hr.mono ∅) rfl T.aE T.ay.kp T.aG .nil zM (@za _ _ _ _ _ (zJ vi (Vx (YR hr) (pv 2) (pv 6) (λ_ _=>rfl)) (pv 9)) (@za _ _ _ _ _ (zJ vi (pv 5) (zD (YS (K:=K) rfl) rfl T.dH PyProof.Rows.Boot.«sum» (@za _ _ _ _ _ (pv 7) zg zi))) zg yi) yi)) zg yc) zX)) zg yQ)))) ym)))))) (@zr _ _ _ (@zR _ _ _ _ (zD (zeA (K:=K) (b:=true) hr) rfl T.bS PyProof.Rows.Boot.«sorted» (@za _ _ _ _ _ (pv 4) zg zi))))))),xM (n:=4) (k:=6) (b:=YJ fu) rfl (zu (zF (vt zh) zo) (zu (zF (ziU (zb 2)) zo) (zu (xm (zi9 (zb 2)) zo (zu (zF (zx (zc (zb 0) (zc (zb 1) (zc (zb 6) (zc (xc vM (zc (zt yp (zb 3) (zb 6)) zh)) zh))))) zo) (xm (VH (zb 7)) (vK (zN zo (zN zo xY))) (xK (xW (zdp (zb 9) (zn _))) (wP (YV yZ (zb 4) (zc (yA (zc (zt yp (zt yp (zb 3) (zb 6)) (zb 8)) (zc (zx (zc (zt vj (VL (zb 2) (zb 6)) (zb 9)) (zc (zt vj (zb 5) (xc zah (zc (zb 7) zh))) zh))) zh))) zh))) yn)))) (zS (xc zhK (zc (zb 4) zh)))))) h⟩)
noncomputable def YK (fu:Nat):TwS:=(zI (yk (wu [none,some 0] (iR1 (ze 1)) (gN 0) wU (eOp vw (eC (.int 1)) (zC (zA fu) [(eOp vw (zC (zH fu) [(ze 1),(eC (.int 1))]) (eOp ZL (ze 0) (ze 0))),(eC (.int 20011)),(eC (.int 3))]))) (gN 2)) (zI (yk (YU []) (gN 3)) (zI (vW (iL (ze 2)) (gN 4) (zI (yk (eFn zag [(wu [none] (iL (ze 3)) (gN 0) wU (eFn Yj [(ze 0)]))]) (gN 5)) (vA (eMt yt (ze 3) [(wu [none,some 0,some 2,some 5] (iR1 (ze 4)) (gN 0) wU (zC (vQ fu) [(ze 1),(eFn zag [(ze 2)]),(eOp vw (ze 3) (ze 0))]))])))) (xo (ze 3)))))
noncomputable def YL (fu:Nat):TwF:=xh 2 4 (YK fu)
theorem zbn (T:Tx K mg):xJ P w K mg base (CXE P w) 3 T.bu T.aW ["_law_script","_law_count"] (sTw K 2 (YL fu)):=
 T.cw.okE ve (λvs H Q E h=>h.1) (λaO A outer s H vs Q E hr h=>⟨_,(@zk _ _ _ _ _ (@zO _ _ 2 _ _ _ _ ve.nd rfl (Im rfl) (vH (N':=["_law_k","_law_script"]) rfl (blk (osc:=zq yG) rfl (by decide+kernel)) (yD (vJ (i:=0) rfl rfl xn)) (xH rfl T.aD (@za _ _ _ _ _ (pv 1) zg zi)) (yd rfl) (λC s₀ H₀ fp=>zy (i:=0) (show (["_law_k","_law_script"]:List Str).Nodup from by decide+kernel) rfl (EF rfl)) (λC s₀ H₀ fp=>xV) (λC s₀ H₀ fp=>(zJ yM zm (zw (zG (fu:=fu) T) (hr.mono ∅) rfl T.ag T.af.kp T.ah .nil zdl (@za _ _ _ _ _ (zJ yM (zw (zQ (fu:=fu) T) (hr.mono ∅) rfl T.aj T.ai.kp T.ak .nil zdl (@za _ _ _ _ _ (pv 1) (@za _ _ _ _ _ zm zg zj) zi)) (zJ vi (pv 0) (pv 0))) (@za _ _ _ _ _ zm (@za _ _ _ _ _ zm zg zj) zj) yi))))) (by rfl) (by walk_at "q1")) (@zk _ _ _ _ _ (@zO _ _ 3 _ _ _ _ ve.nd rfl (EF rfl) (@vq _ _ _ _ zg) (by rfl) (by walk_at "q1")) (@zk _ _ _ _ _ (xl PassesOwn.leaving rfl (yo (K:=K) (pv 2)) (zy (i:=4) ve.nd rfl (EF rfl)) (@zk _ _ _ _ _ (@zO _ _ 5 _ _ _ _ ve.nd rfl (Im rfl) (zD (YS (K:=K) rfl) rfl T.dH PyProof.Rows.Boot.«sum» (za (vH (N':=["_law_home"]) rfl (blk (osc:=zq yG) rfl (by decide+kernel)) (yD xn) (yo (K:=K) (pv 3)) (yd rfl) (λC s₀ H₀ fp=>zy (i:=0) (show (["_law_home"]:List Str).Nodup from by decide+kernel) rfl (EF rfl)) (λC s₀ H₀ fp=>xV) (λC s₀ H₀ fp=>(zD (yK (K:=K)) rfl T.b8 boot_len (@za _ _ _ _ _ (pv 0) zg zi)))) zg)) (by rfl) (by walk_at "q1")) (@zr _ _ _ (wO (YQ Fs Fk Fo yJ (pv 3) (za (vH (N':=["_law_k","_law_script","_law_many","_law_begun"]) rfl (blk (osc:=zq yG) rfl (by decide+kernel)) (yD (vJ (i:=0) rfl rfl (vJ (i:=2) rfl rfl (vJ (i:=5) rfl rfl xn)))) (xH rfl T.aD (@za _ _ _ _ _ (pv 4) zg zi)) (yd rfl) (λC s₀ H₀ fp=>zy (i:=0) (show (["_law_k","_law_script","_law_many","_law_begun"]:List Str).Nodup from by decide+kernel) rfl (EF rfl)) (λC s₀ H₀ fp=>xV) (λC s₀ H₀ fp=>(zw (Xz (fu:=fu) T) (hr.mono ∅) rfl T.bF T.b7.kp T.bJ .nil zdl (@za _ _ _ _ _ (pv 1) (@za _ _ _ _ _ (zD (YS (K:=K) rfl) rfl T.dH PyProof.Rows.Boot.«sum» (@za _ _ _ _ _ (pv 2) zg zi)) (@za _ _ _ _ _ (zJ yM (pv 3) (pv 0)) zg yi) yc) zi)))) zg)))))) (@zr _ _ _ (@zR _ _ _ _ (pv 3)))))),xM (n:=2) (k:=4) (b:=YK fu) rfl (zu (zF (xp (cap:=[none,some 0]) (xL (zb 1)) zo xZ (zt yN (zn _) (zx (zc (zt yN (zx (zc (zb 1) (zc (zn _) zh))) (zt vj (zb 0) (zb 0))) (zc (zn _) (zc (zn _) zh)))))) zo) (zu (zF (vt zh) zo) (zu (xm (yE (zb 2)) zo (zu (zF (xc zah (zc (xp (cap:=[none]) (yE (zb 3)) zo xZ (xc vM (zc (zb 0) zh))) zh)) zo) (wP (YV yZ (zb 3) (zc (xp (cap:=[none,some 0,some 2,some 5]) (xL (zb 4)) zo xZ (zx (zc (zb 1) (zc (xc zah (zc (zb 2) zh)) (zc (zt yN (zb 3) (zb 0)) zh))))) zh))))) (zS (zb 3))))) h⟩)
noncomputable def YM (fu:Nat):TwS:=(zI (yk (zC (Zp fu) [(ze 0)]) (gN 1)) (zI (yk (zC (YL fu) [(ze 0),(eFn Yj [(ze 1)])]) (gN 2)) (zI (yk (eFn zag [(wu [none] (iL (ze 2)) (gN 0) wU (eFn Yj [(ze 0)]))]) (gN 3)) (zI (yk (wu [none] (iR1 (ze 3)) (gN 0) wU (YU [])) (gN 4)) (zI (yk (wu [none] (iR1 (ze 3)) (gN 0) wU (eC (.int 0))) (gN 5)) (zI (yk (zC (zH fu) [(ze 0),(eC (.int 2))]) (gN 6)) (zI (vW (iEn (ze 2)) (gT 2 (zZ (gN 7) (zZ (gN 8) vB))) (vW (iL (ze 8)) (gN 9) (zI (yk (eOp xf (YU [(eC (.int 0)),(eC (.int 7)),(eUn Uk (eOp Xp (ze 6) (eOp zei (eC (.int 10)) (eC (.int 60)))))]) (zC (zA fu) [(eOp vw (ze 6) (eOp ZL (ze 7) (ze 7))),(eC (.int 40009)),(eC (.int 3))])) (Vg (ze 5) (ze 9))) (zI (vW (iL (eUn Uy (eOp xf (ze 1) (ze 7)))) (gN 10) (zI (yk (VJ (eOp xf (ze 1) (ze 7)) (ze 10)) (gL 2 (zZ (gN 11) (zZ (gN 12) vB)))) (zI (vA (eMt yt (eOp xf (ze 4) (ze 9)) [(wj [(ze 11),(zC (xC fu) [(ze 0),(ze 9),(ze 12),(ze 2)])])])) (sIf (bE (eOp zae (zC (zA fu) [(eOp vw (ze 6) (ze 9)),(eC (.int 60013)),(eC (.int 3))]) (eC (.int 0)))) (vA (eMt yt (eOp xf (ze 4) (ze 9)) [(wj [(ze 11),(zC (xC fu) [(ze 0),(eOp vw (ze 9) (eC (.int 1))),(ze 12),(ze 2)])])])) xg)))) (sIf (bE (eOp zae (zC (zA fu) [(eOp vw (ze 6) (ze 9)),(eC (.int 30011)),(eC (.int 2))]) (eC (.int 1)))) (yk (eUn YW (eOp xf (ze 4) (ze 9))) (Vg (ze 4) (ze 9))) xg))))) (xo (wj [(ze 4),(ze 5)])))))))))
noncomputable def YN (fu:Nat):TwF:=xh 1 12 (YM fu)
theorem zbo (T:Tx K mg):xJ P w K mg base (CXE P w) 4 T.bw T.aX ["_law_script"] (sTw K 1 (YN fu)):=
 T.cy.okE ye (λvs H Q E h=>h.1) (λaO A outer s H vs Q E hr h=>⟨_,(@zk _ _ _ _ _ (@zO _ _ 1 _ _ _ _ ye.nd rfl (EF rfl) (zw (zbl (fu:=fu) T) (hr.mono ∅) rfl T.d9 T.cz.kp T.df .nil zM (@za _ _ _ _ _ (pv 0) zg zi)) (by rfl) (by walk_at "q1")) (@zk _ _ _ _ _ (@zO _ _ 2 _ _ _ _ ye.nd rfl (EF rfl) (zw (zbn (fu:=fu) T) (hr.mono ∅) rfl T.d7 T.cw.kp T.dc .nil zM (@za _ _ _ _ _ (pv 0) (@za _ _ _ _ _ (zD (yK (K:=K)) rfl T.b8 boot_len (@za _ _ _ _ _ (pv 1) zg zi)) zg yc) zi)) (by rfl) (by walk_at "q1")) (@zk _ _ _ _ _ (@zO _ _ 3 _ _ _ _ ye.nd rfl (EF rfl) (zD (YS (K:=K) rfl) rfl T.dH PyProof.Rows.Boot.«sum» (za (vH (N':=["_law_home"]) rfl (blk (osc:=zq yH) rfl (by decide+kernel)) (yD xn) (yo (K:=K) (pv 2)) (yd rfl) (λC s₀ H₀ fp=>zy (i:=0) (show (["_law_home"]:List Str).Nodup from by decide+kernel) rfl (EF rfl)) (λC s₀ H₀ fp=>xV) (λC s₀ H₀ fp=>(zD (yK (K:=K)) rfl T.b8 boot_len (@za _ _ _ _ _ (pv 0) zg zi)))) zg)) (by rfl) (by walk_at "q1")) (@zk _ _ _ _ _ (Zb (i:=4) (N':=["_law_k"]) rfl (blk (osc:=zq yH) rfl (by decide+kernel)) (yD xn) (xH rfl T.aD (@za _ _ _ _ _ (pv 3) zg zi)) (yd rfl) (λC s₀ H₀ fp=>zy (i:=0) (show (["_law_k"]:List Str).Nodup from by decide+kernel) rfl (EF rfl)) (λC s₀ H₀ fp=>xV) (λC s₀ H₀ fp=>(@vq _ _ _ _ zg)) ye.nd rfl rfl) (@zk _ _ _ _ _ (Zb (i:=5) (N':=["_law_k"]) rfl (blk (osc:=zq yH) rfl (by decide+kernel)) (yD xn) (xH rfl T.aD (@za _ _ _ _ _ (pv 3) zg zi)) (yd rfl) (λC s₀ H₀ fp=>zy (i:=0) (show (["_law_k"]:List Str).Nodup from by decide+kernel) rfl (EF rfl)) (λC s₀ H₀ fp=>xV) (λC s₀ H₀ fp=>zm) ye.nd rfl rfl) (@zk _ _ _ _ _ (@zO _ _ 6 _ _ _ _ ye.nd rfl (EF rfl) (zw (zQ (fu:=fu) T) (hr.mono ∅) rfl T.aj T.ai.kp T.ak .nil zM (@za _ _ _ _ _ (pv 0) (@za _ _ _ _ _ zm zg zj) zi)) (by rfl) (by walk_at "q1")) (@zk _ _ _ _ _ (xl PassesOwn.leaving rfl (VB (K:=K) rfl T.aK (@za _ _ _ _ _ (pv 2) zg zi)) (wo (K:=K) (n:=2) rfl (zL (zy (i:=7) ye.nd rfl (EF rfl)) (zL (zy (i:=8) ye.nd rfl (EF rfl)) xU))) (@zr _ _ _ (xl PassesOwn.leaving rfl (yo (K:=K) (pv 8)) (zy (i:=9) ye.nd rfl (EF rfl)) (@zk _ _ _ _ _ (Vc (@yh _ _ _ _ _ _ _ (zK (K:=K)) (@vq _ _ _ _ (@za _ _ _ _ _ zm (@za _ _ _ _ _ zm (@za _ _ _ _ _ (zbu Ug (zJ ZC (pv 6) (zJ zd6 zm zm))) zg zed) zj) zj)) (zw (zG (fu:=fu) T) (hr.mono ∅) rfl T.ag T.af.kp T.ah .nil zM (@za _ _ _ _ _ (zJ yM (pv 6) (zJ vi (pv 7) (pv 7))) (@za _ _ _ _ _ zm (@za _ _ _ _ _ zm zg zj) zj) yi)) (λ_ _=>rfl)) (zd2 (pv 5) (pv 9) TL)) (@zk _ _ _ _ _ (xl PassesOwn.leaving rfl (yo (K:=K) (zhD (K:=K) rfl rfl T.bS (zb6 Gu Hs IT ze5 (@yh _ _ _ _ _ _ _ (zK (K:=K)) (pv 1) (pv 7) (λ_ _=>rfl))))) (zy (i:=10) ye.nd rfl (EF rfl)) (@zk _ _ _ _ _ (Vc (Vx (YR hr) (@yh _ _ _ _ _ _ _ (zK (K:=K)) (pv 1) (pv 7) (λ_ _=>rfl)) (pv 10) (λ_ _=>rfl)) (zi6 (K:=K) (n:=2) rfl (zL (zy (i:=11) ye.nd rfl (EF rfl)) (zL (zy (i:=12) ye.nd rfl (EF rfl)) xU)))) (@zk _ _ _ _ _ (wO (YQ Fs Fk Fo yJ (@yh _ _ _ _ _ _ _ (zK (K:=K)) (pv 4) (pv 9) (λ_ _=>rfl)) (@za _ _ _ _ _ (@yz _ _ _ _ _ (@za _ _ _ _ _ (pv 11) (@za _ _ _ _ _ (zw (WX (fu:=fu) T) (hr.mono ∅) rfl T.bY T.bA.kp T.cf .nil zM (@za _ _ _ _ _ (pv 0) (@za _ _ _ _ _ (pv 9) (@za _ _ _ _ _ (pv 12) (@za _ _ _ _ _ (pv 2) zg zi) zi) zi) zi)) zg yc) zi)) zg yQ))) (@zr _ _ _ (xG (xb (Va (zw (zG (fu:=fu) T) (hr.mono ∅) rfl T.ag T.af.kp T.ah .nil zM (@za _ _ _ _ _ (zJ yM (pv 6) (pv 9)) (@za _ _ _ _ _ zm (@za _ _ _ _ _ zm zg zj) zj) yi)) zm)) (@zr _ _ _ (wO (YQ Fs Fk Fo yJ (@yh _ _ _ _ _ _ _ (zK (K:=K)) (pv 4) (pv 9) (λ_ _=>rfl)) (@za _ _ _ _ _ (@yz _ _ _ _ _ (@za _ _ _ _ _ (pv 11) (@za _ _ _ _ _ (zw (WX (fu:=fu) T) (hr.mono ∅) rfl T.bY T.bA.kp T.cf .nil zM (@za _ _ _ _ _ (pv 0) (@za _ _ _ _ _ (zJ yM (pv 9) zm) (@za _ _ _ _ _ (pv 12) (@za _ _ _ _ _ (pv 2) zg zi) zi) yi) zi)) zg yc) zi)) zg yQ)))) ym))))) (@zr _ _ _ (xG (xb (Va (zw (zG (fu:=fu) T) (hr.mono ∅) rfl T.ag T.af.kp T.ah .nil zM (@za _ _ _ _ _ (zJ yM (pv 6) (pv 9)) (@za _ _ _ _ _ zm (@za _ _ _ _ _ zm zg zj) zj) yi)) zm)) (@zr _ _ _ (Vc (zec (K:=K) rfl rfl T.bW rfl T.dI (@yh _ _ _ _ _ _ _ (zK (K:=K)) (pv 4) (pv 9) (λ_ _=>rfl))) (zd2 (pv 4) (pv 9) TL))) ym))))))) (@zr _ _ _ (@zR _ _ _ _ (@yz _ _ _ _ _ (@za _ _ _ _ _ (pv 4) (@za _ _ _ _ _ (pv 5) zg zi) zi))))))))))),xM (n:=1) (k:=12) (b:=YM fu) rfl (zu (zF (zx (zc (zb 0) zh)) zo) (zu (zF (zx (zc (zb 0) (zc (xc vM (zc (zb 1) zh)) zh))) zo) (zu (zF (xc zah (zc (xp (cap:=[none]) (yE (zb 2)) zo xZ (xc vM (zc (zb 0) zh))) zh)) zo) (zu (Ze (xp (cap:=[none]) (xL (zb 3)) zo xZ (vt zh))) (zu (Ze (xp (cap:=[none]) (xL (zb 3)) zo xZ (zn _))) (zu (zF (zx (zc (zb 0) (zc (zn _) zh))) zo) (zu (xm (VH (zb 2)) (vK (zN zo (zN zo xY))) (xm (yE (zb 8)) zo (zu (zF (zt yp (vt (zc (zn _) (zc (zn _) (zc (zbH Ul (zt ZE (zb 6) (zt zek (zn _) (zn _)))) zh)))) (zx (zc (zt yN (zb 6) (zt vj (zb 7) (zb 7))) (zc (zn _) (zc (zn _) zh))))) (zab (zb 5) (zb 9))) (zu (xm (yE (zhR (zt yp (zb 1) (zb 7)))) zo (zu (zF (VL (zt yp (zb 1) (zb 7)) (zb 10)) (zle (zN zo (zN zo xY)))) (zu (wP (YV yZ (zt yp (zb 4) (zb 9)) (zc (yA (zc (zb 11) (zc (zx (zc (zb 0) (zc (zb 9) (zc (zb 12) (zc (zb 2) zh))))) zh))) zh))) (xK (xW (Vi (zx (zc (zt yN (zb 6) (zb 9)) (zc (zn _) (zc (zn _) zh)))) (zn _))) (wP (YV yZ (zt yp (zb 4) (zb 9)) (zc (yA (zc (zb 11) (zc (zx (zc (zb 0) (zc (zt yN (zb 9) (zn _)) (zc (zb 12) (zc (zb 2) zh))))) zh))) zh))) yn)))) (xK (xW (Vi (zx (zc (zt yN (zb 6) (zb 9)) (zc (zn _) (zc (zn _) zh)))) (zn _))) (zF (zem (zt yp (zb 4) (zb 9))) (zab (zb 4) (zb 9))) yn))))) (zS (yA (zc (zb 4) (zc (zb 5) zh))))))))))) h⟩)
noncomputable def XC (fu:Nat):TwS:=(zI (yk (YU []) (gN 1)) (zI (vW (iL (ze 0)) (gN 2) (vA (eMt yt (ze 1) [(wu [none,none] (iL (ze 2)) (gT 2 (zZ (gN 0) (zZ (gN 1) vB))) wU (wj [(ze 0),(eFn WQ [(ze 1)])]))]))) (xo (ze 1))))
noncomputable def ZR (fu:Nat):TwF:=xh 1 2 (XC fu)
theorem VW (T:Tx K mg):xJ P w K mg base (CXE P w) 1 T.bN T.bh ["_law_net"] (sTw K 1 (ZR fu)):=
 T.bO.okE Xu (λvs H Q E h=>h.1) (λaO A outer s H vs Q E hr h=>⟨_,(@zk _ _ _ _ _ (@zO _ _ 1 _ _ _ _ Xu.nd rfl (EF rfl) (@vq _ _ _ _ zg) (by rfl) (by walk_at "q1")) (@zk _ _ _ _ _ (xl PassesOwn.leaving rfl (yo (K:=K) (pv 0)) (zy (i:=2) Xu.nd rfl (EF rfl)) (@zr _ _ _ (wO (YQ Fs Fk Fo yJ (pv 1) (za (vH (N':=["_law_gain_here","_law_parts_here"]) rfl (blk (osc:=zq xS) rfl (by decide+kernel)) (yD (yD xn)) (yo (K:=K) (pv 2)) (Vy (wD (yd rfl) (wD (yd rfl) Wv wE) wE)) (λC s₀ H₀ fp=>wo (K:=K) (n:=2) rfl (zL (zy (i:=0) (show (["_law_gain_here","_law_parts_here"]:List Str).Nodup from by decide+kernel) rfl (EF rfl)) (zL (zy (i:=1) (show (["_law_gain_here","_law_parts_here"]:List Str).Nodup from by decide+kernel) rfl (EF rfl)) xU))) (λC s₀ H₀ fp=>xV) (λC s₀ H₀ fp=>(@yz _ _ _ _ _ (@za _ _ _ _ _ (pv 0) (@za _ _ _ _ _ (ZU (Xo (K:=K)) rfl T.bW boot_list (@za _ _ _ _ _ (pv 1) zg zi)) zg yc) zi)))) zg))))) (@zr _ _ _ (@zR _ _ _ _ (pv 1))))),xM (n:=1) (k:=2) (b:=XC fu) rfl (zu (zF (vt zh) zo) (zu (xm (yE (zb 0)) zo (wP (YV yZ (zb 1) (zc (xp (cap:=[none,none]) (yE (zb 2)) (vK (zN zo (zN zo xY))) xZ (yA (zc (zb 0) (zc (xc Tm (zc (zb 1) zh)) zh)))) zh)))) (zS (zb 1)))) h⟩)
noncomputable def Vp (fu:Nat):TwS:=(zI (yk Vj (gN 2)) (zI (vW (iL (eOp Zr (ze 0) (eC (.int 1)))) (gT 2 (zZ (gN 3) (zZ (gN 4) vB))) (zI (yk (zaj (ze 2) (eOp xf (ze 1) (ze 3)) (wj [(eC (.int 0)),(eC (.int 1))])) (gT 2 (zZ (gN 5) (zZ (gN 6) vB)))) (Ur (ze 2) (eOp xf (ze 1) (ze 3)) (zC (xP fu) [(eOp vw (eOp ZL (ze 5) (eOp Zr (ze 4) (eC (.int 1)))) (eOp ZL (eOp Zr (ze 4) (eC (.int 0))) (ze 6))),(eOp ZL (ze 6) (eOp Zr (ze 4) (eC (.int 1))))])))) (xo (wj [(eOp Zr (ze 0) (eC (.int 0))),(eUn VT (ze 2))]))))
noncomputable def Vq (fu:Nat):TwF:=xh 2 5 (Vp fu)
theorem zeH (T:Tx K mg):xJ P w K mg base (CXE P w) 2 T.cM T.c7 ["_law_choice","_law_classes"] (sTw K 2 (Vq fu)):=
 T.dv.okE Zh (λvs H Q E h=>h.1) (λaO A outer s H vs Q E hr h=>⟨_,(@zk _ _ _ _ _ (@zO _ _ 2 _ _ _ _ Zh.nd rfl (EF rfl) XS (by rfl) (by walk_at "q1")) (@zk _ _ _ _ _ (xl PassesOwn.leaving rfl (yo (K:=K) (@yh _ _ _ _ _ _ _ (yR (K:=K)) (pv 0) zm (λ_ _=>rfl))) (wo (K:=K) (n:=2) rfl (zL (zy (i:=3) Zh.nd rfl (EF rfl)) (zL (zy (i:=4) Zh.nd rfl (EF rfl)) xU))) (@zk _ _ _ _ _ (Vc (TR (YR hr) (pv 2) (@yh _ _ _ _ _ _ _ (zK (K:=K)) (pv 1) (pv 3) (λ_ _=>rfl)) (@yz _ _ _ _ _ (@za _ _ _ _ _ zm (@za _ _ _ _ _ zm zg zj) zj)) ⟨rfl,rfl,rfl,rfl⟩) (wo (K:=K) (n:=2) rfl (zL (zy (i:=5) Zh.nd rfl (EF rfl)) (zL (zy (i:=6) Zh.nd rfl (EF rfl)) xU)))) (@zr _ _ _ (Tk (YR hr) (pv 2) (@yh _ _ _ _ _ _ _ (zK (K:=K)) (pv 1) (pv 3) (λ_ _=>rfl)) (zw (Zj (fu:=fu) T) (hr.mono ∅) rfl T.aE T.ay.kp T.aG .nil zM (@za _ _ _ _ _ (zJ yM (zJ vi (pv 5) (@yh _ _ _ _ _ _ _ (yR (K:=K)) (pv 4) zm (λ_ _=>rfl))) (zJ vi (@yh _ _ _ _ _ _ _ (yR (K:=K)) (pv 4) zm (λ_ _=>rfl)) (pv 6))) (@za _ _ _ _ _ (zJ vi (pv 6) (@yh _ _ _ _ _ _ _ (yR (K:=K)) (pv 4) zm (λ_ _=>rfl))) zg yi) yi)) rfl)))) (@zr _ _ _ (@zR _ _ _ _ (@yz _ _ _ _ _ (@za _ _ _ _ _ (@yh _ _ _ _ _ _ _ (yR (K:=K)) (pv 0) zm (λ_ _=>rfl)) (@za _ _ _ _ _ (zD (zdH rfl) rfl T.bS PyProof.Rows.Boot.«sorted» (@za _ _ _ _ _ (zb6 Gu Iz PySem.F.type_dict_items zhe (pv 2)) zg yc)) zg yc) zX)))))),xM (n:=2) (k:=5) (b:=Vp fu) rfl (zu (zF VI zo) (zu (xm (yE (zt xX (zb 0) (zn _))) (vK (zN zo (zN zo xY))) (zu (zF (zak (zb 2) (zt yp (zb 1) (zb 3)) (yA (zc (zn _) (zc (zn _) zh)))) (vK (zN zo (zN zo xY)))) (Tn (zb 2) (zt yp (zb 1) (zb 3)) (zx (zc (zt yN (zt vj (zb 5) (zt xX (zb 4) (zn _))) (zt vj (zt xX (zb 4) (zn _)) (zb 6))) (zc (zt vj (zb 6) (zt xX (zb 4) (zn _))) zh)))))) (zS (yA (zc (zt xX (zb 0) (zn _)) (zc (zgd (zb 2)) zh)))))) h⟩)
noncomputable def wZ (fu:Nat):TwS:=(zI (sIf (bOr (WI (bE (eUn (VG "tuple") (ze 0)))) (bE (eOp zaf (eFn Yj [(ze 0)]) (eC (.int 2))))) (xo (eC (.bl false))) xg) (zI (vW (iT (ze 0)) (gN 1) (sIf (bOr (WI (bE (eUn (VG "int") (ze 1)))) (bE (eUn (VG "bool") (ze 1)))) (xo (eC (.bl false))) xg)) (xo (eOp dGt (eOp Zr (ze 0) (eC (.int 1))) (eC (.int 0))))))
noncomputable def xF (fu:Nat):TwF:=xh 1 1 (wZ fu)
theorem ZQ (T:Tx K mg):xJ P w K mg base (CXE P w) 1 T.aw T.av ["_law_found"] (sTw K 1 (xF fu)):=
 T.ax.okE ZP (λvs H Q E h=>h.1) (λaO A outer s H vs Q E hr h=>⟨_,(@zk _ _ _ _ _ (xG (PW.pt (XQ (vZ (vo (zD (wg (K:=K)) rfl T.ao boot_isinstance (za (pv 0) (za (Zn (v:= .ty "tuple") rfl T.cH boot_tuple rfl) zg))))) (Vb (xb (XO (zD (yK (K:=K)) rfl T.b8 boot_len (@za _ _ _ _ _ (pv 0) zg zi)) zm))))) (@zr _ _ _ (@zR _ _ _ _ XG)) ym) (@zk _ _ _ _ _ (xl PassesOwn.leaving rfl (ziK (K:=K) (pv 0)) (zy (i:=1) ZP.nd rfl (EF rfl)) (@zr _ _ _ (xG (PW.pt (XQ (vZ (vo (zD (wg (K:=K)) rfl T.ao boot_isinstance (za (pv 1) (za (Zn (v:= .ty "int") rfl T.fZ boot_int rfl) zg))))) (Vb (vo (zD (wg (K:=K)) rfl T.ao boot_isinstance (za (pv 1) (za (Zn (v:= .ty "bool") rfl T.fm boot_bool rfl) zg))))))) (@zr _ _ _ (@zR _ _ _ _ XG)) ym))) (@zr _ _ _ (@zR _ _ _ _ (zkj (zc2 (@yh _ _ _ _ _ _ _ (yR (K:=K)) (pv 0) zm (λ_ _=>rfl)) zm)))))),xM (n:=1) (k:=1) (b:=wZ fu) rfl (zu (xK (XW (Zd (xW (YA Up (zb 0)))) (xW (XY (xc vM (zc (zb 0) zh)) (zn _)))) (zS (XI _)) yn) (zu (xm (zkJ (zb 0)) zo (xK (XW (Zd (xW (YA ze8 (zb 1)))) (xW (YA zdr (zb 1)))) (zS (XI _)) yn)) (zS (zdp (zt xX (zb 0) (zn _)) (zn _))))) h⟩)
noncomputable def vR (fu:Nat):TwS:=(zI (sIf (bOr (WI (bE (eUn (VG "tuple") (ze 0)))) (bOr (bE (eOp zaf (eFn Yj [(ze 0)]) (eC (.int 2)))) (WI (bE (zC (xF fu) [(eOp Zr (ze 0) (eC (.int 0)))]))))) (xo (eC (.bl false))) xg) (zI (sIf (WI (bE (eUn (VG "list") (eOp Zr (ze 0) (eC (.int 1)))))) (xo (eC (.bl false))) xg) (zI (vW (iL (eOp Zr (ze 0) (eC (.int 1)))) (gN 1) (zI (sIf (bOr (WI (bE (eUn (VG "tuple") (ze 1)))) (bOr (bE (eOp zaf (eFn Yj [(ze 1)]) (eC (.int 2)))) (WI (bE (zC (xF fu) [(eOp Zr (ze 1) (eC (.int 1)))]))))) (xo (eC (.bl false))) xg) (sIf (bOr (WI (bE (eUn (VG "int") (eOp Zr (ze 1) (eC (.int 0)))))) (bE (eUn (VG "bool") (eOp Zr (ze 1) (eC (.int 0)))))) (xo (eC (.bl false))) xg))) (xo (eC (.bl true))))))
noncomputable def vS (fu:Nat):TwF:=xh 1 1 (vR fu)
theorem VX (T:Tx K mg):xJ P w K mg base (CXE P w) 2 T.aB T.az ["_law_found"] (sTw K 1 (vS fu)):=
 T.aR.okE Yr (λvs H Q E h=>h.1) (λaO A outer s H vs Q E hr h=>⟨_,(@zk _ _ _ _ _ (xG (PW.pt (XQ (vZ (vo (zD (wg (K:=K)) rfl T.ao boot_isinstance (za (pv 0) (za (Zn (v:= .ty "tuple") rfl T.cH boot_tuple rfl) zg))))) (XQ (xb (XO (zD (yK (K:=K)) rfl T.b8 boot_len (@za _ _ _ _ _ (pv 0) zg zi)) zm)) (Vb (vZ (vo (zw (ZQ (fu:=fu) T) (hr.mono ∅) rfl T.aI T.ax.kp T.aJ .nil zM (@za _ _ _ _ _ (@yh _ _ _ _ _ _ _ (yR (K:=K)) (pv 0) zm (λ_ _=>rfl)) zg zX)))))))) (@zr _ _ _ (@zR _ _ _ _ XG)) ym) (@zk _ _ _ _ _ (xG (vZ (vo (zD (wg (K:=K)) rfl T.ao boot_isinstance (za (@yh _ _ _ _ _ _ _ (yR (K:=K)) (pv 0) zm (λ_ _=>rfl)) (za (Zn (v:= .ty "list") rfl T.bW boot_list rfl) zg))))) (@zr _ _ _ (@zR _ _ _ _ XG)) ym) (@zk _ _ _ _ _ (xl PassesOwn.leaving rfl (yo (K:=K) (@yh _ _ _ _ _ _ _ (yR (K:=K)) (pv 0) zm (λ_ _=>rfl))) (zy (i:=1) Yr.nd rfl (EF rfl)) (@zk _ _ _ _ _ (xG (PW.pt (XQ (vZ (vo (zD (wg (K:=K)) rfl T.ao boot_isinstance (za (pv 1) (za (Zn (v:= .ty "tuple") rfl T.cH boot_tuple rfl) zg))))) (XQ (xb (XO (zD (yK (K:=K)) rfl T.b8 boot_len (@za _ _ _ _ _ (pv 1) zg zi)) zm)) (Vb (vZ (vo (zw (ZQ (fu:=fu) T) (hr.mono ∅) rfl T.aI T.ax.kp T.aJ .nil zM (@za _ _ _ _ _ (@yh _ _ _ _ _ _ _ (yR (K:=K)) (pv 1) zm (λ_ _=>rfl)) zg zX)))))))) (@zr _ _ _ (@zR _ _ _ _ XG)) ym) (@zr _ _ _ (xG (PW.pt (XQ (vZ (vo (zD (wg (K:=K)) rfl T.ao boot_isinstance (za (@yh _ _ _ _ _ _ _ (yR (K:=K)) (pv 1) zm (λ_ _=>rfl)) (za (Zn (v:= .ty "int") rfl T.fZ boot_int rfl) zg))))) (Vb (vo (zD (wg (K:=K)) rfl T.ao boot_isinstance (za (@yh _ _ _ _ _ _ _ (yR (K:=K)) (pv 1) zm (λ_ _=>rfl)) (za (Zn (v:= .ty "bool") rfl T.fm boot_bool rfl) zg))))))) (@zr _ _ _ (@zR _ _ _ _ XG)) ym)))) (@zr _ _ _ (@zR _ _ _ _ XG))))),xM (n:=1) (k:=1) (b:=vR fu) rfl (zu (xK (XW (Zd (xW (YA Up (zb 0)))) (XW (xW (XY (xc vM (zc (zb 0) zh)) (zn _))) (Zd (xW (zx (zc (zt xX (zb 0) (zn _)) zh)))))) (zS (XI _)) yn) (zu (xK (Zd (xW (YA zai (zt xX (zb 0) (zn _))))) (zS (XI _)) yn) (zu (xm (yE (zt xX (zb 0) (zn _))) zo (zu (xK (XW (Zd (xW (YA Up (zb 1)))) (XW (xW (XY (xc vM (zc (zb 1) zh)) (zn _))) (Zd (xW (zx (zc (zt xX (zb 1) (zn _)) zh)))))) (zS (XI _)) yn) (xK (XW (Zd (xW (YA ze8 (zt xX (zb 1) (zn _))))) (xW (YA zdr (zt xX (zb 1) (zn _))))) (zS (XI _)) yn))) (zS (XI _))))) h⟩)
noncomputable def Wq (fu:Nat):TwS:=(zI (yk (YU []) (gN 3)) (zI (vW (iL (ze 1)) (gN 4) (zI (yk (zC (Vq fu) [(ze 4),(ze 2)]) (gN 5)) (sIf (bE (eOp (zeG true) (ze 5) (ze 3))) (vA (eMt yt (ze 3) [(ze 5)])) xg))) (zI (sIf (bOr (WI (bE (eUn (VG "list") (ze 0)))) (bE (eOp zaf (eFn Yj [(ze 0)]) (eFn Yj [(ze 3)])))) (xo (eC (.bl false))) xg) (zI (vW (iL (ze 0)) (gN 4) (sIf (WI (bE (zC (vS fu) [(ze 4)]))) (xo (eC (.bl false))) xg)) (xo (eOp (zam false) (wu [none,some 0] (iL (ze 3)) (gN 0) (bE (eOp (zeG true) (ze 0) (ze 1))) (ze 0)) (YU [])))))))
noncomputable def Zu (fu:Nat):TwF:=xh 3 3 (Wq fu)
theorem UX (T:Tx K mg):xJ P w K mg base (CXE P w) 3 T.ck T.bI ["_law_found","_law_choices","_law_classes"] (sTw K 3 (Zu fu)):=
 T.cx.okE Zt (λvs H Q E h=>h.1) (λaO A outer s H vs Q E hr h=>⟨_,(@zk _ _ _ _ _ (@zO _ _ 3 _ _ _ _ Zt.nd rfl (EF rfl) (@vq _ _ _ _ zg) (by rfl) (by walk_at "q1")) (@zk _ _ _ _ _ (xl PassesOwn.leaving rfl (yo (K:=K) (pv 1)) (zy (i:=4) Zt.nd rfl (EF rfl)) (@zk _ _ _ _ _ (@zO _ _ 5 _ _ _ _ Zt.nd rfl (EF rfl) (zw (zeH (fu:=fu) T) (hr.mono ∅) rfl T.eG T.dv.kp T.eK .nil zM (@za _ _ _ _ _ (pv 4) (@za _ _ _ _ _ (pv 2) zg zi) zi)) (by rfl) (by walk_at "q1")) (@zr _ _ _ (xG (Wt (zbR (K:=K) hr) (pv 5) (pv 3) (by rfl)) (@zr _ _ _ (wO (YQ Fs Fk Fo yJ (pv 3) (@za _ _ _ _ _ (pv 5) zg zi)))) ym)))) (@zk _ _ _ _ _ (xG (PW.pt (XQ (vZ (vo (zD (wg (K:=K)) rfl T.ao boot_isinstance (za (pv 0) (za (Zn (v:= .ty "list") rfl T.bW boot_list rfl) zg))))) (Vb (xb (XO (zD (yK (K:=K)) rfl T.b8 boot_len (@za _ _ _ _ _ (pv 0) zg zi)) (zD (yK (K:=K)) rfl T.b8 boot_len (@za _ _ _ _ _ (pv 3) zg zi))))))) (@zr _ _ _ (@zR _ _ _ _ XG)) ym) (@zk _ _ _ _ _ (xl PassesOwn.leaving rfl (yo (K:=K) (pv 0)) (zy (i:=4) Zt.nd rfl (EF rfl)) (@zr _ _ _ (xG (vZ (vo (zw (VX (fu:=fu) T) (hr.mono ∅) rfl T.bT T.aR.kp T.bV .nil zM (@za _ _ _ _ _ (pv 4) zg zi)))) (@zr _ _ _ (@zR _ _ _ _ XG)) ym))) (@zr _ _ _ (@zR _ _ _ _ (zeV (zgT (K:=K) hr) (vH (N':=["_law_kind","_law_found"]) rfl (blk (osc:=zq wL) rfl (by decide+kernel)) (yD (vJ (i:=0) rfl rfl xn)) (yo (K:=K) (pv 3)) (yd rfl) (λC s₀ H₀ fp=>zy (i:=0) (show (["_law_kind","_law_found"]:List Str).Nodup from by decide+kernel) rfl (EF rfl)) (λC s₀ H₀ fp=>ze3 (Wt (zbR (K:=K) hr) (pv 0) (pv 1) (by rfl))) (λC s₀ H₀ fp=>(pv 0))) (@vq _ _ _ _ zg) (by rfl)))))))),xM (n:=3) (k:=3) (b:=Wq fu) rfl (zu (zF (vt zh) zo) (zu (xm (yE (zb 1)) zo (zu (zF (zx (zc (zb 4) (zc (zb 2) zh))) zo) (xK (Ww (zt zhQ (zb 5) (zb 3))) (wP (YV yZ (zb 3) (zc (zb 5) zh))) yn))) (zu (xK (XW (Zd (xW (YA zai (zb 0)))) (xW (XY (xc vM (zc (zb 0) zh)) (xc vM (zc (zb 3) zh))))) (zS (XI _)) yn) (zu (xm (yE (zb 0)) zo (xK (Zd (xW (zx (zc (zb 4) zh)))) (zS (XI _)) yn)) (zS (zt zg1 (xp (cap:=[none,some 0]) (yE (zb 3)) zo (Ww (zt zhQ (zb 0) (zb 1))) (zb 0)) (vt zh))))))) h⟩)
noncomputable def zeI (fu:Nat):TwS:=(zI (yk (zC (YN fu) [(ze 0)]) (gT 2 (zZ (gN 1) (zZ (gN 2) vB)))) (zI (sIf (bE (eOp zae (zC (zA fu) [(zC (zH fu) [(ze 0),(eC (.int 0))]),(eC (.int 65537)),(eC (.int 3))]) (eC (.int 1)))) (yk (zC (XB fu) [(ze 0)]) (gT 2 (zZ (gN 1) (zZ (gN 2) vB)))) xg) (zI (yk (eOp xf (zC (WD fu) [(zC (ZR fu) [(ze 1)]),(eFn WQ [(ze 2)])]) (eUn Uk (eC (.int 1)))) (gN 3)) (zI (yk (zC (ZR fu) [(ze 1)]) (gN 4)) (zI (yk (eFn WQ [(ze 3)]) (gN 5)) (zI (yk (zC (Tw fu) [(ze 4),(ze 5)]) (gN 6)) (zI (sIf (bOr (WI (bE (eUn (VG "list") (ze 6)))) (bOr (bE (eOp zaf (eFn Yj [(ze 6)]) (eOp vw (eFn zdP [(ze 3)]) (eC (.int 1))))) (bOr (bE (eOp (zbi true) (ze 4) (ze 1))) (bE (eOp (zbi true) (ze 5) (ze 3)))))) (xo (eC (.bl false))) xg) (zI (vW (iR1 (eFn Yj [(ze 1)])) (gN 7) (sIf (WI (bE (zC (Zu fu) [(eOp xf (ze 6) (eOp xf (ze 3) (ze 7))),(eOp xf (ze 1) (ze 7)),(ze 3)]))) (xo (eC (.bl false))) xg)) (zI (vW (iL (ze 6)) (gN 8) (zI (vW (iL (ze 8)) (gN 9) (vA (eMt yt (eOp Zr (ze 9) (eC (.int 1))) [(wj [(eC (.int 0)),(wj [(eC (.int 1)),(eC (.int 1))])])]))) (vA (eMt yt (ze 8) [(wj [(wj [(eC (.int 0)),(eC (.int 1))]),(YU [])])])))) (zI (yk (zC (Tw fu) [(ze 4),(ze 5)]) (gN 6)) (zI (vW (iR1 (eFn Yj [(ze 1)])) (gN 7) (sIf (WI (bE (zC (Zu fu) [(eOp xf (ze 6) (eOp xf (ze 3) (ze 7))),(eOp xf (ze 1) (ze 7)),(ze 3)]))) (xo (eC (.bl false))) xg)) (xo (eOp (zbi false) (ze 4) (ze 1))))))))))))))
noncomputable def zeJ (fu:Nat):TwF:=xh 1 9 (zeI fu)
theorem zjf (T:Tx K mg):xJ P w K mg base (CXE P w) 9 T.fe T.dU ["_law_script"] (sTw K 1 (zeJ fu)):=
 T.iN.okE vP (λvs H Q E h=>h.1) (λaO A outer s H vs Q E hr h=>⟨_,(@zk _ _ _ _ _ (Vc (zw (zbo (fu:=fu) T) (hr.mono ∅) rfl T.d8 T.cy.kp T.de .nil zM (@za _ _ _ _ _ (pv 0) zg zi)) (wo (K:=K) (n:=2) rfl (zL (zy (i:=1) vP.nd rfl (EF rfl)) (zL (zy (i:=2) vP.nd rfl (EF rfl)) xU)))) (@zk _ _ _ _ _ (xG (xb (Va (zw (zG (fu:=fu) T) (hr.mono ∅) rfl T.ag T.af.kp T.ah .nil zM (@za _ _ _ _ _ (zw (zQ (fu:=fu) T) (hr.mono ∅) rfl T.aj T.ai.kp T.ak .nil zM (@za _ _ _ _ _ (pv 0) (@za _ _ _ _ _ zm zg zj) zi)) (@za _ _ _ _ _ zm (@za _ _ _ _ _ zm zg zj) zj) yc)) zm)) (@zr _ _ _ (Vc (zw (zcG (fu:=fu) T) (hr.mono ∅) rfl T.dw T.cF.kp T.dA .nil zM (@za _ _ _ _ _ (pv 0) zg zi)) (wo (K:=K) (n:=2) rfl (zL (zy (i:=1) vP.nd rfl (EF rfl)) (zL (zy (i:=2) vP.nd rfl (EF rfl)) xU))))) ym) (@zk _ _ _ _ _ (@zO _ _ 3 _ _ _ _ vP.nd rfl (EF rfl) (@yh _ _ _ _ _ _ _ (zK (K:=K)) (zw (zgg (fu:=fu) T) (hr.mono ∅) rfl T.eU T.e8.kp T.eZ .nil zM (@za _ _ _ _ _ (zw (VW (fu:=fu) T) (hr.mono ∅) rfl T.cB T.bO.kp T.cD .nil zM (@za _ _ _ _ _ (pv 1) zg zi)) (@za _ _ _ _ _ (ZU (Xo (K:=K)) rfl T.bW boot_list (@za _ _ _ _ _ (pv 2) zg zi)) zg yc) yc)) (zbu Ug zm) (λ_ _=>rfl)) (by rfl) (by walk_at "q1")) (@zk _ _ _ _ _ (@zO _ _ 4 _ _ _ _ vP.nd rfl (EF rfl) (zw (VW (fu:=fu) T) (hr.mono ∅) rfl T.cB T.bO.kp T.cD .nil zM (@za _ _ _ _ _ (pv 1) zg zi)) (by rfl) (by walk_at "q1")) (@zk _ _ _ _ _ (@zO _ _ 5 _ _ _ _ vP.nd rfl (EF rfl) (ZU (Xo (K:=K)) rfl T.bW boot_list (@za _ _ _ _ _ (pv 3) zg zi)) (by rfl) (by walk_at "q1")) (@zk _ _ _ _ _ (@zO _ _ 6 _ _ _ _ vP.nd rfl (EF rfl) (zw (zfs (fu:=fu) T) (hr.mono ∅) rfl T.fq T.eR.kp T.fB .nil zM (@za _ _ _ _ _ (pv 4) (@za _ _ _ _ _ (pv 5) zg zi) zi)) (by rfl) (by walk_at "q1")) (@zk _ _ _ _ _ (xG (PW.pt (XQ (vZ (vo (zD (wg (K:=K)) rfl T.ao boot_isinstance (za (pv 6) (za (Zn (v:= .ty "list") rfl T.bW boot_list rfl) zg))))) (XQ (xb (XO (zD (yK (K:=K)) rfl T.b8 boot_len (@za _ _ _ _ _ (pv 6) zg zi)) (zJ yM (zD (zgc (K:=K) rfl) rfl T.iq boot_max (@za _ _ _ _ _ (pv 3) zg zi)) zm))) (XQ (Wt (zcp (K:=K) hr) (pv 4) (pv 1) (by rfl)) (Vb (Wt (zcp (K:=K) hr) (pv 5) (pv 3) (by rfl))))))) (@zr _ _ _ (@zR _ _ _ _ XG)) ym) (@zk _ _ _ _ _ (xl PassesOwn.leaving rfl (xH rfl T.aD (@za _ _ _ _ _ (zD (yK (K:=K)) rfl T.b8 boot_len (@za _ _ _ _ _ (pv 1) zg zi)) zg yc)) (zy (i:=7) vP.nd rfl (EF rfl)) (@zr _ _ _ (xG (vZ (vo (zw (UX (fu:=fu) T) (hr.mono ∅) rfl T.cU T.cx.kp T.cW .nil zM (@za _ _ _ _ _ (@yh _ _ _ _ _ _ _ (zK (K:=K)) (pv 6) (@yh _ _ _ _ _ _ _ (zK (K:=K)) (pv 3) (pv 7) (λ_ _=>rfl)) (λ_ _=>rfl)) (@za _ _ _ _ _ (@yh _ _ _ _ _ _ _ (zK (K:=K)) (pv 1) (pv 7) (λ_ _=>rfl)) (@za _ _ _ _ _ (pv 3) zg zi) zX) zX)))) (@zr _ _ _ (@zR _ _ _ _ XG)) ym))) (@zk _ _ _ _ _ (xl PassesOwn.leaving rfl (yo (K:=K) (pv 6)) (zy (i:=8) vP.nd rfl (EF rfl)) (@zk _ _ _ _ _ (xl PassesOwn.leaving rfl (yo (K:=K) (pv 8)) (zy (i:=9) vP.nd rfl (EF rfl)) (@zr _ _ _ (wO (YQ Fs Fk Fo yJ (@yh _ _ _ _ _ _ _ (yR (K:=K)) (pv 9) zm (λ_ _=>rfl)) (@za _ _ _ _ _ (@yz _ _ _ _ _ (@za _ _ _ _ _ zm (@za _ _ _ _ _ (@yz _ _ _ _ _ (@za _ _ _ _ _ zm (@za _ _ _ _ _ zm zg zj) zj)) zg yQ) zj)) zg yQ))))) (@zr _ _ _ (wO (YQ Fs Fk Fo yJ (pv 8) (@za _ _ _ _ _ (@yz _ _ _ _ _ (@za _ _ _ _ _ (@yz _ _ _ _ _ (@za _ _ _ _ _ zm (@za _ _ _ _ _ zm zg zj) zj)) (@za _ _ _ _ _ (@vq _ _ _ _ zg) zg zcc) yQ)) zg yQ)))))) (@zk _ _ _ _ _ (@zO _ _ 6 _ _ _ _ vP.nd rfl (EF rfl) (zw (zfs (fu:=fu) T) (hr.mono ∅) rfl T.fq T.eR.kp T.fB .nil zM (@za _ _ _ _ _ (pv 4) (@za _ _ _ _ _ (pv 5) zg zi) zi)) (by rfl) (by walk_at "q1")) (@zk _ _ _ _ _ (xl PassesOwn.leaving rfl (xH rfl T.aD (@za _ _ _ _ _ (zD (yK (K:=K)) rfl T.b8 boot_len (@za _ _ _ _ _ (pv 1) zg zi)) zg yc)) (zy (i:=7) vP.nd rfl (EF rfl)) (@zr _ _ _ (xG (vZ (vo (zw (UX (fu:=fu) T) (hr.mono ∅) rfl T.cU T.cx.kp T.cW .nil zM (@za _ _ _ _ _ (@yh _ _ _ _ _ _ _ (zK (K:=K)) (pv 6) (@yh _ _ _ _ _ _ _ (zK (K:=K)) (pv 3) (pv 7) (λ_ _=>rfl)) (λ_ _=>rfl)) (@za _ _ _ _ _ (@yh _ _ _ _ _ _ _ (zK (K:=K)) (pv 1) (pv 7) (λ_ _=>rfl)) (@za _ _ _ _ _ (pv 3) zg zi) zX) zX)))) (@zr _ _ _ (@zR _ _ _ _ XG)) ym))) (@zr _ _ _ (@zR _ _ _ _ (zeV (zk2 (K:=K) hr) (pv 4) (pv 1) (by rfl))))))))))))))),xM (n:=1) (k:=9) (b:=zeI fu) rfl (zu (zF (zx (zc (zb 0) zh)) (vK (zN zo (zN zo xY)))) (zu (xK (xW (Vi (zx (zc (zx (zc (zb 0) (zc (zn _) zh))) (zc (zn _) (zc (zn _) zh)))) (zn _))) (zF (zx (zc (zb 0) zh)) (vK (zN zo (zN zo xY)))) yn) (zu (zF (zt yp (zx (zc (zx (zc (zb 1) zh)) (zc (xc Tm (zc (zb 2) zh)) zh))) (zbH Ul (zn _))) zo) (zu (zF (zx (zc (zb 1) zh)) zo) (zu (zF (xc Tm (zc (zb 3) zh)) zo) (zu (zF (zx (zc (zb 4) (zc (zb 5) zh))) zo) (zu (xK (XW (Zd (xW (YA zai (zb 6)))) (XW (xW (XY (xc vM (zc (zb 6) zh)) (zt yN (xc zjb (zc (zb 3) zh)) (zn _)))) (XW (Ww (zt zaE (zb 4) (zb 1))) (Ww (zt zaE (zb 5) (zb 3)))))) (zS (XI _)) yn) (zu (xm (xL (xc vM (zc (zb 1) zh))) zo (xK (Zd (xW (zx (zc (zt yp (zb 6) (zt yp (zb 3) (zb 7))) (zc (zt yp (zb 1) (zb 7)) (zc (zb 3) zh)))))) (zS (XI _)) yn)) (zu (xm (yE (zb 6)) zo (zu (xm (yE (zb 8)) zo (wP (YV yZ (zt xX (zb 9) (zn _)) (zc (yA (zc (zn _) (zc (yA (zc (zn _) (zc (zn _) zh))) zh))) zh)))) (wP (YV yZ (zb 8) (zc (yA (zc (yA (zc (zn _) (zc (zn _) zh))) (zc (vt zh) zh))) zh))))) (zu (zF (zx (zc (zb 4) (zc (zb 5) zh))) zo) (zu (xm (xL (xc vM (zc (zb 1) zh))) zo (xK (Zd (xW (zx (zc (zt yp (zb 6) (zt yp (zb 3) (zb 7))) (zc (zt yp (zb 1) (zb 7)) (zc (zb 3) zh)))))) (zS (XI _)) yn)) (zS (zt zaE (zb 4) (zb 1)))))))))))))) h⟩)
end
section
open Mth
def Big (fu:Nat):Prop:=2^9000<=fu
theorem Big.le {fu:Nat} (h:Big fu):1000000<=fu:=EW (show 1000000<=2^20 by decide) (EW (GH ∅ ∅) h)
local macro_rules | `(tactic| walk_at "w1") => `(tactic| first
 | with_reducible apply zkM | ((with_reducible apply vx); exact rfl) | with_reducible apply Vk | with_reducible apply mS | with_reducible apply Tp | with_reducible apply ziV
 | with_reducible apply yS | ((with_reducible apply Wc); try dsimp only[F7]) | with_reducible apply vm | with_reducible apply Xq | with_reducible apply zkQ
 | with_reducible apply US | with_reducible apply zl2 | with_reducible apply ze9 | with_reducible apply sV | with_reducible apply Zf
 | with_reducible apply vk | with_reducible apply zen | with_reducible apply zkO | with_reducible apply zg2 | with_reducible apply VM
 | with_reducible apply zg3 | with_reducible apply zl3 | with_reducible apply zg4
 | with_reducible apply zkS | with_reducible apply zeo | with_reducible apply zkT | with_reducible apply zl5 | with_reducible apply sY | with_reducible apply zl6 | with_reducible apply sZ | with_reducible apply zkU | with_reducible apply zkV
 | with_reducible apply nU | with_reducible apply nV | with_reducible apply zkY | with_reducible apply zkZ
 | ((with_reducible apply zkX); exact⟨∅, by decide, by decide⟩)
 | ((with_reducible apply zkW); first | exact .inl ∅ | exact .inr ∅)
 | with_reducible refine Je _ (And.intro rfl ?_))
local macro_rules | `(tactic| walk_at "w") => `(tactic| repeat walk_at "w1")
local macro_rules|`(tactic|nofun)=>`(tactic|walk_at "w")
local macro_rules | `(tactic| walk_at "wr") => `(tactic| (refine zkR rfl rfl ?_; dsimp only [List.map, HAppend.hAppend, Append.append, List.append, List.replicate]))
section
variable {fu:Nat} {S S' S2:Sto} {x y:Xv}
theorem Zk {c:Prop} [Decidable c] {A B:Prop} (h:c->A) (g:¬c->B):(decide c=true->A)/\(decide c=false->B):=⟨λe=>h (of_decide_eq_true e),λe=>g (of_decide_eq_false e)⟩
theorem W.eqs {r:Option (Rs Xv)} {a:Xv} {P:Xv->Sto->Prop} (h:W r λv S'=>v=a/\S=S') (k:P a S):W r P:=h.imp λ_ _ ⟨e,e'⟩=>e ▸ e' ▸ k
def Fz (S S':Sto):Prop:=S.length<=S'.length/\∀(n:Nat) c,S[n]? =some c->S'[n]? =some c\/∃kvs,c= .dk kvs/\S'[n]? =some (.fdk kvs)
theorem Fz.refl:Fz S S:=⟨EE _,λ_ _ e=> .inl e⟩
theorem Fz.trans (a:Fz S S') (b:Fz S' S2):Fz S S2:=⟨EW a.1 b.1,λn c e=>by
 rcases a.2 n c e with h|⟨kvs,rfl,h⟩
 ·exact b.2 n c h
 ·rcases b.2 n _ h with g|⟨_,g,_⟩
  ·exact .inr ⟨kvs,rfl,g⟩
  ·cases g⟩
theorem Fz.app {T:Sto} (a:Fz S S'):Fz S (S'++T):=⟨by rw[ER];have:=a.1;omega,λn c e=>by
 rcases a.2 n c e with h|⟨kvs,rfl,h⟩
 ·exact .inl (by rw[Ex (Es.1 h).1];exact h)
 ·exact .inr ⟨kvs,rfl,by rw[Ex (Es.1 h).1];exact h⟩⟩
theorem Fz.set {n:Nat} {c:Ce} (a:Fz S S') (h:S.length<=n):Fz S (S'.set n c):=⟨by simpa using a.1,λm d e=>by
 have hm:=(Es.1 e).1
 rw[EV,if_neg ⋯]
 exact a.2 m d e⟩
theorem Fz.lst {n:Nat} {l:List Xv} (a:Fz S S') (e:S[n]? =some (.lst l)):S'[n]? =some (.lst l):=by
 rcases a.2 n _ e with h|⟨_,h,_⟩
 ·exact h
 ·cases h
theorem Fz.lstAt {l:List Xv} (a:Fz S S') (e:L2.zv S x=some l):L2.zv S' x=some l:=by
 cases x<;>simp only[L2.zv,reduceCtorEq] at e ⊢
 split at e<;>cases e
 ·rename_i h
  rw[a.lst h]
 ·rename_i h
  rcases a.2 _ _ h with g|⟨_,g,_⟩
  ·rw[g]
  ·cases g
theorem Fz.drAt {p:Nat×List (Key×Xv)} (a:Fz S S') (e:L2.wb S x=some p):L2.wb S' x=some p:=by
 cases x<;>simp only[L2.wb,reduceCtorEq] at e ⊢
 split at e<;>cases e
 ·rename_i h
  rcases a.2 _ _ h with g|⟨kvs,g,h2⟩
  ·rw[g]
  ·cases g;rw[h2]
 ·rename_i h
  rcases a.2 _ _ h with g|⟨_,g,_⟩
  ·rw[g]
  ·cases g
theorem Fz.freeze {n:Nat} {kvs:List (Key×Xv)} (h:L2.wb S x=some (n,kvs)):Fz S (S.set n (.fdk kvs)):=by
 refine⟨by simp,λm c e=> ?_⟩
 rw[EV]
 split
 ·rename_i hm
  subst hm
  rw[if_pos (Es.1 e).1]
  cases x<;>simp only[L2.wb,reduceCtorEq] at h
  split at h<;>cases h
  ·rename_i g
   rw[g] at e
   cases e
   exact .inr ⟨kvs,rfl,rfl⟩
  ·rename_i g
   rw[g] at e
   cases e
   exact .inl rfl
 ·exact .inl e
theorem yU {c:Ce}:(S++[c])[S.length]? =some c:=by simp
theorem Zl {n:Nat} {c c':Ce} (h:S[n]? =some c):(S.set n c')[n]? =some c':=by rw[EV,if_pos rfl,if_pos (Es.1 h).1]
theorem yV {n m:Nat} {c c':Ce} (h:S[m]? =some c) (q:n≠m):(S.set n c')[m]? =some c:=by rw[EV,if_neg q];exact h
theorem Zv {n:Nat} (h:n<=64):n<sizeLine:=FA h ∅
theorem zhT {n:Nat} (h:n<=999):n<sizeLine:=FA h ∅
theorem yf {α:Type} {l:List α} {i:Nat} {a:α} (h:l[i]? =some a):l.take (i+1)=l.take i++[a]:=by
 obtain⟨hi,e⟩:=Es.1 h
 rw[Hw hi,e]
theorem wm {α β:Type} {f:α->β} {l:List α} {i:Nat} {b:β} (h:(l.map f)[i]? =some b):∃a,l[i]? =some a/\b=f a:=by
 rw[EB] at h
 cases e:l[i]? with
 |none=>rw[e] at h;cases h
 |some a=>rw[e] at h;cases h;exact⟨a,rfl,rfl⟩
def LAt {α:Type} (R:Sto->Xv->α->Prop) (S:Sto) (x:Xv) (as:List α):Prop:=∃l,L2.zv S x=some l/\l.length=as.length/\∀(i:Nat) a,as[i]? =some a->∃z,l[i]? =some z/\R S z a
def Le (S S':Sto):Prop:=(∀x l,L2.zv S x=some l->L2.zv S' x=some l)/\∀x p,L2.wb S x=some p->L2.wb S' x=some p
theorem Fz.le (a:Fz S S'):Le S S':=⟨λ_ _=>a.lstAt,λ_ _=>a.drAt⟩
noncomputable def hid (S:Sto) (n:Nat):Sto:=S.set n (.dn [])
theorem zaM {n m:Nat}:(hid S n)[m]? =if n=m then (if n<S.length then some (.dn []) else none) else S[m]? :=by unfold hid;rw[EV]
theorem zcH {n:Nat}:L2.zv (hid S n) (.ref n)=none/\L2.wb (hid S n) (.ref n)=none:=by
 simp only[L2.zv,L2.wb]
 rw[zaM,if_pos rfl]
 by_cases h:n<S.length
 ·rw[if_pos h];exact⟨rfl,rfl⟩
 ·rw[if_neg h];exact⟨rfl,rfl⟩
theorem zjg {n:Nat} {c:Ce}:Le (hid S n) (S.set n c):=by
 constructor<;>intro x l h<;>cases x<;>simp only[L2.zv,L2.wb,reduceCtorEq] at h ⊢ <;>rename_i m<;>by_cases q:n=m
 ·subst q;have:=(zcH (S:=S) (n:=n)).1;simp only[L2.zv] at this;rw[this] at h;cases h
 ·rw[zaM,if_neg q] at h;rw[EV,if_neg q];exact h
 ·subst q;have:=(zcH (S:=S) (n:=n)).2;simp only[L2.wb] at this;rw[this] at h;cases h
 ·rw[zaM,if_neg q] at h;rw[EV,if_neg q];exact h
theorem Vr {n:Nat}:Le (hid S n) S:=by
 by_cases hn:n<S.length
 ·have:=zjg (S:=S) (n:=n) (c:=S[n])
  rwa [Hz] at this
 ·unfold hid
  rw[List.set_eq_of_length_le ⋯]
  exact Fz.refl.le
theorem Tz {n m:Nat} {l:List Xv} (h:L2.zv S (.ref m)=some l) (q:n≠m):L2.zv (hid S n) (.ref m)=some l:=by
 simp only[L2.zv] at h ⊢
 rw[zaM,if_neg q]
 exact h
theorem zlg {n m:Nat} {l:Nat×List (Key×Xv)} (h:L2.wb S (.ref m)=some l) (q:n≠m):L2.wb (hid S n) (.ref m)=some l:=by
 simp only[L2.wb] at h ⊢
 rw[zaM,if_neg q]
 exact h
theorem Fz.hid {n:Nat} (a:Fz S S'):Le (hid S n) (hid S' n):=by
 constructor<;>intro x l h
 ·have h2:=a.le.1 x l (Vr.1 x l h)
  obtain⟨m,rfl⟩:∃m,x= .ref m:=by cases x<;>first|exact⟨_,rfl⟩|(simp only[L2.zv,reduceCtorEq] at h)
  by_cases q:n=m
  ·subst q;rw[zcH.1] at h;cases h
  ·exact Tz h2 q
 ·have h2:=a.le.2 x l (Vr.2 x l h)
  obtain⟨m,rfl⟩:∃m,x= .ref m:=by cases x<;>first|exact⟨_,rfl⟩|(simp only[L2.wb,reduceCtorEq] at h)
  by_cases q:n=m
  ·subst q;rw[zcH.2] at h;cases h
  ·exact zlg h2 q
theorem LAt.mono {α:Type} {R:Sto->Xv->α->Prop} {as:List α} (hR:∀z a,R S z a->R S' z a) (p:Le S S') (h:LAt R S x as):LAt R S' x as:=by
 obtain⟨l,e,el,k⟩:=h
 exact⟨l,p.1 _ _ e,el,λi a ha=>by obtain⟨z,e1,e2⟩:=k i a ha;exact⟨z,e1,hR z a e2⟩⟩
theorem Wr {α β:Type} {R:β->α->Prop}:∀(l:List β),(∀z∈l,∃a,R z a)->∃as:List α,l.length=as.length/\(∀(i:Nat) a,as[i]? =some a->∃z,l[i]? =some z/\R z a)/\∀a∈as,∃z∈l,R z a
 |[],_=>⟨[],rfl,by simp,by simp⟩
 |z::r,h=>by
  obtain⟨a,ha⟩:=h z (by simp)
  obtain⟨as,e,k,m⟩:=Wr r λy hy=>h y (by simp[hy])
  refine⟨a::as,by simp[e],λi b hb=> ?_,λb hb=> ?_⟩
  ·cases i with
   |zero=>simp at hb;subst hb;exact⟨z,rfl,ha⟩
   |succ i=>exact k i b (by simpa using hb)
  ·rcases EJ.1 hb with rfl|hb
   ·exact⟨z,by simp,ha⟩
   ·obtain⟨y,hy,q⟩:=m b hb
    exact⟨y,by simp[hy],q⟩
def Zw {α:Type} (R:Sto->Xv->α->Prop) (S:Sto) (n:Nat) (l:List Xv) (as:List α):Prop:=S[n]? =some (.lst l)/\l.length=as.length/\∀(i:Nat) a,as[i]? =some a->∃z,l[i]? =some z/\R (hid S n) z a
section
variable {α:Type} {R:Sto->Xv->α->Prop} {n:Nat} {l:List Xv} {as:List α}
theorem Zw.nil:Zw R (S++[.lst []]) S.length [] ([]:List α):=⟨yU,rfl,λi a e=>by simp at e⟩
theorem Zw.mono (hR:∀{S S':Sto} {z:Xv} {a:α},Le S S'->R S z a->R S' z a) (p:Fz S S') (h:Zw R S n l as):Zw R S' n l as:=⟨p.lst h.1,h.2.1,λi a ha=>by
 obtain⟨z,e1,e2⟩:=h.2.2 i a ha
 exact⟨z,e1,hR p.hid e2⟩⟩
theorem zjh {c:Ce}:hid (S.set n c) n=hid S n:=by unfold hid;rw[Jf]
theorem Zw.push {z:Xv} {a:α} (h:Zw R S n l as) (hz:R (hid S n) z a):Zw R (S.set n (.lst (l++[z]))) n (l++[z]) (as++[a]):=by
 refine⟨Zl h.1,by simp[h.2.1],λi b hb=> ?_⟩
 rw[zjh]
 by_cases hi:i<as.length
 ·rw[Ex hi] at hb
  obtain⟨y,e1,e2⟩:=h.2.2 i b hb
  exact⟨y,by rw[Ex (by rw[h.2.1];exact hi)];exact e1,e2⟩
 ·rw[EL ⋯] at hb
  have:i-as.length=0:=by
   have:=(Es.1 hb).1
   simpa using this
  rw[this] at hb
  cases hb
  exact⟨z,by rw[EL (by rw[h.2.1];omega),h.2.1,this];rfl,hz⟩
theorem Zw.at (hR:∀{S S':Sto} {z:Xv} {a:α},Le S S'->R S z a->R S' z a) (h:Zw R S n l as):LAt R S (.ref n) as:=⟨l,zp h.1,h.2.1,λi a ha=>by
 obtain⟨z,e1,e2⟩:=h.2.2 i a ha
 exact⟨z,e1,hR Vr e2⟩⟩
end
noncomputable def Zx (S:Sto) (k:Nat):Sto:=S.mapIdx λi c=>if i<k then .dn [] else c
theorem Yt {k m:Nat}:(Zx S k)[m]? =if m<k then S[m]?.map (λ_=>Ce.dn []) else S[m]? :=by
 unfold Zx
 rw[J4]
 split
 ·rfl
 ·simp
theorem Zy {k m:Nat} {l:List Xv} (h:L2.zv S (.ref m)=some l) (q:k<=m):L2.zv (Zx S k) (.ref m)=some l:=by
 simp only[L2.zv] at h ⊢
 rw[Yt,if_neg ⋯]
 exact h
theorem TB {k:Nat} (h:∀m c,k<=m->S[m]? =some c->S'[m]? =some c\/∃kvs,c= .dk kvs/\S'[m]? =some (.fdk kvs)):Le (Zx S k) S':=by
 constructor<;>intro x l e<;>cases x<;>simp only[L2.zv,L2.wb,reduceCtorEq] at e ⊢ <;>rename_i m<;>rw[Yt] at e
 ·by_cases q:m<k
  ·rw[if_pos q] at e
   cases hs:S[m]? <;>rw[hs] at e<;>cases e
  ·rw[if_neg q] at e
   cases hs:S[m]? with
   |none=>rw[hs] at e;cases e
   |some c=>
    rw[hs] at e
    rcases h m c ⋯ hs with z|⟨kvs,rfl,z⟩
    ·rw[z];exact e
    ·cases e
 ·by_cases q:m<k
  ·rw[if_pos q] at e
   cases hs:S[m]? <;>rw[hs] at e<;>cases e
  ·rw[if_neg q] at e
   cases hs:S[m]? with
   |none=>rw[hs] at e;cases e
   |some c=>
    rw[hs] at e
    rcases h m c ⋯ hs with z|⟨kvs,rfl,z⟩
    ·rw[z];exact e
    ·rw[z];exact e
theorem vT {k:Nat}:Le (Zx S k) S:=TB λ_ _ _ e=> .inl e
theorem vf {j k:Nat} (a:Fz S S') (q:j<=k):Le (Zx S k) (Zx S' j):=TB λm c h e=>by
 rcases a.2 m c e with z|⟨kvs,rfl,z⟩
 ·exact .inl (by rw[Yt,if_neg ⋯];exact z)
 ·exact .inr ⟨kvs,rfl,by rw[Yt,if_neg ⋯];exact z⟩
def Zz {α:Type} (R:Sto->Xv->α->Prop) (S:Sto) (n:Nat) (l:List Xv) (as:List α):Prop:=S[n]? =some (.lst l)/\l.length=as.length/\∀(i:Nat) a,as[i]? =some a->∃z,l[i]? =some z/\R (Zx S (n+1)) z a
section
variable {α:Type} {R:Sto->Xv->α->Prop} {n:Nat} {l:List Xv} {as:List α}
theorem Zz.nil:Zz R (S++[.lst []]) S.length [] ([]:List α):=⟨yU,rfl,λi a e=>by simp at e⟩
theorem Zz.mono (hR:∀{S S':Sto} {z:Xv} {a:α},Le S S'->R S z a->R S' z a) (p:Fz S S') (h:Zz R S n l as):Zz R S' n l as:=⟨p.lst h.1,h.2.1,λi a ha=>by
 obtain⟨z,e1,e2⟩:=h.2.2 i a ha
 exact⟨z,e1,hR (vf p (EE _)) e2⟩⟩
theorem zhU {c:Ce}:Zx (S.set n c) (n+1)=Zx S (n+1):=by
 refine Gr λm=> ?_
 rw[Yt,Yt]
 by_cases q:m<n+1
 ·rw[if_pos q,if_pos q,EV]
  split
  ·rename_i e
   subst e
   by_cases hl:n<S.length
   ·rw[if_pos hl,Er hl];rfl
   ·rw[if_neg hl,Fe ⋯]
  ·rfl
 ·rw[if_neg q,if_neg q,EV,if_neg ⋯]
theorem Zz.push {z:Xv} {a:α} (h:Zz R S n l as) (hz:R (Zx S (n+1)) z a):Zz R (S.set n (.lst (l++[z]))) n (l++[z]) (as++[a]):=by
 refine⟨Zl h.1,by simp[h.2.1],λi b hb=> ?_⟩
 rw[zhU]
 by_cases hi:i<as.length
 ·rw[Ex hi] at hb
  obtain⟨y,e1,e2⟩:=h.2.2 i b hb
  exact⟨y,by rw[Ex (by rw[h.2.1];exact hi)];exact e1,e2⟩
 ·rw[EL ⋯] at hb
  have:i-as.length=0:=by
   have:=(Es.1 hb).1
   simpa using this
  rw[this] at hb
  cases hb
  exact⟨z,by rw[EL (by rw[h.2.1];omega),h.2.1,this];rfl,hz⟩
theorem Zz.at {k:Nat} (hR:∀{S S':Sto} {z:Xv} {a:α},Le S S'->R S z a->R S' z a) (hk:k<=n) (h:Zz R S n l as):LAt R (Zx S k) (.ref n) as:=⟨l,Zy (zp h.1) hk,h.2.1,λi a ha=>by
 obtain⟨z,e1,e2⟩:=h.2.2 i a ha
 exact⟨z,e1,hR (vf Fz.refl ⋯) e2⟩⟩
end
end
section
variable {fu:Nat} {S:Sto} {xs:Xv} {ns:List Int}
noncomputable def xD (ns:List Int) (k:Nat):Int:=ns.getD k 0
noncomputable def vg (n p q:Int):Int:=n % 1000003*48271 % p % q
theorem ZS {k:Int} (h0:0<=k) (hs:zv S xs=some (ns.map Xv.int)):W (zH fu [xs,.int k] S) λv S'=>v= .int (xD ns k.toNat)/\S=S':=by
 walk_at "wr";unfold ZH;nofun
 refine xR ?_
 nofun
 refine YB hs ?_
 nofun
 refine Zk (λh=> ?_) (λh=> ?_)
 ·nofun
  rw[Eu] at h
  have hk:k.toNat<ns.length:=by omega
  refine yB hs (wk h0 (by rw[EB,Er hk];rfl)) ?_
  exact⟨by unfold xD;simp[Ew,hk],rfl⟩
 ·refine Tp ?_
  refine Xq (zkM ?_)
  rw[Eu] at h
  have hk:¬k.toNat<ns.length:=by omega
  exact⟨by unfold xD;rw[Ew,Fe ⋯];rfl,rfl⟩
theorem vh {n p q:Int} (hp:0<p) (hq:0<q):W (zA fu [.int n,.int p,.int q] S) λv S'=>v= .int (vg n p q)/\S=S':=by
 walk_at "wr";unfold YF;nofun
 refine Xr ∅ ?_
 nofun
 refine Xr hp ?_
 nofun
 refine Xr hq ?_
 exact⟨rfl,rfl⟩
noncomputable def wf (ns:List Int) (c p:Int):Int:=if vg (xD ns 1) 40009 2=1 then c-1-(p+vg (xD ns 1) 30011 c) % c else (p+vg (xD ns 1) 30011 c) % c
theorem Xh {c p:Int} (hc:0<c):0<=wf ns c p/\wf ns c p<c:=by
 have h0:=Gn (p+vg (xD ns 1) 30011 c) (b:=c) ⋯
 have h1:=Gx (p+vg (xD ns 1) 30011 c) hc
 unfold wf
 split<;>omega
theorem zdR {c p q:Int} (hc:0<c) (hp:0<=p) (jE:p<c) (hq:0<=q) (E9:q<c) (h:wf ns c p=wf ns c q):p=q:=by
 have e:(p+vg (xD ns 1) 30011 c) % c=(q+vg (xD ns 1) 30011 c) % c:=by
  unfold wf at h
  split at h<;>omega
 have e2:(p+vg (xD ns 1) 30011 c-(q+vg (xD ns 1) 30011 c)) % c=0:=Int.emod_eq_emod_iff_emod_sub_eq_zero.1 e
 have e3:(p-q) % c=0:=by
  rw[show p+vg (xD ns 1) 30011 c-(q+vg (xD ns 1) 30011 c)=p-q by omega] at e2
  exact e2
 obtain⟨k,hk⟩:=Int.dvd_of_emod_eq_zero e3
 rcases Jl k 0 with h1|h1|h1
 ·have:c*k<=c*(-1):=Gs ⋯ ⋯
  omega
 ·subst h1;omega
 ·have:c*1<=c*k:=Gs ⋯ ⋯
  omega
theorem zcI {c p:Int} (hc:0<c) (hs:zv S xs=some (ns.map Xv.int)):W (vQ fu [xs,.int c,.int p] S) λv S'=>v= .int (wf ns c p)/\S=S':=by
 walk_at "wr";unfold Xy;nofun
 refine (ZS ∅ hs).imp ?_
 rintro _ _ ⟨rfl,rfl⟩
 nofun
 refine (vh ∅ hc).imp ?_
 rintro _ _ ⟨rfl,rfl⟩
 nofun
 refine Xr hc ?_
 nofun
 refine xR ?_
 nofun
 refine (ZS ∅ hs).imp ?_
 rintro _ _ ⟨rfl,rfl⟩
 nofun
 refine (vh ∅ ∅).imp ?_
 rintro _ _ ⟨rfl,rfl⟩
 nofun
 refine Zk (λh=> ?_) (λh=> ?_)
 ·have h:vg (xD ns 1) 40009 2=1:=h
  refine Xq (US (US (vx rfl (zkM (zeo (vx rfl (zeo ?_)))))))
  exact⟨by unfold wf;rw[if_pos h];rfl,rfl⟩
 ·have h:¬vg (xD ns 1) 40009 2=1:=h
  refine Tp (Xq (vx rfl ?_))
  exact⟨by unfold wf;rw[if_neg h];rfl,rfl⟩
end
section
variable {fu:Nat} {S S':Sto} {xs:Xv} {ns:List Int} {dd:Int}
abbrev Q2:=Int×Int
noncomputable def qv (q:Q2):Xv:= .tup [.int q.1,.int q.2]
noncomputable def Tj (t b:Int):Q2:=(t / (FV t b:Int),b / (FV t b:Int))
noncomputable def zcJ (a b:Q2):Q2:=Tj (a.1*b.2+b.1*a.2) (a.2*b.2)
structure QOk (dd c:Int) (q:Q2):Prop where
 pos:0<q.2
 dvd:q.2∣dd
 le:(q.1.natAbs:Int)<=c*q.2
 low:FV q.1 q.2=1
theorem QOk.bD {c:Int} {q:Q2} (hd:0<dd) (h:QOk dd c q):q.2<=dd:=Int.le_of_dvd hd h.dvd
theorem QOk.mono {c d:Int} {q:Q2} (h:QOk dd c q) (hd:c<=d):QOk dd d q:=⟨h.pos,h.dvd,Ip h.le (G0 hd (Int.le_of_lt h.pos)),h.low⟩
theorem QOk.nil:QOk dd 0 (0,1):=⟨∅,Int.one_dvd _,∅,∅⟩
theorem zhV {c t b:Int} (hb:0<b) (hd:b∣dd*t) (hle:(t.natAbs:Int)<=c*b):QOk dd c (Tj t b):=by
 have g0:0<FV t b:=HK _ ⋯
 have gt:(FV t b:Int)∣t:=JA ..
 have gb:(FV t b:Int)∣b:=Jm ..
 obtain⟨t',et⟩:=gt
 obtain⟨b',eb⟩:=gb
 have gz:((FV t b:Int))≠0:=by omega
 have gp:(0:Int)<(FV t b:Int):=by omega
 unfold Tj
 have co:FV t' b'=1:=by
  have h1:FV t b=FV t b*FV t' b':=by
   have:=Int.gcd_mul_left (FV t b:Int) t' b'
   rw[<-et,<-eb] at this
   simpa using this
  exact Nat.eq_of_mul_eq_mul_left g0 (by rw[Nat.mul_one];exact h1.symm)
 have dt:t / (FV t b:Int)=t':=Gy gz et
 have db:b / (FV t b:Int)=b':=Gy gz eb
 rw[dt,db]
 generalize (FV t b:Int)=g at*
 have jr:0<b':=by
  rcases Jl b' 0 with h|h|h
  ·have:=Int.mul_neg_of_pos_of_neg gp h;omega
  ·subst h;simp at eb;omega
  ·exact h
 refine⟨jr,?_,?_,co⟩
 ·rw[et,eb] at hd
  have hd:b'∣dd*t':=by
   have:g*b'∣g*(dd*t'):=by rw[show g*(dd*t')=dd*(g*t') by rw[<-FG,<-FG,Gq g dd]];exact hd
   exact Int.dvd_of_mul_dvd_mul_left gz this
  have hn:b'.natAbs∣dd.natAbs*t'.natAbs:=by
   have:=IZ.2 hd
   rwa [Hn] at this
  have hc:Nat.Coprime b'.natAbs t'.natAbs:=by
   show Gw _ _=1
   rw[HF]
   exact co
  exact IZ.1 (hc.dvd_of_dvd_mul_right hn)
 ·show (t'.natAbs:Int)<=c*b'
  rw[et,eb,Hn] at hle
  have hg:((g.natAbs:Nat):Int)=g:=GJ ⋯
  rw[II,hg,show c*(g*b')=g*(c*b') by rw[<-FG,Gq c g,FG]] at hle
  exact Int.le_of_mul_le_mul_left hle gp
theorem zlh {c d:Int} {a b:Q2} (ha:QOk dd c a) (hb:QOk dd d b):QOk dd (c+d) (zcJ a b):=by
 have h1:=ha.pos
 have h2:=hb.pos
 refine zhV (Hd h1 h2) ?_ ?_
 ·obtain⟨u,hu⟩:=ha.dvd
  obtain⟨v,hv⟩:=hb.dvd
  refine⟨a.1*u+b.1*v,?_⟩
  have e1:(dd:Int)*(a.1*b.2+b.1*a.2)=a.1*b.2*dd+b.1*a.2*dd:=by rw[Jq,Gq dd,Gq dd (b.1*a.2)]
  rw[e1]
  conv=>lhs;rw[show a.1*b.2*dd=a.1*b.2*(a.2*u) by rw[<-hu],show b.1*a.2*dd=b.1*a.2*(b.2*v) by rw[<-hv]]
  rw[Jq]
  congr 1
  ·rw[Gq a.1 b.2,FG,Gq a.2 b.2,FG];congr 1;rw[<-FG,<-FG,Gq a.1 a.2]
  ·rw[Gq b.1 a.2,FG,FG];congr 1;rw[<-FG,<-FG,Gq b.1 b.2]
 ·have l1:((a.1*b.2).natAbs:Int)<=c*(a.2*b.2):=by
   rw[Hn,II,show ((b.2.natAbs:Nat):Int)=b.2 from GJ ⋯,<-FG]
   exact G0 ha.le ⋯
  have l2:((b.1*a.2).natAbs:Int)<=d*(a.2*b.2):=by
   rw[Hn,II,show ((a.2.natAbs:Nat):Int)=a.2 from GJ ⋯,Gq a.2 b.2,<-FG]
   exact G0 hb.le ⋯
  have:=Int.natAbs_add_le (a.1*b.2) (b.1*a.2)
  rw[Int.add_mul]
  omega
end
section
variable {fu:Nat} {S S':Sto} {dd:Int}
noncomputable def val (x:Q2):Rat:=(x.1:Rat) / (x.2:Rat)
theorem VY {b:Int} (h:b≠0):(b:Rat)≠0:=λz=>h (by exact_mod_cast z)
theorem zft {t b:Int} (hb:0<b):val (Tj t b)=(t:Rat) / (b:Rat):=by
 have g0:0<FV t b:=HK _ ⋯
 obtain⟨t',et⟩:(FV t b:Int)∣t:=JA ..
 obtain⟨b',eb⟩:(FV t b:Int)∣b:=Jm ..
 have gz:((FV t b:Int))≠0:=by omega
 have dt:t / (FV t b:Int)=t':=Gy gz et
 have db:b / (FV t b:Int)=b':=Gy gz eb
 unfold val Tj
 dsimp only
 rw[dt,db]
 generalize (FV t b:Int)=g at*
 have jr:b'≠0:=λz=>by subst z;simp at eb;omega
 rw[et,eb,Hf,Hf]
 have h1:=VY gz
 have h2:=VY jr
 rw[Ht,Ht,Rat.inv_mul_rev]
 have:(g:Rat)*(t':Rat)*((b':Rat)⁻¹*(g:Rat)⁻¹)=(t':Rat)*(b':Rat)⁻¹*((g:Rat)*(g:Rat)⁻¹):=by grind
 rw[this,Jg _ h1,Rat.mul_one]
theorem zji {a b:Q2} (ha:0<a.2) (hb:0<b.2):val (zcJ a b)=val a+val b:=by
 unfold zcJ
 rw[zft (Hd ha hb)]
 unfold val
 have h1:=VY (b:=a.2) ⋯
 have h2:=VY (b:=b.2) ⋯
 rw[Rat.intCast_add,Hf,Hf,Hf]
 grind
end
section
variable {fu:Nat} {S S':Sto} {dd:Int} {x y:Xv}
theorem zhW {P:Xv->Sto->Prop} {p:Int} (k:P (.int (p.natAbs:Int)) S):WO (zgY [.int p] S) P:= .of (show zgY [.int p] S=some (.int (if p<0 then -p else p),S) from rfl) (by
 rw[show (if p<0 then -p else p)=(p.natAbs:Int) by split<;>omega]
 exact k)
theorem zgh:∀(n:Nat) (one other:Nat) (a2:Option Xv),other<n->
  WS (Th (bE (eOp zaf (ze 1) (eC (.int 0)))) (zI (yk (eOp Xp (ze 0) (ze 1)) (gN 2)) (zI (yk (ze 1) (gN 0)) (yk (ze 2) (gN 1)))) n [some (.int one),some (.int other),a2] S) (λρ S'=>∃a2,ρ=[some (.int (Gw one other:Nat)),some (.int 0),a2]/\S=S') (λ_ _=>False):=by
 intro n
 induction n with
 |zero=>intro one other a2 h;omega
 |succ n ih=>
  intro one other a2 h
  refine zcn ?_
  nofun
  rw[show (!decide ((other:Int)=0))=decide (¬(other:Int)=0) by simp]
  refine Zk (λh=> ?_) (λh=> ?_)
  ·have h0:0<other:=by omega
   nofun
   refine Xr ⋯ ?_
   nofun
   have:=ih other (one % other) (some (.int ((one % other:Nat):Int))) (by have:=Ih one h0;omega)
   rw[show Gw other (one % other)=Gw one other by rw[HF other,<-Nat.gcd_rec,HF]] at this
   rw[JB] at this
   exact this
  ·have:other=0:=by omega
   subst this
   exact⟨a2,by simp,rfl⟩
def wA (n:Nat) (p:Int):Prop:=p.natAbs<2^n
theorem wA.mono {n m:Nat} {p:Int} (h:wA n p) (hn:n<=m):wA m p:=F6 h (GH ∅ hn)
theorem wA.le {n:Nat} {p:Int} (h:wA n p):intBits p<=n:=GX.mpr h
theorem wA.mul {n m:Nat} {p q:Int} (h:wA n p) (g:wA m q):wA (n+m) (p*q):=by
 unfold wA at*
 rw[Hn,Nat.pow_add]
 rcases Nat.eq_zero_or_pos q.natAbs with z|z
 ·rw[z,Nat.mul_zero];exact Nat.mul_pos (Jr ∅) (Jr ∅)
 ·exact Nat.mul_lt_mul_of_lt_of_le h (Fc g) (Jr ∅)
theorem wA.fuel {n:Nat} {p:Int} (hb:Big fu) (h:wA n p) (hn:n<=9000):p.natAbs<fu:=F6 (h.mono hn) hb
theorem zdS {n:Nat} {t b:Int} (h0:0<b) (hb:wA n b) (hn:n<=9000):((Gw t.natAbs b.natAbs:Nat):Int)≠0/\intBits ((Gw t.natAbs b.natAbs:Nat):Int)<=9000:=by
 have g0:0<Gw t.natAbs b.natAbs:=Iq _ ⋯
 have gl:Gw t.natAbs b.natAbs<=b.natAbs:=Nat.gcd_le_right _ ⋯
 refine⟨⋯,EW (wA.le (n:=n) ?_) hn⟩
 unfold wA
 rw[Int.natAbs_natCast]
 exact FA gl hb
theorem zdT {t b:Int}:qv (Tj t b)= .tup [.int (t.fdiv ((Gw t.natAbs b.natAbs:Nat):Int)),.int (b.fdiv ((Gw t.natAbs b.natAbs:Nat):Int))]:=by
 rw[HW _ ⋯,HW _ ⋯]
 rfl
theorem zhX (bB:Big fu) {t b:Int} (h0:0<b) (hb:wA 9000 b):W (UB fu [.int t,.int b] S) λv S'=>v=qv (Tj t b)/\S=S':=by
 have gb:=zdS (t:=t) h0 hb (EE _)
 walk_at "wr";unfold UA
 nofun
 refine W.imp (P:=λv S'=>v= .int (Gw t.natAbs b.natAbs:Nat)/\S=S') ?_ ?_
 ·walk_at "wr";unfold Yg;nofun
  refine zhW ?_
  nofun
  refine zhW ?_
  nofun
  refine zg6 ?_
  rcases zgh (S:=S) fu t.natAbs b.natAbs none (wA.fuel bB hb (EE _)) with⟨ρ,S',e,a2,rfl,rfl⟩|⟨_,_,_,z⟩
  ·refine .nx e ?_
   nofun
   exact⟨rfl,rfl⟩
  ·exact z.elim
 rintro _ _ ⟨rfl,rfl⟩
 nofun
 refine xR ?_
 nofun
 refine Zk (λh=>absurd h ⋯) (λ_=>Tp ?_)
 nofun
 refine VN gb ?_
 nofun
 refine VN gb ?_
 nofun
 exact⟨zdT.symm,rfl⟩
def QX (x:Xv) (q:Q2):Prop:=x.tupOf=some [.int q.1,.int q.2]
theorem QX.qv (q:Q2):QX (qv q) q:=rfl
theorem QOk.bits {c:Int} {q:Q2} (h:QOk dd c q) (hd:0<dd) (gR:wA 4000 dd) (h0:0<=c) (hc:c<1048576):wA 4020 q.1/\wA 4000 q.2:=by
 have h1:=h.bD hd
 have h2:=h.pos
 have hb:wA 4000 q.2:=FA (show q.2.natAbs<=dd.natAbs by omega) gR
 refine⟨?_,hb⟩
 have Cw:wA 20 c:=by
  unfold wA
  have:(2:Nat)^20=1048576:=by decide
  omega
 have:=Cw.mul hb
 refine FA ?_ (this.mono ∅)
 have h3:=h.le
 have h4:0<=c*q.2:=Ho h0 ⋯
 omega
end
section
variable {fu:Nat} {S S':Sto} {dd:Int} {x y:Xv}
theorem zli (bB:Big fu) {a b:Q2} {c e:Int} (hx:QX x a) (hy:QX y b) (oa:QOk dd c a) (ob:QOk dd e b) (hd:0<dd) (gR:wA 4000 dd) (c0:0<=c/\c<1048576) (e0:0<=e/\e<1048576):W (zcD fu [x,y] S) λv S'=>v=qv (zcJ a b)/\S=S':=by
 obtain⟨a1,a2⟩:=oa.bits hd gR c0.1 c0.2
 obtain⟨b1,b2⟩:=ob.bits hd gR e0.1 e0.2
 have l1:=a1.le
 have l2:=a2.le
 have l3:=b1.le
 have l4:=b2.le
 walk_at "wr";unfold zcC
 nofun
 refine vy hx zbL ?_
 nofun
 refine vy hy WR ?_
 refine vn ⋯ ?_
 nofun
 refine vy hy zbL ?_
 nofun
 refine vy hx WR ?_
 refine vn ⋯ ?_
 nofun
 refine vy hx WR ?_
 nofun
 refine vy hy WR ?_
 refine vn ⋯ ?_
 nofun
 exact zhX bB (Hd oa.pos ob.pos) ((a2.mul b2).mono ∅)
end
section
variable {fu:Nat} {S S':Sto} {x y:Xv} {ns:List Int}
theorem zgi:∀(n:Nat) (t b:Xv) (one other:Nat),other<n->
  WS (Th (bE (eOp dGt (ze 3) (eC (.int 0)))) (ziP 2 3 [(ze 3),(eOp Xp (ze 2) (ze 3))]) n [some t,some b,some (.int one),some (.int other)] S) (λρ S'=>ρ=[some t,some b,some (.int (Gw one other:Nat)),some (.int 0)]/\S=S') (λ_ _=>False):=by
 intro n
 induction n with
 |zero=>intro t b one other h;omega
 |succ n ih=>
  intro t b one other h
  refine zcn ?_
  nofun
  refine Zk (λh=> ?_) (λh=> ?_)
  ·have h0:0<other:=by omega
   nofun
   refine Xr ⋯ ?_
   nofun
   refine Je _ (Je _ (And.intro rfl ?_))
   dsimp only[F7]
   have:=ih t b other (one % other) (by have:=Ih one h0;omega)
   rw[show Gw other (one % other)=Gw one other by rw[HF other,<-Nat.gcd_rec,HF]] at this
   rw[JB] at this
   exact this
  ·have:other=0:=by omega
   subst this
   exact⟨by simp,rfl⟩
theorem zcK (bB:Big fu) {t b:Int} (h0:0<=t) (h1:0<b) (hb:wA 9000 b):W (xP fu [.int t,.int b] S) λv S'=>v=qv (Tj t b)/\S=S':=by
 have gb:=zdS (t:=t) h1 hb (EE _)
 walk_at "wr";unfold Zi;nofun
 refine zg6 ?_
 rcases zgi (S:=S) fu (.int t) (.int b) t.natAbs b.natAbs (wA.fuel bB hb (EE _)) with⟨ρ,S',e,rfl,rfl⟩|⟨_,_,_,z⟩
 rotate_left
 ·exact z.elim
 rw[GJ h0,GJ ⋯] at e
 refine .nx e ?_
 nofun
 refine VN gb ?_
 nofun
 refine VN gb ?_
 nofun
 exact⟨zdT.symm,rfl⟩
theorem zfu {p:Int} {n:Nat} (m:Nat) (h0:0<=p) (h:p<m) (hm:m<=2^n):wA n p:=by
 unfold wA
 omega
theorem zhY {t b:Int} (h:0<b):0<(Tj t b).2:=by
 have g0:0<Gw t.natAbs b.natAbs:=Iq _ ⋯
 have hd:((Gw t.natAbs b.natAbs:Nat):Int)∣b:=Int.ofNat_dvd_left.2 (Nat.gcd_dvd_right _ _)
 exact Int.ediv_pos_of_pos_of_dvd h ⋯ hd
theorem zjj (bB:Big fu) {c:Int}:W (Xx fu [.int c] S) λv S'=>(∃q,0<q.2/\v=qv q)/\S=S':=by
 walk_at "wr";unfold Xw;nofun
 refine xR ?_
 nofun
 refine (vh ∅ ∅).imp ?_
 rintro _ _ ⟨rfl,rfl⟩
 nofun
 refine Zk (λh=> ?_) (λh=> ?_)
 ·nofun
  exact⟨⟨(0,1),∅,rfl⟩,rfl⟩
 ·nofun
  refine Xr ∅ ?_
  nofun
  refine (vh ∅ ∅).imp ?_
  rintro _ _ ⟨rfl,rfl⟩
  nofun
  have h1:=Gn (c % 1000003*48271 % 10007) (b:=4) ∅
  have h2:=Gx (c % 1000003*48271 % 10007) (b:=4) ∅
  refine (zcK bB (Gn _ ∅) (by unfold vg;omega) (zfu 8 (by unfold vg;omega) (by unfold vg;omega) (EW (show 8<=2^4 by decide) (GH ∅ ∅)))).imp ?_
  rintro _ _ ⟨rfl,rfl⟩
  exact⟨⟨_,zhY (by unfold vg;omega),rfl⟩,rfl⟩
theorem ZT {n p q:Int} (h:0<q):0<=vg n p q/\vg n p q<q:=⟨Gn _ ⋯,Gx _ h⟩
theorem zfv {p:Int} (h: -1000000<p/\p<1000000):intBits p<=20:=by
 refine GX.mpr ?_
 have:(2:Nat)^20=1048576:=by decide
 omega
theorem VZ {p q:Int} (h: -1000000<p/\p<1000000) (g: -1000000<q/\q<1000000):intBits p+intBits q<=134217728:=by
 have:=zfv h
 have:=zfv g
 omega
def IsQ (x:Xv):Prop:=∃q:Q2,0<q.2/\x=qv q
end
section
variable {fu:Nat} {S:Sto} {xs:Xv} {ns:List Int}
inductive Kd where
 |fix (l:List Xv)|frz (l:List Xv)|nod|par|wts|chs|pts
def XD (kvs:List (Key×Xv)) (m:Int):Prop:=(kvs.map (·.1)).Nodup/\∀p∈kvs,∃i:Int,p.1= .inl i/\0<=i/\i<m
def COk (c h m:Int) (τ:List Kd):Kd->Ce->Prop
 | .fix l,.lst xs=>xs=l
 | .frz l,.frz xs=>xs=l
 | .nod,.dk kvs=>XD kvs h/\∀p∈kvs,∃n,p.2= .ref n/\τ[n]? =some .par
 | .par,.lst xs=>∃g n,xs=[g,.ref n]/\IsQ g/\τ[n]? =some .wts
 | .wts,.dk kvs=>XD kvs c/\∀p∈kvs,∃w:Int,p.2= .int w/\0<w/\w<=m
 | .chs,.lst xs=>∀x∈xs,∃g n,x= .tup [g,.ref n]/\IsQ g/\τ[n]? =some .pts
 | .pts,.lst xs=>xs.length<=60/\∀x∈xs,∃(i:Int) (q:Xv),x= .tup [.int i,q]/\0<=i/\i<c/\IsQ q
 |_,_=>False
def Ty (c h m:Int) (τ:List Kd) (S:Sto):Prop:=τ.length=S.length/\∀(n:Nat) kd cell,τ[n]? =some kd->S[n]? =some cell->COk c h m τ kd cell
theorem ZI {τ τ':List Kd} {n:Nat} {k:Kd} (h:τ<+:τ') (e:τ[n]? =some k):τ'[n]? =some k:=by
 obtain⟨r,rfl⟩:=h
 rw[Ex (Es.1 e).1]
 exact e
theorem COk.mono {c h m m':Int} {τ τ':List Kd} (hp:τ<+:τ') (hm:m<=m'):∀{kd:Kd} {cell:Ce},COk c h m τ kd cell->COk c h m' τ' kd cell
 | .fix _,.lst _,e=>e
 | .frz _,.frz _,e=>e
 | .nod,.dk _,⟨a,b⟩=>⟨a,λp jF=>by obtain⟨n,e1,e2⟩:=b p jF;exact⟨n,e1,ZI hp e2⟩⟩
 | .par,.lst _,⟨g,n,e1,e2,e3⟩=>⟨g,n,e1,e2,ZI hp e3⟩
 | .wts,.dk _,⟨a,b⟩=>⟨a,λp jF=>by obtain⟨w,e1,e2,e3⟩:=b p jF;exact⟨w,e1,e2,⋯⟩⟩
 | .chs,.lst _,b=>λx hx=>by obtain⟨g,n,e1,e2,e3⟩:=b x hx;exact⟨g,n,e1,e2,ZI hp e3⟩
 | .pts,.lst _,b=>b
section
variable {c h m:Int} {τ τ':List Kd} {n:Nat} {kd:Kd} {cell:Ce}
theorem Ty.le {m':Int} (T:Ty c h m τ S) (hm:m<=m'):Ty c h m' τ S:=⟨T.1,λn kd cell e1 e2=>(T.2 n kd cell e1 e2).mono (FY _) hm⟩
theorem Ty.app (T:Ty c h m τ S) (hc:COk c h m (τ++[kd]) kd cell):Ty c h m (τ++[kd]) (S++[cell]):=by
 refine⟨by simp[T.1],λn k ce e1 e2=> ?_⟩
 by_cases hn:n<τ.length
 ·rw[Ex hn] at e1
  rw[Ex (by rw[<-T.1];exact hn)] at e2
  exact (T.2 n k ce e1 e2).mono (HR _ _) (IP _)
 ·rw[EL ⋯] at e1
  rw[EL (by rw[<-T.1];omega)] at e2
  have:n-τ.length=0:=by
   have:=(Es.1 e1).1
   simpa using this
  rw[<-T.1,this] at e2
  rw[this] at e1
  simp at e1 e2
  subst e1 e2
  exact hc
theorem Ty.set (T:Ty c h m τ S) (e:τ[n]? =some kd) (hc:COk c h m τ kd cell):Ty c h m τ (S.set n cell):=by
 refine⟨by simp[T.1],λk kd' ce e1 e2=> ?_⟩
 rw[EV] at e2
 split at e2
 ·rename_i q
  subst q
  split at e2
  ·cases e2
   rw[e] at e1
   cases e1
   exact hc
  ·cases e2
 ·exact T.2 k kd' ce e1 e2
theorem Ty.at_ (T:Ty c h m τ S) (e:τ[n]? =some kd):∃cell,S[n]? =some cell/\COk c h m τ kd cell:=by
 have hn:n<S.length:=by rw[<-T.1];exact (Es.1 e).1
 exact⟨S[n],Er hn,T.2 n kd _ e (Er hn)⟩
theorem Ty.fix {l:List Xv} (T:Ty c h m τ S) (e:τ[n]? =some (.fix l)):S[n]? =some (.lst l):=by
 obtain⟨cell,e1,e2⟩:=T.at_ e
 cases cell<;>first|(cases e2;exact e1)|cases e2
theorem Ty.frz {l:List Xv} (T:Ty c h m τ S) (e:τ[n]? =some (.frz l)):zv S (.ref n)=some l:=by
 obtain⟨cell,e1,e2⟩:=T.at_ e
 cases cell<;>first|(cases e2;simp[zv,e1])|cases e2
theorem Ty.nod (T:Ty c h m τ S) (e:τ[n]? =some .nod):∃kvs,S[n]? =some (.dk kvs)/\XD kvs h/\∀p∈kvs,∃n,p.2= .ref n/\τ[n]? =some .par:=by
 obtain⟨cell,e1,e2⟩:=T.at_ e
 cases cell<;>first|exact⟨_,e1,e2⟩|cases e2
theorem Ty.par (T:Ty c h m τ S) (e:τ[n]? =some .par):∃g k,S[n]? =some (.lst [g,.ref k])/\IsQ g/\τ[k]? =some .wts:=by
 obtain⟨cell,e1,e2⟩:=T.at_ e
 cases cell<;>first|(obtain⟨g,k,rfl,a,b⟩:=e2;exact⟨g,k,e1,a,b⟩)|cases e2
theorem Ty.wts (T:Ty c h m τ S) (e:τ[n]? =some .wts):∃kvs,S[n]? =some (.dk kvs)/\XD kvs c/\∀p∈kvs,∃w:Int,p.2= .int w/\0<w/\w<=m:=by
 obtain⟨cell,e1,e2⟩:=T.at_ e
 cases cell<;>first|exact⟨_,e1,e2⟩|cases e2
theorem Ty.new_at (T:Ty c h m τ S):(τ++[kd])[S.length]? =some kd:=by rw[<-T.1];simp
end
theorem zaN {kvs:List (Key×Xv)} {k:Key} {x:Xv} {p:Key×Xv} (hp:p∈XM kvs k x):p∈kvs\/p=(k,x):=by
 unfold XM at hp
 split at hp
 ·obtain⟨q,hq,e⟩:=Ez.1 hp
  split at e
  ·rename_i z
   rw[z] at e
   exact .inr e.symm
  ·exact .inl (e ▸ hq)
 ·rcases Ff.1 hp with h|h
  ·exact .inl h
  ·exact .inr (by simpa using h)
theorem zbT (kvs:List (Key×Xv)) (k:Key) (x:Xv):(k∈kvs.map (·.1)/\(XM kvs k x).map (·.1)=kvs.map (·.1))\/(k∉kvs.map (·.1)/\(XM kvs k x).map (·.1)=kvs.map (·.1)++[k]):=by
 unfold XM
 split
 ·rename_i hc
  obtain⟨p,hp,e⟩:=Ir.1 hc
  refine .inl ⟨Ez.2 ⟨p,hp,of_decide_eq_true e⟩,?_⟩
  rw[Fj]
  refine FL λq _=> ?_
  dsimp only[HV]
  split<;>rfl
 ·rename_i hc
  refine .inr ⟨λhk=>hc ?_,by simp⟩
  obtain⟨p,hp,e⟩:=Ez.1 hk
  exact Ir.2 ⟨p,hp,decide_eq_true e⟩
theorem XD.put {kvs:List (Key×Xv)} {m i:Int} {x:Xv} (h:XD kvs m) (h0:0<=i) (h1:i<m):XD (XM kvs (.inl i) x) m:=by
 refine⟨?_,λp hp=> ?_⟩
 ·rcases zbT kvs (.inl i) x with⟨_,e⟩|⟨hn,e⟩
  ·rw[e];exact h.1
  ·rw[e]
   exact GU.2 ⟨h.1,by simp,λa ha b hb=>by simp at hb;subst hb;exact λz=>hn (z ▸ ha)⟩
 ·rcases zaN hp with hp|rfl
  ·exact h.2 p hp
  ·exact⟨i,rfl,h0,h1⟩
theorem zaO {kvs:List (Key×Xv)} {k:Key} {z:Xv} (h:xi kvs k=some z):(k,z)∈kvs:=by
 unfold xi at h
 cases e:kvs.find? λkv=>decide (kv.1=k) with
 |none=>rw[e] at h;cases h
 |some p=>
  rw[e] at h
  cases h
  have h1:=JK e
  have h2:=Ii e
  have:p.1=k:=by simpa using h1
  rw[<-this]
  exact h2
theorem zgj {kvs:List (Key×Xv)} {k:Key} (h:xi kvs k=none):k∉kvs.map (·.1):=by
 intro hk
 obtain⟨p,hp,e⟩:=Ez.1 hk
 unfold xi at h
 rw[IQ,Hk] at h
 exact h p hp (by simpa using e)
theorem zgk {kvs:List (Key×Xv)} {k:Key} (h:k∈kvs.map (·.1)):∃z,xi kvs k=some z:=by
 cases e:xi kvs k with
 |some z=>exact⟨z,rfl⟩
 |none=>exact absurd h (zgj e)
theorem zcL {kvs:List (Key×Xv)} {k:Key} {x:Xv}:k∈(XM kvs k x).map (·.1):=by
 rcases zbT kvs k x with⟨h,e⟩|⟨_,e⟩
 ·rw[e];exact h
 ·rw[e];simp
theorem zaP:∀(m:Nat) (l:List Int),l.Nodup->(∀x∈l,0<=x/\x<m)->l.length<=m
 |0,l,_,h=>by
  cases l with
  |nil=>simp
  |cons a r=>have:=h a (by simp);omega
 |m+1,l,nd,h=>by
  by_cases hm:(m:Int)∈l
  ·have e:=List.length_erase_of_mem hm
   have:=zaP m (l.erase m) (nd.erase _) (λx hx=>by
    have h1:=h x (List.mem_of_mem_erase hx)
    have h2:x≠m:=λz=>by subst z;exact (List.Nodup.not_mem_erase nd) hx
    omega)
   have:=List.length_pos_of_mem hm
   omega
  ·have:=zaP m l nd (λx hx=>by
    have h1:=h x hx
    have h2:x≠m:=λz=>hm (z ▸ hx)
    omega)
   omega
theorem XD.ints {kvs:List (Key×Xv)} {m:Int} (h:XD kvs m):∃is:List Int,vN kvs=some is/\kvs.map (·.1)=is.map Ft/\is.Nodup/\(∀i∈is,0<=i/\i<m)/\is.length<=m.toNat:=by
 have key:∀(l:List (Key×Xv)),(∀p∈l,∃i:Int,p.1= .inl i/\0<=i/\i<m)->∃is:List Int,vN l=some is/\l.map (·.1)=is.map Ft/\∀i∈is,0<=i/\i<m:=by
  intro l
  induction l with
  |nil=>intro _;exact⟨[],rfl,rfl,by simp⟩
  |cons p r ih=>
   intro hp
   obtain⟨k,x⟩:=p
   obtain⟨i,e,h0,h1⟩:=hp (k,x) (by simp)
   have e:k= .inl i:=e
   subst e
   obtain⟨is,e1,e2,e3⟩:=ih λq hq=>hp q (by simp[hq])
   refine⟨i::is,by simp[vN,e1],by simp[e2],λj hj=> ?_⟩
   rcases EJ.1 hj with rfl|hj
   ·exact⟨h0,h1⟩
   ·exact e3 j hj
 obtain⟨is,e1,e2,e3⟩:=key kvs h.2
 have nd:is.Nodup:=by
  have:=h.1
  rw[e2] at this
  exact (Fh.1 this).imp λh z=>h (by rw[z])
 refine⟨is,e1,e2,nd,e3,zaP _ _ nd λx hx=> ?_⟩
 have:=e3 x hx
 omega
end
section
variable {fu:Nat} {S:Sto} {xs:Xv} {ns:List Int}
theorem Yu {τ:List Kd} {k:Kd}:τ<+:τ++[k]:=HR _ _
structure Tab (c h m:Int) (τ0:List Kd) (cS:List Xv) (tn:Nat) (τ:List Kd) (S:Sto):Prop where
 ty:Ty c h m τ S
 pre:τ0<+:τ
 fix:τ[tn]? =some (.fix cS)
 len:(cS.length:Int)=c
 nod:∀x∈cS,∃n,x= .ref n/\τ[n]? =some .nod
theorem Tab.ext {c h m m':Int} {τ0:List Kd} {cS:List Xv} {tn:Nat} {τ τ':List Kd} {S':Sto} (T:Tab c h m τ0 cS tn τ S) (p:τ<+:τ') (ty:Ty c h m' τ' S'):Tab c h m' τ0 cS tn τ' S':=
 ⟨ty,T.pre.trans p,ZI p T.fix,T.len,λx hx=>by obtain⟨n,e1,e2⟩:=T.nod x hx;exact⟨n,e1,ZI p e2⟩⟩
theorem Tab.node {c h m:Int} {τ0:List Kd} {cS:List Xv} {tn:Nat} {τ:List Kd} {p:Int} (T:Tab c h m τ0 cS tn τ S) (h0:0<=p) (h1:p<c):∃nd,zv S (.ref tn)=some cS/\atI cS p=some (.ref nd)/\τ[nd]? =some .nod:=by
 have hp:p.toNat<cS.length:=by have:=T.len;omega
 obtain⟨nd,e1,e2⟩:=T.nod _ (EK hp)
 exact⟨nd,zp (T.ty.fix T.fix),by rw[<-e1];exact wk h0 (Er hp),e2⟩
theorem zeK {p:Int} (h0:0<=p) (h1:p<64):intBits p+intBits p<=134217728:=by
 have h2:p.natAbs<2^6:=by omega
 have:=GX.mpr h2
 omega
theorem zhZ (c:Int):Ty c 2 0 [.frz (ns.map Xv.int)] [Ce.frz (ns.map Xv.int)]:=by
 refine⟨rfl,λn kd cell e1 e2=> ?_⟩
 cases n with
 |zero=>simp at e1 e2;subst e1 e2;rfl
 |succ n=>simp at e1
theorem zjk (bB:Big fu) {τ:List Kd} (hT:∀c,Ty c 2 0 τ S) (h0:τ[0]? =some (.frz (ns.map Xv.int))):W (Zp fu [.ref 0] S) λv S'=>∃tn c,v= .ref tn/\0<c/\c<=4/\∃τ' cS,Tab c 2 270 τ cS tn τ' S':=by
 have u6:zv S (.ref 0)=some (ns.map Xv.int):=(hT 0).frz h0
 walk_at "wr";unfold YG;nofun
 refine (ZS ∅ u6).imp ?_
 rintro _ _ ⟨rfl,rfl⟩
 nofun
 refine (vh ∅ ∅).imp ?_
 rintro _ _ ⟨rfl,rfl⟩
 nofun
 obtain⟨qm,jH⟩:=ZT (n:=xD ns (Gb 0)) (p:=99991) (q:=4) ∅
 have hc:0<1+vg (xD ns (Gb 0)) 99991 4:=by omega
 have uI:1+vg (xD ns (Gb 0)) 99991 4<=4:=by omega
 generalize 1+vg (xD ns (Gb 0)) 99991 4=c at hc uI ⊢
 clear qm jH
 have hT:=hT c
 clear u6
 refine wc (Wd ?_)
 nofun
 refine⟨⟨⋯,⋯⟩,_,rfl,?_⟩
 refine xq (by rw[yO];exact Fc (Zv ⋯)) (λi es S1=>∃τ1,τ<+:τ1/\Ty c 2 0 τ1 S1/\∀x∈es,∃n,x= .ref n/\τ1[n]? =some .nod) (λ_ _ _ _ _=>rfl) ?_ ⟨τ,FY _,hT,by simp⟩ ?_
 ·rintro i x es S1 hx hl ⟨τ1,p1,T1,hV⟩
  refine .of rfl ?_
  nofun
  refine⟨rfl,?_⟩
  nofun
  refine⟨τ1++[.nod],p1.trans Yu,T1.app (kd:= .nod) (cell:= .dk []) ⟨⟨by simp,by simp⟩,by simp⟩,λy hy=> ?_⟩
  rcases Ff.1 hy with hy|hy
  ·obtain⟨n,e1,e2⟩:=hV y hy
   exact⟨n,e1,ZI Yu e2⟩
  ·simp at hy
   exact⟨_,hy,T1.new_at⟩
 rintro cS S1 hl ⟨τ1,p1,T1,hV⟩
 rw[yO] at hl
 have T2:=T1.app (kd:= .fix cS) (cell:= .lst cS) rfl
 have i6:Tab c 2 0 τ cS S1.length (τ1++[.fix cS]) (S1++[.lst cS]):=⟨T2,p1.trans Yu,T1.new_at,⋯,λx hx=>by obtain⟨n,e1,e2⟩:=hV x hx;exact⟨n,e1,ZI Yu e2⟩⟩
 generalize S1.length=tn at i6 ⊢
 generalize S1++[Ce.lst cS]=S2 at i6 ⊢
 generalize τ1++[Kd.fix cS]=τ2 at i6
 clear T1 T2 hV p1 hl
 nofun
 refine xz (zaq ?_)
 nofun
 refine zk0 (i6.ty.frz (ZI i6.pre h0)) ?_
 have kL:∀y∈L2.zcf (ns.map Xv.int) (some 3) (some 33),∃z,y= .int z:=λy hy=>by
  unfold L2.zcf at hy
  have:=List.mem_of_mem_drop (HG hy)
  obtain⟨z,_,rfl⟩:=Ez.1 this
  exact⟨z,rfl⟩
 have fA:(L2.zcf (ns.map Xv.int) (some 3) (some 33)).length<=30:=by
  unfold L2.zcf
  rw[FD]
  refine EW (Nat.min_le_left _ _) ?_
  unfold HT.sIx
  simp
  omega
 generalize L2.zcf (ns.map Xv.int) (some 3) (some 33)=l at kL fA ⊢
 have T3:=i6.ty.app (kd:= .fix l) (cell:= .lst l) rfl
 have gI:(τ2++[Kd.fix l])[S2.length]? =some (.fix l):=i6.ty.new_at
 have kT:=i6.ext Yu T3
 generalize S2.length=sn at gI ⊢
 generalize S2++[Ce.lst l]=S3 at kT ⊢
 generalize τ2++[Kd.fix l]=τ3 at kT gI
 clear T3 i6
 refine⟨l,zp (kT.ty.fix gI),wV l,by dsimp only;rw[zp (kT.ty.fix gI)];rfl,?_⟩
 refine yF (xs:=wV l) (λi ρ S4=>∃a3 a4 a5 a6 a7 a8 τ4,ρ=[some (.ref 0),some (.int c),some (.ref tn),a3,a4,a5,a6,a7,a8]/\τ3<+:τ4/\Tab c 2 (i*9) τ cS tn τ4 S4) ?_ ?_ ?_ ?_
 ·rintro i ρ S4 _ ⟨_,_,_,_,_,_,τ4,_,p4,T4⟩
  show (zv S4 (.ref sn)).map wV=_
  rw[zp (T4.ty.fix (ZI p4 gI))]
  rfl
 ·rintro i x ρ S4 hx ⟨a3,a4,a5,a6,a7,a8,τ4,rfl,p4,T4⟩
  obtain⟨y,ey,rfl⟩:=YX hx
  obtain⟨z,rfl⟩:=kL y (EA ey)
  have hi:i<30:=by have:=(Es.1 ey).1;omega
  refine .of rfl ?_
  dsimp only[F7]
  nofun
  refine Xr hc ?_
  nofun
  have q0:=Gn (i:Int) (b:=c) ⋯
  have q1:=Gx (i:Int) hc
  generalize (i:Int) % c=pl at q0 q1 ⊢
  have Cb:=T4.ty.frz (ZI T4.pre h0)
  refine xR ?_
  nofun
  refine (ZS ∅ Cb).imp ?_
  rintro _ _ ⟨rfl,rfl⟩
  nofun
  refine vn (zeK q0 ⋯) ?_
  nofun
  refine (vh ∅ ∅).imp ?_
  rintro _ _ ⟨rfl,rfl⟩
  nofun
  have step:(i:Int)*9<=((i+1:Nat):Int)*9:=by omega
  refine⟨λ_=> ?_,λ_=> ?_⟩
  rotate_left
  ·nofun
   exact⟨_,_,_,_,_,_,τ4,rfl,p4,T4.ext (FY _) (T4.ty.le step)⟩
  nofun
  refine (vh ∅ ∅).imp ?_
  rintro _ _ ⟨rfl,rfl⟩
  obtain⟨s0,s1⟩:=ZT (n:=z) (p:=20011) (q:=2) ∅
  generalize vg z 20011 2=sl at s0 s1 ⊢
  nofun
  refine zg5 (λρ S5=>ρ=[some (.ref 0),some (.int c),some (.ref tn),some (.int i),some (.int z),some (.int pl),some (.int sl),a7,a8]/\∃τ5 nd kvs,τ4<+:τ5/\Tab c 2 (i*9) τ cS tn τ5 S5/\atI cS pl=some (.ref nd)/\S5[nd]? =some (.dk kvs)/\(Ft sl:Key)∈kvs.map (·.1)) (xR ?_) ?_
  ·obtain⟨nd,e1,e2,e3⟩:=T4.node q0 q1
   obtain⟨kvs,f1,f2,f3⟩:=T4.ty.nod e3
   refine ze9 (zkP ?_)
   nofun
   refine yB e1 e2 ?_
   refine⟨nd,kvs,.inl sl,yL f1,rfl,_,rfl,?_⟩
   cases ev:xi kvs (Ft sl) with
   |some zz=>
    refine⟨nofun,λ_=> ?_⟩
    nofun
    exact⟨rfl,τ4,nd,kvs,FY _,T4,e2,f1,Ez.2 ⟨_,zaO ev,rfl⟩⟩
   |none=>
    refine⟨λ_=> ?_,nofun⟩
    refine To ?_
    nofun
    refine (zjj bB).imp ?_
    rintro _ _ ⟨⟨gq,qX,rfl⟩,rfl⟩
    have hg:IsQ (qv gq):=⟨_,qX,rfl⟩
    generalize qv gq=g at hg ⊢
    nofun
    have A1:=T4.ty.app (kd:= .wts) (cell:= .dk []) ⟨⟨by simp,by simp⟩,by simp⟩
    have k1:(τ4++[Kd.wts])[S4.length]? =some .wts:=T4.ty.new_at
    have A2:=A1.app (kd:= .par) (cell:= .lst [g,.ref S4.length]) ⟨g,_,rfl,hg,ZI Yu k1⟩
    have k2:(τ4++[Kd.wts]++[Kd.par])[(S4++[Ce.dk []]).length]? =some .par:=A1.new_at
    have pp:τ4<+:τ4++[Kd.wts]++[Kd.par]:=Yu.trans Yu
    generalize (S4++[Ce.dk []]).length=pn at k2 ⊢
    generalize S4++[Ce.dk []]++[Ce.lst [g,.ref S4.length]]=S5 at A2 ⊢
    generalize τ4++[Kd.wts]++[Kd.par]=τ5 at A2 k2 pp
    clear A1 k1
    have T5:=T4.ext pp A2
    obtain⟨nd',rB,ls,mQ⟩:=T5.node q0 q1
    rw[e2] at ls
    cases ls
    obtain⟨kvs',kY,r9,qZ⟩:=T5.ty.nod mQ
    refine yB rB e2 ?_
    nofun
    obtain⟨is,_,g2,_,_,g5⟩:=r9.ints
    have hlen:kvs'.length<sizeLine:=by
     have:kvs'.length=is.length:=by rw[<-Eu (f:=(·.1)),g2,Eu]
     exact Zv ⋯
    refine⟨nd,kvs',.inl sl,yL kY,rfl,hlen,rfl,τ5,nd,XM kvs' (.inl sl) (.ref pn),pp,T5.ext (FY _) (A2.set mQ (cell:= .dk (XM kvs' (.inl sl) (.ref pn))) ⟨r9.put s0 s1,λp hp=> ?_⟩),e2,?_,zcL⟩
    ·rcases zaN hp with hp|rfl
     ·exact qZ p hp
     ·exact⟨pn,rfl,k2⟩
    ·rw[EV,if_pos rfl,if_pos (Es.1 kY).1]
  rintro ρ S5 ⟨rfl,τ5,nd,kvs,p5,T5,e2,f1,fk⟩
  nofun
  refine zcl ?_
  nofun
  obtain⟨nd',rB,ls,mQ⟩:=T5.node q0 q1
  rw[e2] at ls
  cases ls
  obtain⟨kvs',kY,r9,qZ⟩:=T5.ty.nod mQ
  rw[f1] at kY
  cases kY
  refine yB rB e2 ?_
  nofun
  obtain⟨pv,ev⟩:=zgk fk
  obtain⟨pn,ep,kp⟩:=qZ _ (zaO ev)
  have ep:pv= .ref pn:=ep
  subst ep
  refine⟨nd,kvs,.inl sl,.ref pn,yL f1,rfl,ev,?_⟩
  obtain⟨g,wn,gp,_,kw⟩:=T5.ty.par kp
  nofun
  refine yB (zp gp) WR ?_
  nofun
  refine (vh ∅ hc).imp ?_
  rintro _ _ ⟨rfl,rfl⟩
  obtain⟨t0,t1⟩:=ZT (n:=z) (p:=99991) (q:=c) hc
  generalize vg z 99991 c=to at t0 t1 ⊢
  nofun
  obtain⟨ws,fw,uQ,fv⟩:=T5.ty.wts kw
  refine To ?_
  refine US (US (zao ?_))
  nofun
  refine⟨⟨_,yL fw⟩,?_⟩
  nofun
  have hold:∃v0:Int,(xi ws (Ft to)).getD (.int 0)= .int v0/\0<=v0/\v0<=i*9:=by
   cases CZ:xi ws (Ft to) with
   |none=>exact⟨0,rfl,⋯,⋯⟩
   |some y=>
    obtain⟨w,e,h1,h2⟩:=fv _ (zaO CZ)
    exact⟨w,e,⋯,h2⟩
  obtain⟨v0,D0,v1,v2⟩:=hold
  refine⟨wn,ws,.inl to,yL fw,rfl,?_⟩
  rw[D0]
  nofun
  refine (vh ∅ ∅).imp ?_
  rintro _ _ ⟨rfl,rfl⟩
  obtain⟨w0,w9⟩:=ZT (n:=z) (p:=131071) (q:=9) ∅
  generalize vg z 131071 9=wt at w0 w9 ⊢
  nofun
  obtain⟨is,_,g2,_,_,g5⟩:=uQ.ints
  have hlen:ws.length<sizeLine:=by
   have:ws.length=is.length:=by rw[<-Eu (f:=(·.1)),g2,Eu]
   exact Zv ⋯
  refine⟨wn,ws,.inl to,yL fw,rfl,hlen,_,_,_,_,_,_,τ5,rfl,p4.trans p5,T5.ext (FY _) ((T5.ty.le step).set kw ⟨uQ.put t0 t1,λp hp=> ?_⟩)⟩
  rcases zaN hp with hp|rfl
  ·obtain⟨w,e,h1,h2⟩:=fv p hp
   exact⟨w,e,h1,⋯⟩
  ·exact⟨_,rfl,⋯,⋯⟩
 ·exact⟨_,_,_,_,_,_,τ3,rfl,FY _,by simpa using kT⟩
 ·rintro ρ S4 ⟨a3,a4,a5,a6,a7,a8,τ4,rfl,p4,T4⟩
  nofun
  refine⟨tn,c,rfl,hc,uI,τ4,cS,T4.ext (FY _) (T4.ty.le ?_)⟩
  rw[YY]
  omega
end
section
variable {fu:Nat} {S S':Sto} {x y:Xv} {ns:List Int}
abbrev WK:=Int×Q2×List (Int×Int)
noncomputable def wX (ws:List (Int×Int)):List (Key×Xv):=ws.map λp=>(.inl p.1,.int p.2)
def zh0 (S:Sto) (kv:Key×Xv) (s:WK):Prop:=kv.1= .inl s.1/\∃pn wn,kv.2= .ref pn/\L2.zv S (.ref pn)=some [qv s.2.1,.ref wn]/\L2.wb S (.ref wn)=some (wn,wX s.2.2)
def zaQ (S:Sto) (x:Xv) (b:List WK):Prop:=∃n kvs,L2.wb S x=some (n,kvs)/\kvs.length=b.length/\∀(i:Nat) s,b[i]? =some s->∃kv,kvs[i]? =some kv/\zh0 S kv s
theorem zh0.mono {kv:Key×Xv} {s:WK} (p:Le S S') (h:zh0 S kv s):zh0 S' kv s:=by
 obtain⟨e,pn,wn,e1,e2,e3⟩:=h
 exact⟨e,pn,wn,e1,p.1 _ _ e2,p.2 _ _ e3⟩
theorem zaQ.mono {b:List WK} (p:Le S S') (h:zaQ S x b):zaQ S' x b:=by
 obtain⟨n,kvs,e,el,k⟩:=h
 exact⟨n,kvs,p.2 _ _ e,el,λi s hs=>by obtain⟨kv,e1,e2⟩:=k i s hs;exact⟨kv,e1,e2.mono p⟩⟩
structure zlj (c:Int) (s:WK):Prop where
 key:0<=s.1/\s.1<2
 gp:0<s.2.1.2
 nd:(s.2.2.map (·.1)).Nodup
 wt:∀p∈s.2.2,(0<=p.1/\p.1<c)/\0<p.2/\p.2<=270
structure zjl (c:Int) (b:List WK):Prop where
 nd:(b.map (·.1)).Nodup
 all:∀s∈b,zlj c s
theorem zbU {α:Type} {kvs:List (Key×Xv)} {as:List α} {f:α->Int} (hl:kvs.length=as.length) (h:∀(i:Nat) a,as[i]? =some a->∃kv,kvs[i]? =some kv/\kv.1= .inl (f a)):kvs.map (·.1)=(as.map f).map Ft:=by
 refine Gr λi=> ?_
 rw[EB,EB,EB]
 cases e:as[i]? with
 |none=>rw[Fe (by rw[hl];exact Gj.1 e)];rfl
 |some a=>
  obtain⟨kv,e1,e2⟩:=h i a e
  rw[e1]
  show some kv.1=_
  rw[e2]
  rfl
theorem zh1 {l:List Int} {kvs:List (Key×Xv)} (h:(kvs.map (·.1)).Nodup) (e:kvs.map (·.1)=l.map Ft):l.Nodup:=by
 rw[e] at h
 exact (Fh.1 h).imp λh z=>h (by rw[z])
theorem Tab.read {c m:Int} {τ0 τ:List Kd} {cS:List Xv} {tn:Nat} (T:Tab c 2 270 τ0 cS tn τ S):∃tab:List (List WK),LAt zaQ S (.ref tn) tab/\(tab.length:Int)=c/\∀b∈tab,zjl c b:=by
 have base:∀z∈cS,∃b,zaQ S z b/\zjl c b:=λz hz=>by
  obtain⟨n,rfl,kn⟩:=T.nod z hz
  obtain⟨kvs,e1,k1,hv⟩:=T.ty.nod kn
  have slot:∀kv∈kvs,∃s,zh0 S kv s/\zlj c s:=λkv iE=>by
   obtain⟨pn,ep,kp⟩:=hv kv iE
   obtain⟨i,ek,i0,i1⟩:=k1.2 kv iE
   obtain⟨g,wn,eg,⟨gq,qX,rfl⟩,kw⟩:=T.ty.par kp
   obtain⟨ws,ew,k2,hw⟩:=T.ty.wts kw
   have one:∀q∈ws,∃a:Int×Int,q=((.inl a.1:Key),Xv.int a.2)/\(0<=a.1/\a.1<c)/\0<a.2/\a.2<=270:=λq hq=>by
    obtain⟨i,e1,h1⟩:=k2.2 q hq
    obtain⟨w,e2,h2,h3⟩:=hw q hq
    exact⟨(i,w),by rw[<-e1,<-e2],h1,h2,h3⟩
   obtain⟨as,l1,l2,l3⟩:=Wr ws one
   have uT:ws=wX as:=by
    refine Gr λi=> ?_
    unfold wX
    rw[EB]
    cases e:as[i]? with
    |none=>rw[Fe (by rw[l1];exact Gj.1 e)];rfl
    |some a=>
     obtain⟨q,e1,e2,_⟩:=l2 i a e
     rw[e1,e2]
     rfl
   refine⟨(i,gq,as),⟨ek,pn,wn,ep,zp eg,by rw[<-uT];exact zcj (yL ew)⟩,⟨i0,i1⟩,qX,?_,λa ha=> ?_⟩
   ·refine zh1 (kvs:=ws) k2.1 ?_
    rw[uT]
    unfold wX
    rw[Fj,Fj]
    rfl
   ·obtain⟨_,_,_,h⟩:=l3 a ha
    exact h
  obtain⟨b,l1,l2,l3⟩:=Wr kvs slot
  refine⟨b,⟨n,kvs,zcj (yL e1),l1,λi s hs=>by obtain⟨kv,e2,e3,_⟩:=l2 i s hs;exact⟨kv,e2,e3⟩⟩,zh1 k1.1 (zbU (f:=(·.1)) l1 λi s hs=>by obtain⟨kv,e2,e3,_⟩:=l2 i s hs;exact⟨kv,e2,e3.1⟩),λs hs=> ?_⟩
  obtain⟨_,_,_,h⟩:=l3 s hs
  exact h
 obtain⟨tab,l1,l2,l3⟩:=Wr cS base
 refine⟨tab,⟨cS,zp (T.ty.fix T.fix),l1,λi b hb=>by obtain⟨z,e1,e2,_⟩:=l2 i b hb;exact⟨z,e1,e2⟩⟩,by have:=T.len;omega,λb hb=> ?_⟩
 obtain⟨_,_,_,h⟩:=l3 b hb
 exact h
theorem zh2 (bB:Big fu) {τ:List Kd} (hT:∀c,Ty c 2 0 τ S) (h0:τ[0]? =some (.frz (ns.map Xv.int))):W (Zp fu [.ref 0] S) λv S'=>∃(c:Int) (tab:List (List WK)),0<c/\c<=4/\LAt zaQ S' v tab/\(tab.length:Int)=c/\(∀b∈tab,zjl c b)/\L2.zv S' (.ref 0)=some (ns.map Xv.int):=by
 refine (zjk bB hT h0).imp ?_
 rintro _ S' ⟨tn,c,rfl,h1,h2,τ,cS,T⟩
 obtain⟨tab,e1,e2,e3⟩:=T.read (m:=270)
 exact⟨c,tab,h1,h2,e1,e2,e3,T.ty.frz (ZI T.pre h0)⟩
end
local macro_rules | `(tactic| walk_at "z1") => `(tactic| first
 | walk_at "w1"
 | ((with_reducible show W (zH _ _ _) _); refine W.eqs (ZS ∅ (by assumption)) ?_)
 | ((with_reducible show W (zA _ _ _) _); refine W.eqs (vh ∅ (by first | decide | assumption | omega)) ?_)
 | ((with_reducible show WO (Xp _ (.int _) _) _); refine Xr (by first | decide | assumption | omega) ?_))
local macro_rules | `(tactic| walk_at "z") => `(tactic| repeat walk_at "z1")
section
variable {fu:Nat} {S S':Sto} {x y:Xv} {ns:List Int}
theorem Ua {P:Xv->Sto->Prop} {l:List Int} (h:L2.zv S x=some (l.map Xv.int)) (k:P (.int l.sum) S):WO (zag [x] S) P:= .of (by
 unfold zag
 dsimp only
 rw[h,EC,Uo]
 rfl) k
theorem zjm {node to cp:Int} (hs:L2.zv S (.ref 0)=some (ns.map Xv.int)) (h0:0<=node) (Ek:0<=to) (hc:0<cp) (Ef:cp<=3):
  W (YI fu [.ref 0,.int node,.int to,.int cp] S) λv S'=>∃(m:Nat) (ws:List Int),v= .ref m/\S.length<=m/\S'[m]? =some (.lst (ws.map Xv.int))/\(ws.length:Int)=cp/\(∀w∈ws,0<=w/\w<=3)/\0<ws.sum/\Fz S S':=by
 walk_at "wr";unfold YH
 walk_at "z"
 have q0:=Gn (node+7*to) (b:=30) ∅
 refine (ZS ⋯ hs).imp ?_
 rintro _ _ ⟨rfl,rfl⟩
 generalize xD ns (33+(node+7*to) % 30).toNat=cl
 walk_at "z"
 refine wc (Wd ?_)
 walk_at "z"
 refine⟨⟨⋯,⋯⟩,_,rfl,?_⟩
 refine xq (by rw[yO];exact Fc (Zv ⋯)) (λi es S1=>S=S1/\∃ws:List Int,es=ws.map Xv.int/\∀w∈ws,0<=w/\w<=3) (λ_ _ _ _ _=>rfl) ?_ ⟨rfl,[],rfl,by simp⟩ ?_
 ·rintro i w es _ hw hl ⟨rfl,ws,rfl,eW⟩
  obtain⟨hi,rfl⟩:=Xc hw
  refine .of rfl ?_
  dsimp only[Yz,Gp,F7]
  walk_at "z"
  refine⟨rfl,?_⟩
  walk_at "z"
  refine vn (VZ ⋯ ⋯) ?_
  walk_at "z"
  obtain⟨m0,m1⟩:=ZT (n:=cl+11*(0+(i:Int))*(0+(i:Int))+node) (p:=50021) (q:=4) ∅
  refine⟨rfl,ws++[_],by rw[Fd];rfl,λw hw=> ?_⟩
  rcases Ff.1 hw with hw|hw
  ·exact eW w hw
  ·rw[EZ] at hw
   subst hw
   omega
 rintro es _ hl ⟨rfl,ws,rfl,eW⟩
 rw[yO,Eu] at hl
 walk_at "z"
 have a1:(S++[Ce.lst (ws.map Xv.int)])[S.length]? =some (.lst (ws.map Xv.int)):=yU
 have f1:Fz S (S++[Ce.lst (ws.map Xv.int)]):=Fz.refl.app
 generalize S++[Ce.lst (ws.map Xv.int)]=S1 at a1 f1 ⊢
 have nn:0<=ws.sum:=by
  clear hl a1
  induction ws with
  |nil=>simp
  |cons a r ih=>
   have:=eW a (by simp)
   have:=ih λw hw=>eW w (by simp[hw])
   rw[FK]
   omega
 refine xR ?_
 walk_at "z"
 refine Ua (zp a1) ?_
 walk_at "z"
 refine Zk (λhz=> ?_) (λhz=> ?_)
 ·refine zap ?_
  walk_at "z"
  have r0:=Gn node (b:=cp) ⋯
  have r1:=Gx node hc
  have k7:∀w∈ws,w=0:=by
   clear hl a1
   induction ws with
   |nil=>simp
   |cons a r ih=>
    rw[FK] at hz
    have h1:=eW a (by simp)
    have h2:0<=r.sum:=by
     clear ih hz nn
     induction r with
     |nil=>simp
     |cons b r pB=>
      have:=eW b (by simp)
      have:=pB λw hw=>eW w (by rcases EJ.1 hw with rfl|hw<;>simp[*])
      rw[FK];omega
    intro w hw
    rcases EJ.1 hw with rfl|hw
    ·omega
    ·exact ih (λw hw=>eW w (by simp[hw])) h2 ⋯ w hw
  have jd:ixN (ws.map Xv.int).length (node % cp)=some (node % cp).toNat:=by
   unfold ixN
   rw[Eu]
   rw[if_pos ⋯,if_pos ⋯]
  refine⟨S.length,_,_,_,ww a1,rfl,jd,?_⟩
  walk_at "z"
  refine⟨S.length,ws.set (node % cp).toNat 1,rfl,EE _,?_,by rw[Fq];omega,λw hw=> ?_,?_,f1.set (EE _)⟩
  ·rw[Zl a1,JX]
  ·rcases Hg hw with hw|rfl
   ·exact eW w hw
   ·omega
  ·have:∀(l:List Int) (k:Nat),k<l.length->(∀w∈l,w=0)->(l.set k 1).sum=1:=by
    intro l
    induction l with
    |nil=>intro k hk;simp at hk
    |cons a r ih=>
     intro k hk hz
     have ha:=hz a (by simp)
     subst ha
     cases k with
     |zero=>
      rw[List.set_cons_zero,FK]
      have:r.sum=0:=by
       have hr:∀w∈r,w=0:=λw hw=>hz w (by simp[hw])
       clear ih hk hz
       induction r with
       |nil=>rfl
       |cons b r ih=>rw[FK,hr b (by simp),ih λw hw=>hr w (by simp[hw])];rfl
      omega
     |succ k=>
      rw[List.set_cons_succ,FK,ih k (by simpa using hk) λw hw=>hz w (by simp[hw])]
      rfl
   rw[this ws _ ⋯ k7]
   decide
 ·walk_at "z"
  exact⟨S.length,ws,rfl,EE _,a1,⋯,eW,⋯,f1⟩
end
section
variable {fu:Nat} {S S':Sto} {x y:Xv} {ns:List Int}
def vY (S:Sto) (z:Xv) (h:List Int):Prop:=L2.zv S z=some (h.map Xv.int)
theorem vY.mono {S S':Sto} {z:Xv} {h:List Int} (p:Le S S') (a:vY S z h):vY S' z h:=p.1 _ _ a
theorem HmsAt.mono {aq:List (List Int)} (p:Le S S') (h:LAt vY S x aq):LAt vY S' x aq:=LAt.mono (λ_ _ h=>vY.mono p h) p h
theorem zcM {n:Nat} {zs:List Xv} {aq:List (List Int)} (o:Zw vY S n zs aq) (p:Fz S S'):Zw vY S' n zs aq:=Zw.mono (R:=vY) (λq h=>vY.mono q h) p o
theorem zmf {n:Nat} {zs:List Xv} {aq:List (List Int)} (o:Zw vY S n zs aq):LAt vY S (.ref n) aq:=Zw.at (R:=vY) (λq h=>vY.mono q h) o
structure zgl (ns:List Int) (c:Int) (aq:List (List Int)):Prop where
 len:(aq.length:Int)=c
 each:∀h∈aq,0<h.length/\h.length<=3
 flat:aq.flatten=(Fv aq.flatten.length).map λk:Nat=>wf ns aq.flatten.length k
 tot:aq.flatten.length<=12
theorem zaR {l:List Int} {b:Int} (h:∀w∈l,0<=w/\w<=b):0<=l.sum/\l.sum<=b*l.length:=by
 induction l with
 |nil=>simp
 |cons a r ih=>
  have h1:=h a (by simp)
  have h2:=ih λw hw=>h w (by simp[hw])
  rw[FK,F5,IJ,Jq]
  omega
theorem zlk {n:Nat} {zs:List Xv} {aq:List (List Int)} (h:Zw vY S n zs aq) (hl:aq.length<=4) {P:Xv->Sto->Prop}
  (k:∀S',Fz S S'->P (.int aq.flatten.length) S'):
  W (eFn zag [(wu [none] (iL (ze 3)) (gN 0) wU (eFn Yj [(ze 0)]))] [some (.ref 0),x,y,some (.ref n),a4,a5] S) P:=by
 refine zg2 (vk (wc (vc ?_)))
 nofun
 refine⟨_,zp h.1,_,zp h.1,?_⟩
 refine xq (by rw[h.2.1];exact Fc (Zv ⋯)) (λi es S1=>S=S1/\es=((aq.take i).map λh=>(h.length:Int)).map Xv.int) ?_ ?_ ⟨rfl,rfl⟩ ?_
 ·rintro i es _ _ ⟨rfl,_⟩
  exact zp h.1
 ·rintro i w es _ hw fy ⟨rfl,rfl⟩
  have hi:i<aq.length:=by rw[<-h.2.1];exact (Es.1 hw).1
  obtain⟨z,e1,e2⟩:=h.2.2 i _ (Er hi)
  rw[hw] at e1
  cases e1
  refine .of rfl ?_
  dsimp only[Yz,Gp,F7]
  nofun
  refine⟨rfl,?_⟩
  nofun
  refine YB (Vr.1 _ _ e2) ?_
  refine⟨rfl,?_⟩
  rw[yf (Er hi),Fd,Fd,Eu]
  rfl
 ·rintro es _ eD ⟨rfl,rfl⟩
  rw[h.2.1,F9]
  nofun
  refine Ua yu ?_
  have:(aq.map λh=>(h.length:Int)).sum=aq.flatten.length:=by
   clear h hl eD k
   induction aq with
   |nil=>rfl
   |cons a r ih=>rw[Ey,FK,ih,Jn,ER];omega
  rw[this]
  exact k _ Fz.refl.app
theorem zjn {c:Int} (hs:L2.zv S (.ref 0)=some (ns.map Xv.int)) (hc:0<c) (uH:c<=4):
  W (YL fu [.ref 0,.int c] S) λv S'=>∃aq,LAt vY S' v aq/\zgl ns c aq/\Fz S S':=by
 walk_at "wr";unfold YK
 walk_at "z"
 refine wc (Wd ?_)
 walk_at "z"
 refine⟨⟨⋯,⋯⟩,_,rfl,?_⟩
 refine xq (by rw[yO];exact Fc (Zv ⋯)) (λi es S1=>S=S1/\∃ws:List Int,es=ws.map Xv.int/\∀w∈ws,1<=w/\w<=3) (λ_ _ _ _ _=>rfl) ?_ ⟨rfl,[],rfl,by simp⟩ ?_
 ·rintro i w es _ hw hl ⟨rfl,ws,rfl,eW⟩
  obtain⟨hi,rfl⟩:=Xc hw
  refine .of rfl ?_
  dsimp only[Yz,Gp,F7]
  walk_at "z"
  refine⟨rfl,?_⟩
  walk_at "z"
  refine vn (VZ ⋯ ⋯) ?_
  walk_at "z"
  obtain⟨m0,m1⟩:=ZT (n:=xD ns (Gb 1)+(0+(i:Int))*(0+(i:Int))) (p:=20011) (q:=3) ∅
  refine⟨rfl,ws++[_],by rw[Fd];rfl,λw hw=> ?_⟩
  rcases Ff.1 hw with hw|hw
  ·exact eW w hw
  ·rw[EZ] at hw
   subst hw
   omega
 rintro es _ hl ⟨rfl,ms,rfl,aq⟩
 rw[yO,Eu] at hl
 have a1:(S++[Ce.lst (ms.map Xv.int)])[S.length]? =some (.lst (ms.map Xv.int)):=yU
 have f1:Fz S (S++[Ce.lst (ms.map Xv.int)]):=Fz.refl.app
 walk_at "z"
 have o0:Zw vY (S++[Ce.lst (ms.map Xv.int)]++[.lst []]) (S++[Ce.lst (ms.map Xv.int)]).length [] []:=Zw.nil
 have f2:Fz (S++[Ce.lst (ms.map Xv.int)]) (S++[Ce.lst (ms.map Xv.int)]++[.lst []]):=Fz.refl.app
 have BW:S.length<(S++[Ce.lst (ms.map Xv.int)]).length:=by simp
 generalize (S++[Ce.lst (ms.map Xv.int)]).length=hn at o0 BW ⊢
 have a2:=f2.lst a1
 have f3:=f1.trans f2
 generalize S++[Ce.lst (ms.map Xv.int)]++[.lst []]=S1 at o0 a2 f3 ⊢
 clear a1 f1 f2
 have iX:0<ms.sum/\ms.sum<=12/\(ms.length:Int)<=4:=by
  have h1:=zaR (l:=ms) (b:=3) λw hw=>⟨by have:=aq w hw;omega,(aq w hw).2⟩
  have h2:0<ms.sum:=by
   cases ms with
   |nil=>simp at hl;omega
   |cons a r=>
    have:=aq a (by simp)
    have:=zaR (l:=r) (b:=3) λw hw=>⟨by have:=aq w (by simp[hw]);omega,(aq w (by simp[hw])).2⟩
    rw[FK]
    omega
  omega
 refine xz (vc ?_)
 walk_at "z"
 refine⟨_,zp a2,_,zp a2,?_⟩
 refine yF (xs:=ms.map Xv.int) (λi ρ S2=>∃a4 a5 zs hs,ρ=[some (.ref 0),some (.int c),some (.ref S.length),some (.ref hn),a4,a5]/\Zw vY S2 hn zs hs/\S2[S.length]? =some (.lst (ms.map Xv.int))/\Fz S S2/\hs.length=i/\(∀h∈hs,0<h.length/\h.length<=3)/\(hs.flatten.length:Int)=(ms.take i).sum/\hs.flatten=(Fv hs.flatten.length).map λk:Nat=>wf ns ms.sum k) ?_ ?_ ?_ ?_
 ·rintro i ρ S2 _ ⟨_,_,_,_,_,_,e,_⟩
  exact zp e
 ·rintro i w ρ S2 hw ⟨a4,a5,zs,dC,rfl,o2,e2,f4,h1,h2,h3,h4⟩
  obtain⟨cp,rq,rfl⟩:=wm hw
  have jm:=aq cp (EA rq)
  have hi:i<ms.length:=(Es.1 rq).1
  refine .of rfl ?_
  dsimp only[F7]
  refine yS (Wc (zlk o2 ⋯ λS3 f5=> ?_))
  dsimp only[F7]
  have o3:=zcM o2 f5
  have e3:=f5.lst e2
  have f6:=f4.trans f5
  clear o2 e2 f5 f4
  walk_at "z"
  refine Xb ?_
  walk_at "z"
  refine⟨⟨_,zp o3.1⟩,?_⟩
  refine vk (wc (Wd ?_))
  walk_at "z"
  refine⟨⟨⋯,⋯⟩,_,rfl,?_⟩
  refine xq (by rw[yO];exact Fc (Zv ⋯)) (λi es S4=>S3=S4/\es=((Fv i).map λk:Nat=>wf ns ms.sum (dC.flatten.length+k)).map Xv.int) (λ_ _ _ _ _=>rfl) ?_ ⟨rfl,rfl⟩ ?_
  ·rintro j w es _ hw fy ⟨rfl,rfl⟩
   obtain⟨hj,rfl⟩:=Xc hw
   refine .of rfl ?_
   dsimp only[Yz,Gp,F7]
   walk_at "z"
   refine⟨rfl,?_⟩
   walk_at "z"
   refine Ua (zp e3) ?_
   walk_at "z"
   refine W.eqs (zcI iX.1 (f6.lstAt hs)) ⟨rfl,?_⟩
   rw[IH,Fd,Fd,Jh]
   rfl
  rintro es _ eD ⟨rfl,rfl⟩
  rw[yO] at eD ⊢
  walk_at "z"
  have o4:=zcM o3 (Fz.refl.app (T:=[Ce.lst (((Fv cp.toNat).map λk:Nat=>wf ns ms.sum (dC.flatten.length+k)).map Xv.int)]))
  refine xN (ww o4.1) (Zv (by rw[o4.2.1];omega)) ?_
  have cC:hn<S3.length:=(Es.1 o3.1).1
  have o5:=o4.push (z:= .ref S3.length) (a:=(Fv cp.toNat).map λk:Nat=>wf ns ms.sum (dC.flatten.length+k)) (Tz yu ⋯)
  have cZ:(dC++[(Fv cp.toNat).map λk:Nat=>wf ns ms.sum (dC.flatten.length+k)]).flatten=dC.flatten++(Fv cp.toNat).map λk:Nat=>wf ns ms.sum (dC.flatten.length+k):=by simp
  refine⟨_,_,_,_,rfl,o5,?_,?_,by simp[h1],λh hh=> ?_,?_,?_⟩
  ·refine yV ?_ ⋯
   rw[Ex (Es.1 e3).1]
   exact e3
  ·exact (f6.app).set ⋯
  ·rcases Ff.1 hh with hh|hh
   ·exact h2 h hh
   ·rw[EZ] at hh
    subst hh
    simp
    omega
  ·rw[cZ,yf rq,IE,ER,Eu,Hr,IJ,h3]
   simp
   try omega
  ·rw[cZ,ER,Eu,Hr,List.range_add,Fd,<-h4,Fj]
   rfl
 ·exact⟨none,none,[],[],rfl,o0,a2,f3,rfl,by simp,by simp,by simp⟩
 ·rintro ρ S2 ⟨a4,a5,zs,dC,rfl,o2,e2,f4,h1,h2,h3,h4⟩
  rw[Eu] at h1 h3
  rw[F9] at h3
  walk_at "z"
  refine⟨dC,zmf o2,⟨⋯,h2,by rw[h3];exact h4,⋯⟩,f4⟩
end
section
variable {fu:Nat} {S S':Sto} {x y:Xv} {ns:List Int}
theorem zka {α:Type}:∀ks:List α,∃l:List α,l.Nodup/\∀k,k∈l↔k∈ks
 |[]=>⟨[],J0,λ_=>Iff.rfl⟩
 |a::r=>by
  obtain⟨l,h1,h2⟩:=zka r
  by_cases h:a∈r
  ·exact⟨l,h1,λk=>by rw[h2,EJ];exact⟨.inr,λz=>z.elim (λe=>e ▸ h) id⟩⟩
  ·exact⟨a::l,FO.2 ⟨λz=>h ((h2 a).1 z),h1⟩,λk=>by rw[EJ,EJ,h2]⟩
theorem Zm {b:Bool} {ks:List NK} (ok:KOk b ks):Yc (wW ks)/\∀k,k∈wW ks↔k∈ks:=by
 obtain⟨l,nd,hm⟩:=zka ks
 have nd':(l.map enc).Nodup:=by
  rw[Gf,Fh]
  exact FT (λha hb b6 e=>b6 (Ts (ok.cmp _ ((hm _).1 ha) _ ((hm _).1 hb)) e)) nd
 have aL:=vD (l.map enc)
 have iR:∀i∈Ya (l.map enc),i<l.length:=λi hi=>by
  have:=aL.mem_iff.1 hi
  rw[Fx,Eu] at this
  exact this
 have hr:Yc ((Ya (l.map enc)).map λi=>l.getD i (.int 0)):=by
  unfold Yc
  rw[Fj]
  have e1:(Ya (l.map enc)).map (enc ∘ λi=>l.getD i (.int 0))=(Ya (l.map enc)).map λi=>(l.map enc).getD i []:=FL λi hi=>by
   have:=iR i hi
   simp[Ew,this]
  rw[e1]
  exact Uw nd'
 have hk:∀k,k∈((Ya (l.map enc)).map λi=>l.getD i (.int 0))↔k∈ks:=λk=>by
  rw[<-hm k,Ez]
  constructor
  ·rintro⟨i,hi,rfl⟩
   have:=iR i hi
   rw[Ew,Er this]
   exact EK this
  ·intro hk
   obtain⟨i,hi,rfl⟩:=Gv hk
   exact⟨i,aL.mem_iff.2 (Fx.2 (by rw[Eu];exact hi)),by rw[Ew,Er hi];rfl⟩
 rw[zaD hr hk]
 exact⟨hr,hk⟩
theorem zaS {l:List NK} (h:Yc l):l.Nodup:=by
 unfold Yc at h
 rw[Fh] at h
 exact h.imp λ{a b} h e=>by subst e;rw[Yo] at h;cases h
theorem zeL {b:Bool} {ks:List NK} (ok:KOk b ks) (nd:ks.Nodup):(wW ks).Perm ks:=by
 obtain⟨h1,h2⟩:=Zm ok
 rw[List.perm_iff_count]
 intro a
 rw[(zaS h1).count,nd.count]
 simp only[h2 a]
noncomputable def nq (q:Q2):NK:= .tup [.int q.1,.int q.2]
noncomputable def ptK (p:Int×Q2):NK:= .tup [.int p.1,nq p.2]
noncomputable def ptX (p:Int×Q2):Xv:= .tup [.int p.1,qv p.2]
theorem zh3 (q:Q2):unk (nq q)=qv q:=by simp[nq,unk,zcA,qv]
theorem zfw (p:Int×Q2):unk (ptK p)=ptX p:=by simp[ptK,nq,unk,zcA,ptX,qv]
theorem zcN {p q:Int×Q2} (h:ptK p=ptK q):p=q:=by
 obtain⟨a,b,c⟩:=p
 obtain⟨d,e,f⟩:=q
 simp[ptK,nq] at h
 obtain⟨rfl,rfl,rfl⟩:=h
 rfl
theorem zh4 {ps:List (Int×Q2)}:KOk true (ps.map ptK):=by
 refine⟨λx hx y hy=> ?_,λk hk=> ?_,λk hk=> ?_⟩
 ·obtain⟨p,_,rfl⟩:=Ez.1 hx
  obtain⟨q,_,rfl⟩:=Ez.1 hy
  simp[ptK,nq,cp,cpL]
 ·obtain⟨p,_,rfl⟩:=Ez.1 hk
  simp[ptK,nq,yv,wB]
 ·obtain⟨p,_,rfl⟩:=Ez.1 hk
  simp[ptK,Xt]
theorem zeM {ps:List (Int×Q2)} (nd:ps.Nodup):∃qs:List (Int×Q2),qs.Perm ps/\(wW (ps.map ptK)).map unk=qs.map ptX:=by
 have jB:(ps.map ptK).Nodup:=by
  rw[Gf,Fh]
  exact nd.imp λh e=>h (zcN e)
 obtain⟨qs,h1,h2⟩:=zaC (zeL zh4 jB)
 refine⟨qs,h1,?_⟩
 rw[h2,Fj]
 exact FL λp _=>zfw p
noncomputable def zaT (whole wt:Int) (hs sp:List Int):List (Int×Q2):=((hs.zip sp).filter λz=>decide (0<z.2)).map λz=>(z.1,Tj (wt*z.2) (whole*sp.sum))
inductive Ups (aq:List (List Int)) (whole:Int):List (Int×Int)->List (Int×Q2)->Prop
 |nil:Ups aq whole [] []
 |snoc {ws:List (Int×Int)} {ups:List (Int×Q2)} {to wt:Int} {hs sp:List Int}:Ups aq whole ws ups->0<=to->aq[to.toNat]? =some hs->sp.length=hs.length->hs.length<=3->(∀w∈sp,0<=w/\w<=3)->0<sp.sum->Ups aq whole (ws++[(to,wt)]) (ups++zaT whole wt hs sp)
theorem zgm {whole wt:Int} {hs sp:List Int}:(zaT whole wt hs sp).length<=hs.length:=by
 unfold zaT
 rw[Eu]
 refine EW (J1 ..) ?_
 rw[JL]
 omega
theorem Ups.len {aq:List (List Int)} {whole:Int} {ws:List (Int×Int)} {ups:List (Int×Q2)} (h:Ups aq whole ws ups):ups.length<=3*ws.length:=by
 induction h with
 |nil=>simp
 | @snoc ws ups to wt hs sp _ _ _ _ h3 _ _ ih=>
  have:=zgm (whole:=whole) (wt:=wt) (hs:=hs) (sp:=sp)
  rw[ER,ER,G1]
  omega
theorem UE {whole wt:Int} {hs sp:List Int} {p:Int×Q2} (h:p∈zaT whole wt hs sp):p.1∈hs/\∃w∈sp,0<w/\p.2=Tj (wt*w) (whole*sp.sum):=by
 unfold zaT at h
 obtain⟨z,hz,rfl⟩:=Ez.1 h
 obtain⟨h1,h2⟩:=Gm.1 hz
 obtain⟨a,b⟩:=z
 exact⟨(GA h1).1,b,(GA h1).2,of_decide_eq_true h2,rfl⟩
theorem zll {hs:List Int}:∀{sp:List Int},hs.Nodup->((hs.zip sp).map (·.1)).Nodup:=by
 induction hs with
 |nil=>intro sp _;simp
 |cons a r ih=>
  intro sp nd
  cases sp with
  |nil=>simp
  |cons b s=>
   rw[FO] at nd
   rw[Gh,Ey,FO]
   refine⟨λz=> ?_,ih nd.2⟩
   obtain⟨q,hq,e⟩:=Ez.1 z
   obtain⟨q1,q2⟩:=q
   have e:q1=a:=e
   subst e
   exact nd.1 (GA hq).1
theorem zh5 {whole wt:Int} {hs sp:List Int} (nd:hs.Nodup):((zaT whole wt hs sp).map (·.1)).Nodup:=by
 unfold zaT
 rw[Fj]
 exact (zll (sp:=sp) nd).sublist (List.Sublist.map _ List.filter_sublist)
theorem zcO {aq:List (List Int)} (h:aq.flatten.Nodup):(∀(i:Nat) (hs:List Int),aq[i]? =some hs->hs.Nodup)/\∀(i j:Nat) (hs gs:List Int) (u:Int),aq[i]? =some hs->aq[j]? =some gs->u∈hs->u∈gs->i=j:=by
 rw[Gf,List.pairwise_flatten] at h
 refine⟨λi hs e=>h.1 _ (EA e),λi j hs gs u e1 e2 h1 h2=> ?_⟩
 have key:∀(i j:Nat) (hs gs:List Int),i<j->aq[i]? =some hs->aq[j]? =some gs->u∈hs->u∈gs->False:=λi j hs gs er e1 e2 h1 h2=>by
  obtain⟨i1,rfl⟩:=Es.1 e1
  obtain⟨j1,rfl⟩:=Es.1 e2
  exact Gi.1 h.2 i j i1 j1 er u h1 u h2 rfl
 rcases Ic i j with q|q|q
 ·exact (key i j hs gs q e1 e2 h1 h2).elim
 ·exact q
 ·exact (key j i gs hs q e2 e1 h2 h1).elim
theorem Ups.from {aq:List (List Int)} {whole:Int} {ws:List (Int×Int)} {ups:List (Int×Q2)} (h:Ups aq whole ws ups):∀p∈ups,∃w∈ws,∃hs,0<=w.1/\aq[w.1.toNat]? =some hs/\p.1∈hs:=by
 induction h with
 |nil=>intro p hp;cases hp
 | @snoc ws ups to wt hs sp _ h0 h1 _ _ _ _ ih=>
  intro p hp
  rcases Ff.1 hp with hp|hp
  ·obtain⟨w,hw,r⟩:=ih p hp
   exact⟨w,GW _ hw,r⟩
  ·exact⟨(to,wt),by simp,hs,h0,h1,(UE hp).1⟩
theorem Ups.nd {aq:List (List Int)} {whole:Int} {ws:List (Int×Int)} {ups:List (Int×Q2)} (hf:aq.flatten.Nodup) (h:Ups aq whole ws ups) (nd:(ws.map (·.1)).Nodup):(ups.map (·.1)).Nodup:=by
 induction h with
 |nil=>simp
 | @snoc ws ups to wt hs sp hu h0 h1 _ _ _ _ ih=>
  rw[Fd,GU] at nd
  rw[Fd,GU]
  refine⟨ih nd.1,zh5 ((zcO hf).1 _ _ h1),λa ha b hb e=> ?_⟩
  subst e
  obtain⟨p,hp,rfl⟩:=Ez.1 ha
  obtain⟨q,hq,e⟩:=Ez.1 hb
  obtain⟨w,hw,gs,w0,g1,g2⟩:=hu.from p hp
  have h2:=(UE hq).1
  rw[e] at h2
  have:=(zcO hf).2 _ _ _ _ _ g1 h1 g2 h2
  refine nd.2.2 w.1 (Ez.2 ⟨w,hw,rfl⟩) to (by simp) ⋯
theorem zgn {α β:Type} {l:List (α×β)} (h:(l.map (·.1)).Nodup):l.Nodup:=(Fh.1 h).imp λh e=>h (by rw[e])
end
section
variable {fu:Nat} {S S':Sto} {x y:Xv} {ns:List Int}
theorem zdU {c:Int} {aq:List (List Int)} (ho:zgl ns c aq):aq.flatten.Nodup:=by
 have h:=ho.flat
 generalize aq.flatten=l at h
 rw[h,Gf,Fh]
 refine FT (λ{a b} ha hb b6 e=>b6 ?_) Hu
 have h1:=Fx.1 ha
 have h2:=Fx.1 hb
 have:=zdR (ns:=ns) (c:=(l.length:Int)) (p:=(a:Int)) (q:=(b:Int)) ⋯ ⋯ ⋯ ⋯ ⋯ e
 omega
structure zeN (c:Int) (ws:List (Int×Int)):Prop where
 nd:(ws.map (·.1)).Nodup
 wt:∀p∈ws,(0<=p.1/\p.1<c)/\0<p.2/\p.2<=270
theorem zeN.len {c:Int} {ws:List (Int×Int)} (h:zeN c ws) (h0:0<=c):(ws.length:Int)<=c:=by
 have:=zaP c.toNat (ws.map (·.1)) h.nd λx hx=>by
  obtain⟨p,hp,rfl⟩:=Ez.1 hx
  have:=(h.wt p hp).1
  omega
 rw[Eu] at this
 omega
noncomputable def Vs (ws:List (Int×Int)):Int:=(ws.map (·.2)).sum
theorem zfx {c:Int} {ws:List (Int×Int)} (h:zeN c ws) (h0:0<=c) (h4:c<=4):0<=Vs ws/\Vs ws<=1080/\∀p∈ws,p.2<=Vs ws:=by
 have h1:=zaR (l:=ws.map (·.2)) (b:=270) λw hw=>by
  obtain⟨p,hp,rfl⟩:=Ez.1 hw
  have:=(h.wt p hp).2
  omega
 rw[Eu] at h1
 have h2:=h.len h0
 refine⟨h1.1,by unfold Vs;omega,λp hp=> ?_⟩
 have key:∀(l:List Int),(∀w∈l,0<=w)->∀w∈l,w<=l.sum:=by
  intro l
  induction l with
  |nil=>intro _ w hw;cases hw
  |cons a r ih=>
   intro hl w hw
   have ha:=hl a (by simp)
   have hr:0<=r.sum:=by
    cases r with
    |nil=>simp
    |cons b r2=>have h5:=ih (λw hw=>hl w (by simp[hw])) b (by simp);have:=hl b (by simp);omega
   rw[FK]
   rcases EJ.1 hw with rfl|hw
   ·omega
   ·have:=ih (λw hw=>hl w (by simp[hw])) w hw
    omega
 exact key _ (λw hw=>by
  obtain⟨p,hp,rfl⟩:=Ez.1 hw
  have:=(h.wt p hp).2
  omega) _ (Ez.2 ⟨p,hp,rfl⟩)
theorem zlm {c:Int} {ws:List (Int×Int)} (h:zeN c ws) {p:Int×Int} (hp:p∈ws):xi (wX ws) (.inl p.1)=some (.int p.2):=by
 have nd:=h.nd
 clear h
 induction ws with
 |nil=>cases hp
 |cons a r ih=>
  rw[Ey,FO] at nd
  unfold wX xi at ih ⊢
  rw[Ey,Fg]
  rcases EJ.1 hp with rfl|hp
  ·simp
  ·have:a.1≠p.1:=λe=>nd.1 (Ez.2 ⟨p,hp,e.symm⟩)
   have hd:decide ((Ft a.1:Key)=Ft p.1)=false:=decide_eq_false λe=>this (by injection e)
   dsimp only
   rw[hd]
   exact ih hp nd.2
theorem zjo {ws:List (Int×Int)}:zdN (wX ws)=(ws.map (·.1)).map Xv.int:=by
 unfold zdN wX
 rw[Fj,Fj]
 rfl
theorem zjp {ws:List (Int×Int)}:Ym ((wX ws).map (·.2))=some (ws.map (·.2)):=by
 have:(wX ws).map (·.2)=(ws.map (·.2)).map Xv.int:=by
  unfold wX
  rw[Fj,Fj]
  rfl
 rw[this,Uo]
theorem zh6 {hs sp:List Int} {j:Nat} {a b:Int} (h1:hs[j]? =some a) (h2:sp[j]? =some b):(hs.zip sp)[j]? =some (a,b):=by
 rw[List.getElem?_zip_eq_some]
 exact⟨h1,h2⟩
theorem zjq (bB:Big fu) {c node:Int} {wn:Nat} {ws:List (Int×Int)} {aq:List (List Int)} (hs:L2.zv S (.ref 0)=some (ns.map Xv.int)) (hw:L2.wb S (.ref wn)=some (wn,wX ws)) (hok:zeN c ws) (hh:LAt vY S y aq) (ho:zgl ns c aq) (h0:0<=c) (h4:c<=4) (ki:0<=node):
  W (xC fu [.ref 0,.int node,.ref wn,y] S) λv S'=>∃(m:Nat) (ps ups:List (Int×Q2)),v= .ref m/\S.length<=m/\S'[m]? =some (.lst (ps.map ptX))/\Ups aq (Vs ws) ws ups/\ps.Perm ups/\Fz S S':=by
 have iW:=hok.len h0
 obtain⟨s0,s1,s2⟩:=zfx hok h0 h4
 walk_at "wr";unfold YJ
 walk_at "z"
 have f1:Fz S (S++[Ce.lst []]):=Fz.refl.app
 have a1:(S++[Ce.lst []])[S.length]? =some (.lst []):=yU
 generalize S++[Ce.lst []]=S1 at f1 a1 ⊢
 refine zg8 (f1.drAt hw) zjp ?_
 show WS _ _ _
 walk_at "z"
 refine xz (zhP ?_)
 walk_at "z"
 refine⟨wn,wX ws,f1.drAt hw,?_⟩
 have f2:=f1.trans (Fz.freeze (f1.drAt hw))
 have cC:wn<S.length:=by
  simp only[L2.wb] at hw
  cases e:S[wn]? with
  |none=>rw[e] at hw;cases hw
  |some cc=>exact (Es.1 e).1
 have b1:(S1.set wn (.fdk (wX ws)))[wn]? =some (.fdk (wX ws)):=by
  rw[EV,if_pos rfl,if_pos (F6 cC f1.1)]
 have a2:(S1.set wn (.fdk (wX ws)))[S.length]? =some (.lst []):=yV a1 ⋯
 generalize S1.set wn (.fdk (wX ws))=S2 at f2 b1 a2 ⊢
 clear a1 f1
 have uB:∀S3:Sto,S3[wn]? =some (.fdk (wX ws))->zhM wn S3=some ((ws.map (·.1)).map Xv.int):=λS3 e=>by
  unfold zhM
  rw[e,<-zjo]
 refine⟨_,uB _ b1,?_⟩
 refine yF (xs:=(ws.map (·.1)).map Xv.int) (λi ρ S3=>∃a6 a7 a8 a9 ups,ρ=[some (.ref 0),some (.int node),some (.ref wn),some y,some (.ref S.length),some (.int (Vs ws)),a6,a7,a8,a9]/\S3[S.length]? =some (.lst (ups.map ptX))/\S3[wn]? =some (.fdk (wX ws))/\Fz S S3/\Ups aq (Vs ws) (ws.take i) ups) ?_ ?_ ?_ ?_
 ·rintro i ρ S3 _ ⟨_,_,_,_,_,_,_,e,_⟩
  exact uB _ e
 ·rintro i w ρ S3 hx ⟨a6,a7,a8,a9,ups,rfl,e3,b3,f3,hu⟩
  obtain⟨to,D2,rfl⟩:=wm hx
  obtain⟨p,ep,rfl⟩:=wm D2
  have hp:=EA ep
  obtain⟨⟨t0,t1⟩,w0,w1⟩:=hok.wt p hp
  have Bp:=s2 p hp
  have hi:i<ws.length:=(Es.1 ep).1
  have fT:=hu.len
  rw[FD] at fT
  refine .of rfl ?_
  dsimp only[F7]
  obtain⟨l,el,Em,fy⟩:=hh
  have pV:p.1.toNat<aq.length:=by have:=ho.len;omega
  obtain⟨z,ez,hz⟩:=fy _ _ (Er pV)
  have gP:=Er pV
  have iI:=ho.each _ (EK pV)
  generalize aq[p.1.toNat]=fH at hz gP iI
  walk_at "z"
  refine yB (f3.lstAt el) (wk t0 ez) ?_
  walk_at "z"
  refine YB (f3.lstAt hz) ?_
  walk_at "z"
  rw[Eu]
  refine (zjm (f3.lstAt hs) ki t0 ⋯ ⋯).imp ?_
  rintro _ S4 ⟨sn,sp,rfl,u3,rh,DL,sA,jP,f4⟩
  have e4:=f4.lst e3
  have f5:=f3.trans f4
  have b4:S4[wn]? =some (.fdk (wX ws)):=by
   rcases f4.2 _ _ b3 with h|⟨_,h,_⟩
   ·exact h
   ·cases h
  have Bq:S.length<sn:=by have:=(Es.1 e3).1;omega
  clear e3 f3 b3
  walk_at "z"
  refine xz (zaq ?_)
  walk_at "z"
  refine⟨_,zp rh,wV (sp.map Xv.int),by dsimp only;rw[zp rh];rfl,?_⟩
  refine yF (xs:=wV (sp.map Xv.int)) (λj ρ S5=>∃a8 a9,ρ=[some (.ref 0),some (.int node),some (.ref wn),some y,some (.ref S.length),some (.int (Vs ws)),some (.int p.1),some (.ref sn),a8,a9]/\S5[S.length]? =some (.lst ((ups++((((fH.zip sp).take j).filter λz=>decide (0<z.2)).map λz=>(z.1,Tj (p.2*z.2) (Vs ws*sp.sum)))).map ptX))/\S5[wn]? =some (.fdk (wX ws))/\S5[sn]? =some (.lst (sp.map Xv.int))/\Fz S S5) ?_ ?_ ?_ ?_
  ·rintro j ρ S5 _ ⟨_,_,_,_,_,e,_⟩
   show (L2.zv S5 (.ref sn)).map wV=_
   rw[zp e]
   rfl
  ·rintro j w ρ S5 hx ⟨a8,a9,rfl,e5,b5,c5,f6⟩
   obtain⟨q,eq,rfl⟩:=YX hx
   obtain⟨wv,rg,rfl⟩:=wm eq
   have DX:=sA wv (EA rg)
   have hj:j<fH.length:=by have:=(Es.1 rg).1;omega
   have CV:=zh6 (Er hj) rg
   refine .of rfl ?_
   dsimp only[F7]
   refine xR ?_
   walk_at "z"
   rw[yf CV,List.filter_append]
   refine Zk (λdm=> ?_) (λdm=> ?_)
   ·have hd:([(fH[j],wv)].filter λz:Int×Int=>decide (0<z.2))=[(fH[j],wv)]:=by simp[dm]
    rw[hd]
    walk_at "z"
    refine Xb ?_
    walk_at "z"
    refine⟨⟨_,zp e5⟩,?_⟩
    walk_at "z"
    refine yB (f6.lstAt el) (wk t0 ez) ?_
    walk_at "z"
    refine yB (f6.lstAt hz) (wk (k:=(j:Int)) ⋯ (by rw[Fw,EB,Er hj];rfl)) ?_
    refine vk (VM (vk (US (zan ?_))))
    walk_at "z"
    refine⟨wn,wX ws,.inl p.1,.int p.2,ziS b5,rfl,zlm hok hp,?_⟩
    walk_at "z"
    refine vn (VZ ⋯ ⋯) ?_
    walk_at "z"
    refine Ua (zp c5) ?_
    have gI:=zaR sA
    refine vn (VZ ⋯ ⋯) ?_
    walk_at "z"
    have hb:0<Vs ws*sp.sum:=Hd ⋯ jP
    have uK:Vs ws*sp.sum<=1080*9:=Ip (G0 s1 ⋯) (Gs ⋯ ∅)
    refine W.eqs (zcK bB (Ho ⋯ ⋯) hb (zfu 10000 ⋯ ⋯ (EW (show 10000<=2^14 by decide) (GH ∅ ∅)))) ?_
    walk_at "z"
    refine xN (ww e5) (Zv ?_) ?_
    ·rw[Eu,ER,Eu]
     have h1:(((fH.zip sp).take j).filter λz=>decide (0<z.2)).length<=j:=EW (J1 ..) (by rw[FD];omega)
     omega
    refine⟨_,_,rfl,?_,yV b5 ⋯,yV c5 ⋯,f6.set (EE _)⟩
    rw[Zl e5]
    simp only[Fd,GD,Ey,GV]
    rfl
   ·have hd:([(fH[j],wv)].filter λz:Int×Int=>decide (0<z.2))=[]:=by simp;omega
    rw[hd,Gz]
    walk_at "z"
    exact⟨_,_,rfl,e5,b5,c5,f6⟩
  ·refine⟨_,_,rfl,?_,b4,rh,f5⟩
   rw[e4]
   simp
  ·rintro ρ S5 ⟨a8,a9,rfl,e5,b5,c5,f6⟩
   have qp:(wV (sp.map Xv.int)).length=(fH.zip sp).length:=by rw[YY,Eu,JL];omega
   rw[qp,F9] at e5
   refine⟨_,_,_,_,_,rfl,e5,b5,f6,?_⟩
   rw[yf ep]
   exact .snoc hu t0 gP ⋯ iI.2 sA jP
 ·exact⟨_,_,_,_,[],rfl,a2,b1,f2,.nil⟩
 ·rintro ρ S3 ⟨a6,a7,a8,a9,ups,rfl,e3,b3,f3,hu⟩
  rw[Eu,Eu,F9] at hu
  walk_at "z"
  have fT:=hu.len
  have nd:=zgn (hu.nd (zdU ho) hok.nd)
  obtain⟨ps,Bx,jE⟩:=zeM nd
  have jB:(ups.map ptK).Nodup:=by
   rw[Gf,Fh]
   exact nd.imp λh e=>h (zcN e)
  refine zhL (ks:=ups.map ptK) (by
   rw[zp e3,Fj]
   first|rfl|(congr 1;exact FL λp _=>(zfw p).symm)) (by rw[Eu];omega) zh4 jB ?_
  rw[jE]
  exact⟨_,ps,ups,rfl,f3.1,yU,hu,Bx,f3.app⟩
end
section
variable {fu:Nat} {S S':Sto} {x y:Xv} {ns:List Int}
abbrev Ch:=Q2×List (Int×Q2)
def xa (S:Sto) (z:Xv) (c:Ch):Prop:=∃m,z= .tup [qv c.1,.ref m]/\L2.zv S (.ref m)=some (c.2.map ptX)
theorem xa.mono {S S':Sto} {z:Xv} {c:Ch} (p:Le S S') (a:xa S z c):xa S' z c:=by
 obtain⟨m,e1,e2⟩:=a
 exact⟨m,e1,p.1 _ _ e2⟩
theorem zjr {n:Nat} {zs:List Xv} {chs:List Ch} (o:Zz xa S n zs chs) (p:Fz S S'):Zz xa S' n zs chs:=Zz.mono (R:=xa) (λq h=>xa.mono q h) p o
theorem ChsAt.mono {chs:List Ch} (p:Le S S') (h:LAt xa S x chs):LAt xa S' x chs:=LAt.mono (λ_ _ h=>xa.mono p h) p h
def vU (aq:List (List Int)) (s:WK) (ch:Ch):Prop:=ch.1=s.2.1/\∃ups,Ups aq (Vs s.2.2) s.2.2 ups/\ch.2.Perm ups
structure zmA (aq:List (List Int)) (b:List WK) (chs:List Ch):Prop where
 sub:∀ch∈chs,∃s∈b,vU aq s ch
 all:∀s∈b,∃ch∈chs,vU aq s ch
 few:chs.length<=4
theorem zln {ρ:Rho} {i j:Nat} {a b:Xv} {N:Rho->Sto->Prop} (h:L2.zv S x=some [a,b]) (k:N ((ρ.set i (some a)).set j (some b)) S):W (gL 2 (zZ (gN i) (zZ (gN j) vB)) x ρ S) N:= .of (by
 unfold gL
 rw[h,EC]
 rfl) k
theorem zaU:∀{kvs:List (Key×Xv)} {l:List Int},kvs.map (·.1)=l.map Ft->vN kvs=some l
 |[],[],_=>rfl
 |[],_::_,h=>by simp at h
 |_::_,[],h=>by simp at h
 |(k,v)::r,i::l,h=>by
  rw[Ey,Ey] at h
  injection h with h1 h2
  have h1:k= .inl i:=h1
  subst h1
  unfold vN
  rw[zaU h2]
  rfl
theorem zh7:∀{kvs:List (Key×Xv)} {kv:Key×Xv},(kvs.map (·.1)).Nodup->kv∈kvs->xi kvs kv.1=some kv.2
 |a::r,kv,nd,h=>by
  rw[Ey,FO] at nd
  unfold xi
  rw[Fg]
  rcases EJ.1 h with rfl|h
  ·simp
  ·have:a.1≠kv.1:=λe=>nd.1 (Ez.2 ⟨kv,h,e.symm⟩)
   rw[decide_eq_false this]
   exact zh7 nd.2 h
theorem zlo {l:List Int} {kvs:List (Key×Xv)} (h:l.Nodup) (e:kvs.map (·.1)=l.map Ft):(kvs.map (·.1)).Nodup:=by
 rw[e,Gf,Fh]
 exact h.imp λh z=>h (by injection z)
end
section
variable {fu:Nat} {S S' S2:Sto} {dd:Int} {x y:Xv}
structure SH (dd:Int) (q:Q2):Prop where
 ok:QOk dd 1 q
 vp:0<val q
noncomputable def Xi (kvs:List (Int×Q2)) (i:Int):Option Q2:=(kvs.find? λp=>decide (p.1=i)).map (·.2)
noncomputable def zbp (kvs:List (Int×Q2)) (i:Int) (q:Q2):List (Int×Q2):=if (Xi kvs i).isSome=true then kvs.map (λp=>if p.1=i then (p.1,q) else p) else kvs++[(i,q)]
noncomputable def ZB (kvs:List (Int×Q2)):List (Key×Xv):=kvs.map λp=>(.inl p.1,qv p.2)
theorem Xj:∀{kvs:List (Int×Q2)} {i:Int},xi (ZB kvs) (.inl i)=(Xi kvs i).map qv
 |[],_=>rfl
 |(m,q)::r,i=>by
  have ih:=Xj (kvs:=r) (i:=i)
  unfold xi Xi ZB at ih ⊢
  rw[Ey,Fg,Fg]
  by_cases e:m=i
  ·subst e;simp
  ·have d1:decide ((Ft m:Key)=Ft i)=false:=decide_eq_false λz=>e (by injection z)
   have d2:decide (m=i)=false:=decide_eq_false e
   dsimp only
   rw[d1,d2]
   exact ih
theorem zfy {κ:Type} [DecidableEq κ] {β:Type} {l:List (κ×β)} {k:κ}:(l.any λp=>decide (p.1=k))=((l.find? λp=>decide (p.1=k)).map (·.2)).isSome:=by
 induction l with
 |nil=>rfl
 |cons p r ih=>
  rw[Hb,Fg]
  cases h:decide (p.1=k) with
  |true=>rfl
  |false=>rw[JP,ih]
theorem zdV {kvs:List (Int×Q2)} {i:Int} {q:Q2}:XM (ZB kvs) (.inl i) (qv q)=ZB (zbp kvs i q):=by
 unfold XM zbp
 rw[zfy]
 have:=Xj (kvs:=kvs) (i:=i)
 unfold xi at this
 rw[this,GC]
 split
 ·unfold ZB
  rw[Fj,Fj]
  refine FL λp hp=> ?_
  dsimp only[HV]
  by_cases e:p.1=i
  ·rw[if_pos e,if_pos (by rw[e])]
  ·rw[if_neg e,if_neg λz=>e (by injection z)]
 ·unfold ZB
  rw[Fd];rfl
theorem zaV {kvs:List (Int×Q2)} {i:Int} {q:Q2} (h:Xi kvs i=some q):(i,q)∈kvs:=by
 unfold Xi at h
 obtain⟨p,h1,h2⟩:=F8.1 h
 have:=JK h1
 have e:p.1=i:=by simpa using this
 rw[<-e,<-h2]
 exact Ii h1
theorem Ws {kvs:List (Int×Q2)} {i:Int} (h:i∈kvs.map (·.1)):∃q,Xi kvs i=some q:=by
 obtain⟨p,hp,e⟩:=Ez.1 h
 unfold Xi
 cases h2:kvs.find? λp=>decide (p.1=i) with
 |none=>exact absurd (decide_eq_true e) (Hk.1 h2 p hp)
 |some q=>exact⟨_,rfl⟩
theorem zgo (kvs:List (Int×Q2)) (i:Int) (q:Q2):(i∈kvs.map (·.1)/\(zbp kvs i q).map (·.1)=kvs.map (·.1))\/(i∉kvs.map (·.1)/\(zbp kvs i q).map (·.1)=kvs.map (·.1)++[i]):=by
 unfold zbp
 split
 ·rename_i h
  obtain⟨z,e⟩:=G2.1 h
  refine .inl ⟨Ez.2 ⟨_,zaV e,rfl⟩,?_⟩
  rw[Fj]
  refine FL λp _=> ?_
  dsimp only[HV]
  split<;>rfl
 ·rename_i h
  refine .inr ⟨λz=>h ?_,by simp⟩
  obtain⟨q',e⟩:=Ws z
  rw[e]
  rfl
theorem zdW {kvs:List (Int×Q2)} {i:Int} {q:Q2} {p:Int×Q2} (hp:p∈zbp kvs i q):(p.1≠i/\p∈kvs)\/p=(i,q):=by
 unfold zbp at hp
 split at hp
 ·obtain⟨r,hr,rfl⟩:=Ez.1 hp
  by_cases e:r.1=i
  ·rw[if_pos e]
   right
   rw[e]
  ·rw[if_neg e]
   exact .inl ⟨e,hr⟩
 ·rename_i hn
  rcases Ff.1 hp with hp|hp
  ·refine .inl ⟨λe=>hn ?_,hp⟩
   obtain⟨q',e2⟩:=Ws (kvs:=kvs) (i:=i) (Ez.2 ⟨p,hp,e⟩)
   rw[e2]
   rfl
  ·rw[EZ] at hp
   exact .inr hp
noncomputable def zaW (ps:List (Int×Q2)) (i:Int):Rat:=(ps.map λp=>if p.1=i then val p.2 else 0).sum
noncomputable def xQ (ps:List (Int×Q2)):List (Int×Q2):=ps.foldl (λkvs p=>zbp kvs p.1 (zcJ ((Xi kvs p.1).getD (0,1)) p.2)) []
theorem ZX (ps:List (Int×Q2)) (p:Int×Q2):xQ (ps++[p])=zbp (xQ ps) p.1 (zcJ ((Xi (xQ ps) p.1).getD (0,1)) p.2):=by
 unfold xQ
 rw[Ie]
 rfl
theorem zgp (ps:List (Int×Q2)) (p:Int×Q2) (i:Int):zaW (ps++[p]) i=zaW ps i+if p.1=i then val p.2 else 0:=by
 unfold zaW
 rw[Fd,IE]
 simp[Rat.add_zero]
theorem zgq {ps:List (Int×Q2)} {i:Int} (h:i∉ps.map (·.1)):zaW ps i=0:=by
 induction ps with
 |nil=>rfl
 |cons p r ih=>
  rw[Ey,EJ] at h
  unfold zaW at ih ⊢
  rw[Ey,FK,if_neg (λe=>h (.inl e.symm)),Rat.zero_add]
  exact ih λe=>h (.inr e)
theorem zfz {ps:List (Int×Q2)} (h:∀p∈ps,0<val p.2) (i:Int):0<=zaW ps i:=by
 induction ps with
 |nil=>exact Rat.le_refl
 |cons p r ih=>
  have:=ih λq hq=>h q (ED _ hq)
  unfold zaW at this ⊢
  rw[Ey,FK]
  have h0:=h p (EG ..)
  split<;>grind
theorem zh8 {ps:List (Int×Q2)} (h:∀p∈ps,0<val p.2) {i:Int} (hi:i∈ps.map (·.1)):0<zaW ps i:=by
 induction ps with
 |nil=>cases hi
 |cons p r ih=>
  have h0:=h p (EG ..)
  have hr:=zfz (ps:=r) (λq hq=>h q (ED _ hq)) i
  unfold zaW at ih hr ⊢
  rw[Ey,FK]
  by_cases e:p.1=i
  ·rw[if_pos e];grind
  ·rw[if_neg e,Rat.zero_add]
   refine ih (λq hq=>h q (ED _ hq)) ?_
   rw[Ey,EJ] at hi
   rcases hi with hi|hi
   ·exact (e hi.symm).elim
   ·exact hi
theorem zaX:val (0,1)=0:=by
 unfold val
 rw[Ht]
 show ((0:Int):Rat)*_=0
 rw[Rat.intCast_zero,Rat.zero_mul]
structure GI (dd:Int) (ps:List (Int×Q2)):Prop where
 nd:((xQ ps).map (·.1)).Nodup
 ok:∀p∈xQ ps,QOk dd (ps.length:Int) p.2
 vl:∀p∈xQ ps,val p.2=zaW ps p.1
 ks:∀i,i∈(xQ ps).map (·.1)↔i∈ps.map (·.1)
theorem GI.get {ps:List (Int×Q2)} (t:GI dd ps) (i:Int):QOk dd (ps.length:Int) ((Xi (xQ ps) i).getD (0,1))/\val ((Xi (xQ ps) i).getD (0,1))=zaW ps i:=by
 cases e:Xi (xQ ps) i with
 |none=>
  refine⟨QOk.nil.mono ⋯,?_⟩
  rw[Il,zaX,zgq λh=> ?_]
  obtain⟨q,e2⟩:=Ws ((t.ks i).2 h)
  rw[e] at e2
  cases e2
 |some q=>
  have:=zaV e
  exact⟨t.ok _ this,t.vl _ this⟩
theorem zjs {ps:List (Int×Q2)} {p:Int×Q2} (t:GI dd ps) (hp:SH dd p.2):GI dd (ps++[p]):=by
 obtain⟨g1,g2⟩:=t.get p.1
 have hk:=zgo (xQ ps) p.1 (zcJ ((Xi (xQ ps) p.1).getD (0,1)) p.2)
 refine⟨?_,λr hr=> ?_,λr hr=> ?_,λi=> ?_⟩
 ·rw[ZX]
  rcases hk with⟨_,e⟩|⟨hn,e⟩
  ·rw[e];exact t.nd
  ·rw[e]
   exact GU.2 ⟨t.nd,by simp,λa ha b hb=>by simp at hb;subst hb;exact λz=>hn (z ▸ ha)⟩
 ·rw[ZX] at hr
  rw[ER,IJ]
  rcases zdW hr with⟨_,hr⟩|rfl
  ·exact (t.ok r hr).mono (by simp;omega)
  ·exact zlh g1 hp.ok
 ·rw[ZX] at hr
  rw[zgp]
  rcases zdW hr with⟨ne,hr⟩|rfl
  ·rw[if_neg (λz=>ne z.symm),Rat.add_zero]
   exact t.vl r hr
  ·rw[if_pos rfl,zji g1.pos hp.ok.pos,g2]
 ·rw[ZX,Fd,Ff,Ey,GV,EZ]
  rcases hk with⟨h1,e⟩|⟨hn,e⟩
  ·rw[e,t.ks]
   exact⟨.inl,λh=>h.elim id λz=>z ▸ (t.ks _).1 h1⟩
  ·rw[e,Ff,t.ks,EZ]
theorem zlp:GI dd []:=⟨J0,(λp hp=>by cases hp),(λp hp=>by cases hp),λi=>Iff.rfl⟩
theorem XE {ps:List (Int×Q2)} (h:∀p∈ps,SH dd p.2):∀i,GI dd (ps.take i)
 |0=>zlp
 |i+1=>by
  cases e:ps[i]? with
  |none=>
   have hl:=Gj.1 e
   have:=XE h i
   rw[Ge hl] at this
   rw[Ge ⋯]
   exact this
  |some p=>
   rw[yf e]
   exact zjs (XE h i) (h p (EA e))
theorem zeO {ps:List (Int×Q2)} (h:∀p∈ps,SH dd p.2):GI dd ps:=by
 have:=XE h ps.length
 rwa [F9] at this
noncomputable def zgr (ps:List (Int×Q2)) (i:Int):Int×Q2:=(i,(Xi (xQ ps) i).getD (0,1))
noncomputable def WY (ps:List (Int×Q2)):List (Int×Q2):=(yX ((xQ ps).map (·.1))).map (zgr ps)
theorem zmg (a b:Q2):eqG 40 (.tup [.int a.1,.int a.2]) (.tup [.int b.1,.int b.2])=some (decide (a=b)):=by
 have h:=Ux (n:=39) [a.1,a.2] [b.1,b.2] rfl
 show (vX (eqG 39) [.int a.1,.int a.2] [.int b.1,.int b.2]).map (· &&true)=_
 rw[show vX (eqG 39) [.int a.1,.int a.2] [.int b.1,.int b.2]=_ from h]
 rw[FZ,Bool.and_true]
 congr 1
 obtain⟨a1,a2⟩:=a
 obtain⟨b1,b2⟩:=b
 simp
theorem UY (kvs:List (Int×Q2)):vN (ZB kvs)=some (kvs.map (·.1)):=zaU (by unfold ZB;rw[Fj,Fj];rfl)
theorem zjt (bB:Big fu) (hd:0<dd) (gR:wA 4000 dd) {ps:List (Int×Q2)} {n:Nat} (h:∀p∈ps,SH dd p.2) (hl:ps.length<64) (e:S[n]? =some (.lst (ps.map ptX))):
  W (Wo fu [.ref n] S) λv S'=>∃m,v= .ref m/\S.length<=m/\S'[m]? =some (.lst ((WY ps).map ptX))/\Fz S S':=by
 have kF:∀i,(xQ (ps.take i)).length<=ps.length:=λi=>by
  have t:=XE h i
  have:=t.nd.length_le_of_subset (l₂:=(ps.take i).map (·.1)) λl hl=>(t.ks l).1 hl
  rw[Eu,Eu,FD] at this
  omega
 walk_at "wr";unfold Wn
 nofun
 refine xz (vc ?_)
 nofun
 have f1:Fz S (S++[Ce.dk []]):=Fz.refl.app
 refine⟨_,zp (f1.lst e),_,zp (f1.lst e),?_⟩
 refine yF (xs:=ps.map ptX) (λi ρ S2=>∃(a2 a3:Option Xv),ρ=[some (.ref n),some (.ref S.length),a2,a3]/\S2[S.length]? =some (.dk (ZB (xQ (ps.take i))))/\Fz S S2) ?_ ?_ ?_ ?_
 ·rintro i ρ S2 _ ⟨_,_,_,_,k2⟩
  exact zp (k2.lst e)
 ·rintro i w ρ S2 hw ⟨a2,a3,rfl,c2,k2⟩
  obtain⟨p,ep,rfl⟩:=wm hw
  have hi:i<ps.length:=(Es.1 ep).1
  have hp:=h p (EA ep)
  obtain⟨g1,g2⟩:=(XE h i).get p.1
  rw[FD] at g1
  refine .of rfl ?_
  dsimp only[F7]
  refine To ?_
  nofun
  refine zao ?_
  nofun
  refine⟨⟨_,yL c2⟩,?_⟩
  nofun
  refine⟨_,_,.inl p.1,yL c2,rfl,?_⟩
  nofun
  rw[Xj]
  have Bu:QX (((Xi (xQ (ps.take i)) p.1).map qv).getD (.ct [.int 0,.int 1])) ((Xi (xQ (ps.take i)) p.1).getD (0,1)):=by
   cases Xi (xQ (ps.take i)) p.1 with
   |none=>rfl
   |some q=>rfl
  refine W.eqs (zli bB Bu (QX.qv _) g1 hp.ok hd gR ⟨⋯,⋯⟩ ∅) ?_
  nofun
  refine⟨S.length,ZB (xQ (ps.take i)),.inl p.1,yL c2,rfl,?_,?_⟩
  ·unfold ZB
   rw[Eu]
   exact Zv (by have:=kF i;omega)
  refine⟨_,_,rfl,?_,k2.set (EE _)⟩
  rw[Zl c2,zdV,yf ep,ZX]
 ·exact⟨none,none,rfl,yU,f1⟩
 ·rintro ρ S2 ⟨a2,a3,rfl,c2,k2⟩
  rw[Eu,F9] at c2
  have t:=zeO h
  have qE:=kF ps.length
  rw[F9] at qE
  refine Xq (wc (vc ?_))
  nofun
  refine zg7 (yL c2) (UY _) (by rw[Eu];omega) ?_
  refine⟨_,yu,_,yu,?_⟩
  have f3:=Fz.refl.app (S:=S2) (T:=[Ce.lst ((yX ((xQ ps).map (·.1))).map Xv.int)])
  have c3:(S2++[Ce.lst ((yX ((xQ ps).map (·.1))).map Xv.int)])[S.length]? =some (.dk (ZB (xQ ps))):=by
   rw[Ex (Es.1 c2).1]
   exact c2
  have e3:=yU (S:=S2) (c:=Ce.lst ((yX ((xQ ps).map (·.1))).map Xv.int))
  have k3:=k2.trans f3
  generalize S2++[Ce.lst ((yX ((xQ ps).map (·.1))).map Xv.int)]=S3 at c3 e3 k3 ⊢
  have hlen:(yX ((xQ ps).map (·.1))).length=(xQ ps).length:=by rw[YT,Eu]
  refine xq (xs:=(yX ((xQ ps).map (·.1))).map Xv.int) (by rw[Eu,hlen];exact Fc (Zv ⋯)) (λi es S4=>S4=S3/\es=(((yX ((xQ ps).map (·.1))).take i).map (zgr ps)).map ptX) ?_ ?_ ⟨rfl,rfl⟩ ?_
  ·rintro i es _ _ ⟨rfl,_⟩
   exact zp e3
  ·rintro i w es _ hw fy ⟨rfl,rfl⟩
   obtain⟨k,ek,rfl⟩:=wm hw
   have aC:k∈(xQ ps).map (·.1):=(Zc _).mem_iff.1 (EA ek)
   obtain⟨q,eq⟩:=Ws aC
   have tW:=t.vl _ (zaV eq)
   have tV:xi (ZB (xQ ps)) (Ft k)=some (qv q):=by rw[Xj,eq];rfl
   refine .of rfl ?_
   dsimp only[Yz,Gp,F7]
   refine ze9 (US (zcl ?_))
   nofun
   refine⟨_,_,.inl k,qv q,yL c3,rfl,tV,?_⟩
   nofun
   refine zaF (d:= .tup [.int q.1,.int q.2]) (e:= .tup [.int 0,.int 1]) rfl rfl rfl (zmg q (0,1)) ?_
   have q8:q≠(0,1):=λz=>by
    rw[z] at tW
    have:=zh8 (λp hp=>(h p hp).vp) ((t.ks k).1 aC)
    rw[<-tW,zaX] at this
    exact absurd this ∅
   rw[decide_eq_false q8]
   refine⟨_,rfl,rfl,?_⟩
   refine zen (vk ?_)
   nofun
   refine zcl ?_
   nofun
   refine⟨_,_,.inl k,qv q,yL c3,rfl,tV,?_⟩
   nofun
   refine⟨rfl,?_⟩
   rw[yf ek,Fd,Fd]
   show _++[Xv.tup [.int k,qv q]]=_++[ptX (zgr ps k)]
   unfold zgr
   rw[eq]
   rfl
  ·rintro es _ _ ⟨rfl,rfl⟩
   rw[Eu,F9]
   exact⟨_,rfl,k3.1,yU,k3.app⟩
end
section
variable {fu:Nat} {S S' S2:Sto} {dd:Int} {x y:Xv}
noncomputable def Xk (cls:List Int) (i:Int):Int:=cls.getD i.toNat 0
noncomputable def byC (cls:List Int) (ps:List (Int×Q2)):List (Int×Q2):=ps.map λp=>(Xk cls p.1,p.2)
noncomputable def byK (cls:List Int) (c:Ch):NK:= .tup [nq c.1,.tup ((WY (byC cls c.2)).map ptK)]
structure zbq (n:Nat) (c:Ch):Prop where
 dd:∃dd:Int,0<dd/\wA 4000 dd/\∀p∈c.2,SH dd p.2
 rng:∀p∈c.2,0<=p.1/\p.1<n
 few:c.2.length<64
theorem zh9 (bB:Big fu) {cls:List Int} {c:Ch} {pn cn:Nat} (ok:zbq cls.length c) (e:L2.zv S (.ref pn)=some (c.2.map ptX)) (ec:L2.zv S (.ref cn)=some (cls.map Xv.int)):
  W (Yi fu [.ref pn,.ref cn] S) λv S'=>∃m,v= .ref m/\S.length<=m/\S'[m]? =some (.lst ((WY (byC cls c.2)).map ptX))/\Fz S S':=by
 obtain⟨dd,d0,d1,d2⟩:=ok.dd
 have hf:=ok.few
 walk_at "wr";unfold Yh
 refine Xq (VM (vk (wc (vc ?_))))
 nofun
 refine⟨_,e,_,e,?_⟩
 refine xq (xs:=c.2.map ptX) (by rw[Eu];exact Fc (Zv ⋯)) (λi es S2=>S=S2/\es=((byC cls c.2).take i).map ptX) ?_ ?_ ⟨rfl,rfl⟩ ?_
 ·rintro i es _ _ ⟨rfl,_⟩
  exact e
 ·rintro i w es _ hw fy ⟨rfl,rfl⟩
  obtain⟨p,ep,rfl⟩:=wm hw
  obtain⟨p0,p1⟩:=ok.rng p (EA ep)
  have cC:p.1.toNat<cls.length:=by omega
  refine .of rfl ?_
  dsimp only[Yz,Gp,F7]
  nofun
  refine⟨rfl,?_⟩
  nofun
  refine yB ec (wk p0 (by rw[EB,Er cC];rfl)) ?_
  nofun
  refine⟨rfl,?_⟩
  have eb:(byC cls c.2)[i]? =some (Xk cls p.1,p.2):=by unfold byC;rw[EB,ep];rfl
  rw[yf eb,Fd]
  show _=_++[Xv.tup [.int (Xk cls p.1),qv p.2]]
  unfold Xk
  rw[Ew,Er cC]
  rfl
 rintro es _ eD ⟨rfl,rfl⟩
 rw[Eu] at eD
 have jo:(byC cls c.2).length=c.2.length:=by unfold byC;rw[Eu]
 rw[Eu,<-jo,F9]
 nofun
 refine (zjt (dd:=dd) bB d0 d1 (ps:=byC cls c.2) (λp hp=> ?_) ⋯ yU).imp ?_
 ·obtain⟨q,hq,rfl⟩:=Ez.1 hp
  exact d2 q hq
 rintro _ S3 ⟨m,rfl,hm,em,f3⟩
 exact⟨m,rfl,by rw[ER] at hm;simp at hm;omega,em,Fz.refl.app.trans f3⟩
theorem WE (l:List NK):unk (.tup l)= .tup (l.map unk):=by rw[unk,Xg]
theorem zju (cls:List Int) (c:Ch):unk (byK cls c)= .tup [qv c.1,.tup ((WY (byC cls c.2)).map ptX)]:=by
 unfold byK
 rw[WE,Ey,Ey,GV,zh3,WE,Fj]
 congr 4
theorem zfA:∀(a b:List (Int×Q2)),cpL (a.map ptK) (b.map ptK)=true
 |[],_=>by simp[cpL]
 |_::_,[]=>by simp[cpL]
 |p::a,q::b=>by
  rw[Ey,Ey,cpL,zfA a b]
  simp[ptK,nq,cp,cpL]
theorem UF:∀(a:List (Int×Q2)),wB (a.map ptK)<=2
 |[]=>by simp[wB]
 |p::a=>by
  rw[Ey,wB]
  have:=UF a
  have:yv (ptK p)=2:=by simp[ptK,nq,yv,wB]
  omega
theorem zaY:∀(a:List (Int×Q2)),Xs (a.map ptK)=true
 |[]=>by simp[Xs]
 |p::a=>by
  rw[Ey,Xs,zaY a]
  simp[ptK,nq,ZN,Xs]
theorem UG (cls:List Int) (chs:List Ch):KOk false (chs.map (byK cls))/\∀k∈chs.map (byK cls),ZN k=true:=by
 refine⟨⟨λx hx y hy=> ?_,λk hk=> ?_,λk hk=> ?_⟩,λk hk=> ?_⟩
 ·obtain⟨p,_,rfl⟩:=Ez.1 hx
  obtain⟨q,_,rfl⟩:=Ez.1 hy
  simp[byK,nq,cp,cpL,zfA]
 ·obtain⟨p,_,rfl⟩:=Ez.1 hk
  have:=UF (WY (byC cls p.2))
  simp[byK,nq,yv,wB]
  omega
 ·obtain⟨p,_,rfl⟩:=Ez.1 hk
  simp[byK,nq,Xt]
 ·obtain⟨p,_,rfl⟩:=Ez.1 hk
  simp[byK,nq,ZN,Xs,zaY]
theorem zbV {P:Xv->Sto->Prop} {l:List Xv} (h:L2.zv S x=some l) (k:P (.tup l) S):WO (Um [x] S) P:= .of (by
 obtain⟨m,rfl⟩:∃m,x= .ref m:=by cases x<;>first|exact⟨_,rfl⟩|(simp only[L2.zv,reduceCtorEq] at h)
 unfold Um
 simp[VC,Xv.tupOf,h]) k
theorem UZ (bB:Big fu) {cls:List Int} {chs:List Ch} {cn:Nat} (ok:∀c∈chs,zbq cls.length c) (few:chs.length<=4) (e:LAt xa S x chs) (ec:L2.zv S (.ref cn)=some (cls.map Xv.int)):
  W (Zo fu [x,.ref cn] S) λv S'=>∃m,v= .ref m/\S.length<=m/\S'[m]? =some (.lst ((wW (chs.map (byK cls))).map unk))/\Fz S S':=by
 obtain⟨l,el,ll,hl⟩:=e
 walk_at "wr";unfold YE
 refine yS (Wc (wc (vc ?_)))
 nofun
 refine⟨_,el,_,el,?_⟩
 refine xq (xs:=l) (Fc (Zv ⋯)) (λi es S2=>Fz S S2/\es=((chs.take i).map (byK cls)).map unk) ?_ ?_ ⟨Fz.refl,rfl⟩ ?_
 ·rintro i es _ _ ⟨f,_⟩
  exact f.lstAt el
 ·rintro i w es S2 hw fy ⟨f2,rfl⟩
  have hi:i<chs.length:=by rw[<-ll];exact (Es.1 hw).1
  have hc:=Er hi
  have hok:=ok _ (EK hi)
  generalize chs[i]=c at hc hok
  obtain⟨z,e1,pn,e2,e3⟩:=hl i c hc
  rw[hw] at e1
  cases e1
  subst e2
  refine .of rfl ?_
  dsimp only[Yz,Gp,F7]
  nofun
  refine⟨rfl,?_⟩
  nofun
  refine (zh9 bB hok (f2.lstAt e3) (f2.lstAt ec)).imp ?_
  rintro _ S3 ⟨m,rfl,hm,em,f3⟩
  nofun
  refine zbV (zp em) ?_
  nofun
  refine⟨f2.trans f3,?_⟩
  rw[yf hc,Fd,Fd]
  show _=_++[unk (byK cls c)]
  rw[zju]
 rintro es S2 eD ⟨f2,rfl⟩
 rw[ll,F9]
 dsimp only[F7]
 nofun
 obtain⟨k1,k2⟩:=UG cls chs
 refine zeE yu (by rw[Eu];exact few) k1 k2 ?_
 refine⟨_,rfl,?_,yU,f2.app.app⟩
 rw[ER]
 have:=f2.1
 omega
end
section
variable {fu:Nat} {S S' S2:Sto} {x y:Xv}
noncomputable def ix {α:Type} [DecidableEq α]:List α->α->Option Nat
 |[],_=>none
 |a::r,k=>if a=k then some 0 else (ix r k).map (· +1)
section
variable {α:Type} [DecidableEq α]
theorem zia:∀{l:List α} {k:α} {i:Nat},ix l k=some i->l[i]? =some k
 |a::r,k,i,h=>by
  unfold ix at h
  split at h
  ·cases h;rename_i e;rw[e];rfl
  ·obtain⟨j,h1,rfl⟩:=F8.1 h
   exact zia (l:=r) h1
theorem TC:∀{l:List α} {k:α},k∈l->∃i,ix l k=some i
 |a::r,k,h=>by
  unfold ix
  by_cases e:a=k
  ·exact⟨0,if_pos e⟩
  ·rw[if_neg e]
   rcases EJ.1 h with z|h
   ·exact (e z.symm).elim
   ·obtain⟨i,hi⟩:=TC h
    exact⟨i+1,by rw[hi];rfl⟩
theorem TD:∀{l:List α} {k:α},k∉l->ix l k=none
 |[],_,_=>rfl
 |a::r,k,h=>by
  unfold ix
  rw[if_neg (λe:a=k=>h (e ▸ EG ..)),TD λz=>h (ED _ z)]
  rfl
theorem zeP:∀{l m:List α} {k:α} {i:Nat},ix l k=some i->ix (l++m) k=some i
 |a::r,m,k,i,h=>by
  unfold ix at h
  rw[FX,ix]
  split at h
  ·rename_i e;rw[if_pos e];exact h
  ·rename_i e
   obtain⟨j,h1,rfl⟩:=F8.1 h
   rw[if_neg e,zeP h1]
   rfl
noncomputable def fd (ks:List α):List α:=ks.foldl (λacc k=>if k∈acc then acc else acc++[k]) []
theorem wy (ks:List α) (k:α):fd (ks++[k])=if k∈fd ks then fd ks else fd ks++[k]:=by
 unfold fd
 rw[Ie]
 rfl
theorem zfB (ks:List α):∀i,fd (ks.take i)<+:fd ks:=by
 have key:∀(l m:List α),fd l<+:fd (l++m):=by
  intro l m
  induction m generalizing l with
  |nil=>rw[Gz];exact FY _
  |cons a m ih=>
   have h1:fd l<+:fd (l++[a]):=by
    rw[wy]
    split
    ·exact FY _
    ·exact HR _ _
   have:=h1.trans (ih (l++[a]))
   rwa [GD] at this
 intro i
 have:=key (ks.take i) (ks.drop i)
 rwa [List.take_append_drop] at this
theorem ya (ks:List α):(fd ks).Nodup/\∀k,k∈fd ks↔k∈ks:=by
 have key:∀i,(fd (ks.take i)).Nodup/\∀k,k∈fd (ks.take i)↔k∈ks.take i:=by
  intro i
  induction i with
  |zero=>exact⟨J0,λk=>Iff.rfl⟩
  |succ i ih=>
   cases e:ks[i]? with
   |none=>
    have hl:=Gj.1 e
    rw[Ge hl] at ih
    rw[Ge ⋯]
    exact ih
   |some a=>
    rw[yf e,wy]
    split
    ·rename_i h
     refine⟨ih.1,λk=> ?_⟩
     rw[ih.2,Ff,EZ]
     exact⟨.inl,λz=>z.elim id λe=>e ▸ (ih.2 _).1 h⟩
    ·rename_i h
     refine⟨GU.2 ⟨ih.1,by simp,λa ha b hb=>by simp at hb;subst hb;exact λz=>h (z ▸ ha)⟩,λk=> ?_⟩
     rw[Ff,Ff,ih.2]
 have:=key ks.length
 rwa [F9] at this
theorem UH (ks:List α):(fd ks).length<=ks.length:=(ya ks).1.length_le_of_subset λk hk=>((ya ks).2 k).1 hk
noncomputable def vE (ks:List α):List Int:=ks.map λk=>(((ix (fd ks) k).getD 0:Nat):Int)
theorem TF {ks:List α} {i:Nat} {k:α} (h:ks[i]? =some k):∃j:Nat,(vE ks)[i]? =some (j:Int)/\(fd ks)[j]? =some k/\ix (fd ks) k=some j:=by
 obtain⟨j,hj⟩:=TC (((ya ks).2 k).2 (EA h))
 refine⟨j,?_,zia hj,hj⟩
 unfold vE
 rw[EB,h]
 show some (((ix (fd ks) k).getD 0:Nat):Int)=_
 rw[hj]
 rfl
theorem Xl (ks:List α):(vE ks).length=ks.length:=by unfold vE;rw[Eu]
theorem zcP {ks:List α} {i j:Nat} (hi:i<ks.length) (hj:j<ks.length):(vE ks)[i]? =(vE ks)[j]? ↔ks[i]? =ks[j]? :=by
 obtain⟨a,a1,a2,_⟩:=TF (Er hi)
 obtain⟨b,b1,b2,_⟩:=TF (Er hj)
 rw[a1,b1,Er hi,Er hj,<-a2,<-b2]
 constructor
 ·intro h
  have:a=b:=by injection h with h;omega
  rw[this]
 ·intro h
  have ha:=(Es.1 a2).1
  have hb:=(Es.1 b2).1
  rw[Er ha,Er hb] at h
  injection h with h
  rw[(FW (ya ks).1).1 h]
end
theorem UI {α β:Type} [DecidableEq α] [DecidableEq β]:∀(n:Nat) {ks:List α} {ms:List β},ks.length=n->ms.length=n->(∀i j,i<n->j<n->(ks[i]? =ks[j]? ↔ms[i]? =ms[j]?))->vE ks=vE ms/\(fd ks).length=(fd ms).length/\∀(i:Nat) k m,ks[i]? =some k->ms[i]? =some m->ix (fd ks) k=ix (fd ms) m:=by
 intro n
 induction n with
 |zero=>
  intro ks ms h1 h2 _
  have:ks=[]:=GO.1 h1
  have:ms=[]:=GO.1 h2
  subst ks ms
  exact⟨rfl,rfl,λi k m h=>by simp at h⟩
 |succ n ih=>
  intro ks ms h1 h2 h
  obtain⟨ks',k,rfl⟩:∃l a,ks=l++[a]:=⟨ks.dropLast,ks.getLast (by intro z;subst z;simp at h1),(HL _).symm⟩
  obtain⟨ms',m,rfl⟩:∃l a,ms=l++[a]:=⟨ms.dropLast,ms.getLast (by intro z;subst z;simp at h2),(HL _).symm⟩
  have l1:ks'.length=n:=by simpa using h1
  have l2:ms'.length=n:=by simpa using h2
  have old:∀{γ:Type} {l:List γ} {a:γ} {i:Nat},i<l.length->(l++[a])[i]? =l[i]? :=λhi=>Ex hi
  have new:∀{γ:Type} {l:List γ} {a:γ},(l++[a])[l.length]? =some a:=by simp
  obtain⟨_,i2,i3⟩:=ih l1 l2 λi j hi hj=>by
   have:=h i j ⋯ ⋯
   rwa [old ⋯,old ⋯,old ⋯,old ⋯] at this
  have aC:k∈ks'↔m∈ms':=by
   constructor
   ·intro hk
    obtain⟨i,hi⟩:=Fu hk
    have hl:=(Es.1 hi).1
    have eD:i<ms'.length:=by omega
    have:=(h i n ⋯ ⋯).1 (by rw[old hl,<-l1,new,hi])
    rw[old eD,<-l2,new] at this
    exact EA this
   ·intro hk
    obtain⟨i,hi⟩:=Fu hk
    have hl:=(Es.1 hi).1
    have eD:i<ks'.length:=by omega
    have:=(h i n ⋯ ⋯).2 (by rw[old hl,<-l2,new,hi])
    rw[old eD,<-l1,new] at this
    exact EA this
  have gQ:(k∈fd ks')↔(m∈fd ms'):=by rw[(ya ks').2,(ya ms').2];exact aC
  have hlen:(fd (ks'++[k])).length=(fd (ms'++[m])).length:=by
   rw[wy,wy]
   by_cases z:k∈fd ks'
   ·rw[if_pos z,if_pos (gQ.1 z)];exact i2
   ·rw[if_neg z,if_neg λq=>z (gQ.2 q),ER,ER,i2];rfl
  have jd:∀(i:Nat) a b,(ks'++[k])[i]? =some a->(ms'++[m])[i]? =some b->ix (fd (ks'++[k])) a=ix (fd (ms'++[m])) b:=by
   have jT:∀(i:Nat) a b,ks'[i]? =some a->ms'[i]? =some b->ix (fd (ks'++[k])) a=ix (fd (ms'++[m])) b:=λi a b ha hb=>by
    have e:=i3 i a b ha hb
    obtain⟨p,hp⟩:=TC (((ya ks').2 a).2 (EA ha))
    have hq:=e.symm.trans hp
    have e1:ix (fd (ks'++[k])) a=some p:=by
     rw[wy]
     split
     ·exact hp
     ·exact zeP hp
    have e2:ix (fd (ms'++[m])) b=some p:=by
     rw[wy]
     split
     ·exact hq
     ·exact zeP hq
    rw[e1,e2]
   intro i a b ha hb
   have hi:=(Es.1 ha).1
   rw[ER,G1] at hi
   by_cases eE:i<n
   ·rw[old ⋯] at ha hb
    exact jT i a b ha hb
   ·have:i=n:=by omega
    subst this
    rw[<-l1,new] at ha
    rw[<-l2,new] at hb
    cases ha
    cases hb
    by_cases z:k∈ks'
    ·obtain⟨j,hj⟩:=Fu z
     have qx:=(Es.1 hj).1
     have fV:j<ms'.length:=by omega
     have:=(h j i ⋯ ⋯).1 (by rw[old qx,<-l1,new,hj])
     rw[old fV,<-l2,new] at this
     exact jT j k m hj this
    ·have z1:k∉fd ks':=λq=>z (((ya ks').2 k).1 q)
     have z2:m∉fd ms':=λq=>z1 (gQ.2 q)
     rw[wy,wy,if_neg z1,if_neg z2]
     have key:∀{γ:Type} [DecidableEq γ] {l:List γ} {a:γ},a∉l->ix (l++[a]) a=some l.length:=by
      intro γ _ l a
      induction l with
      |nil=>intro _;simp[ix]
      |cons c r B5=>
       intro hn
       rw[FX,ix,if_neg (λe:c=a=>hn (e ▸ EG ..)),B5 λq=>hn (ED _ q)]
       rfl
     rw[key z1,key z2,i2]
  refine⟨?_,hlen,jd⟩
  refine Gr λi=> ?_
  by_cases hi:i<n+1
  ·have ha:=Er (l:=ks'++[k]) (i:=i) ⋯
   have hb:=Er (l:=ms'++[m]) (i:=i) ⋯
   unfold vE
   rw[EB,EB,ha,hb]
   simp only[FZ]
   rw[jd i _ _ ha hb]
  ·rw[Fe (by rw[Xl];omega),Fe (by rw[Xl];omega)]
theorem UJ {α:Type} [DecidableEq α] (ks:List α):vE (vE ks)=vE ks/\(fd (vE ks)).length=(fd ks).length:=by
 obtain⟨h1,h2,_⟩:=UI ks.length (ks:=vE ks) (ms:=ks) (Xl ks) rfl λi j hi hj=>zcP hi hj
 exact⟨h1,h2⟩
end
section
variable {fu:Nat} {S S' S2:Sto} {x y:Xv}
noncomputable def kk:NK->Key
 | .int i=> .inl i
 |_=> .inr ""
noncomputable def YO (j:Nat):List NK->List (Key×Xv)
 |[]=>[]
 |k::r=>(kk k,.int (j:Nat))::YO (j+1) r
noncomputable def WZ (j:Nat):List NK->List (NK×Xv×Xv)
 |[]=>[]
 |k::r=>(k,unk k,.int (j:Nat))::WZ (j+1) r
noncomputable def Ta (b:Bool) (fs:List NK):Ce:=if b=true then .dk (YO 0 fs) else match fs with
 |[]=> .dk []
 |_::_=> .dn (WZ 0 fs)
def KT (b:Bool) (k:NK):Prop:=if b=true then ∃i,k= .int i else ∃l,k= .tup l/\yv k<=8
theorem Vt:∀(j:Nat) (fs:List NK),(YO j fs).length=fs.length
 |_,[]=>rfl
 |j,k::r=>by rw[YO,F5,F5,Vt]
theorem UK:∀(j:Nat) (fs:List NK),(WZ j fs).length=fs.length
 |_,[]=>rfl
 |j,k::r=>by rw[WZ,F5,F5,UK]
theorem zib:∀(j:Nat) {fs:List NK} {i:Int},(∀k∈fs,KT true k)->xi (YO j fs) (.inl i)=(ix fs (.int i)).map λt=>Xv.int ((j+t:Nat):Int)
 |_,[],_,_=>rfl
 |j,k::r,i,h=>by
  obtain⟨m,rfl⟩:=(show ∃m,k= .int m from h k (EG ..))
  have ih:=zib (j+1) (fs:=r) (i:=i) λk hk=>h k (ED _ hk)
  unfold xi at ih ⊢
  rw[YO,Fg,ix]
  by_cases e:m=i
  ·subst e;simp[kk]
  ·have d1:decide (kk (.int m)=Ft i)=false:=decide_eq_false λz=>e (by injection z)
   rw[if_neg (λz:NK.int m=NK.int i=>e (by injection z))]
   dsimp only
   rw[d1]
   refine Eq.trans ih ?_
   rw[JO]
   congr 1
   funext t
   show Xv.int ((j+1+t:Nat):Int)=Xv.int ((j+(t+1):Nat):Int)
   congr 2
   omega
theorem zic:∀(j:Nat) {fs:List NK} {k:NK},ZO (WZ j fs) k=(ix fs k).map λt=>Xv.int ((j+t:Nat):Int)
 |_,[],_=>rfl
 |j,m::r,k=>by
  have ih:=zic (j+1) (fs:=r) (k:=k)
  unfold ZO at ih ⊢
  rw[WZ,Fg,ix]
  by_cases e:m=k
  ·subst e;simp
  ·rw[if_neg e]
   dsimp only
   rw[decide_eq_false e]
   refine Eq.trans ih ?_
   rw[JO]
   congr 1
   funext t
   show Xv.int ((j+1+t:Nat):Int)=Xv.int ((j+(t+1):Nat):Int)
   congr 2
   omega
theorem Tc:∀(j:Nat) (fs:List NK) (k:NK),YO j (fs++[k])=YO j fs++[(kk k,.int ((j+fs.length:Nat):Int))]
 |_,[],_=>rfl
 |j,m::r,k=>by
  rw[FX,YO,YO,Tc,FX,F5]
  rw[show j+1+r.length=j+(r.length+1) by omega]
theorem zaZ:∀(j:Nat) (fs:List NK) (k:NK),WZ j (fs++[k])=WZ j fs++[(k,unk k,.int ((j+fs.length:Nat):Int))]
 |_,[],_=>rfl
 |j,m::r,k=>by
  rw[FX,WZ,WZ,zaZ,FX,F5]
  rw[show j+1+r.length=j+(r.length+1) by omega]
theorem Ub {l:List NK} (h:yv (.tup l)<=8):zbj (unk (.tup l))=some (.tup l):=by
 have:=zdM (.tup l)
 rw[unk] at this ⊢
 unfold zbj
 dsimp only
 rw[this,EC,if_pos h]
theorem zmh {b:Bool} {fs:List NK} {k:NK} {n:Nat} (h:S[n]? =some (Ta b fs)) (ha:∀k∈fs,KT b k) (hk:KT b k):WU S (.ref n) (unk k)=some ((ix fs k).map λt:Nat=>Xv.int (t:Int)):=by
 unfold WU
 dsimp only
 rw[h]
 unfold Ta
 cases b with
 |true=>
  obtain⟨i,rfl⟩:=(show ∃i,k= .int i from hk)
  simp only[if_true]
  rw[unk]
  dsimp only[Wa]
  rw[zib 0 ha]
  simp only[Nat.zero_add]
 |false=>
  obtain⟨l,rfl,hd⟩:=(show ∃l,k= .tup l/\yv k<=8 from hk)
  simp only[G6,if_false]
  cases fs with
  |nil=>
   have:Wa (unk (.tup l))=none:=by rw[unk];rfl
   dsimp only
   rw[this]
   dsimp only
   rw[if_pos ⟨rfl,by rw[Ub hd];rfl⟩]
   rfl
  |cons p r=>
   dsimp only
   rw[Ub hd,FZ,zic 0]
   simp only[Nat.zero_add]
theorem zat {b:Bool} {fs:List NK} {k:NK} {n:Nat} (h:S[n]? =some (Ta b fs)) (ha:∀k∈fs,KT b k) (hk:KT b k) (hn:k∉fs) (hl:fs.length<sizeLine):zaG S (.ref n) (unk k) (.int (fs.length:Nat))=some (S.set n (Ta b (fs++[k]))):=by
 unfold zaG
 dsimp only
 rw[h]
 unfold Ta
 cases b with
 |true=>
  obtain⟨i,rfl⟩:=(show ∃i,k= .int i from hk)
  simp only[if_true]
  rw[unk]
  dsimp only[Wa]
  rw[if_pos (by rw[Vt];exact hl),Tc]
  have hv:=zib 0 (i:=i) ha
  rw[TD hn] at hv
  unfold xi at hv
  unfold XM
  rw[zfy,hv,if_neg (by simp)]
  simp[kk]
 |false=>
  obtain⟨l,rfl,hd⟩:=(show ∃l,k= .tup l/\yv k<=8 from hk)
  simp only[G6,if_false]
  cases fs with
  |nil=>
   have:Wa (unk (.tup l))=none:=by rw[unk];rfl
   dsimp only
   rw[this]
   dsimp only
   rw[Ub hd]
   rfl
  |cons p r=>
   dsimp only
   rw[if_pos (by rw[UK];exact hl),Ub hd,FZ]
   have hv:=zic 0 (fs:=p::r) (k:= .tup l)
   rw[TD hn] at hv
   unfold zdL
   rw[hv,if_neg (by simp),FX]
   dsimp only
   rw[<-FX,zaZ]
   simp
theorem zms {b:Bool} {fs:List NK} {n:Nat} (h:S[n]? =some (Ta b fs)):zdO [.ref n] S=some (.int (fs.length:Nat),S):=by
 unfold zdO
 dsimp only
 rw[h]
 unfold Ta
 cases b with
 |true=>simp only[if_true];rw[Vt]
 |false=>
  simp only[G6,if_false]
  cases fs with
  |nil=>rfl
  |cons p r=>dsimp only;rw[UK]
theorem za0 {b:Bool} {ks:List NK} {n:Nat} (ha:∀k∈ks,KT b k) (hl:ks.length<=999) (e:S[n]? =some (.lst (ks.map unk))):
  W (Ys fu [.ref n] S) λv S'=>∃m,v= .ref m/\S.length<=m/\S'[m]? =some (.lst ((vE ks).map Xv.int))/\Fz S S':=by
 have gQ:∀i,∀k∈fd (ks.take i),KT b k:=λi k hk=>ha k (HG (((ya _).2 k).1 hk))
 have cZ:∀i,(fd (ks.take i)).length<=999:=λi=>by
  have:=UH (ks.take i)
  rw[FD] at this
  omega
 walk_at "wr";unfold Wp
 nofun
 refine xz (vc ?_)
 nofun
 have f1:Fz S (S++[Ce.dk []]):=Fz.refl.app
 refine⟨_,zp (f1.lst e),_,zp (f1.lst e),?_⟩
 refine yF (xs:=ks.map unk) (λi ρ S2=>∃(a2:Option Xv),ρ=[some (.ref n),some (.ref S.length),a2]/\S2[S.length]? =some (Ta b (fd (ks.take i)))/\Fz S S2) ?_ ?_ ?_ ?_
 ·rintro i ρ S2 _ ⟨_,_,_,k2⟩
  exact zp (k2.lst e)
 ·rintro i w ρ S2 hw ⟨a2,rfl,c2,k2⟩
  obtain⟨k,ek,rfl⟩:=wm hw
  have hk:=ha k (EA ek)
  refine .of rfl ?_
  dsimp only[F7]
  refine xR (ze9 (zi8 ?_))
  nofun
  refine⟨_,zmh c2 (gQ i) hk,?_⟩
  rw[GC]
  by_cases hm:k∈fd (ks.take i)
  ·obtain⟨j,hj⟩:=TC hm
   rw[hj]
   refine⟨_,rfl,nofun,λ_=> ?_⟩
   nofun
   refine⟨?_,k2⟩
   rw[yf ek,wy,if_pos hm]
   exact c2
  ·rw[TD hm]
   refine⟨_,rfl,λ_=> ?_,nofun⟩
   refine zhJ ?_
   nofun
   refine WO.of (zms c2) ?_
   nofun
   refine⟨_,zat c2 (gQ i) hk hm (zhT (cZ i)),?_⟩
   refine⟨_,rfl,?_,k2.set (EE _)⟩
   rw[Zl c2,yf ek,wy,if_neg hm]
 ·refine⟨none,rfl,?_,f1⟩
  rw[yU]
  cases b<;>rfl
 ·rintro ρ S2 ⟨a2,rfl,c2,k2⟩
  rw[Eu,F9] at c2
  have hf:=gQ ks.length
  rw[F9] at hf
  refine Xq (wc (vc ?_))
  nofun
  refine⟨_,zp (k2.lst e),_,zp (k2.lst e),?_⟩
  refine xq (xs:=ks.map unk) (by rw[Eu];exact Fc (zhT hl)) (λi es S4=>S4=S2/\es=((vE ks).take i).map Xv.int) ?_ ?_ ⟨rfl,rfl⟩ ?_
  ·rintro i es _ _ ⟨rfl,_⟩
   exact zp (k2.lst e)
  ·rintro i w es _ hw fy ⟨rfl,rfl⟩
   obtain⟨k,ek,rfl⟩:=wm hw
   obtain⟨j,j1,j2,j3⟩:=TF ek
   refine .of rfl ?_
   dsimp only[Yz,Gp,F7]
   nofun
   refine⟨rfl,?_⟩
   refine zhI ?_
   nofun
   refine⟨.int (j:Int),by rw[zmh c2 hf (ha k (EA ek)),j3];rfl,rfl,?_⟩
   rw[yf j1,Fd]
   rfl
  ·rintro es _ _ ⟨rfl,rfl⟩
   rw[Eu,<-Xl ks,F9]
   exact⟨_,rfl,k2.1,yU,k2.app⟩
end
section
variable {fu:Nat} {S S' S2:Sto} {x y:Xv}
abbrev Net:=List (List Ch)
def xy (S:Sto) (x:Xv) (g:Net):Prop:=LAt (LAt xa) S x g
theorem xy.mono {g:Net} (p:Le S S') (h:xy S x g):xy S' x g:=LAt.mono (λ_ _ h=>ChsAt.mono p h) p h
structure Uc (g:Net):Prop where
 len:g.length<=60
 few:∀chs∈g,chs.length<=4
 ok:∀chs∈g,∀c∈chs,zbq g.length c
noncomputable def Td (cls:List Int) (i:Nat) (chs:List Ch):NK:= .tup [.int (cls.getD i 0),.tup (wW (chs.map (byK cls)))]
noncomputable def XF (cls:List Int) (g:Net):List NK:=g.mapIdx λi chs=>Td cls i chs
noncomputable def yy (g:Net) (cls:List Int):List Int:=vE (XF cls g)
theorem ZY {cls:List Int} {g:Net} {i:Nat} {chs:List Ch} (h:g[i]? =some chs):(XF cls g)[i]? =some (Td cls i chs):=by
 unfold XF
 rw[J4,h]
 rfl
theorem wM (cls:List Int) (g:Net):(XF cls g).length=g.length:=by unfold XF;rw[List.length_mapIdx]
theorem zid {l:List NK} {m:Nat} (h:∀k∈l,yv k<=m):wB l<=m:=by
 induction l with
 |nil=>simp[wB]
 |cons a r ih=>
  rw[wB]
  have:=h a (EG ..)
  have:=ih λk hk=>h k (ED _ hk)
  omega
theorem zie (cls:List Int) (i:Nat) (chs:List Ch):KT false (Td cls i chs):=by
 refine (show ∃l,_=NK.tup l/\_<=8 from ⟨_,rfl,?_⟩)
 obtain⟨k1,_⟩:=UG cls chs
 have h:wB (wW (chs.map (byK cls)))<=4:=zid λk hk=>by
  obtain⟨c,_,rfl⟩:=Ez.1 (((Zm k1).2 k).1 hk)
  have:=UF (WY (byC cls c.2))
  simp[byK,nq,yv,wB]
  omega
 unfold Td
 simp[yv,wB]
 omega
theorem zif (bB:Big fu) {g:Net} {cls:List Int} {cn:Nat} (ok:Uc g) (hl:cls.length=g.length) (e:xy S x g) (ec:L2.zv S (.ref cn)=some (cls.map Xv.int)):
  W (ZW fu [x,.ref cn] S) λv S'=>∃m,v= .ref m/\S.length<=m/\S'[m]? =some (.lst ((yy g cls).map Xv.int))/\Fz S S':=by
 obtain⟨l,el,ll,hg⟩:=e
 have hlen:=ok.len
 walk_at "wr";unfold UC
 nofun
 have f1:Fz S (S++[Ce.lst []]):=Fz.refl.app
 have a1:(S++[Ce.lst []])[S.length]? =some (.lst []):=yU
 generalize S++[Ce.lst []]=S1 at f1 a1 ⊢
 refine xz (zaq ?_)
 nofun
 refine⟨_,f1.lstAt el,wV l,by dsimp only;rw[f1.lstAt el];rfl,?_⟩
 refine yF (xs:=wV l) (λi ρ S2=>∃a3 a4,ρ=[some x,some (.ref cn),some (.ref S.length),a3,a4]/\S2[S.length]? =some (.lst (((XF cls g).take i).map unk))/\Fz S S2) ?_ ?_ ?_ ?_
 ·rintro i ρ S2 _ ⟨_,_,_,_,f2⟩
  show (L2.zv S2 x).map wV=_
  rw[f2.lstAt el]
  rfl
 ·rintro i w ρ S2 hw ⟨a3,a4,rfl,e2,f2⟩
  obtain⟨z,ez,rfl⟩:=YX hw
  have hi:i<g.length:=by rw[<-ll];exact (Es.1 ez).1
  have hc:=Er hi
  have du:=ok.few _ (EK hi)
  have hok:=ok.ok _ (EK hi)
  generalize g[i]=chs at hc du hok
  obtain⟨z',e1,hz⟩:=hg i chs hc
  rw[ez] at e1
  cases e1
  refine .of rfl ?_
  dsimp only[F7]
  refine vm (Xb ?_)
  nofun
  refine⟨⟨_,zp e2⟩,?_⟩
  nofun
  refine yB (f2.lstAt ec) (wk (k:=(i:Int)) ⋯ (by rw[Fw,EB,Er (by omega:i<cls.length)];rfl)) ?_
  nofun
  refine (UZ bB (λc cI=>by rw[hl];exact hok c cI) du (ChsAt.mono f2.le hz) (f2.lstAt ec)).imp ?_
  rintro _ S3 ⟨m,rfl,hm,em,f3⟩
  nofun
  refine zbV (zp em) ?_
  nofun
  have e3:=f3.lst e2
  refine xN (ww e3) (Zv (by rw[Eu,FD];omega)) ?_
  refine⟨_,_,rfl,?_,(f2.trans f3).set (EE _)⟩
  rw[Zl e3,yf (ZY (cls:=cls) hc),Fd]
  congr 3
  show _=[unk (Td cls i chs)]
  unfold Td
  rw[WE,Ey,Ey,GV,WE,unk,Ew,Er (by omega:i<cls.length)]
  rfl
 ·exact⟨_,_,rfl,a1,f1⟩
 ·rintro ρ S2 ⟨a3,a4,rfl,e2,f2⟩
  rw[YY,ll,<-wM cls,F9] at e2
  nofun
  refine (za0 (b:=false) (λk hk=> ?_) (by rw[wM];omega) e2).imp ?_
  ·obtain⟨i,hi⟩:=Fu hk
   have dR:i<g.length:=by rw[<-wM cls];exact (Es.1 hi).1
   rw[ZY (Er dR)] at hi
   cases hi
   exact zie ..
  rintro _ S3 ⟨m,rfl,hm,em,f3⟩
  exact⟨m,rfl,EW f2.1 hm,em,f2.trans f3⟩
theorem UL (g:Net) (cls:List Int):(yy g cls).length=g.length:=by unfold yy;rw[Xl,wM]
theorem za1 {g:Net} {cls:List Int} (hl:cls.length=g.length) {i j:Nat} (hi:i<g.length) (hj:j<g.length) (h:(yy g cls)[i]? =(yy g cls)[j]?):cls[i]? =cls[j]? :=by
 have:=(zcP (ks:=XF cls g) (by rw[wM];exact hi) (by rw[wM];exact hj)).1 h
 rw[ZY (Er hi),ZY (Er hj)] at this
 injection this with this
 unfold Td at this
 injection this with this
 injection this with this _
 injection this with this
 rw[Ew,Ew,Er (by omega:i<cls.length),Er (by omega:j<cls.length)] at this
 rw[Er (by omega:i<cls.length),Er (by omega:j<cls.length)]
 exact congrArg some this
theorem zeQ {g:Net} {cls:List Int} (hl:cls.length=g.length) (hc:vE cls=cls) (bZ:yy g cls≠cls):(fd cls).length<(fd (yy g cls)).length:=by
 have cZ:=UL g cls
 have hp:∃i j:Nat,i<g.length/\j<g.length/\cls[i]? =cls[j]? /\(yy g cls)[i]? ≠(yy g cls)[j]? :=by
  apply FP
  intro jG
  apply bZ
  have h1:vE (yy g cls)=yy g cls:=(UJ (XF cls g)).1
  rw[<-h1]
  refine Eq.trans (UI g.length cZ hl λi j hi hj=>⟨za1 hl hi hj,λh=> ?_⟩).1 hc
  apply FP
  intro hn
  exact jG ⟨i,j,hi,hj,h,hn⟩
 obtain⟨i,j,hi,hj,h1,h2⟩:=hp
 have rep:∀c∈fd cls,∃p:Nat,p<g.length/\cls[p]? =some c:=λc hc=>by
  obtain⟨p,hp⟩:=Fu (((ya cls).2 c).1 hc)
  exact⟨p,by rw[<-hl];exact (Es.1 hp).1,hp⟩
 obtain⟨ps,l1,l2,l3⟩:=Wr (fd cls) rep
 have Cy:∃c,cls[i]? =some c:=⟨cls[i]'⋯,Er ⋯⟩
 obtain⟨c,fQ⟩:=Cy
 have Cv:cls[j]? =some c:=h1.symm.trans fQ
 obtain⟨q,hq⟩:=Fu (((ya cls).2 c).2 (EA fQ))
 have ub:q<ps.length:=by rw[<-l1];exact (Es.1 hq).1
 obtain⟨r,hr,Cu,bZ⟩:∃r:Nat,r<g.length/\cls[r]? =some c/\(yy g cls)[r]? ≠(yy g cls)[ps[q]]? :=by
  by_cases z:(yy g cls)[i]? =(yy g cls)[ps[q]]?
  ·exact⟨j,hj,Cv,λw=>h2 (z.trans w.symm)⟩
  ·exact⟨i,hi,fQ,z⟩
 have jv:∀p:Nat,p<g.length->(yy g cls)[p]? =some ((yy g cls).getD p 0):=λp hp=>by
  rw[Ew,Er (by omega:p<(yy g cls).length)]
  rfl
 have pat:∀(u:Nat) (hu:u<ps.length),ps[u]<g.length/\cls[ps[u]]? =some ((fd cls)[u]'⋯):=λu hu=>by
  obtain⟨z,e1,e2,e3⟩:=l2 u ps[u] (Er hu)
  rw[Er (by omega:u<(fd cls).length)] at e1
  injection e1 with e1
  rw[e1]
  exact⟨e2,e3⟩
 have nd:((ps++[r]).map λp=>(yy g cls).getD p 0).Nodup:=by
  rw[Gf,Fh,List.pairwise_append]
  refine⟨?_,by simp,λa ha b hb=> ?_⟩
  ·rw[Gi]
   intro u v hu hv DY e
   obtain⟨a1,a2⟩:=pat u hu
   obtain⟨b1,b2⟩:=pat v hv
   have:=za1 hl a1 b1 (by rw[jv _ a1,jv _ b1,e])
   rw[a2,b2] at this
   injection this with this
   have:=(FW (ya cls).1).1 this
   omega
  ·rw[EZ] at hb
   subst hb
   intro e
   obtain⟨u,hu,rfl⟩:=Gv ha
   obtain⟨a1,a2⟩:=pat u hu
   have hk:=za1 hl a1 hr (by rw[jv _ a1,jv _ hr,e])
   rw[a2,Cu] at hk
   injection hk with hk
   obtain⟨E8,D6⟩:=Es.1 hq
   have:u=q:=(FW (ya cls).1).1 (hk.trans D6.symm)
   subst this
   exact bZ (by rw[jv _ hr,jv _ a1,e])
 have:=nd.length_le_of_subset (l₂:=fd (yy g cls)) λk hk=>by
  obtain⟨p,hp,rfl⟩:=Ez.1 hk
  refine ((ya _).2 _).2 ?_
  have fU:p<g.length:=by
   rcases Ff.1 hp with hp|hp
   ·obtain⟨u,hu,rfl⟩:=Gv hp
    exact (pat u hu).1
   ·rw[EZ] at hp
    omega
  exact EA (jv p fU)
 rw[Eu,ER,G1] at this
 omega
end
section
variable {fu:Nat} {S S' S2:Sto} {x y:Xv}
theorem za2 {α:Type} {f:Xv->Option D} {t:α->D}:∀(as:List α) (l:List Xv),l.length=as.length->(∀(i:Nat) a,as[i]? =some a->∃z,l[i]? =some z/\f z=some (t a))->vC f l=some (as.map t)
 |[],[],_,_=>rfl
 |[],_::_,e,_=>by simp at e
 |_::_,[],e,_=>by simp at e
 |a::as,z::l,e,h=>by
  obtain⟨y,e1,e2⟩:=h 0 a rfl
  cases e1
  have:=za2 as l (by simpa using e) λi b hb=>by
   obtain⟨y,q1,q2⟩:=h (i+1) b (by simpa using hb)
   exact⟨y,by simpa using q1,q2⟩
  unfold vC
  rw[e2,this]
  rfl
theorem zeR {α:Type} {R:Sto->Xv->α->Prop} {as:List α} {n:Nat} {t:α->D} (hR:∀z a,R S z a->wa S n z=some (t a)) (h:LAt R S x as):wa S (n+1) x=some (.lst (as.map t)):=by
 obtain⟨l,e,el,k⟩:=h
 have ht:=za2 (f:=wa S n) (t:=t) as l el λi a ha=>by obtain⟨z,e1,e2⟩:=k i a ha;exact⟨z,e1,hR z a e2⟩
 cases x<;>simp only[L2.zv,reduceCtorEq] at e
 rename_i m
 unfold wa
 dsimp only
 rw[show L2.zv S (.ref m)=some l from e,EC,ht]
 rfl
theorem WF {n:Nat} {l:List Int} (h:L2.zv S x=some (l.map Xv.int)):wa S (n+2) x=some (.lst (l.map D.int)):=
 zeR (n:=n+1) (R:=λ_ z (i:Int)=>z= .int i) (λz a e=>by cases e;rfl) ⟨_,h,by simp,λi a ha=>⟨.int a,by simp[ha],rfl⟩⟩
theorem za3 {l:List Xv} {a:Xv} (h:l[l.length-1]? =some a):atI l (-1)=some a:=by
 have hl:=(Es.1 h).1
 unfold atI ixN
 rw[if_neg ⋯,if_pos ⋯]
 simp only[EC]
 rw[show ((-1:Int)+(l.length:Int)).toNat=l.length-1 by omega]
 exact h
structure Rds (g:Net) (ms:List Int) (au:List (List Int)):Prop where
 fst:au[0]? =some (vE ms)
 nxt:∀(i:Nat) a b,au[i]? =some a->au[i+1]? =some b->b=yy g a/\b≠a
 num:∀a∈au,a.length=g.length/\vE a=a
theorem Rds.ne {g:Net} {ms:List Int} {au:List (List Int)} (r:Rds g ms au):0<au.length:=(Es.1 r.fst).1
theorem UM (l:List Int):(fd l).length<=l.length:=UH l
def zbr (S S':Sto) (tn:Nat) (zs:List Xv):Prop:=∀z∈zs,∃n l,z= .ref n/\n≠tn/\S.length<=n/\S'[n]? =some (.lst l)
theorem zbr.mono {tn:Nat} {zs:List Xv} (h:zbr S S' tn zs) (p:Fz S' S2):zbr S S2 tn zs:=λz hz=>by
 obtain⟨n,l,e1,e2,e3,e4⟩:=h z hz
 exact⟨n,l,e1,e2,e3,p.lst e4⟩
theorem zbr.set {tn:Nat} {zs:List Xv} {c:Ce} (h:zbr S S' tn zs):zbr S (S'.set tn c) tn zs:=λz hz=>by
 obtain⟨n,l,e1,e2,e3,e4⟩:=h z hz
 exact⟨n,l,e1,e2,e3,yV e4 λq=>e2 q.symm⟩
def zmi (S S':Sto) (tn:Nat) (zs:List Xv) (au:List (List Int)):Prop:=zbr S S' tn zs/\au.length<=61
theorem zgs (bB:Big fu) {g:Net} {ms:List Int} (ok:Uc g) (hl:ms.length=g.length) (e:xy S x g) {mn:Nat} (em:S[mn]? =some (.lst (ms.map Xv.int))):
  W (WD fu [x,.ref mn] S) λv S'=>∃(tn:Nat) (zs:List Xv) (au:List (List Int)) (last:List Int),v= .ref tn/\S.length<=tn/\Zw vY S' tn zs au/\Rds g ms au/\au[au.length-1]? =some last/\yy g last=last/\Fz S S'/\zmi S S' tn zs au:=by
 have hlen:=ok.len
 walk_at "wr";unfold UD
 nofun
 have D7:ms.map Xv.int=(ms.map NK.int).map unk:=by
  rw[Fj]
  refine FL λi _=> ?_
  show Xv.int i=unk (.int i)
  rw[unk]
 rw[D7] at em
 refine (za0 (b:=true) (λk hk=> ?_) (by rw[Eu];omega) em).imp ?_
 ·obtain⟨i,_,rfl⟩:=Ez.1 hk
  exact (show ∃j,NK.int i= .int j from ⟨i,rfl⟩)
 rintro _ S1 ⟨m1,rfl,jH,jy,f1⟩
 have enum:vE (ms.map NK.int)=vE ms:=(UI ms.length (by rw[Eu]) rfl λi j hi hj=>by
  rw[EB,EB,Er hi,Er hj]
  simp).1
 rw[enum] at jy
 refine Vk ?_
 have o2:Zw vY (S1++[.lst [.ref m1]]) S1.length [.ref m1] [vE ms]:=by
  refine⟨yU,rfl,λi a ha=> ?_⟩
  cases i with
  |zero=>
   cases ha
   refine⟨_,rfl,Tz (zp ?_) (by have:=(Es.1 jy).1;omega)⟩
   rw[Ex (Es.1 jy).1]
   exact jy
  |succ i=>simp at ha
 have f2:=f1.app (T:=[.lst [.ref m1]])
 have j8:zbr S (S1++[.lst [.ref m1]]) S1.length [.ref m1]:=λz hz=>by
  rw[EZ] at hz
  have ql:=(Es.1 jy).1
  exact⟨m1,_,hz,⋯,jH,by rw[Ex ql];exact jy⟩
 have pW:S.length<=S1.length:=f1.1
 generalize S1.length=tn at o2 pW j8 ⊢
 generalize S1++[.lst [.ref m1]]=S2 at o2 f2 j8 ⊢
 clear jy f1 jH
 have r2:Rds g ms [vE ms]:=⟨rfl,λi a b ha hb=>by simp at hb,λa ha=>by
  rw[EZ] at ha
  subst ha
  exact⟨by rw[Xl];exact hl,(UJ ms).1⟩⟩
 have step:∀(S3:Sto) (zs:List Xv) (au:List (List Int)) (last:List Int) (a3:Option Xv) (P:Xv->Sto->Prop),Zw vY S3 tn zs au->Fz S S3->Rds g ms au->au[au.length-1]? =some last->(∀m S4,Zw vY S4 tn zs au->Fz S S4->S4[m]? =some (.lst ((yy g last).map Xv.int))->tn<m->Fz S3 S4->P (.ref m) S4)->
   W ((zC (ZW fu) [(ze 0),(eOp xf (ze 2) (eUn Uk (eC (.int 1))))]) [some x,some (.ref mn),some (.ref tn),a3] S3) P:=by
  intro S3 zs au last a3 P o3 f3 r3 bC k
  have bZ:=r3.ne
  obtain⟨z,ez,hz⟩:=o3.2.2 _ _ bC
  have tS:=Vr.1 _ _ hz
  obtain⟨cn,rfl⟩:∃cn,z= .ref cn:=by cases z<;>first|exact⟨_,rfl⟩|(simp only[L2.zv,reduceCtorEq] at tS)
  nofun
  refine yB (zp o3.1) (za3 (by rw[o3.2.1];exact ez)) ?_
  nofun
  refine (zif bB ok (r3.num _ (EA bC)).1 (xy.mono f3.le e) tS).imp ?_
  rintro _ S4 ⟨m,rfl,hm,em,f4⟩
  have:=(Es.1 o3.1).1
  exact k m S4 (zcM o3 f4) (f3.trans f4) em ⋯ f4
 refine yS (Wc (step S2 _ _ _ _ _ o2 f2 r2 rfl λm S3 o3 f3 e3 hm gu=> ?_))
 dsimp only[F7]
 refine yS (zg6 ?_)
 have loop:∀(q n:Nat) (S3:Sto) (zs:List Xv) (au:List (List Int)) (last:List Int) (m:Nat),q<n->g.length+1<=q+(fd last).length->Zw vY S3 tn zs au->Fz S S3->Rds g ms au->au[au.length-1]? =some last->au.length<=(fd last).length+1->zbr S S3 tn zs->S3[m]? =some (.lst ((yy g last).map Xv.int))->tn<m->
   WS (Th (bE (eOp (zbi true) (ze 3) (eOp xf (ze 2) (eUn Uk (eC (.int 1)))))) (zI (vA (eMt yt (ze 2) [(ze 3)])) (yk (zC (ZW fu) [(ze 0),(eOp xf (ze 2) (eUn Uk (eC (.int 1))))]) (gN 3))) n [some x,some (.ref mn),some (.ref tn),some (.ref m)] S3)
    (λρ S'=>∃a3 zs au last,ρ=[some x,some (.ref mn),some (.ref tn),a3]/\Zw vY S' tn zs au/\Rds g ms au/\au[au.length-1]? =some last/\yy g last=last/\Fz S S'/\zmi S S' tn zs au) (λ_ _=>False):=by
  intro q
  induction q with
  |zero=>
   intro n S3 zs au last m hn hq o3 f3 r3 bC _ _ _ _
   have h1:=(r3.num _ (EA bC)).1
   have:=UM last
   omega
  |succ q ih=>
   intro n S3 zs au last m hn hq o3 f3 r3 bC pY ug e3 hm
   have bZ:=r3.ne
   obtain⟨n,rfl⟩:∃k,n=k+1:=⟨n-1,⋯⟩
   obtain⟨z,ez,hz⟩:=o3.2.2 _ _ bC
   refine zcn ?_
   nofun
   refine yB (zp o3.1) (za3 (by rw[o3.2.1];exact ez)) ?_
   refine zaF (WF (zp e3)) (WF (Vr.1 _ _ hz)) rfl (zdK _ _) ?_
   refine⟨_,rfl,λhc=> ?_,λhc=> ?_⟩
   ·have kl:yy g last≠last:=by simpa using hc
    obtain⟨q1,q2⟩:=r3.num _ (EA bC)
    have uj:=zeQ q1 q2 kl
    have cZ:=UM (yy g last)
    rw[UL] at cZ
    refine yS (vm (Xb ?_))
    nofun
    refine⟨⟨_,zp o3.1⟩,?_⟩
    nofun
    refine xN (ww o3.1) (zhT (by rw[o3.2.1];omega)) ?_
    have o4:=o3.push (z:= .ref m) (a:=yy g last) (Tz (zp e3) ⋯)
    have f4:Fz S (S3.set tn (.lst (zs++[.ref m]))):=f3.set pW
    have r4:Rds g ms (au++[yy g last]):=by
     refine⟨by rw[Ex bZ];exact r3.fst,λi a b ha hb=> ?_,λa ha=> ?_⟩
     ·have hi:=(Es.1 hb).1
      rw[ER,G1] at hi
      rw[Ex ⋯] at ha
      by_cases cC:i+1<au.length
      ·rw[Ex cC] at hb
       exact r3.nxt i a b ha hb
      ·rw[EL ⋯,show i+1-au.length=0 by omega] at hb
       cases hb
       rw[show au.length-1=i by omega,ha] at bC
       cases bC
       exact⟨rfl,kl⟩
     ·rcases Ff.1 ha with ha|ha
      ·exact r3.num a ha
      ·rw[EZ] at ha
       subst ha
       exact⟨UL g last,(UJ _).1⟩
    have ky:(au++[yy g last])[(au++[yy g last]).length-1]? =some (yy g last):=by simp
    refine Wc (step _ _ _ _ _ _ o4 f4 r4 ky λm5 S5 o5 f5 e5 BG CU=> ?_)
    dsimp only[F7]
    exact ih n S5 _ _ _ m5 ⋯ ⋯ o5 f5 r4 ky (by simp;omega) (zbr.mono (λz hz=>by
     rcases Ff.1 hz with hz|hz
     ·exact ug.set z hz
     ·rw[EZ] at hz
      exact⟨m,_,hz,⋯,⋯,yV e3 ⋯⟩) CU) e5 BG
   ·have heq:yy g last=last:=by simpa using hc
    have hb:=UM last
    rw[(r3.num _ (EA bC)).1] at hb
    exact⟨_,zs,au,last,rfl,o3,r3,bC,heq,f3,ug,⋯⟩
 rcases loop (g.length+1) fu S3 _ _ _ m (by have:=bB.le;omega) ⋯ o3 f3 r2 rfl (by simp) (j8.mono gu) e3 hm with⟨ρ,S4,eq,a3,zs,au,last,rfl,o4,r4,h1,h2,f4,gM⟩|⟨_,_,_,z⟩
 ·refine .nx eq ?_
  nofun
  exact⟨tn,zs,au,last,rfl,pW,o4,r4,h1,h2,f4,gM⟩
 ·exact z.elim
theorem zig (bB:Big fu) {g:Net} {ms:List Int} (ok:Uc g) (hl:ms.length=g.length) (e:xy S x g) {mn:Nat} (em:S[mn]? =some (.lst (ms.map Xv.int))):
  W (WD fu [x,.ref mn] S) λv S'=>∃(tn:Nat) (zs:List Xv) (au:List (List Int)) (last:List Int),v= .ref tn/\S.length<=tn/\Zw vY S' tn zs au/\Rds g ms au/\au[au.length-1]? =some last/\yy g last=last/\Fz S S':=(zgs bB ok hl e em).imp λ_ _ ⟨tn,zs,au,last,h1,h2,h3,h4,h5,h6,h7,_⟩=>⟨tn,zs,au,last,h1,h2,h3,h4,h5,h6,h7⟩
end
section
variable {fu:Nat} {S S' S2:Sto} {x y:Xv} {ns:List Int}
theorem zjv:∀{l:List Int},(∀w∈l,0<=w)->∀w∈l,w<=l.sum:=by
 intro l
 induction l with
 |nil=>intro _ w hw;cases hw
 |cons a r ih=>
  intro hl w hw
  have ha:=hl a (by simp)
  have hr:0<=r.sum:=by
   cases r with
   |nil=>simp
   |cons b r2=>have h5:=ih (λw hw=>hl w (by simp[hw])) b (by simp);have:=hl b (by simp);omega
  rw[FK]
  rcases EJ.1 hw with rfl|hw
  ·omega
  ·have:=ih (λw hw=>hl w (by simp[hw])) w hw
   omega
theorem zih {s:Int} (h0:0<s) (h9:s<=9):s∣2520:=by
 have:s=1\/s=2\/s=3\/s=4\/s=5\/s=6\/s=7\/s=8\/s=9:=by omega
 rcases this with rfl|rfl|rfl|rfl|rfl|rfl|rfl|rfl|rfl<;>decide
theorem Ups.sh {aq:List (List Int)} {whole:Int} {ws:List (Int×Int)} {ups:List (Int×Q2)} (hw:0<whole) (h:Ups aq whole ws ups) (eW:∀w∈ws,0<w.2/\w.2<=whole):∀p∈ups,SH (whole*2520) p.2:=by
 induction h with
 |nil=>intro p hp;cases hp
 | @snoc ws ups to wt hs sp _ h0 h1 h2 h3 h4 h5 ih=>
  intro p hp
  rcases Ff.1 hp with hp|hp
  ·exact ih (λw hw=>eW w (GW _ hw)) p hp
  ·obtain⟨_,w,tU,jD,e⟩:=UE hp
   obtain⟨t1,t2⟩:=eW (to,wt) (by simp)
   have t1:0<wt:=t1
   have t2:wt<=whole:=t2
   have gI:=zaR h4
   have tT:=h4 w tU
   have iW:w<=sp.sum:=zjv (λw hw=>(h4 w hw).1) w tU
   have hb:0<whole*sp.sum:=Hd hw h5
   rw[e]
   refine⟨zhV hb ?_ ?_,?_⟩
   ·obtain⟨k,hk⟩:=zih h5 ⋯
    refine⟨k*(wt*w),?_⟩
    rw[hk,FG whole,FG whole,FG sp.sum]
   ·have h6:0<=wt*w:=Ho ⋯ ⋯
    have h7:wt*w<=whole*sp.sum:=Ip (G0 t2 ⋯) (Gs iW ⋯)
    omega
   ·rw[zft hb,Ht]
    refine Rat.mul_pos (by exact_mod_cast Hd t1 jD) ?_
    rw[Rat.inv_pos]
    exact_mod_cast hb
theorem Ups.empty {aq:List (List Int)} {whole:Int} {ws:List (Int×Int)} {ups:List (Int×Q2)} (h:Ups aq whole ws ups):ws=[]->ups=[]:=by
 cases h with
 |nil=>intro _;rfl
 |snoc=>intro z;simp at z
theorem vU.ok {c:Int} {aq:List (List Int)} {s:WK} {ch:Ch} (ho:zgl ns c aq) (h0:0<=c) (h4:c<=4) (iP:zlj c s) (h:vU aq s ch):zbq aq.flatten.length ch:=by
 obtain⟨_,u,hu,pu⟩:=h
 have lR:zeN c s.2.2:=⟨iP.nd,iP.wt⟩
 obtain⟨w1,w2,w3⟩:=zfx lR h0 h4
 have hlen:=hu.len
 have iW:=lR.len h0
 refine⟨?_,λp hp=> ?_,by rw[pu.length_eq];omega⟩
 ·by_cases hz:s.2.2=[]
  ·rw[hu.empty hz] at pu
   rw[pu.eq_nil]
   exact⟨1,∅,wA.mono (n:=1) (by unfold wA;decide) ∅,λp hp=>by cases hp⟩
  ·have dm:0<Vs s.2.2:=by
    cases hs:s.2.2 with
    |nil=>exact (hz hs).elim
    |cons w r=>
     have hm:w∈s.2.2:=by rw[hs];exact EG ..
     have:=w3 w hm
     have:=(iP.wt w hm).2
     rw[<-hs]
     omega
   have Ej:(2:Nat)^22=4194304:=by decide
   have Cz:wA 22 (Vs s.2.2*2520):=by unfold wA;omega
   refine⟨Vs s.2.2*2520,⋯,Cz.mono ∅,λp hp=> ?_⟩
   exact hu.sh dm (λw hw=>⟨(iP.wt w hw).2.1,w3 w hw⟩) p (pu.mem_iff.1 hp)
 ·obtain⟨w,_,hs,_,e,hm⟩:=hu.from p (pu.mem_iff.1 hp)
  have hf:=ho.flat
  have aC:p.1∈aq.flatten:=JC.2 ⟨hs,EA e,hm⟩
  rw[hf] at aC
  obtain⟨k,hk,e2⟩:=Ez.1 aC
  have:=Fx.1 hk
  have:=Xh (ns:=ns) (c:=(aq.flatten.length:Int)) (p:=(k:Int)) ⋯
  rw[e2] at this
  exact this
end
section
variable {fu:Nat} {S S' S2:Sto} {x y:Xv} {ns:List Int}
theorem zjw {ρ:Rho} {aq:List (List Int)} (hρ:ρ[2]? =some (some y)) (h:LAt vY S y aq) (hl:aq.length<=4) {P:Xv->Sto->Prop} (k:∀S',Fz S S'->P (.int aq.flatten.length) S'):
  W (eFn zag [(wu [none] (iL (ze 2)) (gN 0) wU (eFn Yj [(ze 0)]))] ρ S) P:=by
 obtain⟨l,el,ll,hh⟩:=h
 refine zg2 (vk (wc (vc (vx hρ ?_))))
 refine⟨_,el,_,el,?_⟩
 refine xq (by rw[ll];exact Fc (Zv ⋯)) (λi es S1=>S=S1/\es=((aq.take i).map λh=>(h.length:Int)).map Xv.int) ?_ ?_ ⟨rfl,rfl⟩ ?_
 ·rintro i es _ _ ⟨rfl,_⟩
  exact el
 ·rintro i w es _ hw fy ⟨rfl,rfl⟩
  have hi:i<aq.length:=by rw[<-ll];exact (Es.1 hw).1
  obtain⟨z,e1,e2⟩:=hh i _ (Er hi)
  rw[hw] at e1
  cases e1
  refine .of rfl ?_
  dsimp only[Yz,Gp,F7]
  nofun
  refine⟨rfl,?_⟩
  nofun
  refine YB e2 ?_
  refine⟨rfl,?_⟩
  rw[yf (Er hi),Fd,Fd,Eu]
  rfl
 ·rintro es _ eD ⟨rfl,rfl⟩
  rw[ll,F9]
  nofun
  refine Ua yu ?_
  have:(aq.map λh=>(h.length:Int)).sum=aq.flatten.length:=by
   clear hh ll el hl eD k
   induction aq with
   |nil=>rfl
   |cons a r ih=>rw[Ey,FK,ih,Jn,ER];omega
  rw[this]
  exact k _ Fz.refl.app
theorem wN {S S':Sto} {z:Xv} {a:List Ch} (p:Le S S') (h:LAt xa S z a):LAt xa S' z a:=LAt.mono (λ_ _ h=>xa.mono p h) p h
theorem zii {c:Int} {aq:List (List Int)} (ho:zgl ns c aq) {u:Int} (h:u∈aq.flatten):0<=u/\u<aq.flatten.length:=by
 have hf:=ho.flat
 rw[hf] at h
 obtain⟨k,hk,e⟩:=Ez.1 h
 have:=Fx.1 hk
 have:=Xh (ns:=ns) (c:=(aq.flatten.length:Int)) (p:=(k:Int)) ⋯
 rw[e] at this
 exact this
end
section
variable {fu:Nat} {S S' S2:Sto} {x y:Xv} {ns:List Int}
def zjx (g:Net):Prop:=∀chs∈g,∀c∈chs,0<c.1.2
def Vu (k:Nat) (S:Sto) (n:Nat) (l:List Xv) (chs:List Ch):Prop:=S[n]? =some (.lst l)/\l.length=chs.length/\∀(j:Nat) c,chs[j]? =some c->∃z,l[j]? =some z/\xa (Zx S k) z c
theorem Vu.to {k n:Nat} {l:List Xv} {chs:List Ch} (h:Vu k S n l chs) (e:S'[n]? =some (.lst l)) (p:Le (Zx S k) (Zx S' k)):Vu k S' n l chs:=
 ⟨e,h.2.1,λj c hc=>by obtain⟨z,e1,e2⟩:=h.2.2 j c hc;exact⟨z,e1,e2.mono p⟩⟩
theorem Vu.push {k n:Nat} {l:List Xv} {chs:List Ch} {z:Xv} {c:Ch} (h:Vu k S n l chs) (hz:xa (Zx S k) z c) (hn:n<k):Vu k (S.set n (.lst (l++[z]))) n (l++[z]) (chs++[c]):=by
 have p:Le (Zx S k) (Zx (S.set n (.lst (l++[z]))) k):=TB λm d hm e=> .inl (by rw[Yt,if_neg ⋯,EV,if_neg ⋯];exact e)
 refine⟨Zl h.1,by simp[h.2.1],λj b hb=> ?_⟩
 by_cases hj:j<chs.length
 ·rw[Ex hj] at hb
  obtain⟨y,e1,e2⟩:=h.2.2 j b hb
  exact⟨y,by rw[Ex (by rw[h.2.1];exact hj)];exact e1,e2.mono p⟩
 ·rw[EL ⋯] at hb
  have:j-chs.length=0:=by
   have:=(Es.1 hb).1
   simpa using this
  rw[this] at hb
  cases hb
  exact⟨z,by rw[EL (by rw[h.2.1];omega),h.2.1,this];rfl,hz.mono p⟩
theorem Vu.at {k n:Nat} {l:List Xv} {chs:List Ch} (h:Vu k S n l chs):LAt xa S (.ref n) chs:=⟨l,zp h.1,h.2.1,λi a ha=>by
 obtain⟨z,e1,e2⟩:=h.2.2 i a ha
 exact⟨z,e1,e2.mono vT⟩⟩
structure Nd (b nn k:Nat) (S:Sto) (zs:List Xv) (g:Net):Prop where
 net:S[nn]? =some (.lst zs)
 lz:zs.length=g.length
 lo:b+g.length<=nn
 hi:nn<k
 nod:∀(i:Nat) chs,g[i]? =some chs->∃n l,zs[i]? =some (.ref n)/\(n=b+i\/k<=n)/\Vu k S n l chs
section
variable {b nn k:Nat} {zs:List Xv} {g:Net}
theorem Nd.mono (h:Nd b nn k S zs g) (p:Fz S S'):Nd b nn k S' zs g:=⟨p.lst h.net,h.lz,h.lo,h.hi,λi chs e=>by
 obtain⟨n,l,e1,e2,o⟩:=h.nod i chs e
 exact⟨n,l,e1,e2,o.to (p.lst o.1) (vf p (EE _))⟩⟩
theorem zcQ {n:Nat} {c:Ce} (hn:n<k):Le (Zx S k) (Zx (S.set n c) k):=TB λm d hm e=> .inl (by rw[Yt,if_neg ⋯,EV,if_neg ⋯];exact e)
theorem Nd.oth {n:Nat} {c:Ce} (h:Nd b nn k S zs g) (h1:nn<n) (h2:n<k):Nd b nn k (S.set n c) zs g:=⟨yV h.net ⋯,h.lz,h.lo,h.hi,λi chs e=>by
 obtain⟨m,l,e1,e2,o⟩:=h.nod i chs e
 have hi:=(Es.1 e).1
 have:=h.lo
 exact⟨m,l,e1,e2,o.to (yV o.1 ⋯) (zcQ h2)⟩⟩
theorem Nd.push {u:Nat} {l:List Xv} {chs:List Ch} {z:Xv} {c:Ch} (h:Nd b nn k S zs g) (hu:zs[u]? =some (.ref (b+u))) (hg:g[u]? =some chs) (hl:S[b+u]? =some (.lst l)) (hz:xa (Zx S k) z c):Nd b nn k (S.set (b+u) (.lst (l++[z]))) zs (g.set u (chs++[c])):=by
 have fT:=(Es.1 hg).1
 have qo:=h.lo
 have qB:=h.hi
 refine⟨yV h.net ⋯,by rw[Fq];exact h.lz,by rw[Fq];exact h.lo,h.hi,λi chs' e=> ?_⟩
 rw[EV] at e
 split at e
 ·rename_i q
  subst q
  have e:some (chs++[c])=some chs':=by first|exact e|(rw[if_pos fT] at e;exact e)
  cases e
  obtain⟨m,l',e1,e2,o⟩:=h.nod u chs hg
  rw[hu] at e1
  cases e1
  obtain⟨o1,o2,o3⟩:=o
  rw[hl] at o1
  cases o1
  exact⟨_,_,hu,.inl rfl,Vu.push ⟨hl,o2,o3⟩ hz ⋯⟩
 ·rename_i q
  obtain⟨m,l',e1,e2,o⟩:=h.nod i chs' e
  have hi:=(Es.1 e).1
  exact⟨m,l',e1,e2,o.to (yV o.1 ⋯) (zcQ ⋯)⟩
theorem Nd.put {u m:Nat} {l:List Xv} {chs:List Ch} (h:Nd b nn k S zs g) (hu:u<g.length) (hm:k<=m) (o:Vu k S m l chs):Nd b nn k (S.set nn (.lst (zs.set u (.ref m)))) (zs.set u (.ref m)) (g.set u chs):=by
 have qo:=h.lo
 have qB:=h.hi
 refine⟨Zl h.net,by rw[Fq,Fq];exact h.lz,by rw[Fq];exact h.lo,h.hi,λi chs' e=> ?_⟩
 rw[EV] at e ⊢
 split at e
 ·rename_i q
  subst q
  have e:some chs=some chs':=by first|exact e|(rw[if_pos hu] at e;exact e)
  cases e
  exact⟨m,l,by rw[if_pos rfl,if_pos (by rw[h.lz];exact hu)],.inr hm,o.to (yV o.1 ⋯) (zcQ qB)⟩
 ·rename_i q
  obtain⟨m',l',e1,e2,o'⟩:=h.nod i chs' e
  have hi:=(Es.1 e).1
  exact⟨m',l',by rw[if_neg q];exact e1,e2,o'.to (yV o'.1 ⋯) (zcQ qB)⟩
theorem Nd.at (h:Nd b nn k S zs g):xy S (.ref nn) g:=⟨zs,zp h.net,h.lz,λi chs e=>by
 obtain⟨n,l,e1,_,o⟩:=h.nod i chs e
 exact⟨_,e1,o.at⟩⟩
end
theorem zfC {ρ:Rho} {i:Nat} {N:Nat} {P:Xv->Sto->Prop} (hρ:ρ[i]? =some (some (.int N))) (hN:N<=60) (k:∀S' zs,Fz S S'->S'.length=S.length+N+1->(∀k',S.length+N<k'->Nd S.length (S.length+N) k' S' zs (Fp N []))->(∀i,i<N->zs[i]? =some (.ref (S.length+i)))->P (.ref (S.length+N)) S'):
  W (wu [none] (iR1 (ze i)) (gN 0) wU (YU []) ρ S) P:=by
 refine wc (Wd (vx hρ ?_))
 refine⟨_,rfl,⟨⋯,⋯⟩,_,rfl,?_⟩
 refine xq (by rw[yO];exact Fc (Zv ⋯)) (λi es S4=>S4=S++Fp i (.lst [])/\es=(Fv i).map λj=> .ref (S.length+j)) (λ_ _ _ _ _=>rfl) ?_ ⟨by simp,rfl⟩ ?_
 ·rintro i w es _ hw fy ⟨rfl,rfl⟩
  refine .of rfl ?_
  dsimp only[Yz,Gp,F7]
  walk_at "z"
  refine⟨rfl,?_⟩
  walk_at "z"
  refine⟨by rw[J5,GD],?_⟩
  rw[IH,Fd,ER,IW]
  rfl
 rintro es _ hl ⟨rfl,rfl⟩
 rw[yO,show (N:Int).toNat=N by omega]
 have hlen:(S++Fp N (Ce.lst [])).length=S.length+N:=by simp
 have dS:∀i,i<N->(((Fv N).map λj=>Xv.ref (S.length+j)))[i]? =some (.ref (S.length+i)):=λi hi=>by
  rw[EB,HI hi]
  rfl
 rw[hlen]
 refine k _ _ (Fz.refl.app.app) (by simp;omega) (λk' hk=>⟨?_,by simp,by simp,hk,λi chs e=> ?_⟩) dS
 ·rw[<-hlen];exact yU
 ·have hi:i<N:=by have:=(Es.1 e).1;simpa using this
  rw[Ga,if_pos hi] at e
  cases e
  refine⟨S.length+i,[],dS i hi,.inl rfl,?_,rfl,λj c hc=>by simp at hc⟩
  rw[Ex ⋯,EL ⋯,Iy,Ga,if_pos hi]
end
section
variable {fu:Nat} {S S' S0:Sto} {x y:Xv} {ns:List Int}
theorem Nd.cell {b nn k u:Nat} {zs:List Xv} {g:Net} {chs:List Ch} (h:Nd b nn k S zs g) (hu:zs[u]? =some (.ref (b+u))) (hg:g[u]? =some chs):∃l,Vu k S (b+u) l chs:=by
 obtain⟨n,l,e1,_,o⟩:=h.nod u chs hg
 rw[hu] at e1
 cases e1
 exact⟨l,o⟩
theorem Vu.rev {k n:Nat} {l:List Xv} {chs:List Ch} (h:Vu k S n l chs) (hk:k<=S.length):Vu k (S++[.lst l.reverse]) S.length l.reverse chs.reverse:=by
 refine⟨yU,by rw[Gd,Gd];exact h.2.1,λi ch hc=> ?_⟩
 have hi:i<chs.length:=by
  have:=(Es.1 hc).1
  rwa [Gd] at this
 rw[Hy hi] at hc
 obtain⟨z,r1,r2⟩:=h.2.2 _ _ hc
 refine⟨z,?_,r2.mono (vf Fz.refl.app (EE _))⟩
 rw[Hy (by rw[h.2.1];exact hi),h.2.1]
 exact r1
theorem zlq (bB:Big fu) {c cl:Int} {tab:List (List WK)} {aq:List (List Int)} {nn mn k i un:Nat} {u:Int} {zs:List Xv} {g:Net} {ms:List Int} {a1 a2:Xv} {a3 a8 fj fi fh:Option Xv} {N:Rho->Sto->Prop} {R:Xv->Sto->Prop}
  (hs:L2.zv S0 (.ref 0)=some (ns.map Xv.int)) (ht:LAt zaQ S0 a1 tab) (hh:LAt vY S0 a2 aq) (ho:zgl ns c aq) (tok:∀b∈tab,zjl c b) (h0:0<=c) (h4:c<=4) (pY:(tab.length:Int)=c) (hi:i<tab.length)
  (f0:Fz S0 S) (d:Nd S0.length nn k S zs g) (em:S[mn]? =some (.lst (ms.map Xv.int))) (qf:nn<mn) (BE:mn<k) (hk:k<=S.length) (lm:ms.length=g.length) (hu:u=(un:Int)) (fT:un<g.length) (hz:zs[un]? =some (.ref (S0.length+un))) (hg:g[un]? =some [])
  (kk:∀S' zs' chs mk fj fi fh,Nd S0.length nn k S' zs' (g.set un chs)->(∀j,j≠un->zs'[j]? =zs[j]?)->chs.length<=4->(∀ch∈chs,∃b∈tab,∃s∈b,vU aq s ch)->S'[mn]? =some (.lst ((ms.set un mk).map Xv.int))->Fz S0 S'->k<=S'.length->N [some (.ref 0),some a1,some a2,a3,some (.ref nn),some (.ref mn),some (.int cl),some (.int i),a8,some (.int u),fj,fi,fh] S'):
  WS (zI (yk (eOp xf (YU [(eC (.int 0)),(eC (.int 7)),(eUn Uk (eOp Xp (ze 6) (eOp zei (eC (.int 10)) (eC (.int 60)))))]) (zC (zA fu) [(eOp vw (ze 6) (eOp ZL (ze 7) (ze 7))),(eC (.int 40009)),(eC (.int 3))])) (Vg (ze 5) (ze 9))) (zI (vW (iL (eUn Uy (eOp xf (ze 1) (ze 7)))) (gN 10) (zI (yk (VJ (eOp xf (ze 1) (ze 7)) (ze 10)) (gL 2 (zZ (gN 11) (zZ (gN 12) vB)))) (zI (vA (eMt yt (eOp xf (ze 4) (ze 9)) [(wj [(ze 11),(zC (xC fu) [(ze 0),(ze 9),(ze 12),(ze 2)])])])) (sIf (bE (eOp zae (zC (zA fu) [(eOp vw (ze 6) (ze 9)),(eC (.int 60013)),(eC (.int 3))]) (eC (.int 0)))) (vA (eMt yt (eOp xf (ze 4) (ze 9)) [(wj [(ze 11),(zC (xC fu) [(ze 0),(eOp vw (ze 9) (eC (.int 1))),(ze 12),(ze 2)])])])) xg)))) (sIf (bE (eOp zae (zC (zA fu) [(eOp vw (ze 6) (ze 9)),(eC (.int 30011)),(eC (.int 2))]) (eC (.int 1)))) (yk (eUn YW (eOp xf (ze 4) (ze 9))) (Vg (ze 4) (ze 9))) xg))
   [some (.ref 0),some a1,some a2,a3,some (.ref nn),some (.ref mn),some (.int cl),some (.int i),a8,some (.int u),fj,fi,fh] S) N R:=by
 have qo:=d.lo
 have jd:∀{l:List Xv},l.length=g.length->ixN l.length u=some un:=λ{l} hl=>by
  unfold ixN
  rw[hl,if_pos ⋯,if_pos ⋯]
  congr 1
  omega
 have iV:∀{zs:List Xv} {z:Xv},zs[un]? =some z->atI zs u=some z:=λ{zs z} h=>wk ⋯ (by rw[show u.toNat=un by omega];exact h)
 refine yS (zap ?_)
 walk_at "z"
 refine vn (VZ ⋯ ⋯) ?_
 walk_at "z"
 obtain⟨m0,m1⟩:=ZT (n:=cl+(i:Int)*(i:Int)) (p:=40009) (q:=3) ∅
 obtain⟨mk,BA⟩:∃mk,atI [Xv.int 0,.int 7,.int (-(cl % 10^Gb 60))] (vg (cl+(i:Int)*(i:Int)) 40009 3)=some (.int mk):=by
  have:(vg (cl+(i:Int)*(i:Int)) 40009 3).toNat=0\/(vg (cl+(i:Int)*(i:Int)) 40009 3).toNat=1\/(vg (cl+(i:Int)*(i:Int)) 40009 3).toNat=2:=by omega
  rcases this with h|h|h
  ·exact⟨_,wk m0 (by rw[h];rfl)⟩
  ·exact⟨_,wk m0 (by rw[h];rfl)⟩
  ·exact⟨_,wk m0 (by rw[h];rfl)⟩
 refine yB yu BA ?_
 walk_at "z"
 have f1:Fz S (S++[Ce.lst [.int 0,.int 7,.int (-(cl % 10^Gb 60))]]):=Fz.refl.app
 generalize S++[Ce.lst [.int 0,.int 7,.int (-(cl % 10^Gb 60))]]=S1 at f1 ⊢
 refine⟨mn,_,u,un,ww (f1.lst em),rfl,jd (by rw[Eu];exact lm),?_⟩
 have uX:(S1.set mn (.lst ((ms.map Xv.int).set un (.int mk))))[mn]? =some (.lst ((ms.set un mk).map Xv.int)):=by rw[Zl (f1.lst em),JX]
 have d2:=(d.mono f1).oth (c:= .lst ((ms.map Xv.int).set un (.int mk))) qf BE
 have f2:Fz S0 (S1.set mn (.lst ((ms.map Xv.int).set un (.int mk)))):=(f0.trans f1).set ⋯
 have ur:k<=(S1.set mn (.lst ((ms.map Xv.int).set un (.int mk)))).length:=by rw[Fq];have:=f1.1;omega
 generalize S1.set mn (.lst ((ms.map Xv.int).set un (.int mk)))=S2 at uX d2 f2 ur ⊢
 clear f1 em d f0
 obtain⟨tl,kZ,lX,pX⟩:=ht
 obtain⟨tz,D1,uJ⟩:=pX i _ (Er hi)
 have qQ:=EK hi
 have lP:=tok _ qQ
 generalize tab[i]=b at qQ lP uJ
 have uV:atI tl (i:Int)=some tz:=wk (k:=(i:Int)) ⋯ (by rw[Fw];exact D1)
 have jo:b.length<=2:=by
  have:=zaP 2 (b.map (·.1)) lP.nd λx hx=>by
   obtain⟨s,hs,rfl⟩:=Ez.1 hx
   exact (lP.all s hs).key
  rwa [Eu] at this
 obtain⟨n,kvs,e1,e2,e3⟩:=uJ
 have eY:kvs.map (·.1)=(b.map (·.1)).map Ft:=zbU (f:=(·.1)) e2 λi s hs=>by obtain⟨kv,q1,q2⟩:=e3 i s hs;exact⟨kv,q1,q2.1⟩
 refine yS (xz (vc ?_))
 walk_at "z"
 refine yB (f2.lstAt kZ) uV ?_
 walk_at "z"
 refine zhS (f2.drAt e1) (zaU eY) (by rw[Eu];omega) ?_
 have gI:(yX (b.map (·.1))).reverse.length=b.length:=by rw[Gd,YT,Eu]
 have u5:∀q∈(yX (b.map (·.1))).reverse,q∈b.map (·.1):=λq hq=>(Zc _).mem_iff.1 (JD.1 hq)
 generalize (yX (b.map (·.1))).reverse=sl at gI u5 ⊢
 have f3:Fz S2 (S2++[Ce.lst (sl.map Xv.int)]):=Fz.refl.app
 have es:(S2++[Ce.lst (sl.map Xv.int)])[S2.length]? =some (.lst (sl.map Xv.int)):=yU
 have u3:k<=S2.length:=ur
 generalize S2.length=sn at es u3 ⊢
 generalize S2++[Ce.lst (sl.map Xv.int)]=S3 at f3 es ⊢
 refine⟨_,zp es,_,zp es,?_⟩
 have Ca:g.set un []=g:=by
  obtain⟨p1,p2⟩:=Es.1 hg
  rw[<-p2]
  exact Hz p1
 refine yF (xs:=sl.map Xv.int) (λj ρ S4=>∃fj fi fh chs,ρ=[some (.ref 0),some a1,some a2,a3,some (.ref nn),some (.ref mn),some (.int cl),some (.int i),a8,some (.int u),fj,fi,fh]/\Nd S0.length nn k S4 zs (g.set un chs)/\S4[mn]? =some (.lst ((ms.set un mk).map Xv.int))/\S4[sn]? =some (.lst (sl.map Xv.int))/\Fz S0 S4/\k<=S4.length/\(∀ch∈chs,∃s∈b,vU aq s ch)/\chs.length<=2*j) ?_ ?_ ?_ ?_
 ·rintro j ρ S4 _ ⟨_,_,_,_,_,_,_,e,_⟩
  exact zp e
 ·rintro j w ρ S4 hx ⟨fj,fi,fh,chs,rfl,d4,gv,mP,f4,jI,c1,c2⟩
  obtain⟨kq,ek,rfl⟩:=wm hx
  have hj:j<2:=by have:=(Es.1 ek).1;omega
  obtain⟨s,eM,rfl⟩:=Ez.1 (u5 kq (EA ek))
  have iP:=lP.all s eM
  obtain⟨si,D3⟩:=Fu eM
  obtain⟨kv,q1,q2,pn,wn,q3,q4,q5⟩:=e3 si s D3
  have hv:=zh7 (zlo lP.nd eY) (EA q1)
  rw[q2,q3] at hv
  refine .of rfl ?_
  dsimp only[F7]
  refine yS (zcm (zan ?_))
  walk_at "z"
  refine yB (f4.lstAt kZ) uV ?_
  walk_at "z"
  refine⟨n,kvs,.inl s.1,_,f4.drAt e1,rfl,hv,?_⟩
  refine zln (f4.lstAt q4) ?_
  dsimp only[F7]
  have lR:zeN c s.2.2:=⟨iP.nd,iP.wt⟩
  have one:∀(S4:Sto) (chs:List Ch) (nd:Int) (P:Xv->Sto->Prop),0<=nd->Nd S0.length nn k S4 zs (g.set un chs)->S4[mn]? =some (.lst ((ms.set un mk).map Xv.int))->S4[sn]? =some (.lst (sl.map Xv.int))->Fz S0 S4->k<=S4.length->chs.length<=60->
    (∀S5 ch,Nd S0.length nn k S5 zs (g.set un (chs++[ch]))->S5[mn]? =some (.lst ((ms.set un mk).map Xv.int))->S5[sn]? =some (.lst (sl.map Xv.int))->Fz S0 S5->k<=S5.length->vU aq s ch->P .non S5)->
    W (xC fu [.ref 0,.int nd,.ref wn,a2] S4) λd S5=>WO (yt (.ref (S0.length+un)) [.tup [qv s.2.1,d]] S5) P:=by
   intro S4 chs nd P gK d4 gv mP f4 jI l4 k5
   refine (zjq bB (f4.lstAt hs) (f4.drAt q5) lR (HmsAt.mono f4.le hh) ho h0 h4 gK).imp ?_
   rintro _ S5 ⟨m,ps,ups,rfl,hm,jx,Bk,hp,f5⟩
   have d5:=d4.mono f5
   have jh:(g.set un chs)[un]? =some chs:=by rw[EV,if_pos rfl,if_pos fT]
   obtain⟨l5,o5⟩:=d5.cell hz jh
   refine xN (ww o5.1) (Zv (by rw[o5.2.1];omega)) ?_
   have d6:=d5.push (z:= .tup [qv s.2.1,.ref m]) (c:=(s.2.1,ps)) hz jh o5.1 ⟨m,rfl,Zy (zp jx) ⋯⟩
   rw[Jf] at d6
   refine k5 _ _ d6 (yV (f5.lst gv) ⋯) (yV (f5.lst mP) ⋯) ((f4.trans f5).set ⋯) (by rw[Fq];have:=f5.1;omega) ⟨rfl,ups,Bk,hp⟩
  refine yS (vm (Xb ?_))
  walk_at "z"
  refine yB (zp d4.net) (iV hz) ?_
  obtain⟨l4,o4⟩:=d4.cell (chs:=chs) hz (by rw[EV,if_pos rfl,if_pos fT])
  refine⟨⟨_,zp o4.1⟩,?_⟩
  walk_at "z"
  refine (one S4 chs u _ ⋯ d4 gv mP f4 jI ⋯ λS5 ch d5 jx uW f5 iF p5=> ?_).imp λ_ _ hd=>Vk (Vk hd)
  have s5:∀c'∈chs++[ch],∃s∈b,vU aq s c':=λc' hc=>by
   rcases Ff.1 hc with hc|hc
   ·exact c1 c' hc
   ·rw[EZ] at hc
    exact⟨s,eM,hc ▸ p5⟩
  refine xR ?_
  walk_at "z"
  refine Zk (λ_=> ?_) (λ_=> ?_)
  ·refine vm (Xb ?_)
   walk_at "z"
   refine yB (zp d5.net) (iV hz) ?_
   obtain⟨l5,o5⟩:=d5.cell (chs:=chs++[ch]) hz (by rw[EV,if_pos rfl,if_pos fT])
   refine⟨⟨_,zp o5.1⟩,?_⟩
   walk_at "z"
   refine (one S5 (chs++[ch]) (u+1) _ ⋯ d5 jx uW f5 iF (by rw[ER];simp;omega) λS6 Ep d6 lj D4 f6 mm p6=> ?_).imp λ_ _ hd=>Vk (Vk hd)
   refine⟨_,_,_,_,rfl,d6,lj,D4,f6,mm,λc' hc=> ?_,by simp;omega⟩
   rcases Ff.1 hc with hc|hc
   ·exact s5 c' hc
   ·rw[EZ] at hc
    exact⟨s,eM,hc ▸ p6⟩
  ·walk_at "z"
   exact⟨_,_,_,_,rfl,d5,jx,uW,f5,iF,s5,by simp;omega⟩
 ·exact⟨_,_,_,[],rfl,by rw[Ca];exact d2.mono f3,f3.lst uX,es,f2.trans f3,by have:=f3.1;omega,by simp,by simp⟩
 ·rintro ρ S4 ⟨fj,fi,fh,chs,rfl,d4,gv,mP,f4,jI,c1,c2⟩
  rw[Eu,gI] at c2
  have c3:∀ch∈chs,∃b∈tab,∃s∈b,vU aq s ch:=λch hc=>⟨b,qQ,c1 ch hc⟩
  refine xR ?_
  walk_at "z"
  refine Zk (λ_=> ?_) (λ_=> ?_)
  ·refine zap ?_
   walk_at "z"
   refine yB (zp d4.net) (iV hz) ?_
   walk_at "z"
   obtain⟨l4,o4⟩:=d4.cell (chs:=chs) hz (by rw[EV,if_pos rfl,if_pos fT])
   refine WO.of (show YW (.ref (S0.length+un)) S4=some (.ref S4.length,S4++[.lst l4.reverse]) from ?_) ?_
   ·unfold YW
    rw[zp o4.1]
    rfl
   have f5:Fz S4 (S4++[.lst l4.reverse]):=Fz.refl.app
   have d5:=(d4.mono f5).put (u:=un) (by rw[Fq];exact fT) jI (o4.rev jI)
   rw[Jf] at d5
   walk_at "z"
   refine⟨nn,zs,u,un,ww (f5.lst d4.net),rfl,jd (by rw[d4.lz,Fq]),?_⟩
   exact kk _ _ _ mk _ _ _ d5 (λj hj=>by rw[EV,if_neg (λz=>hj z.symm)]) (by rw[Gd];omega) (λch hc=>c3 ch (JD.1 hc)) (yV (f5.lst gv) ⋯) ((f4.trans f5).set ⋯) (by rw[Fq];have:=f5.1;omega)
  ·walk_at "z"
   exact kk _ _ _ mk _ _ _ d4 (λ_ _=>rfl) ⋯ c3 gv f4 jI
end
section
variable {fu:Nat} {S S' S0:Sto} {x y:Xv} {ns:List Int}
theorem zfD {ρ:Rho} {i N:Nat} {v:Int} {P:Xv->Sto->Prop} (hρ:ρ[i]? =some (some (.int N))) (hN:N<=60) (k:P (.ref S.length) (S++[.lst ((Fp N v).map Xv.int)])):
  W (wu [none] (iR1 (ze i)) (gN 0) wU (eC (.int v)) ρ S) P:=by
 refine wc (Wd (vx hρ ?_))
 refine⟨_,rfl,⟨⋯,⋯⟩,_,rfl,?_⟩
 refine xq (by rw[yO];exact Fc (Zv ⋯)) (λi es S6=>S=S6/\es=(Fp i v).map Xv.int) (λ_ _ _ _ _=>rfl) ?_ ⟨rfl,rfl⟩ ?_
 ·rintro i w es _ hw fy ⟨rfl,rfl⟩
  refine .of rfl ?_
  dsimp only[Yz,Gp,F7]
  walk_at "z"
  refine⟨rfl,?_⟩
  walk_at "z"
  exact⟨rfl,by rw[J5,Fd];rfl⟩
 rintro es _ _ ⟨rfl,rfl⟩
 rw[yO,show (N:Int).toNat=N by omega]
 exact k
def Toc (aq:List (List Int)) (i j:Nat) (u:Nat):Prop:=∃(i' j':Nat) (dC:List Int),aq[i']? =some dC/\dC[j']? =some (u:Int)/\(i<i'\/(i=i'/\j<=j'))
theorem zjy (bB:Big fu) {τ:List Kd} (hT:∀c,Ty c 2 0 τ S) (h0:τ[0]? =some (.frz (ns.map Xv.int))):W (YN fu [.ref 0] S) λv S'=>∃(nn mn:Nat) (g:Net) (ms:List Int),v= .tup [.ref nn,.ref mn]/\xy S' (.ref nn) g/\S'[mn]? =some (.lst (ms.map Xv.int))/\Uc g/\zjx g/\ms.length=g.length/\0<g.length/\L2.zv S' (.ref 0)=some (ns.map Xv.int):=by
 walk_at "wr";unfold YM
 walk_at "z"
 refine (zh2 bB hT h0).imp ?_
 rintro a1 S1 ⟨c,tab,c0,c4,gH,pY,tok,fH⟩
 walk_at "z"
 obtain⟨tl,kZ,lX,_⟩:=id gH
 refine YB kZ ?_
 walk_at "z"
 have fA:(tl.length:Int)=c:=by omega
 rw[fA]
 refine (zjn fH c0 c4).imp ?_
 rintro a2 S2 ⟨aq,qC,ho,f2⟩
 have iC:=f2.lstAt fH
 have iY:LAt zaQ S2 a1 tab:=LAt.mono (λ_ _ h=>zaQ.mono f2.le h) f2.le gH
 clear gH fH kZ lX f2
 have fI:=ho.len
 have iX:=ho.tot
 refine yS (Wc (zjw (y:=a2) rfl qC ⋯ λS3 f3=> ?_))
 dsimp only[F7]
 have pZ:=f3.lstAt iC
 have Bm:LAt zaQ S3 a1 tab:=LAt.mono (λ_ _ h=>zaQ.mono f3.le h) f3.le iY
 have mx:=HmsAt.mono f3.le qC
 clear iC iY qC f3
 have dm:0<aq.flatten.length:=by
  cases aq with
  |nil=>simp at fI;omega
  |cons h r=>have:=(ho.each h (by simp)).1;simp;omega
 have gK:=zcO (zdU ho)
 have fx:∀{i:Nat} {hs:List Int} {u:Int},aq[i]? =some hs->u∈hs->0<=u/\u<aq.flatten.length:=λ{i hs u} e hu=>zii ho (JC.2 ⟨hs,EA e,hu⟩)
 generalize hN:aq.flatten.length=N at iX dm fx ⊢
 refine yS (Wc (zfC (i:=3) rfl ⋯ λS4 x5 f4 l4 kr k7=> ?_))
 dsimp only[F7]
 refine yS (Wc (zfD (i:=3) rfl ⋯ ?_))
 dsimp only[F7]
 have n5:=(kr (S4.length+1) ⋯).mono (Fz.refl.app (T:=[.lst ((Fp N (0:Int)).map Xv.int)]))
 have jx:(S4++[.lst ((Fp N (0:Int)).map Xv.int)])[S4.length]? =some (.lst ((Fp N (0:Int)).map Xv.int)):=yU
 have f5:Fz S3 (S4++[.lst ((Fp N (0:Int)).map Xv.int)]):=f4.app
 have iF:S4.length+1<=(S4++[Ce.lst ((Fp N (0:Int)).map Xv.int)]).length:=by simp
 have By:S3.length+N<S4.length:=by omega
 clear kr f4
 generalize S4.length=mn at*
 clear l4
 generalize S4++[Ce.lst ((Fp N (0:Int)).map Xv.int)]=S5 at n5 jx f5 iF ⊢
 walk_at "z"
 refine W.eqs (ZS ∅ (f5.lstAt pZ)) ?_
 generalize xD ns (Gb 2)=cl
 obtain⟨eD,rm,AI,BX⟩:=id mx
 refine yS (xz (zaq (vx rfl ?_)))
 refine⟨_,f5.lstAt rm,wV eD,by dsimp only;rw[f5.lstAt rm];rfl,?_⟩
 refine yF (xs:=wV eD) (λi ρ S6=>∃a7 a8 a9 fj fi fh zs g,∃ms:List Int,ρ=[some (.ref 0),some a1,some a2,some (.int N),some (.ref (S3.length+N)),some (.ref mn),some (.int cl),a7,a8,a9,fj,fi,fh]/\Nd S3.length (S3.length+N) (mn+1) S6 zs g/\S6[mn]? =some (.lst (ms.map Xv.int))/\g.length=N/\ms.length=N/\Fz S3 S6/\mn+1<=S6.length/\(∀chs∈g,chs.length<=4/\∀ch∈chs,∃b∈tab,∃s∈b,vU aq s ch)/\∀u,Toc aq i 0 u->zs[u]? =some (.ref (S3.length+u))/\g[u]? =some []) ?_ ?_ ?_ ?_
 ·rintro i ρ S6 _ ⟨_,_,_,_,_,_,_,_,_,_,_,_,_,_,f6,_⟩
  show (L2.zv S6 a2).map wV=_
  rw[f6.lstAt rm]
  rfl
 ·rintro i w ρ S6 hw ⟨a7,a8,a9,fj,fi,fh,zs,g,ms,rfl,n6,lj,lg,lm,f6,mm,gx,jO⟩
  obtain⟨z,ez,rfl⟩:=YX hw
  have hi:i<aq.length:=by rw[<-AI];exact (Es.1 ez).1
  have gP:=Er hi
  generalize aq[i]=hs at gP
  obtain⟨z',e1,hz⟩:=BX i hs gP
  rw[ez] at e1
  cases e1
  refine .of rfl ?_
  dsimp only[F7]
  refine xz (vc (vx rfl ?_))
  refine⟨_,f6.lstAt hz,_,f6.lstAt hz,?_⟩
  refine yF (xs:=hs.map Xv.int) (λj ρ S6=>∃a9 fj fi fh zs g,∃ms:List Int,ρ=[some (.ref 0),some a1,some a2,some (.int N),some (.ref (S3.length+N)),some (.ref mn),some (.int cl),some (.int i),some z,a9,fj,fi,fh]/\Nd S3.length (S3.length+N) (mn+1) S6 zs g/\S6[mn]? =some (.lst (ms.map Xv.int))/\g.length=N/\ms.length=N/\Fz S3 S6/\mn+1<=S6.length/\(∀chs∈g,chs.length<=4/\∀ch∈chs,∃b∈tab,∃s∈b,vU aq s ch)/\∀u,Toc aq i j u->zs[u]? =some (.ref (S3.length+u))/\g[u]? =some []) ?_ ?_ ⟨_,_,_,_,_,_,_,rfl,n6,lj,lg,lm,f6,mm,gx,jO⟩ ?_
  ·rintro j ρ S7 _ ⟨_,_,_,_,_,_,_,_,_,_,_,_,f7,_⟩
   exact f7.lstAt hz
  ·rintro j w ρ S7 jD ⟨a9,fj,fi,fh,zs,g,ms,rfl,n7,rl,lg,lm,f7,qt,jA,gS⟩
   obtain⟨u,eu,rfl⟩:=wm jD
   have tZ:=EA eu
   obtain⟨u0,u1⟩:=fx gP tZ
   obtain⟨un,rfl⟩:∃un:Nat,u=un:=⟨u.toNat,⋯⟩
   obtain⟨t1,t2⟩:=gS un ⟨i,j,hs,gP,eu,.inr ⟨rfl,EE _⟩⟩
   refine .of rfl ?_
   dsimp only[F7]
   refine zlq bB (u:=(un:Int)) (un:=un) pZ Bm mx ho tok ⋯ c4 pY ⋯ f7 n7 rl By ⋯ qt (by rw[lg,lm]) rfl ⋯ t1 t2 λS8 zs' chs mk fj fi fh n8 pK uH hX D8 f8 BO=> ?_
   refine⟨_,_,_,_,zs',_,_,rfl,n8,D8,by rw[Fq];exact lg,by rw[Fq];exact lm,f8,BO,λc' cI=> ?_,λv hv=> ?_⟩
   ·rcases Hg cI with h|rfl
    ·exact jA c' h
    ·exact⟨uH,hX⟩
   ·obtain⟨i',j',dC,q1,q2,q3⟩:=hv
    have bZ:v≠un:=by
     intro q
     subst q
     have BV:=gK.2 _ _ _ _ _ q1 gP (EA q2) tZ
     subst BV
     rw[gP] at q1
     cases q1
     obtain⟨p1,p2⟩:=Es.1 q2
     obtain⟨r1,r2⟩:=Es.1 eu
     have:=(FW (gK.1 _ _ gP)).1 (p2.trans r2.symm)
     omega
    obtain⟨r1,r2⟩:=gS v ⟨i',j',dC,q1,q2,⋯⟩
    rw[pK v bZ,EV,if_neg (λz=>bZ z.symm)]
    exact⟨r1,r2⟩
  ·rintro ρ S7 ⟨a9,fj,fi,fh,zs,g,ms,rfl,n7,rl,lg,lm,f7,qt,jA,gS⟩
   refine⟨_,_,_,_,_,_,zs,g,ms,rfl,n7,rl,lg,lm,f7,qt,jA,λu hu=>gS u ?_⟩
   obtain⟨i',j',dC,q1,q2,q3⟩:=hu
   exact⟨i',j',dC,q1,q2,.inl ⋯⟩
 ·refine⟨_,_,_,_,_,_,x5,Fp N [],Fp N 0,rfl,n5,jx,by simp,by simp,f5,iF,λchs hc=> ?_,λu hu=> ?_⟩
  ·rw[Iu hc]
   simp
  ·obtain⟨i',j',dC,q1,q2,q3⟩:=hu
   have:=fx q1 (EA q2)
   exact⟨k7 u ⋯,by rw[Ga,if_pos ⋯]⟩
 rintro ρ S6 ⟨a7,a8,a9,fj,fi,fh,zs,g,ms,rfl,n6,lj,lg,lm,f6,mm,gx,jO⟩
 walk_at "z"
 refine⟨_,_,g,ms,rfl,n6.at,lj,⟨⋯,λchs hc=>(gx chs hc).1,λchs hc ch eJ=> ?_⟩,λchs hc ch eJ=> ?_,⋯,⋯,f6.lstAt pZ⟩
 ·obtain⟨b,hb,s,hs,p⟩:=(gx chs hc).2 ch eJ
  rw[lg,<-hN]
  exact p.ok ho ⋯ c4 ((tok b hb).all s hs)
 ·obtain⟨b,hb,s,hs,p⟩:=(gx chs hc).2 ch eJ
  rw[p.1]
  exact ((tok b hb).all s hs).gp
end
section
variable {fu:Nat} {S S' S0:Sto} {x y:Xv} {ns:List Int}
theorem zlr:val (1,1)=1:=by
 show ((1:Int):Rat) / ((1:Int):Rat)=1
 rw[Ht]
 exact Jg _ (VY ∅)
theorem zls {N:Nat} {q:Q2} {m:Int} (h0:0<=m) (h1:m<N):zbq N (q,[(m,(1,1))]):=by
 refine⟨⟨1,∅,wA.mono (n:=1) (by unfold wA;decide) ∅,λp hp=> ?_⟩,λp hp=> ?_,by simp⟩
 ·have hp:p=(m,(1,1)):=by simpa using hp
  subst hp
  exact show SH 1 (1,1) from ⟨⟨∅,∅,∅,∅⟩,by rw[zlr];decide⟩
 ·have hp:p=(m,(1,1)):=by simpa using hp
  subst hp
  exact⟨h0,h1⟩
theorem zmt {c:Bool} {A G X:Prop} (g:G) (a:G->X):(c=true->X)/\(c=false->(false=true->A)/\(false=false->G)):=⟨λ_=>a g,λ_=>⟨nofun,λ_=>g⟩⟩
theorem zlt {hs:L2.zv S (.ref 0)=some (ns.map Xv.int)}:W (XB fu [.ref 0] S) λv S'=>∃(nn mn:Nat) (g:Net) (ms:List Int),v= .tup [.ref nn,.ref mn]/\xy S' (.ref nn) g/\S'[mn]? =some (.lst (ms.map Xv.int))/\Uc g/\zjx g/\ms.length=g.length/\0<g.length/\Fz S S':=by
 walk_at "wr";unfold XA
 walk_at "z"
 obtain⟨m0,m1⟩:=ZT (n:=xD ns (Gb 0)) (p:=80021) (q:=15) ∅
 obtain⟨l0,l1⟩:=ZT (n:=xD ns (Gb 0)) (p:=90001) (q:=15) ∅
 generalize vg (xD ns (Gb 0)) 80021 15=mf at m0 m1 ⊢
 generalize vg (xD ns (Gb 0)) 90001 15=mc at l0 l1 ⊢
 obtain⟨N,hN⟩:∃N:Nat,1+mf+1+mc=N:=⟨(1+mf+1+mc).toNat,⋯⟩
 rw[hN]
 have hc:(0:Int)<N:=by omega
 refine zfC (i:=2) (N:=N) rfl ⋯ λS4 zs f4 l4 kr k7=> ?_
 have n4:=kr (S.length+N+1) ⋯
 refine yS (xz (Wd (vx rfl ?_)))
 refine⟨_,rfl,⟨⋯,⋯⟩,_,rfl,?_⟩
 refine yF (xs:=Yy 0 (N:Int).toNat) (λi ρ S5=>∃a4 a5 g,ρ=[some (.ref 0),some (.int (1+mf)),some (.int N),some (.ref (S.length+N)),a4,a5]/\Nd S.length (S.length+N) (S.length+N+1) S5 zs g/\g.length=N/\Fz S S5/\S.length+N+1<=S5.length/\(∀chs∈g,chs.length<=1/\∀ch∈chs,zbq N ch/\0<ch.1.2)/\∀p:Nat,i<=p->p<N->g[(wf ns N p).toNat]? =some []) (λ_ _ _ _ _=>rfl) ?_ ?_ ?_
 ·rintro i w ρ S5 hw ⟨a4,a5,g,rfl,n5,lg,f5,iF,fS,gU⟩
  obtain⟨hi,rfl⟩:=Xc hw
  have hi:i<N:=by omega
  refine .of rfl ?_
  dsimp only[F7]
  rw[Jh]
  walk_at "z"
  refine W.eqs (zcI hc (f5.lstAt hs)) ?_
  obtain⟨u0,u1⟩:=Xh (ns:=ns) (c:=(N:Int)) (p:=(i:Int)) hc
  have jh:=gU i (EE _) hi
  have hinj:∀p:Nat,i+1<=p->p<N->(wf ns N p).toNat≠(wf ns N i).toNat:=λp hp kg q=>by
   have:=Xh (ns:=ns) (c:=(N:Int)) (p:=(p:Int)) hc
   have:=zdR (ns:=ns) (c:=(N:Int)) (p:=(p:Int)) (q:=(i:Int)) hc ⋯ ⋯ ⋯ ⋯ ⋯
   omega
  generalize wf ns N i=u at u0 u1 jh hinj ⊢
  obtain⟨un,rfl⟩:∃un:Nat,u=un:=⟨u.toNat,⋯⟩
  rw[Fw] at jh hinj
  have fT:un<N:=by omega
  have iV:=k7 un fT
  have dS:atI zs (un:Int)=some (.ref (S.length+un)):=wk ⋯ (by rw[Fw];exact iV)
  obtain⟨lu,ou⟩:=n5.cell iV jh
  have BI:lu=[]:=GO.1 (by rw[ou.2.1];rfl)
  subst BI
  have one:∀(q:Q2) (m:Int) (P:Xv->Sto->Prop),0<q.2->0<=m->m<N->(∀S6 g,Nd S.length (S.length+N) (S.length+N+1) S6 zs g->g.length=N->Fz S S6->S.length+N+1<=S6.length->(∀chs∈g,chs.length<=1/\∀ch∈chs,zbq N ch/\0<ch.1.2)->(∀p:Nat,i+1<=p->p<N->g[(wf ns N p).toNat]? =some [])->P .non S6)->
    WO (yt (.ref (S.length+un)) [.tup [qv q,.ref S5.length]] (S5++[.lst [ptX (m,(1,1))]])) P:=by
   intro q m P q8 qm jH k6
   have f6:Fz S5 (S5++[.lst [ptX (m,(1,1))]]):=Fz.refl.app
   refine xN (ww (f6.lst ou.1)) (Zv (by simp)) ?_
   have n6:=(n5.mono f6).push (z:= .tup [qv q,.ref S5.length]) (c:=(q,[(m,(1,1))])) iV jh (f6.lst ou.1) ⟨S5.length,rfl,Zy yu ⋯⟩
   refine k6 _ _ n6 (by rw[Fq];exact lg) ((f5.trans f6).set ⋯) (by rw[Fq];have:=f6.1;omega) (λchs cI=> ?_) λp hp kg=> ?_
   ·rcases Hg cI with h|rfl
    ·exact fS chs h
    ·refine⟨by simp,λch eJ=> ?_⟩
     have:ch=(q,[(m,(1,1))]):=by simpa using eJ
     subst this
     exact⟨zls qm jH,q8⟩
   ·rw[EV,if_neg (λz=>hinj p hp kg z.symm)]
    exact gU p ⋯ kg
  refine xR ?_
  refine zkN ?_
  walk_at "z"
  refine zmt ?_ λhg=> ?_
  ·refine xR ?_
   walk_at "z"
   refine W.eqs (ZS ∅ (f5.lstAt hs)) ?_
   walk_at "z"
   refine Zk (λ_=> ?_) (λ_=> ?_)
   ·refine vm (Xb ?_)
    walk_at "z"
    refine yB (zp n5.net) dS ?_
    refine⟨⟨_,zp ou.1⟩,?_⟩
    walk_at "z"
    refine W.eqs (ZS ∅ (f5.lstAt hs)) ?_
    walk_at "z"
    refine one (1+xD ns (Gb 2) % 10^Gb 9,1) un _ (show (0:Int)<1 by decide) ⋯ ⋯ λS6 g n6 l6 f6 h6 a6 t6=> ?_
    exact⟨_,_,g,rfl,n6,l6,f6,h6,a6,t6⟩
   ·walk_at "z"
    exact⟨_,_,g,rfl,n5,lg,f5,iF,fS,λp hp kg=>gU p ⋯ kg⟩
  ·walk_at "z"
   refine⟨λh2=> ?_,λ_=>hg⟩
   have h2:(i:Int)≠N-1:=by simpa using h2
   refine vm (Xb ?_)
   walk_at "z"
   refine yB (zp n5.net) dS ?_
   refine⟨⟨_,zp ou.1⟩,?_⟩
   walk_at "z"
   refine W.eqs (zcI hc (f5.lstAt hs)) ?_
   walk_at "z"
   obtain⟨v0,v1⟩:=Xh (ns:=ns) (c:=(N:Int)) (p:=(i:Int)+1) hc
   refine one (0,1) (wf ns N (i+1)) _ ∅ v0 v1 λS6 g n6 l6 f6 h6 a6 t6=> ?_
   exact⟨_,_,g,rfl,n6,l6,f6,h6,a6,t6⟩
 ·refine⟨_,_,Fp N [],rfl,n4,by simp,f4,⋯,λchs cI=> ?_,λp _ hp=> ?_⟩
  ·rw[Iu cI]
   simp
  ·have:=Xh (ns:=ns) (c:=(N:Int)) (p:=(p:Int)) hc
   rw[Ga,if_pos ⋯]
 rintro ρ S5 ⟨a4,a5,g,rfl,n5,lg,f5,iF,fS,gU⟩
 refine Xq (zen (vk (vx rfl (vk (zfD (i:=2) rfl ⋯ (Vk ?_))))))
 have f6:Fz S5 (S5++[.lst ((Fp N (4:Int)).map Xv.int)]):=Fz.refl.app
 refine⟨_,_,g,Fp N 4,rfl,(n5.mono f6).at,yU,⟨⋯,λchs cI=>by have:=(fS chs cI).1;omega,λchs cI ch eJ=>by rw[lg];exact ((fS chs cI).2 ch eJ).1⟩,λchs cI ch eJ=>((fS chs cI).2 ch eJ).2,by simp[lg],⋯,f5.app⟩
end
section
noncomputable def okD:Nat->D->Bool
 |0,d=>match d with
  | .tup _=>false
  | .lst _=>false
  | .ins _ _ _=>false
  |_=>true
 |n+1,d=>match d with
  | .tup l=>l.all (okD n)
  | .lst l=>l.all (okD n)
  | .ins _ _ _=>false
  |_=>true
theorem UN {f:D->D->Option Bool}:∀(l:List D),(∀d∈l,f d d=some true)->vX f l l=some true
 |[],_=>rfl
 |d::l,h=>by
  unfold vX
  rw[h d (by simp),EC,UN l λe he=>h e (by simp[he])]
  rfl
theorem Ud:∀(n:Nat) (d:D),okD n d=true->eqG n d d=some true
 |0,d,h=>by cases d<;>first|(simp[eqG];done)|(simp[okD] at h;done)
 |n+1,d,h=>by
  cases d with
  |tup l=>
   unfold okD at h
   unfold eqG
   dsimp only
   rw[UN l λe he=>Ud n e (G4.1 h e he)]
   simp
  |lst l=>
   unfold okD at h
   unfold eqG
   dsimp only
   rw[if_pos rfl]
   exact UN l λe he=>Ud n e (G4.1 h e he)
  |ins _ _ _=>simp[okD] at h
  |non=>simp[eqG]
  |bl b=>simp[eqG]
  |int i=>simp[eqG]
  |str s=>simp[eqG]
end
section
variable {fu:Nat} {S S' S0:Sto} {x y:Xv} {ns:List Int}
noncomputable def qD (q:Q2):D:= .tup [.int q.1,.int q.2]
noncomputable def ptD (p:Int×Q2):D:= .tup [.int p.1,qD p.2]
noncomputable def chD (c:Ch):D:= .tup [qD c.1,.lst (c.2.map ptD)]
noncomputable def zlu (chs:List Ch):D:= .lst (chs.map chD)
noncomputable def zlv (g:Net):D:= .lst (g.map zlu)
theorem zlw (n:Nat) (q:Q2):wa S (n+1) (qv q)=some (qD q):=by
 cases n<;>rfl
theorem zjz (n:Nat) (p:Int×Q2):wa S (n+2) (ptX p)=some (ptD p):=by
 cases n<;>rfl
theorem zbW {α:Type} {f:Xv->Option D} {X:α->Xv} {t:α->D}:∀(as:List α),(∀a∈as,f (X a)=some (t a))->vC f (as.map X)=some (as.map t)
 |[],_=>rfl
 |a::as,h=>by
  rw[Ey,Ey]
  unfold vC
  rw[h a (EG ..),zbW as λb hb=>h b (ED _ hb)]
  rfl
theorem zij {n m:Nat} {l:List Xv} {ds:List D} (h:L2.zv S (.ref m)=some l) (e:vC (wa S n) l=some ds):wa S (n+1) (.ref m)=some (.lst ds):=by
 unfold wa
 dsimp only
 rw[h,EC,e]
 rfl
theorem zik {n m:Nat} {ps:List (Int×Q2)} (h:L2.zv S (.ref m)=some (ps.map ptX)):wa S (n+3) (.ref m)=some (.lst (ps.map ptD)):=zij (n:=n+2) h (zbW ps λp _=>zjz n p)
theorem zcR {n:Nat} {z:Xv} {c:Ch} (h:xa S z c):wa S (n+4) z=some (chD c):=by
 obtain⟨m,rfl,e⟩:=h
 unfold wa
 dsimp only
 have h2:vC (wa S (n+3)) [qv c.1,.ref m]=some [qD c.1,.lst (c.2.map ptD)]:=by
  unfold vC
  rw[zlw (n+2) c.1,EC]
  unfold vC
  rw[zik e,EC]
  rfl
 rw[h2]
 rfl
theorem zil {n:Nat} {z:Xv} {chs:List Ch} (h:LAt xa S z chs):wa S (n+5) z=some (zlu chs):=zeR (n:=n+4) (λz a h=>zcR h) h
theorem Ue {g:Net} (h:xy S x g):wa S 40 x=some (zlv g):=zeR (n:=39) (λz a h=>zil (n:=34) h) h
theorem zim (g:Net):okD 40 (zlv g)=true:=by
 unfold zlv okD
 dsimp only
 refine G4.2 λd hd=> ?_
 obtain⟨cs,_,rfl⟩:=Ez.1 hd
 unfold zlu okD
 dsimp only
 refine G4.2 λd hd=> ?_
 obtain⟨ch,_,rfl⟩:=Ez.1 hd
 unfold chD okD
 dsimp only
 refine G4.2 λd hd=> ?_
 simp only[EJ,Hv,or_false] at hd
 rcases hd with rfl|rfl
 ·rfl
 ·unfold okD
  dsimp only
  refine G4.2 λd hd=> ?_
  obtain⟨p,_,rfl⟩:=Ez.1 hd
  rfl
theorem zin {ρ:Rho} {i:Nat} {chs:List Ch} {P:Xv->Sto->Prop} (hρ:ρ[i]? =some (some x)) (h:LAt xa S x chs) (few:chs.length<=4) (k:∀m S',S.length<=m->LAt xa (Zx S' S.length) (.ref m) chs->Fz S S'->P (.ref m) S'):
  W (wu [none,none] (iL (ze i)) (gT 2 (zZ (gN 0) (zZ (gN 1) vB))) wU (wj [(ze 0),(eFn WQ [(ze 1)])]) ρ S) P:=by
 obtain⟨l,el,ll,hl⟩:=h
 refine wc (vc (vx hρ ?_))
 refine⟨_,el,_,el,?_⟩
 refine xq (xs:=l) (Fc (Zv ⋯)) (λi es S2=>Fz S S2/\∀(j:Nat) c,j<i->chs[j]? =some c->∃z,es[j]? =some z/\xa (Zx S2 S.length) z c) ?_ ?_ ⟨Fz.refl,λj c hj=>absurd hj ⋯⟩ ?_
 ·rintro i es _ _ ⟨f,_⟩
  exact f.lstAt el
 ·rintro i w es S2 hw fy ⟨f2,h2⟩
  have hi:i<chs.length:=by rw[<-ll];exact (Es.1 hw).1
  have hc:=Er hi
  generalize chs[i]=c at hc
  obtain⟨z,e1,pn,e2,e3⟩:=hl i c hc
  rw[hw] at e1
  cases e1
  subst e2
  refine .of rfl ?_
  dsimp only[Yz,Gp,F7]
  walk_at "z"
  refine⟨rfl,?_⟩
  walk_at "z"
  refine zco (f2.lstAt e3) ?_
  walk_at "z"
  refine⟨f2.app,λj c' hj cI=> ?_⟩
  by_cases q:j<i
  ·obtain⟨z,r1,r2⟩:=h2 j c' q cI
   exact⟨z,by rw[Ex ⋯];exact r1,r2.mono (vf Fz.refl.app (EE _))⟩
  ·have:j=i:=by omega
   subst this
   rw[hc] at cI
   cases cI
   refine⟨_,by rw[<-fy];simp,S2.length,rfl,Zy yu f2.1⟩
 rintro es S2 eD ⟨f2,h2⟩
 refine k S2.length _ f2.1 ⟨es,Zy yu f2.1,⋯,λj c hc=> ?_⟩ f2.app
 obtain⟨z,r1,r2⟩:=h2 j c (by rw[ll];exact (Es.1 hc).1) hc
 exact⟨z,r1,r2.mono (vf Fz.refl.app (EE _))⟩
theorem zio {g:Net} (ok:Uc g) (h:xy S x g):W (ZR fu [x] S) λv S'=>∃m,v= .ref m/\S.length<=m/\xy S' v g/\Fz S S':=by
 have hlen:=ok.len
 obtain⟨l,el,ll,hl⟩:=h
 walk_at "wr";unfold XC
 walk_at "z"
 have f1:Fz S (S++[Ce.lst []]):=Fz.refl.app
 have o1:Zz (LAt xa) (S++[Ce.lst []]) S.length [] []:=Zz.nil
 generalize S++[Ce.lst []]=S1 at f1 o1 ⊢
 refine xz (vc ?_)
 walk_at "z"
 refine⟨_,f1.lstAt el,_,f1.lstAt el,?_⟩
 refine yF (xs:=l) (λi ρ S2=>∃a2 zs,ρ=[some x,some (.ref S.length),a2]/\Zz (LAt xa) S2 S.length zs (g.take i)/\Fz S S2) ?_ ?_ ?_ ?_
 ·rintro i ρ S2 _ ⟨_,_,_,_,f2⟩
  exact f2.lstAt el
 ·rintro i w ρ S2 hw ⟨a2,zs,rfl,o2,f2⟩
  have hi:i<g.length:=by rw[<-ll];exact (Es.1 hw).1
  have hc:=Er hi
  have du:=ok.few _ (EK hi)
  generalize g[i]=chs at hc du
  obtain⟨z,e1,hz⟩:=hl i chs hc
  rw[hw] at e1
  cases e1
  refine .of rfl ?_
  dsimp only[F7]
  refine vm (Xb ?_)
  walk_at "z"
  refine⟨⟨_,zp o2.1⟩,?_⟩
  refine vk (zin (i:=2) rfl (wN f2.le hz) du λm S3 hm hr f3=> ?_)
  walk_at "z"
  have o3:=Zz.mono (R:=LAt xa) (λq h=>wN q h) f3 o2
  have cC:=(Es.1 o2.1).1
  refine xN (ww o3.1) (Zv (by rw[o3.2.1,FD];omega)) ?_
  refine⟨_,zs++[.ref m],rfl,?_,(f2.trans f3).set (EE _)⟩
  rw[yf hc]
  exact o3.push (wN (vf Fz.refl ⋯) hr)
 ·exact⟨_,_,rfl,by simpa using o1,f1⟩
 ·rintro ρ S2 ⟨a2,zs,rfl,o2,f2⟩
  rw[ll,F9] at o2
  walk_at "z"
  refine⟨EE _,?_,f2⟩
  exact xy.mono vT (Zz.at (R:=LAt xa) (k:=0) (λq h=>wN q h) (Gk _) o2)
end
section
variable {fu:Nat} {S S' S0:Sto} {x y:Xv} {ns:List Int} {dd:Int}
theorem ziq {q:Q2} (h:0<q.2) (hv:0<=val q):0<=q.1:=by
 apply FP
 intro hn
 have h1:(q.1:Rat)<0:=by exact_mod_cast (by omega:q.1<0)
 have h2:(0:Rat)<(q.2:Rat):=by exact_mod_cast h
 have h3:(0:Rat)<(q.2:Rat)⁻¹:=Rat.inv_pos.2 h2
 unfold val at hv
 rw[Ht] at hv
 have:=Rat.mul_lt_mul_of_pos_right h1 h3
 rw[Rat.zero_mul] at this
 exact absurd hv (Rat.not_le.2 this)
noncomputable def byR (cls:List Int) (c:Ch):Ch:=(c.1,WY (byC cls c.2))
theorem zjA {ps:List (Int×Q2)} {i:Nat} {p:Int×Q2} (h:ps[i]? =some p):xQ (ps.take (i+1))=zbp (xQ (ps.take i)) p.1 (zcJ ((Xi (xQ (ps.take i)) p.1).getD (0,1)) p.2):=by rw[yf h,ZX]
theorem zmu (bB:Big fu) {cls:List Int} {c:Ch} {z:Xv} {cn:Nat} (ok:zbq cls.length c) (e:xa S z c) (ec:L2.zv S (.ref cn)=some (cls.map Xv.int)):
  W (Vq fu [z,.ref cn] S) λv S'=>xa (Zx S' S.length) v (byR cls c)/\Fz S S':=by
 obtain⟨dd,d0,d1,d2⟩:=ok.dd
 have hf:=ok.few
 obtain⟨pn,rfl,e⟩:=e
 have iA:∀p∈byC cls c.2,SH dd p.2:=λp hp=>by
  obtain⟨q,hq,rfl⟩:=Ez.1 hp
  exact d2 q hq
 have kF:∀i,(xQ ((byC cls c.2).take i)).length<=c.2.length:=λi=>by
  have t:=XE iA i
  have:=t.nd.length_le_of_subset (l₂:=((byC cls c.2).take i).map (·.1)) λl hl=>(t.ks l).1 hl
  rw[Eu,Eu,FD] at this
  unfold byC at this ⊢
  rw[Eu] at this
  omega
 walk_at "wr";unfold Vp
 walk_at "z"
 have f1:Fz S (S++[Ce.dk []]):=Fz.refl.app
 have a1:(S++[Ce.dk []])[S.length]? =some (.dk []):=yU
 generalize S++[Ce.dk []]=S1 at f1 a1 ⊢
 refine xz (vc ?_)
 walk_at "z"
 refine⟨_,f1.lstAt e,_,f1.lstAt e,?_⟩
 refine yF (xs:=c.2.map ptX) (λi ρ S2=>∃a3 a4 a5 a6,ρ=[some (.tup [qv c.1,.ref pn]),some (.ref cn),some (.ref S.length),a3,a4,a5,a6]/\S2[S.length]? =some (.dk (ZB (xQ ((byC cls c.2).take i))))/\Fz S S2) ?_ ?_ ?_ ?_
 ·rintro i ρ S2 _ ⟨_,_,_,_,_,_,f2⟩
  exact f2.lstAt e
 ·rintro i w ρ S2 hw ⟨a3,a4,a5,a6,rfl,c2,f2⟩
  obtain⟨p,ep,rfl⟩:=wm hw
  have hi:i<c.2.length:=(Es.1 ep).1
  have hp:=d2 p (EA ep)
  obtain⟨p0,p1⟩:=ok.rng p (EA ep)
  have cC:p.1.toNat<cls.length:=by omega
  have eb:(byC cls c.2)[i]? =some (Xk cls p.1,p.2):=by unfold byC;rw[EB,ep];rfl
  have fA:atI (cls.map Xv.int) p.1=some (.int (Xk cls p.1)):=by
   refine wk p0 ?_
   unfold Xk
   rw[EB,Ew,Er cC]
   rfl
  have t:=XE iA i
  obtain⟨g1,g2⟩:=t.get (Xk cls p.1)
  have El:((((byC cls c.2).take i).length:Nat):Int)<64:=by rw[FD];omega
  generalize hq:(Xi (xQ ((byC cls c.2).take i)) (Xk cls p.1)).getD (0,1)=q at g1 g2
  have q0:0<=q.1:=ziq g1.pos (by rw[g2];exact zfz (λr hr=>(iA r (HG hr)).vp) _)
  have r0:0<=p.2.1:=ziq hp.ok.pos (Rat.le_of_lt hp.vp)
  obtain⟨b1,b2⟩:=g1.bits d0 d1 ⋯ ⋯
  obtain⟨b3,b4⟩:=hp.ok.bits d0 d1 ∅ ∅
  have ub:=g1.pos
  have Bw:=hp.ok.pos
  refine .of rfl ?_
  dsimp only[F7]
  refine yS (zcm (zao ?_))
  walk_at "z"
  refine⟨⟨_,yL c2⟩,?_⟩
  walk_at "z"
  refine yB (f2.lstAt ec) fA ?_
  walk_at "z"
  refine⟨_,_,.inl (Xk cls p.1),yL c2,rfl,?_⟩
  walk_at "z"
  have fO:(xi (ZB (xQ ((byC cls c.2).take i))) (.inl (Xk cls p.1))).getD (.tup [.int 0,.int 1])=qv q:=by
   rw[Xj,<-hq]
   cases Xi (xQ ((byC cls c.2).take i)) (Xk cls p.1)<;>rfl
  rw[fO]
  refine .of rfl ?_
  dsimp only[F7]
  have l1:=b1.le
  have l2:=b2.le
  have l3:=b3.le
  have l4:=b4.le
  refine To ?_
  walk_at "z"
  refine vy (QX.qv _) WR ?_
  refine vn ⋯ ?_
  walk_at "z"
  refine vy (QX.qv _) zbL ?_
  walk_at "z"
  refine vn ⋯ ?_
  walk_at "z"
  refine vy (QX.qv _) WR ?_
  refine vn ⋯ ?_
  walk_at "z"
  refine W.eqs (zcK bB (Int.add_nonneg (Ho q0 ⋯) (Ho r0 ⋯)) (Hd ub Bw) ((b2.mul b4).mono ∅)) ?_
  walk_at "z"
  refine yB (f2.lstAt ec) fA ?_
  walk_at "z"
  refine⟨S.length,ZB (xQ ((byC cls c.2).take i)),.inl (Xk cls p.1),yL c2,rfl,?_,?_⟩
  ·unfold ZB
   rw[Eu]
   exact Zv (by have:=kF i;omega)
  refine⟨_,_,_,_,rfl,?_,f2.set (EE _)⟩
  rw[Zl c2,zjA eb,<-hq]
  show some (Ce.dk (XM _ _ (qv (zcJ _ _))))=_
  rw[hq,zdV]
 ·exact⟨_,_,_,_,rfl,a1,f1⟩
 ·rintro ρ S2 ⟨a3,a4,a5,a6,rfl,c2,f2⟩
  have jo:(byC cls c.2).length=c.2.length:=by unfold byC;rw[Eu]
  rw[Eu,<-jo,F9] at c2
  have eD:=kF c.2.length
  rw[<-jo,F9,jo] at eD
  walk_at "z"
  refine zge (yL c2) (UY _) (by rw[Eu];omega) ?_
  walk_at "z"
  refine⟨⟨S2.length,rfl,Zy ?_ f2.1⟩,f2.app⟩
  rw[yu]
  unfold byR WY
  dsimp only
  rw[Fj]
  congr 1
  refine FL λk hk=> ?_
  have aC:=(Zc _).mem_iff.1 hk
  obtain⟨q,eq⟩:=Ws aC
  rw[Xj,eq]
  show _=ptX (zgr _ k)
  unfold zgr
  rw[eq]
  rfl
end
section
variable {fu:Nat} {S S' S0:Sto} {x y:Xv} {ns:List Int} {dd:Int}
theorem isl {l:List Xv} (h:L2.zv S x=some l):zel "list" S x=some true:=by
 obtain⟨m,rfl⟩:∃m,x= .ref m:=by cases x<;>first|exact⟨_,rfl⟩|(simp only[L2.zv,reduceCtorEq] at h)
 unfold zel
 simp[h]
theorem zcS {l:List Xv} {P:Xv->Sto->Prop} (k:P (.int l.length) S):WO (Yj [.tup l] S) P:= .of rfl k
end
section
variable {fu:Nat} {S S' S0:Sto} {x y:Xv} {ns:List Int} {dd:Int}
theorem zdX {q:Q2} (h:0<q.2):W (xF fu [qv q] S) λv S'=>v= .bl true/\S=S':=by
 walk_at "wr";unfold wZ
 refine yS (xR (Wb (Zf ?_)))
 walk_at "z"
 refine YC (v:=true) rfl ?_
 refine⟨_,rfl,nofun,λ_=> ?_⟩
 walk_at "z"
 refine zcS ?_
 walk_at "z"
 refine⟨nofun,λ_=> ?_⟩
 walk_at "z"
 refine xz (zl4 (vx rfl ?_))
 refine⟨_,rfl,_,rfl,?_⟩
 refine yF (xs:=[.int q.1,.int q.2]) (λ_ ρ S1=>S=S1/\∃a1,ρ=[some (qv q),a1]) (λ_ _ _ _ _=>rfl) ?_ ⟨rfl,_,rfl⟩ ?_
 ·rintro i w ρ _ hw ⟨rfl,a1,rfl⟩
  obtain⟨k,rfl⟩:∃k:Int,w= .int k:=by
   have:=EA hw
   simp at this
   rcases this with rfl|rfl<;>exact⟨_,rfl⟩
  refine .of rfl ?_
  dsimp only[F7]
  refine xR (Wb (Zf ?_))
  walk_at "z"
  refine YC (v:=true) rfl ?_
  refine⟨_,rfl,nofun,λ_=> ?_⟩
  walk_at "z"
  refine YC (v:=false) rfl ?_
  refine⟨_,rfl,nofun,λ_=> ?_⟩
  walk_at "z"
  exact⟨rfl,_,rfl⟩
 rintro ρ _ ⟨rfl,a1,rfl⟩
 walk_at "z"
 refine vy (QX.qv _) WR ?_
 walk_at "z"
 exact⟨by rw[decide_eq_true h],rfl⟩
theorem zeS {z:Xv} {c:Ch} (e:xa S z c) (h:0<c.1.2) (hp:∀p∈c.2,0<p.2.2) (few:c.2.length<=999):W (vS fu [z] S) λv S'=>v= .bl true/\S=S':=by
 obtain⟨m,rfl,e⟩:=e
 walk_at "wr";unfold vR
 refine yS (xR (Wb (Zf ?_)))
 walk_at "z"
 refine YC (v:=true) rfl ?_
 refine⟨_,rfl,nofun,λ_=>Wb ?_⟩
 walk_at "z"
 refine zcS ?_
 walk_at "z"
 refine⟨nofun,λ_=>Zf ?_⟩
 walk_at "z"
 refine W.eqs (zdX h) ?_
 refine⟨_,rfl,nofun,λ_=> ?_⟩
 walk_at "z"
 refine xR (Zf ?_)
 walk_at "z"
 refine YC (v:=true) (isl e) ?_
 refine⟨_,rfl,nofun,λ_=> ?_⟩
 walk_at "z"
 refine xz (vc ?_)
 walk_at "z"
 refine⟨_,e,_,e,?_⟩
 refine yF (xs:=c.2.map ptX) (λ_ ρ S1=>S=S1/\∃a1,ρ=[some (.tup [qv c.1,.ref m]),a1]) ?_ ?_ ⟨rfl,_,rfl⟩ ?_
 ·rintro _ _ _ _ ⟨rfl,_⟩
  exact e
 ·rintro i w ρ _ hw ⟨rfl,a1,rfl⟩
  obtain⟨p,ep,rfl⟩:=wm hw
  have me:=hp p (EA ep)
  refine .of rfl ?_
  dsimp only[F7]
  refine yS (xR (Wb (Zf ?_)))
  walk_at "z"
  refine YC (v:=true) rfl ?_
  refine⟨_,rfl,nofun,λ_=>Wb ?_⟩
  walk_at "z"
  refine zcS ?_
  walk_at "z"
  refine⟨nofun,λ_=>Zf ?_⟩
  walk_at "z"
  refine vy (l:=[.int p.1,qv p.2]) rfl WR ?_
  walk_at "z"
  refine W.eqs (zdX me) ?_
  refine⟨_,rfl,nofun,λ_=> ?_⟩
  walk_at "z"
  refine xR (Wb (Zf ?_))
  walk_at "z"
  refine vy (l:=[.int p.1,qv p.2]) rfl zbL ?_
  refine YC (v:=true) rfl ?_
  refine⟨_,rfl,nofun,λ_=> ?_⟩
  walk_at "z"
  refine vy (l:=[.int p.1,qv p.2]) rfl zbL ?_
  refine YC (v:=false) rfl ?_
  refine⟨_,rfl,nofun,λ_=> ?_⟩
  walk_at "z"
  exact⟨rfl,_,rfl⟩
 rintro ρ _ ⟨rfl,a1,rfl⟩
 walk_at "z"
 exact⟨rfl,rfl⟩
end
section
variable {fu:Nat} {S S' S0:Sto} {x y:Xv} {ns:List Int} {dd:Int}
section
variable {α:Type} [DecidableEq α] {f:D->D->Option Bool} {t:α->D}
theorem zdY (hf:∀a b,f (t a) (t b)=some (decide (a=b))):∀l m:List α,l.length=m.length->vX f (l.map t) (m.map t)=some (decide (l=m))
 |[],[],_=>by simp[vX]
 |[],_::_,h=>by simp at h
 |_::_,[],h=>by simp at h
 |a::l,b::m,h=>by
  rw[Ey,Ey,vX,hf a b,EC,zdY hf l m (by simpa using h),FZ]
  by_cases h1:a=b
  ·subst h1;simp
  ·simp[h1]
theorem zjB {n:Nat} (hf:∀a b,eqG n (t a) (t b)=some (decide (a=b))) (l m:List α):eqG (n+1) (.lst (l.map t)) (.lst (m.map t))=some (decide (l=m)):=by
 unfold eqG
 dsimp only
 rw[Eu,Eu]
 by_cases h:l.length=m.length
 ·rw[if_pos h,zdY hf l m h]
 ·rw[if_neg h,decide_eq_false λz=>h (by rw[z])]
theorem zdZ (hf:∀a b,eqG 39 (t a) (t b)=some (decide (a=b))) (d:α):∀l:List α,zeF (t d) (l.map t)=some (l.map λe=>decide (e=d))
 |[]=>rfl
 |a::l=>by
  rw[Ey]
  unfold zeF
  rw[hf a d,EC,zdZ hf d l]
  rfl
theorem zjC (d:α) (l:List α) [Decidable (d∈l)]:(l.map λe=>decide (e=d)).any id=decide (d∈l):=by
 rw[HD,decide_eq_true_iff,JW,Ir]
 constructor
 ·rintro⟨e,h1,h2⟩
  have h2:decide (e=d)=true:=h2
  exact of_decide_eq_true h2 ▸ h1
 ·intro h
  exact⟨d,h,show decide (d=d)=true from decide_eq_true rfl⟩
end
theorem zcT {n:Nat} {a b c d:D} {p q:Bool} (h1:eqG n a c=some p) (h2:eqG n b d=some q):eqG (n+1) (.tup [a,b]) (.tup [c,d])=some (p&&q):=by
 unfold eqG
 simp[vX,h1,h2]
theorem zcU (n:Nat) (a b:Int):eqG n (.int a) (.int b)=some (decide (a=b)):=by
 cases n<;>rfl
theorem zir (n:Nat) (a b:Q2):eqG (n+1) (qD a) (qD b)=some (decide (a=b)):=by
 unfold qD
 rw[zcT (zcU n a.1 b.1) (zcU n a.2 b.2)]
 obtain⟨a1,a2⟩:=a
 obtain⟨b1,b2⟩:=b
 simp
theorem zjD (n:Nat) (a b:Int×Q2):eqG (n+2) (ptD a) (ptD b)=some (decide (a=b)):=by
 unfold ptD
 rw[zcT (zcU (n+1) a.1 b.1) (zir n a.2 b.2)]
 obtain⟨a1,a2⟩:=a
 obtain⟨b1,b2⟩:=b
 simp
theorem zjE (n:Nat) (a b:Ch):eqG (n+4) (chD a) (chD b)=some (decide (a=b)):=by
 unfold chD
 rw[zcT (zir (n+2) a.1 b.1) (zjB (zjD n) a.2 b.2)]
 obtain⟨a1,a2⟩:=a
 obtain⟨b1,b2⟩:=b
 simp
theorem zfE {neg:Bool} {P:Xv->Sto->Prop} {l:List Xv} {cs:List Ch} {c:Ch} (h1:L2.zv S y=some l) (hl:l.length=cs.length) (h2:∀(i:Nat) a,cs[i]? =some a->∃z,l[i]? =some z/\xa S z a) (h3:xa S x c) (k:P (.bl (neg !=decide (c∈cs))) S):WO (zeG neg x y S) P:=by
 refine zlf (ds:=cs.map chD) (d:=chD c) h1 (za2 cs l hl λi a ha=> ?_) (zcR (n:=36) h3) (zdZ (λa b=>zjE 35 a b) c cs) ?_
 ·obtain⟨z,e1,e2⟩:=h2 i a ha
  exact⟨z,e1,zcR (n:=36) e2⟩
 ·rw[zjC]
  exact k
end
section
variable {fu:Nat} {S S' S0:Sto} {x y:Xv} {ns:List Int} {dd:Int}
theorem zmj (bB:Big fu) {cls:List Int} {chs fs:List Ch} {cn:Nat} (ok:∀c∈chs,zbq cls.length c) (few:chs.length<=4) (e:LAt xa S y chs) (ec:L2.zv S (.ref cn)=some (cls.map Xv.int)) (ef:LAt xa S x fs)
  (hlen:fs.length=(fd (chs.map (byR cls))).length) (eE:∀c∈chs,byR cls c∈fs) (hg:∀f∈fs,0<f.1.2/\f.2.length<=999/\∀p∈f.2,0<p.2.2):
  W (Zu fu [x,y,.ref cn] S) λv S'=>v= .bl true/\Fz S S':=by
 obtain⟨l,el,ll,hl⟩:=e
 have cZ:=UH (chs.map (byR cls))
 rw[Eu] at cZ
 walk_at "wr";unfold Wq
 walk_at "z"
 have f1:Fz S (S++[Ce.lst []]):=Fz.refl.app
 have o1:Zz xa (S++[Ce.lst []]) S.length [] []:=Zz.nil
 generalize S++[Ce.lst []]=S1 at f1 o1 ⊢
 refine xz (vc ?_)
 walk_at "z"
 refine⟨_,f1.lstAt el,_,f1.lstAt el,?_⟩
 refine yF (xs:=l) (λi ρ S2=>∃a4 a5 zs,ρ=[some x,some y,some (.ref cn),some (.ref S.length),a4,a5]/\Zz xa S2 S.length zs (fd ((chs.map (byR cls)).take i))/\Fz S S2) ?_ ?_ ?_ ?_
 ·rintro i ρ S2 _ ⟨_,_,_,_,_,f2⟩
  exact f2.lstAt el
 ·rintro i w ρ S2 hw ⟨a4,a5,zs,rfl,o2,f2⟩
  have hi:i<chs.length:=by rw[<-ll];exact (Es.1 hw).1
  have hc:=Er hi
  have hok:=ok _ (EK hi)
  generalize chs[i]=c at hc hok
  obtain⟨z,e1,hz⟩:=hl i c hc
  rw[hw] at e1
  cases e1
  have uG:(chs.map (byR cls))[i]? =some (byR cls c):=by rw[EB,hc];rfl
  refine .of rfl ?_
  dsimp only[F7]
  walk_at "z"
  refine (zmu bB hok (xa.mono f2.le hz) (f2.lstAt ec)).imp ?_
  rintro v S3 ⟨hv,f3⟩
  have o3:=zjr o2 f3
  have cC:=(Es.1 o2.1).1
  have gu:=f2.trans f3
  walk_at "z"
  refine xR ?_
  walk_at "z"
  refine zfE (zp o3.1) o3.2.1 (λj a ha=> ?_) (hv.mono vT) ?_
  ·obtain⟨z,r1,r2⟩:=o3.2.2 j a ha
   exact⟨z,r1,r2.mono vT⟩
  refine⟨_,rfl,λhn=> ?_,λhn=> ?_⟩
  ·have hn:byR cls c∉fd ((chs.map (byR cls)).take i):=by simpa using hn
   refine vm (Xb ?_)
   walk_at "z"
   refine⟨⟨_,zp o3.1⟩,?_⟩
   walk_at "z"
   have Ec:zs.length<=60:=by
    rw[o3.2.1]
    have:=UH ((chs.map (byR cls)).take i)
    rw[FD] at this
    omega
   refine xN (ww o3.1) (Zv ⋯) ?_
   refine⟨_,_,zs++[v],rfl,?_,gu.set (EE _)⟩
   rw[yf uG,wy,if_neg hn]
   exact o3.push (hv.mono (vf Fz.refl ⋯))
  ·have hn:byR cls c∈fd ((chs.map (byR cls)).take i):=by simpa using hn
   walk_at "z"
   refine⟨_,_,zs,rfl,?_,gu⟩
   rw[yf uG,wy,if_pos hn]
   exact o3
 ·exact⟨_,_,[],rfl,by simpa [fd] using o1,f1⟩
 rintro ρ S2 ⟨a4,a5,zs,rfl,o2,f2⟩
 rw[ll,Ge (by rw[Eu];exact EE _)] at o2
 obtain⟨fl,fW,jC,hU⟩:=ef
 refine yS (xR (Wb (Zf ?_)))
 walk_at "z"
 refine YC (v:=true) (isl (f2.lstAt fW)) ?_
 refine⟨_,rfl,nofun,λ_=> ?_⟩
 walk_at "z"
 refine YB (f2.lstAt fW) ?_
 walk_at "z"
 refine YB (zp o2.1) ?_
 walk_at "z"
 rw[show fl.length=zs.length by rw[jC,o2.2.1];exact hlen,decide_eq_true rfl]
 refine⟨nofun,λ_=> ?_⟩
 walk_at "z"
 refine xz (vc ?_)
 walk_at "z"
 refine⟨_,f2.lstAt fW,_,f2.lstAt fW,?_⟩
 refine yF (xs:=fl) (λ_ ρ S3=>S2=S3/\∃a4,ρ=[some x,some y,some (.ref cn),some (.ref S.length),a4,a5]) ?_ ?_ ⟨rfl,_,rfl⟩ ?_
 ·rintro _ _ _ _ ⟨rfl,_⟩
  exact f2.lstAt fW
 ·rintro i w ρ _ hw ⟨rfl,a4,rfl⟩
  have hi:i<fs.length:=by rw[<-jC];exact (Es.1 hw).1
  obtain⟨z,e1,hz⟩:=hU i _ (Er hi)
  rw[hw] at e1
  cases e1
  obtain⟨g1,g2,g3⟩:=hg _ (EK hi)
  refine .of rfl ?_
  dsimp only[F7]
  refine xR (Zf ?_)
  walk_at "z"
  refine W.eqs (zeS (xa.mono f2.le hz) g1 g3 g2) ?_
  refine⟨_,rfl,nofun,λ_=> ?_⟩
  walk_at "z"
  exact⟨rfl,_,rfl⟩
 rintro ρ _ ⟨rfl,a4,rfl⟩
 refine Xq (US (wc (vc ?_)))
 walk_at "z"
 refine⟨_,zp o2.1,_,zp o2.1,?_⟩
 refine zhE (xs:=zs) (Fc (Zv (by rw[o2.2.1];omega))) (λi es S4=>S2=S4/\es=[]) ?_ ?_ ⟨rfl,rfl⟩ ?_
 ·rintro i es _ _ ⟨rfl,_⟩
  exact zp o2.1
 ·rintro i w es _ hw fy ⟨rfl,rfl⟩
  have hi:i<(fd (chs.map (byR cls))).length:=by rw[<-o2.2.1];exact (Es.1 hw).1
  have hc:=Er hi
  have hm:=((ya _).2 _).1 (EK hi)
  generalize (fd (chs.map (byR cls)))[i]=d at hc hm
  obtain⟨z,e1,hz⟩:=o2.2.2 i d hc
  rw[hw] at e1
  cases e1
  obtain⟨c,jM,rfl⟩:=Ez.1 hm
  refine .of rfl ?_
  dsimp only[Yz,Gp,F7]
  walk_at "z"
  refine zfE (f2.lstAt fW) jC (λj a ha=> ?_) (hz.mono vT) ?_
  ·obtain⟨z,r1,r2⟩:=hU j a ha
   exact⟨z,r1,r2.mono f2.le⟩
  rw[decide_eq_true (eE c jM)]
  exact⟨_,rfl,nofun,λ_=>⟨rfl,rfl⟩⟩
 rintro es _ _ ⟨rfl,rfl⟩
 walk_at "z"
 refine zg9 (l:=[]) (Fz.refl.app.lstAt yu) yu ?_
 exact⟨rfl,f2.app.app⟩
end
section
variable {fu:Nat} {S S' S0:Sto} {x y:Xv} {ns:List Int} {dd:Int}
theorem za4 {cls:List Int} (h:vE cls=cls) {j:Nat} {a:Int} (e:(fd cls)[j]? =some a):a=(j:Int):=by
 obtain⟨p,hp⟩:=Fu (((ya cls).2 a).1 (EA e))
 obtain⟨k,k1,k2,_⟩:=TF hp
 rw[h,hp] at k1
 injection k1 with k1
 obtain⟨i1,i2⟩:=Es.1 e
 obtain⟨j1,j2⟩:=Es.1 k2
 have:=(FW (ya cls).1).1 (i2.trans j2.symm)
 omega
theorem zjF {cls:List Int} (h:vE cls=cls) {i:Nat} {a:Int} (e:cls[i]? =some a):a=((fd (cls.take i)).length:Int)↔a∉cls.take i:=by
 constructor
 ·intro ha hm
  obtain⟨j,hj⟩:=Fu (((ya _).2 a).2 hm)
  have hl:=(Es.1 hj).1
  obtain⟨t,ht⟩:=zfB cls i
  have:=za4 h (j:=j) (a:=a) (by rw[<-ht,Ex hl];exact hj)
  omega
 ·intro hn
  have h1:fd (cls.take (i+1))=fd (cls.take i)++[a]:=by rw[yf e,wy,if_neg λz=>hn (((ya _).2 a).1 z)]
  obtain⟨t,ht⟩:=zfB cls (i+1)
  rw[h1] at ht
  exact za4 h (by rw[<-ht];simp)
noncomputable def chK (f:Ch):NK:= .tup [nq f.1,.tup (f.2.map ptK)]
theorem TH (cls:List Int) (c:Ch):byK cls c=chK (byR cls c):=rfl
theorem za5 {α β:Type} {f:α->β} (h:∀a b,f a=f b->a=b):∀{l m:List α},l.map f=m.map f->l=m
 |[],[],_=>rfl
 |[],_::_,e=>by simp at e
 |_::_,[],e=>by simp at e
 |a::l,b::m,e=>by
  rw[Ey,Ey] at e
  injection e with e1 e2
  rw[h a b e1,za5 h e2]
theorem zlx {p q:Q2} (h:nq p=nq q):p=q:=by
 obtain⟨a,b⟩:=p
 obtain⟨c,d⟩:=q
 simp[nq] at h
 obtain⟨rfl,rfl⟩:=h
 rfl
theorem zcV {a b:Ch} (h:chK a=chK b):a=b:=by
 unfold chK at h
 injection h with h
 injection h with h1 h
 injection h with h2 _
 injection h2 with h2
 exact Prod.ext (zlx h1) (za5 (λp q=>zcN) h2)
theorem zjG (f:Ch):unk (chK f)= .tup [qv f.1,.tup (f.2.map ptX)]:=by
 unfold chK
 rw[WE,Ey,Ey,GV,zh3,WE,Fj]
 congr 4
theorem zfF:∀(ks:List NK),(∀k∈ks,∃f,k=chK f)->∃fs:List Ch,ks=fs.map chK
 |[],_=>⟨[],rfl⟩
 |k::r,h=>by
  obtain⟨f,rfl⟩:=h k (EG ..)
  obtain⟨fs,rfl⟩:=zfF r λz hz=>h z (ED _ hz)
  exact⟨f::fs,rfl⟩
theorem zis (cls:List Int) {chs:List Ch}:(wW (chs.map (byK cls))).length<=chs.length:=by
 obtain⟨k1,_⟩:=UG cls chs
 obtain⟨r1,r2⟩:=Zm k1
 have:=(zaS r1).length_le_of_subset (l₂:=chs.map (byK cls)) λk hk=>(r2 k).1 hk
 rwa [Eu] at this
end
section
variable {fu:Nat} {S S' S0:Sto} {x y:Xv} {ns:List Int} {dd:Int}
def zbX (g:Net) (cls:List Int) (i:Nat) (k:Nat) (fs:List Ch):Prop:=∃(p:Nat) (chs:List Ch),p<i/\g[p]? =some chs/\cls[p]? =some (k:Int)/\fs.map chK=wW (chs.map (byK cls))
structure Kn (kd:Nat->Nat) (base cb pb:Nat) (S:Sto):Prop where
 lo:∀n,kd n≠0->base<=n
 hi:∀n,kd n≠0->n<S.length
 ch:∀n,kd n=2->∃l,S[n]? =some (.lst l)/\l.length<=cb/\∀w∈l,∃q m,w= .tup [q,.ref m]/\kd m=3
 pt:∀n,kd n=3->∃l,S[n]? =some (.lst l)/\l.length<=pb
section
variable {kd:Nat->Nat} {base cb pb:Nat}
theorem Kn.mono (h:Kn kd base cb pb S) (p:Fz S S'):Kn kd base cb pb S':=⟨h.lo,λn e=>F6 (h.hi n e) p.1,λn e=>by
 obtain⟨l,e1,e2⟩:=h.ch n e
 exact⟨l,p.lst e1,e2⟩,λn e=>by
 obtain⟨l,e1,e2⟩:=h.pt n e
 exact⟨l,p.lst e1,e2⟩⟩
theorem Kn.one {n:Nat} {c:Ce} (h:Kn kd base cb pb S) (e:kd n=1):Kn kd base cb pb (S.set n c):=⟨h.lo,λm q=>by rw[Fq];exact h.hi m q,λm q=>by
 obtain⟨l,e1,e2⟩:=h.ch m q
 exact⟨l,yV e1 (λz=>by subst z;omega),e2⟩,λm q=>by
 obtain⟨l,e1,e2⟩:=h.pt m q
 exact⟨l,yV e1 (λz=>by subst z;omega),e2⟩⟩
theorem Kn.app {l:List Xv} {t:Nat} (h:Kn kd base cb pb S) (hb:base<=S.length) (h2:t=2->l.length<=cb/\∀w∈l,∃q m,w= .tup [q,.ref m]/\kd m=3) (h3:t=3->l.length<=pb):Kn (λn=>if n=S.length then t else kd n) base cb pb (S++[.lst l]):=by
 have old:∀{n:Nat} {c:Ce},S[n]? =some c->(S++[Ce.lst l])[n]? =some c:=λ{n c} e=>by rw[Ex (Es.1 e).1];exact e
 have k3:∀{m:Nat},kd m=3->(if m=S.length then t else kd m)=3:=λ{m} e=>by
  have:=h.hi m ⋯
  rw[if_neg ⋯]
  exact e
 refine⟨λn e=> ?_,λn e=> ?_,λn e=> ?_,λn e=> ?_⟩
 ·by_cases q:n=S.length
  ·omega
  ·rw[if_neg q] at e;exact h.lo n e
 ·rw[ER]
  by_cases q:n=S.length
  ·rw[q];simp
  ·rw[if_neg q] at e;have:=h.hi n e;omega
 ·by_cases q:n=S.length
  ·skip
   rw[if_pos q] at e
   obtain⟨a,b⟩:=h2 e
   exact⟨l,by rw[q];exact yU,a,λw hw=>by obtain⟨x,m,e1,e2⟩:=b w hw;exact⟨x,m,e1,k3 e2⟩⟩
  ·skip
   rw[if_neg q] at e
   obtain⟨l',e1,e2,e3⟩:=h.ch n e
   exact⟨l',old e1,e2,λw hw=>by obtain⟨x,m,e1,e2⟩:=e3 w hw;exact⟨x,m,e1,k3 e2⟩⟩
 ·by_cases q:n=S.length
  ·skip
   rw[if_pos q] at e
   exact⟨l,by rw[q];exact yU,h3 e⟩
  ·skip
   rw[if_neg q] at e
   obtain⟨l',e1,e2⟩:=h.pt n e
   exact⟨l',old e1,e2⟩
theorem Kn.same {l:List Xv} {t n:Nat} (h:Kn kd base cb pb S) (e:kd n≠0):(if n=S.length then t else kd n)=kd n:=by
 have:=h.hi n e
 rw[if_neg ⋯]
end
theorem zgt {ps:List (Int×Q2)} {dd:Int} (h:∀p∈ps,SH dd p.2):(WY ps).length<=ps.length:=by
 have t:=zeO h
 have:=t.nd.length_le_of_subset (l₂:=ps.map (·.1)) λl hl=>(t.ks l).1 hl
 rw[Eu,Eu] at this
 unfold WY
 rw[Eu,YT,Eu]
 exact this
theorem zit {cls:List Int} {c:Ch} (ok:zbq cls.length c):(byR cls c).2.length<=63/\∀p∈(byR cls c).2,0<p.2.2:=by
 obtain⟨dd,d0,d1,d2⟩:=ok.dd
 have hf:=ok.few
 have iA:∀p∈byC cls c.2,SH dd p.2:=λp hp=>by
  obtain⟨q,hq,rfl⟩:=Ez.1 hp
  exact d2 q hq
 have h1:=zgt iA
 have jo:(byC cls c.2).length=c.2.length:=by unfold byC;rw[Eu]
 refine⟨by unfold byR;dsimp only;omega,λp hp=> ?_⟩
 obtain⟨k,_,rfl⟩:=Ez.1 hp
 exact ((zeO iA).get k).1.pos
theorem ziu (bB:Big fu) {g:Net} {cls:List Int} {cn:Nat} (ok:Uc g) (hl:cls.length=g.length) (hc:vE cls=cls) (e:xy S x g) (ec:L2.zv S (.ref cn)=some (cls.map Xv.int)):
  W (Tw fu [x,.ref cn] S) λv S'=>∃(m:Nat) (eB:List (List Ch)),v= .ref m/\S.length<=m/\LAt (LAt xa) (Zx S' S.length) v eB/\eB.length=(fd cls).length/\(∀(k:Nat) fs,eB[k]? =some fs->zbX g cls g.length k fs)/\Fz S S'/\∃kd zs,Kn kd S.length 4 63 S'/\kd m=1/\S'[m]? =some (.lst zs)/\zs.length<=60/\∀z∈zs,∃n,z= .ref n/\kd n=2:=by
 obtain⟨l,el,ll,hg⟩:=e
 have hlen:=ok.len
 walk_at "wr";unfold zcE
 walk_at "z"
 have f1:Fz S (S++[Ce.lst []]):=Fz.refl.app
 have o1:Zz (LAt xa) (S++[Ce.lst []]) S.length [] []:=Zz.nil
 have k1:Kn (λn=>if n=S.length then 1 else 0) S.length 4 63 (S++[Ce.lst []]):=Kn.app (kd:=λ_=>0) (t:=1) ⟨λn e=>absurd rfl e,λn e=>absurd rfl e,(λn e=>by cases e),(λn e=>by cases e)⟩ (EE _) nofun nofun
 generalize S++[Ce.lst []]=S1 at f1 o1 k1 ⊢
 refine xz (zaq ?_)
 walk_at "z"
 refine⟨_,f1.lstAt el,wV l,by dsimp only;rw[f1.lstAt el];rfl,?_⟩
 refine yF (xs:=wV l) (λi ρ S2=>∃a3 a4 zs eB,ρ=[some x,some (.ref cn),some (.ref S.length),a3,a4]/\Zz (LAt xa) S2 S.length zs eB/\eB.length=(fd (cls.take i)).length/\(∀(k:Nat) fs,eB[k]? =some fs->zbX g cls i k fs)/\Fz S S2/\∃kd:Nat->Nat,Kn kd S.length 4 63 S2/\kd S.length=1/\∀z∈zs,∃n,z= .ref n/\kd n=2) ?_ ?_ ?_ ?_
 ·rintro i ρ S2 _ ⟨_,_,_,_,_,_,_,_,f2,_⟩
  show (L2.zv S2 x).map wV=_
  rw[f2.lstAt el]
  rfl
 ·rintro i w ρ S2 hw ⟨a3,a4,zs,eB,rfl,o2,cZ,jK,f2,kd,iU,k4,lY⟩
  obtain⟨z,ez,rfl⟩:=YX hw
  have hi:i<g.length:=by rw[<-ll];exact (Es.1 ez).1
  have hX:=Er hi
  have du:=ok.few _ (EK hi)
  have hok:=ok.ok _ (EK hi)
  generalize g[i]=chs at hX du hok
  obtain⟨z',e1,hz⟩:=hg i chs hX
  rw[ez] at e1
  cases e1
  have fQ:=Er (show i<cls.length by omega)
  generalize cls[i]=a at fQ
  refine .of rfl ?_
  dsimp only[F7]
  refine xR ?_
  walk_at "z"
  refine yB (f2.lstAt ec) (wk (k:=(i:Int)) ⋯ (by rw[Fw,EB,fQ];rfl)) ?_
  walk_at "z"
  refine YB (zp o2.1) ?_
  walk_at "z"
  rw[o2.2.1,cZ]
  have kj:=zjF hc fQ
  have gQ:fd (cls.take (i+1))=if a∈fd (cls.take i) then fd (cls.take i) else fd (cls.take i)++[a]:=by rw[yf fQ,wy]
  have ua:∀{k:Nat} {fs:List Ch},zbX g cls i k fs->zbX g cls (i+1) k fs:=λ⟨p,c,q1,q2⟩=>⟨p,c,⋯,q2⟩
  refine Zk (λha=> ?_) (λha=> ?_)
  ·have hn:=kj.1 ha
   refine vm (Xb ?_)
   walk_at "z"
   refine⟨⟨_,zp o2.1⟩,?_⟩
   refine vk (wc (vc ?_))
   walk_at "z"
   refine (UZ bB (λc cI=>by rw[hl];exact hok c cI) du (ChsAt.mono f2.le hz) (f2.lstAt ec)).imp ?_
   rintro _ S3 ⟨m,rfl,hm,em,f3⟩
   refine⟨_,zp em,_,zp em,?_⟩
   have Bt:=zis cls (chs:=chs)
   obtain⟨fs,hU⟩:=zfF (wW (chs.map (byK cls))) λk hk=>by
    obtain⟨k1,_⟩:=UG cls chs
    obtain⟨c,_,rfl⟩:=Ez.1 (((Zm k1).2 k).1 hk)
    exact⟨_,TH cls c⟩
   have Cd:fs.length<=4:=by rw[hU,Eu] at Bt;omega
   rw[hU] at em ⊢
   rw[Fj] at em ⊢
   have gu:=f2.trans f3
   have my:∀f∈fs,f.2.length<=63:=λf hf=>by
    obtain⟨k1,_⟩:=UG cls chs
    have hm:chK f∈wW (chs.map (byK cls)):=by rw[hU];exact Ez.2 ⟨f,hf,rfl⟩
    obtain⟨c,jM,e⟩:=Ez.1 (((Zm k1).2 _).1 hm)
    rw[TH] at e
    rw[<-zcV e]
    exact (zit (by rw[hl];exact hok c jM)).1
   have gX:=iU.mono f3
   refine xq (xs:=fs.map (unk ∘ chK)) (by rw[Eu];exact Fc (Zv ⋯)) (λj es S4=>Fz S3 S4/\(∀(q:Nat) c,q<j->fs[q]? =some c->∃z,es[q]? =some z/\xa (Zx S4 S3.length) z c)/\∃kd':Nat->Nat,Kn kd' S.length 4 63 S4/\(∀n,kd n≠0->kd' n=kd n)/\∀w∈es,∃q m,w= .tup [q,.ref m]/\kd' m=3) ?_ ?_ ⟨Fz.refl,λq c hq=>absurd hq ⋯,kd,gX,λ_ _=>rfl,by simp⟩ ?_
   ·rintro j es _ _ ⟨f4,_⟩
    exact zp (f4.lst em)
   ·rintro j w es S4 tT fy ⟨f4,h4,kd',gF,gY,oU⟩
    obtain⟨f,ef,rfl⟩:=wm tT
    rw[show (unk ∘ chK) f= .tup [qv f.1,.tup (f.2.map ptX)] from zjG f]
    refine .of rfl ?_
    dsimp only[Yz,Gp,F7]
    walk_at "z"
    refine⟨rfl,?_⟩
    walk_at "z"
    refine WO.of (show WQ [.tup (f.2.map ptX)] S4=some (.ref S4.length,S4++[.lst (f.2.map ptX)]) from rfl) ?_
    walk_at "z"
    have CD:S.length<=S4.length:=EW gu.1 f4.1
    refine⟨f4.app,λq c hq jL=> ?_,_,gF.app (t:=3) CD nofun (λ_=>by rw[Eu];exact my f (EA ef)),λn hn=> ?_,λw hw=> ?_⟩
    rotate_left
    ·skip
     rw[gF.same (l:=[]) (by rw[gY n hn];exact hn)]
     exact gY n hn
    ·rcases Ff.1 hw with hw|hw
     ·obtain⟨q,m,r1,r2⟩:=oU w hw
      exact⟨q,m,r1,by rw[gF.same (l:=[]) ⋯];exact r2⟩
     ·rw[EZ] at hw
      exact⟨_,S4.length,hw,if_pos rfl⟩
    by_cases Bv:q<j
    ·obtain⟨z,r1,r2⟩:=h4 q c Bv jL
     exact⟨z,by rw[Ex ⋯];exact r1,r2.mono (vf Fz.refl.app (EE _))⟩
    ·have:q=j:=by omega
     subst this
     rw[ef] at jL
     cases jL
     exact⟨_,by rw[<-fy];simp,S4.length,rfl,Zy yu f4.1⟩
   rintro es S4 ky ⟨f4,h4,kd',gF,gY,oU⟩
   rw[Eu] at ky
   rw[Eu] at h4
   walk_at "z"
   have gn:=f3.trans (f4.app (T:=[.lst es]))
   have o4:=Zz.mono (R:=LAt xa) (λq h=>wN q h) gn o2
   have cC:=(Es.1 o2.1).1
   have Ei:=f3.1
   have Eh:=f4.1
   have Ck:=UH (cls.take i)
   rw[FD] at Ck
   refine xN (ww o4.1) (Zv (by rw[o4.2.1,cZ];omega)) ?_
   have gK:a∉fd (cls.take i):=λz=>hn (((ya _).2 a).1 z)
   refine⟨_,_,zs++[.ref S4.length],eB++[fs],rfl,o4.push ⟨es,Zy yu ⋯,ky,λq c jL=> ?_⟩,?_,λk fs' hk=> ?_,(f2.trans gn).set (EE _),_,(gF.app (t:=2) (l:=es) ⋯ (λ_=>⟨⋯,oU⟩) nofun).one (n:=S.length) ?_,?_,λz hz=> ?_⟩
   rotate_left 3
   ·skip
    rw[gF.same (l:=[]) (by rw[gY _ ⋯];omega),gY _ ⋯]
    exact k4
   ·skip
    rw[gF.same (l:=[]) (by rw[gY _ ⋯];omega),gY _ ⋯]
    exact k4
   ·rcases Ff.1 hz with hz|hz
    ·obtain⟨n,r1,r2⟩:=lY z hz
     refine⟨n,r1,?_⟩
     rw[gF.same (l:=[]) (by rw[gY _ ⋯];omega),gY _ ⋯]
     exact r2
    ·rw[EZ] at hz
     exact⟨S4.length,hz,if_pos rfl⟩
   ·obtain⟨z,r1,r2⟩:=h4 q c (Es.1 jL).1 jL
    exact⟨z,r1,r2.mono (vf Fz.refl.app ⋯)⟩
   ·rw[gQ,if_neg gK,ER,ER,cZ]
    rfl
   ·by_cases mj:k<eB.length
    ·rw[Ex mj] at hk
     exact ua (jK k fs' hk)
    ·rw[EL ⋯] at hk
     have mo:k-eB.length=0:=by
      have:=(Es.1 hk).1
      simpa using this
     rw[mo] at hk
     cases hk
     exact⟨i,chs,⋯,hX,by rw[fQ,ha,<-cZ];congr 2;omega,hU.symm⟩
  ·have hn:a∈fd (cls.take i):=by
    apply FP
    intro q
    exact ha (kj.2 λz=>q (((ya _).2 a).2 z))
   walk_at "z"
   refine⟨_,_,zs,eB,rfl,o2,?_,λk fs hk=>ua (jK k fs hk),f2,kd,iU,k4,lY⟩
   rw[gQ,if_pos hn]
   exact cZ
 ·exact⟨_,_,[],[],rfl,o1,rfl,(λk fs hk=>by simp at hk),f1,_,k1,if_pos rfl,by simp⟩
 ·rintro ρ S2 ⟨a3,a4,zs,eB,rfl,o2,cZ,jK,f2,kd,iU,k4,lY⟩
  rw[YY,ll] at cZ jK
  rw[<-hl,F9] at cZ
  walk_at "z"
  exact⟨_,eB,rfl,EE _,Zz.at (R:=LAt xa) (λq h=>wN q h) (EE _) o2,cZ,jK,f2,kd,zs,iU,k4,o2.1,by rw[o2.2.1,cZ];have:=UH cls;omega,lY⟩
end
section
variable {fu:Nat} {S S' S0:Sto} {x y:Xv} {ns:List Int} {dd:Int}
theorem zfG:∀(l:List Int) (a:Int),(l.foldl (λa b=>if b>a then b else a) a=a\/l.foldl (λa b=>if b>a then b else a) a∈l)/\a<=l.foldl (λa b=>if b>a then b else a) a/\∀n∈l,n<=l.foldl (λa b=>if b>a then b else a) a
 |[],a=>⟨.inl rfl,IP _,by simp⟩
 |b::l,a=>by
  obtain⟨h1,h2,h3⟩:=zfG l (if b>a then b else a)
  rw[JI]
  have hb:b<=(if b>a then b else a)/\a<=(if b>a then b else a):=by split<;>omega
  refine⟨?_,⋯,λn hn=> ?_⟩
  ·rcases h1 with h1|h1
   ·rw[h1]
    split
    ·exact .inr (EG ..)
    ·exact .inl rfl
   ·exact .inr (ED _ h1)
  ·rcases EJ.1 hn with rfl|hn
   ·omega
   ·exact h3 n hn
theorem ziv {cls:List Int} (h:vE cls=cls) (bZ:cls≠[]):zdI cls+1=((fd cls).length:Int):=by
 obtain⟨h1,h2,h3⟩:=zfG cls (cls.headD 0)
 have hm:zdI cls∈cls:=by
  unfold zdI
  rcases h1 with h1|h1
  ·rw[h1]
   cases cls with
   |nil=>exact absurd rfl bZ
   |cons a r=>simp
  ·exact h1
 obtain⟨j,hj⟩:=Fu (((ya cls).2 _).2 hm)
 have qx:=(Es.1 hj).1
 have e1:=za4 h hj
 have hl:(fd cls).length-1<(fd cls).length:=by omega
 have e2:=za4 h (Er hl)
 have ku:=((ya cls).2 _).1 (EK hl)
 have:=h3 _ ku
 unfold zdI at*
 omega
theorem zjH {g:Net} {cls:List Int} (hl:cls.length=g.length) (eI:yy g cls=cls) {n k i:Nat} {fs chs:List Ch} (h:zbX g cls n k fs) (hg:g[i]? =some chs) (hc:cls[i]? =some (k:Int)):fs.map chK=wW (chs.map (byK cls)):=by
 obtain⟨p,chs',_,g1,c1,e⟩:=h
 have hi:=(Es.1 hg).1
 have hp:=(Es.1 g1).1
 have:=(zcP (ks:=XF cls g) (i:=p) (j:=i) (by rw[wM];exact hp) (by rw[wM];exact hi)).1 (by
  show (yy g cls)[p]? =(yy g cls)[i]?
  rw[eI,c1,hc])
 rw[ZY g1,ZY hg] at this
 injection this with this
 unfold Td at this
 injection this with this
 injection this with _ this
 injection this with this _
 injection this with this
 rw[e,this]
theorem zjI {cls:List Int} {fs chs:List Ch} (h:fs.map chK=wW (chs.map (byK cls))):fs.length=(fd (chs.map (byR cls))).length/\(∀c∈chs,byR cls c∈fs)/\∀f∈fs,∃c∈chs,f=byR cls c:=by
 obtain⟨k1,_⟩:=UG cls chs
 obtain⟨r1,r2⟩:=Zm k1
 have eE:∀c∈chs,byR cls c∈fs:=λc hc=>by
  have:byK cls c∈fs.map chK:=by rw[h];exact (r2 _).2 (Ez.2 ⟨c,hc,rfl⟩)
  obtain⟨f,hf,e⟩:=Ez.1 this
  rw[TH] at e
  rw[<-zcV e]
  exact hf
 have uc:∀f∈fs,∃c∈chs,f=byR cls c:=λf hf=>by
  have:chK f∈wW (chs.map (byK cls)):=by rw[<-h];exact Ez.2 ⟨f,hf,rfl⟩
  obtain⟨c,hc,e⟩:=Ez.1 ((r2 _).1 this)
  rw[TH] at e
  exact⟨c,hc,(zcV e).symm⟩
 have nd:fs.Nodup:=by
  have:=zaS r1
  rw[<-h,Gf,Fh] at this
  exact this.imp λh e=>h (by rw[e])
 obtain⟨d1,d2⟩:=ya (chs.map (byR cls))
 refine⟨Nat.le_antisymm (nd.length_le_of_subset λf hf=> ?_) (d1.length_le_of_subset λf hf=> ?_),eE,uc⟩
 ·obtain⟨c,hc,e⟩:=uc f hf
  exact (d2 f).2 (Ez.2 ⟨c,hc,e.symm⟩)
 ·obtain⟨c,hc,e⟩:=Ez.1 ((d2 f).1 hf)
  rw[<-e]
  exact eE c hc
theorem zkb (bB:Big fu) {g:Net} {cls:List Int} {nn cn fn:Nat} {eB:List (List Ch)} {a0 a2 a4 a5 a7 a8 a9:Option Xv} {N:Rho->Sto->Prop} {R:Xv->Sto->Prop} (ok:Uc g) (gg:zjx g) (hl:cls.length=g.length) (hc:vE cls=cls) (eI:yy g cls=cls) (e:xy S (.ref nn) g) (ec:L2.zv S (.ref cn)=some (cls.map Xv.int)) (ef:LAt (LAt xa) S (.ref fn) eB) (cZ:eB.length=(fd cls).length) (fP:∀(k:Nat) fs,eB[k]? =some fs->zbX g cls g.length k fs)
  (k:∀S' a7,Fz S S'->N [a0,some (.ref nn),a2,some (.ref cn),a4,a5,some (.ref fn),a7,a8,a9] S'):
  WS (vW (iR1 (eFn Yj [(ze 1)])) (gN 7) (sIf (WI (bE (zC (Zu fu) [(eOp xf (ze 6) (eOp xf (ze 3) (ze 7))),(eOp xf (ze 1) (ze 7)),(ze 3)]))) (xo (eC (.bl false))) xg) [a0,some (.ref nn),a2,some (.ref cn),a4,a5,some (.ref fn),a7,a8,a9] S) N R:=by
 have hlen:=ok.len
 obtain⟨l,el,ll,hg⟩:=e
 obtain⟨fl,fW,jC,hf⟩:=ef
 refine xz (Wd ?_)
 walk_at "z"
 refine YB el ?_
 walk_at "z"
 refine⟨⟨⋯,⋯⟩,_,rfl,?_⟩
 refine yF (λ_ ρ S2=>∃a7,ρ=[a0,some (.ref nn),a2,some (.ref cn),a4,a5,some (.ref fn),a7,a8,a9]/\Fz S S2) (λ_ _ _ _ _=>rfl) ?_ ⟨_,rfl,Fz.refl⟩ ?_
 ·rintro i w ρ S2 hw ⟨a7,rfl,f2⟩
  obtain⟨hi,rfl⟩:=Xc hw
  have hi:i<g.length:=by omega
  have hX:=Er hi
  have aC:=EK hi
  have du:=ok.few _ aC
  have hok:=ok.ok _ aC
  have uA:=gg _ aC
  generalize g[i]=chs at hX du hok uA
  obtain⟨z,ez,hz⟩:=hg i chs hX
  have fQ:=Er (show i<cls.length by omega)
  have jM:=EK (show i<cls.length by omega)
  generalize cls[i]=a at fQ jM
  obtain⟨j,hj⟩:=Fu (((ya cls).2 a).2 jM)
  have qx:=(Es.1 hj).1
  have BU:=za4 hc hj
  subst BU
  have qI:=Er (show j<eB.length by omega)
  generalize eB[j]=fs at qI
  obtain⟨zf,CW,Bd⟩:=hf j fs qI
  obtain⟨p1,p2,p3⟩:=zjI (zjH hl eI (fP j fs qI) hX fQ)
  refine .of rfl ?_
  dsimp only[F7]
  rw[Jh]
  refine xR (Zf ?_)
  walk_at "z"
  refine yB (f2.lstAt ec) (wk (k:=(i:Int)) ⋯ (by rw[Fw,EB,fQ];rfl)) ?_
  walk_at "z"
  refine yB (f2.lstAt fW) (wk (k:=(j:Int)) ⋯ (by rw[Fw];exact CW)) ?_
  walk_at "z"
  refine yB (f2.lstAt el) (wk (k:=(i:Int)) ⋯ (by rw[Fw];exact ez)) ?_
  walk_at "z"
  refine (zmj bB (λc cI=>by rw[hl];exact hok c cI) du (ChsAt.mono f2.le hz) (f2.lstAt ec) (ChsAt.mono f2.le Bd) p1 p2 λf Cj=> ?_).imp ?_
  ·obtain⟨c,cI,rfl⟩:=p3 f Cj
   obtain⟨b1,b2⟩:=zit (cls:=cls) (by rw[hl];exact hok c cI)
   exact⟨uA c cI,⋯,b2⟩
  rintro _ S3 ⟨rfl,f3⟩
  refine⟨_,rfl,nofun,λ_=> ?_⟩
  walk_at "z"
  exact f2.trans f3
 ·rintro ρ S2 ⟨a7,rfl,f2⟩
  exact k S2 a7 f2
theorem ziw {n:Nat} (h:n<=9999):n<sizeLine:=FA h ∅
theorem Kn.le {kd:Nat->Nat} {base cb pb cb' pb':Nat} (h:Kn kd base cb pb S) (h1:cb<=cb') (h2:pb<=pb'):Kn kd base cb' pb' S:=⟨h.lo,h.hi,λn e=>by
 obtain⟨l,e1,e2,e3⟩:=h.ch n e
 exact⟨l,e1,⋯,e3⟩,λn e=>by
 obtain⟨l,e1,e2⟩:=h.pt n e
 exact⟨l,e1,⋯⟩⟩
theorem Kn.pts {kd:Nat->Nat} {base cb pb n:Nat} {l:List Xv} {z:Xv} (h:Kn kd base cb pb S) (e:kd n=3) (el:S[n]? =some (.lst l)) (hl:l.length<=pb):Kn kd base cb (pb+1) (S.set n (.lst (l++[z]))):=⟨h.lo,λm q=>by rw[Fq];exact h.hi m q,λm q=>by
 obtain⟨l,e1,e2⟩:=h.ch m q
 exact⟨l,yV e1 (λz=>by subst z;omega),e2⟩,λm q=>by
 obtain⟨l',e1,e2⟩:=h.pt m q
 by_cases z:n=m
 ·subst z;exact⟨_,Zl el,by rw[ER,G1];omega⟩
 ·exact⟨l',yV e1 z,⋯⟩⟩
theorem Kn.chs {kd:Nat->Nat} {base cb pb n m:Nat} {l:List Xv} {q:Xv} (h:Kn kd base cb pb S) (e:kd n=2) (el:S[n]? =some (.lst l)) (hl:l.length<=cb) (hi:∀w∈l,∃q m,w= .tup [q,.ref m]/\kd m=3) (hm:kd m=3):Kn kd base (cb+1) pb (S.set n (.lst (l++[.tup [q,.ref m]]))):=⟨h.lo,λm q=>by rw[Fq];exact h.hi m q,λj hj=>by
 obtain⟨l',e1,e2,e3⟩:=h.ch j hj
 by_cases z:n=j
 ·subst z
  refine⟨_,Zl el,by rw[ER,G1];omega,λw hw=> ?_⟩
  rcases Ff.1 hw with hw|hw
  ·exact hi w hw
  ·rw[EZ] at hw
   exact⟨_,_,hw,hm⟩
 ·exact⟨l',yV e1 z,⋯,e3⟩,λj hj=>by
 obtain⟨l',e1,e2⟩:=h.pt j hj
 exact⟨l',yV e1 (λz=>by subst z;omega),e2⟩⟩
theorem zjJ {kd:Nat->Nat} {fn:Nat} {zs:List Xv} {a0 a1 a2 a3 a4 a5 a7 a8 a9:Option Xv} {N:Rho->Sto->Prop} {R:Xv->Sto->Prop} (f0:Fz S0 S) (kn:Kn kd S0.length 4 63 S) (k1:kd fn=1) (ez:S[fn]? =some (.lst zs)) (hz:zs.length<=60) (hk:∀z∈zs,∃n,z= .ref n/\kd n=2)
  (k:∀S' a8 a9,Fz S0 S'->N [a0,a1,a2,a3,a4,a5,some (.ref fn),a7,a8,a9] S'):
  WS (vW (iL (ze 6)) (gN 8) (zI (vW (iL (ze 8)) (gN 9) (vA (eMt yt (eOp Zr (ze 9) (eC (.int 1))) [(wj [(eC (.int 0)),(wj [(eC (.int 1)),(eC (.int 1))])])]))) (vA (eMt yt (ze 8) [(wj [(wj [(eC (.int 0)),(eC (.int 1))]),(YU [])])]))) [a0,a1,a2,a3,a4,a5,some (.ref fn),a7,a8,a9] S) N R:=by
 refine xz (vc (vx rfl ?_))
 refine⟨_,zp ez,_,zp ez,?_⟩
 refine yF (xs:=zs) (λi ρ S1=>∃a8 a9 kd,ρ=[a0,a1,a2,a3,a4,a5,some (.ref fn),a7,a8,a9]/\Fz S0 S1/\Kn kd S0.length (4+i) (63+64*i) S1/\kd fn=1/\S1[fn]? =some (.lst zs)/\∀z∈zs,∃n,z= .ref n/\kd n=2) ?_ ?_ ⟨_,_,kd,rfl,f0,kn,k1,ez,hk⟩ ?_
 ·rintro i ρ S1 _ ⟨_,_,_,_,_,_,_,e,_⟩
  exact zp e
 ·rintro i w ρ S1 hw ⟨a8,a9,kd,rfl,f1,tD,k1,CY,hk⟩
  have hi:i<60:=by have:=(Es.1 hw).1;omega
  obtain⟨n,rfl,iU⟩:=hk w (EA hw)
  obtain⟨l,el,ll,gf⟩:=tD.ch n iU
  refine .of rfl ?_
  dsimp only[F7]
  refine yS (xz (vc (vx rfl ?_)))
  refine⟨_,zp el,_,zp el,?_⟩
  refine yF (xs:=l) (λj ρ S2=>∃a9,ρ=[a0,a1,a2,a3,a4,a5,some (.ref fn),a7,some (.ref n),a9]/\Fz S0 S2/\Kn kd S0.length (4+i) (63+64*i+j) S2/\S2[fn]? =some (.lst zs)/\S2[n]? =some (.lst l)) ?_ ?_ ⟨_,rfl,f1,tD,CY,el⟩ ?_
  ·rintro j ρ S2 _ ⟨_,_,_,_,_,e⟩
   exact zp e
  ·rintro j w ρ S2 jD ⟨a9,rfl,f2,gX,ra,ic⟩
   have hj:j<64:=by have:=(Es.1 jD).1;omega
   obtain⟨q,m,rfl,km⟩:=gf w (EA jD)
   obtain⟨lm,em,AH⟩:=gX.pt m km
   refine .of rfl ?_
   dsimp only[F7]
   refine vm (Xb ?_)
   walk_at "z"
   refine⟨⟨_,zp em⟩,?_⟩
   walk_at "z"
   refine xN (ww em) (ziw ⋯) ?_
   refine⟨_,rfl,f2.set (gX.lo m ⋯),gX.pts km em AH,yV ra (λz=>by subst z;omega),yV ic (λz=>by subst z;omega)⟩
  rintro ρ S2 ⟨a9,rfl,f2,gX,ra,ic⟩
  refine vm (Xb ?_)
  walk_at "z"
  refine⟨⟨_,zp ic⟩,?_⟩
  walk_at "z"
  have f3:Fz S2 (S2++[Ce.lst []]):=Fz.refl.app
  have gF:=gX.app (t:=3) (l:=[]) f2.1 nofun (λ_=>by simp)
  have h4:∀{n:Nat},kd n≠0->(if n=S2.length then 3 else kd n)=kd n:=λ{n} h=>gX.same (l:=[]) h
  refine xN (ww (f3.lst ic)) (ziw ⋯) ?_
  refine⟨_,_,_,rfl,(f2.trans f3).set (gX.lo n ⋯),(gF.chs (n:=n) (m:=S2.length) (q:= .tup [.int 0,.int 1]) (by rw[h4 ⋯];exact iU) (f3.lst ic) ll (λw hw=> ?_) (if_pos rfl)).le ⋯ ⋯,by rw[h4 ⋯];exact k1,yV (f3.lst ra) (λz=>by subst z;omega),λz hz=> ?_⟩
  ·obtain⟨q,m,r1,r2⟩:=gf w hw
   exact⟨q,m,r1,by rw[h4 ⋯];exact r2⟩
  ·obtain⟨n,r1,r2⟩:=hk z hz
   exact⟨n,r1,by rw[h4 ⋯];exact r2⟩
 ·rintro ρ S1 ⟨a8,a9,kd,rfl,f1,_⟩
  exact k S1 a8 a9 f1
end
section
variable {fu:Nat} {S S' S0:Sto} {x y:Xv} {ns:List Int} {dd:Int}
theorem zmk (bB:Big fu):W (zeJ fu [.ref 0] [.frz (ns.map Xv.int)]) λv _=>v= .bl true:=by
 walk_at "wr";unfold zeI
 refine yS (zcm (VM ?_))
 walk_at "z"
 refine (zjy bB zhZ rfl).imp ?_
 rintro _ S1 ⟨nn,mn,g,ms,rfl,eX,em,ok,gg,lm,dm,fH⟩
 refine .of rfl ?_
 dsimp only[F7]
 refine yS (zg5 (λρ S2=>∃(nn mn:Nat) (g:Net) (ms:List Int),ρ=[some (.ref 0),some (.ref nn),some (.ref mn),none,none,none,none,none,none,none]/\xy S2 (.ref nn) g/\S2[mn]? =some (.lst (ms.map Xv.int))/\Uc g/\zjx g/\ms.length=g.length/\0<g.length) (xR ?_) ?_)
 ·walk_at "z"
  refine Zk (λ_=> ?_) (λ_=> ?_)
  ·refine zcm (VM ?_)
   walk_at "z"
   refine (zlt (hs:=fH)).imp ?_
   rintro _ S2 ⟨nn,mn,g,ms,rfl,eX,em,ok,gg,lm,dm,f2⟩
   refine .of rfl ?_
   exact⟨nn,mn,g,ms,rfl,eX,em,ok,gg,lm,dm⟩
  ·walk_at "z"
   exact⟨nn,mn,g,ms,rfl,eX,em,ok,gg,lm,dm⟩
 clear eX em ok gg lm dm fH
 rintro ρ S2 ⟨nn,mn,g,ms,rfl,eX,em,ok,gg,lm,dm⟩
 walk_at "z"
 refine (zio ok eX).imp ?_
 rintro _ S3 ⟨m3,rfl,_,ui,f3⟩
 walk_at "z"
 refine zco (zp (f3.lst em)) ?_
 have f4:Fz S3 (S3++[.lst (ms.map Xv.int)]):=Fz.refl.app
 have gv:(S3++[Ce.lst (ms.map Xv.int)])[S3.length]? =some (.lst (ms.map Xv.int)):=yU
 have gM:=xy.mono f4.le ui
 have gn:=f3.trans f4
 generalize S3.length=m4 at gv ⊢
 generalize S3++[.lst (ms.map Xv.int)]=S4 at f4 gv gM gn ⊢
 walk_at "z"
 refine (zig bB ok lm gM gv).imp ?_
 rintro _ S5 ⟨tn,DJ,au,cls,rfl,_,o5,r5,bC,eI,f5⟩
 obtain⟨hl,hc⟩:=r5.num _ (EA bC)
 have qh:=r5.ne
 obtain⟨zl,uR,iy⟩:=o5.2.2 _ _ bC
 have iy:=Vr.1 _ _ iy
 obtain⟨cn,rfl⟩:∃m,zl= .ref m:=by cases zl<;>first|exact⟨_,rfl⟩|(simp only[L2.zv,reduceCtorEq] at iy)
 walk_at "z"
 refine yB (zp o5.1) (za3 (by rw[o5.2.1];exact uR)) ?_
 have qk:xy S5 (.ref nn) g:=xy.mono (gn.trans f5).le eX
 clear eX em f3 f4 gv ui gM gn f5 o5 r5 bC uR qh
 have iy:L2.zv S5 (.ref cn)=some (cls.map Xv.int):=iy
 walk_at "z"
 refine (zio ok qk).imp ?_
 rintro _ S6 ⟨hd,rfl,_,uh,f6⟩
 walk_at "z"
 refine zco (f6.lstAt iy) ?_
 have f7:Fz S6 (S6++[.lst (cls.map Xv.int)]):=Fz.refl.app
 have lq:L2.zv (S6++[.lst (cls.map Xv.int)]) (.ref S6.length)=some (cls.map Xv.int):=yu
 have mw:=xy.mono f7.le uh
 have qj:=xy.mono (f6.trans f7).le qk
 have qO:=(f6.trans f7).lstAt iy
 generalize S6.length=an at lq ⊢
 generalize S6++[.lst (cls.map Xv.int)]=S7 at f7 lq mw qj qO ⊢
 clear f6 f7 uh qk iy
 walk_at "z"
 refine (ziu bB ok hl hc mw lq).imp ?_
 rintro _ S8 ⟨fn,eB,rfl,_,uC,cZ,fP,f8,kd,zs,tu,k1,uS,pK,uq⟩
 have jj:LAt (LAt xa) S8 (.ref fn) eB:=LAt.mono (λ_ _ h=>wN vT h) vT uC
 have qi:=xy.mono f8.le qj
 have uz:=xy.mono f8.le mw
 have mz:=f8.lstAt qO
 have uY:=f8.lstAt lq
 obtain⟨fl,fW,jC,_⟩:=id jj
 have kN:cls≠[]:=λz=>by rw[z] at hl;simp at hl;omega
 walk_at "z"
 refine xR (Wb (Zf ?_))
 walk_at "z"
 refine YC (v:=true) (isl fW) ?_
 refine⟨_,rfl,nofun,λ_=>Wb ?_⟩
 walk_at "z"
 refine YB fW ?_
 walk_at "z"
 refine zjc mz (Uo _) kN ?_
 walk_at "z"
 rw[ziv hc kN,jC,cZ,decide_eq_true rfl]
 refine⟨nofun,λ_=>Wb ?_⟩
 walk_at "z"
 refine zaF (Ue uz) (Ue qi) rfl (Ud 40 _ (zim g)) ?_
 refine⟨_,rfl,nofun,λ_=> ?_⟩
 walk_at "z"
 refine zaF (WF uY) (WF mz) rfl (zdK cls cls) ?_
 rw[decide_eq_true rfl]
 refine⟨_,rfl,nofun,λ_=> ?_⟩
 walk_at "z"
 refine zkb bB ok gg hl hc eI qi mz jj cZ fP λS9 a7 f9=> ?_
 refine yS (zjJ (S0:=S7) (f8.trans f9) (tu.mono f9) k1 (f9.lst uS) pK uq λS10 a8 a9 ia=> ?_)
 clear uC jj qi uz mz uY fW f8 f9 tu uq uS cZ fP
 have kE:=xy.mono ia.le mw
 have ko:=xy.mono ia.le qj
 have qP:=ia.lstAt qO
 have rA:=ia.lstAt lq
 walk_at "z"
 refine (ziu bB ok hl hc kE rA).imp ?_
 rintro _ S11 ⟨fn',fss',rfl,_,qK,cZ,fP,i9,_⟩
 have kH:LAt (LAt xa) S11 (.ref fn') fss':=LAt.mono (λ_ _ h=>wN vT h) vT qK
 walk_at "z"
 refine zkb bB ok gg hl hc eI (xy.mono i9.le ko) (i9.lstAt qP) kH cZ fP λS12 a7 jw=> ?_
 walk_at "z"
 refine zaF (Ue (xy.mono (i9.trans jw).le kE)) (Ue (xy.mono (i9.trans jw).le ko)) rfl (Ud 40 _ (zim g)) ?_
 rfl
theorem zml (bB:Big fu) (ns:List Int) (hl:ns.length<=63):∃S,zeJ fu [.ref 0] [.frz (ns.map Xv.int)]=some (.ok (.bl true) S):=by
 obtain⟨v,S,e,rfl⟩:=zmk bB (ns:=ns)
 exact⟨S,e⟩
end
end
noncomputable def zcW:Nat:=2^9000
theorem zd0:Big zcW:=by unfold Big zcW;exact EE _
theorem zly {P:Program} {w:World} {K:Et} {mg:Str->Option Value} {base:Heap} (T:Tx K mg):xJ P w K mg base (CXE P w) 9 T.fe T.dU ["_law_script"] (zad K):=zkK (zjf (fu:=zcW) T) λns hl=>zml zd0 ns hl
theorem zlz {l:IB} {w:World} {K:Et} {h:Heap} {mg:Str->Option Value} {fa:Addr} (X:K.In h) (G:h.Ns mainGlobals mg) (Cm:mg "law"=some (.ref fa))
     {f0:Addr} {An DI:Option Addr} {z0:Array (Option Value)} {Az B3 Dk Ac x3 Dv:Value} {f1:Addr} {Am DH:Option Addr} {lU:Array (Option Value)} {Ay B2 Dj Ab w6 Du:Value} {f2:Addr} {Al DG:Option Addr} {lT:Array (Option Value)} {Ax B1 Di Aa w5 Dt:Value} {f3:Addr} {Ak DF:Option Addr} {y9:Array (Option Value)} {Aw AZ Dh z9 w4 Ds:Value} {f4:Addr} {Aj DE:Option Addr} {y8:Array (Option Value)} {Av AY Dg z8 v9 Dr:Value} {f5:Addr} {Ai DC:Option Addr} {y7:Array (Option Value)} {Au AX Df z7 v8 Dq:Value} {f6:Addr} {Ah DB:Option Addr} {y6:Array (Option Value)} {As AW De z6 v7 Dp:Value} {f7:Addr} {Ag DA:Option Addr} {y4:Array (Option Value)} {Ar AV Dd z5 v5 Dn:Value} {f8:Addr} {Af Dz:Option Addr} {y3:Array (Option Value)} {Aq AU Dc z4 v3 Dm:Value} {f9:Addr} {Ae Dy:Option Addr} {y2:Array (Option Value)} {Ap AQ D9 z3 uZ Dl:Value} {ia:Addr} {ot sT:Option Addr} {nB:Array (Option Value)} {oP pz rT nT lO sy:Value} {i9:Addr} {oq sS:Option Addr} {nA:Array (Option Value)} {oO pw rS nS lN sx:Value} {jw:Addr} {oo sR:Option Addr} {nz:Array (Option Value)} {oN pq rR nR lM sv:Value} {mO:Addr} {om sQ:Option Addr} {ny:Array (Option Value)} {oM pk rQ nQ lL su:Value} {mN:Addr} {oj sP:Option Addr} {nu:Array (Option Value)} {oK pj rP nP lK sr:Value} {mM:Addr} {oi sO:Option Addr} {nr:Array (Option Value)} {oJ ph rO nO lJ sq:Value} {mL:Addr} {oh sN:Option Addr} {nk:Array (Option Value)} {oI pf rN nN lI sk:Value} {mK:Addr} {og sM:Option Addr} {nj:Array (Option Value)} {oH pe rM nM lH sj:Value} {mJ:Addr} {oe sL:Option Addr} {ni:Array (Option Value)} {oG pd rL nL lG sg:Value} {mI:Addr} {o9 sJ:Option Addr} {nh:Array (Option Value)} {oF p9 rK nK lF sf:Value} {mH:Addr} {o8 sI:Option Addr} {ng:Array (Option Value)} {oE p8 rJ nJ lE se:Value} {mG:Addr} {o7 sH:Option Addr} {nc:Array (Option Value)} {oD p7 rH nI lD sd:Value} {mF:Addr} {o6 sG:Option Addr} {n9:Array (Option Value)} {oC oZ rG nH lC rZ:Value} {gu:Addr} {nZ sF:Option Addr} {mZ:Array (Option Value)} {oB oY rF nG lB rY:Value} {gn:Addr} {nY sE:Option Addr} {mY:Array (Option Value)} {oA oX rE nF lA rX:Value} {mE:Addr} {nX sD:Option Addr} {mX:Array (Option Value)} {oz oW rD nE ly rW:Value} {r6:Addr} {nW sC:Option Addr} {mW:Array (Option Value)} {oy oV rC nD lx rV:Value} {dF:Addr} {fN:Option Addr} {fM:Nat} {fL:Array (Option Value)} {eT:Tok} {eS:Tok}
    (A0:EI K mainGlobals "common_part"=some (some (.ref f0))) (L0:K.lookup f0=some ⟨Az,An,.func (F3 "common_part" "common_part" (zW xA) (zU xA) (zq xA) .none B3 Dk Ac DI x3 Dv),z0⟩) (C0:F0 K x3 "common_part"=true) (K0:EY K (.ref f0)=true)
    (A1:EI K mainGlobals "lowest"=some (some (.ref f1))) (L1:K.lookup f1=some ⟨Ay,Am,.func (F3 "lowest" "lowest" (zW Yd) (zU Yd) (zq Yd) .none B2 Dj Ab DH w6 Du),lU⟩) (C1:F0 K w6 "lowest"=true) (K1:EY K (.ref f1)=true)
    (A2:EI K mainGlobals "plus"=some (some (.ref f2))) (L2:K.lookup f2=some ⟨Ax,Al,.func (F3 "plus" "plus" (zW Vo) (zU Vo) (zq Vo) .none B1 Di Aa DG w5 Dt),lT⟩) (C2:F0 K w5 "plus"=true) (K2:EY K (.ref f2)=true)
    (A3:EI K mainGlobals "gathered"=some (some (.ref f3))) (L3:K.lookup f3=some ⟨Aw,Ak,.func (F3 "gathered" "gathered" (zW wH) (zU wH) (zq wH) .none AZ Dh z9 DF w4 Ds),y9⟩) (C3:F0 K w4 "gathered"=true) (K3:EY K (.ref f3)=true)
    (A4:EI K mainGlobals "rounds"=some (some (.ref f4))) (L4:K.lookup f4=some ⟨Av,Aj,.func (F3 "rounds" "rounds" (zW Ye) (zU Ye) (zq Ye) .none AY Dg z8 DE v9 Dr),y8⟩) (C4:F0 K v9 "rounds"=true) (K4:EY K (.ref f4)=true)
    (A5:EI K mainGlobals "numbered"=some (some (.ref f5))) (L5:K.lookup f5=some ⟨Au,Ai,.func (F3 "numbered" "numbered" (zW wI) (zU wI) (zq wI) .none AX Df z7 DC v8 Dq),y7⟩) (C5:F0 K v8 "numbered"=true) (K5:EY K (.ref f5)=true)
    (A6:EI K mainGlobals "parted"=some (some (.ref f6))) (L6:K.lookup f6=some ⟨As,Ah,.func (F3 "parted" "parted" (zW Yf) (zU Yf) (zq Yf) .none AW De z6 DB v7 Dp),y6⟩) (C6:F0 K v7 "parted"=true) (K6:EY K (.ref f6)=true)
    (A7:EI K mainGlobals "choices_by"=some (some (.ref f7))) (L7:K.lookup f7=some ⟨Ar,Ag,.func (F3 "choices_by" "choices_by" (zW xr) (zU xr) (zq xr) .none AV Dd z5 DA v5 Dn),y4⟩) (C7:F0 K v5 "choices_by"=true) (K7:EY K (.ref f7)=true)
    (A8:EI K mainGlobals "gathered_by"=some (some (.ref f8))) (L8:K.lookup f8=some ⟨Aq,Af,.func (F3 "gathered_by" "gathered_by" (zW yY) (zU yY) (zq yY) .none AU Dc z4 Dz v3 Dm),y3⟩) (C8:F0 K v3 "gathered_by"=true) (K8:EY K (.ref f8)=true)
    (A9:EI K mainGlobals "laid"=some (some (.ref f9))) (L9:K.lookup f9=some ⟨Ap,Ae,.func (F3 "laid" "laid" (zW Wj) (zU Wj) (zq Wj) .none AQ D9 z3 Dy uZ Dl),y2⟩) (C9:F0 K uZ "laid"=true) (K9:EY K (.ref f9)=true)
    (A10:EI K mainGlobals "_law_cell_at"=some (some (.ref ia))) (L10:K.lookup ia=some ⟨oP,ot,.func (F3 "_law_cell_at" "_law_cell_at" (zW xj) (zU xj) (zq xj) .none pz rT nT sT lO sy),nB⟩) (C10:F0 K lO "_law_cell_at"=true) (K10:EY K (.ref ia)=true)
    (A11:EI K mainGlobals "_law_mixed"=some (some (.ref i9))) (L11:K.lookup i9=some ⟨oO,oq,.func (F3 "_law_mixed" "_law_mixed" (zW wd) (zU wd) (zq wd) .none pw rS nS sS lN sx),nA⟩) (C11:F0 K lN "_law_mixed"=true) (K11:EY K (.ref i9)=true)
    (A12:EI K mainGlobals "_law_fraction"=some (some (.ref jw))) (L12:K.lookup jw=some ⟨oN,oo,.func (F3 "_law_fraction" "_law_fraction" (zW yP) (zU yP) (zq yP) .none pq rR nR sR lM sv),nz⟩) (C12:F0 K lM "_law_fraction"=true) (K12:EY K (.ref jw)=true)
    (A13:EI K mainGlobals "_law_gain"=some (some (.ref mO))) (L13:K.lookup mO=some ⟨oM,om,.func (F3 "_law_gain" "_law_gain" (zW wJ) (zU wJ) (zq wJ) .none pk rQ nQ sQ lL su),ny⟩) (C13:F0 K lL "_law_gain"=true) (K13:EY K (.ref mO)=true)
    (A14:EI K mainGlobals "_law_name"=some (some (.ref mN))) (L14:K.lookup mN=some ⟨oK,oj,.func (F3 "_law_name" "_law_name" (zW wK) (zU wK) (zq wK) .none pj rP nP sP lK sr),nu⟩) (C14:F0 K lK "_law_name"=true) (K14:EY K (.ref mN)=true)
    (A15:EI K mainGlobals "_law_rows"=some (some (.ref mM))) (L15:K.lookup mM=some ⟨oJ,oi,.func (F3 "_law_rows" "_law_rows" (zW xt) (zU xt) (zq xt) .none ph rO nO sO lJ sq),nr⟩) (C15:F0 K lJ "_law_rows"=true) (K15:EY K (.ref mM)=true)
    (A16:EI K mainGlobals "_law_bases"=some (some (.ref mL))) (L16:K.lookup mL=some ⟨oI,oh,.func (F3 "_law_bases" "_law_bases" (zW xu) (zU xu) (zq xu) .none pf rN nN sN lI sk),nk⟩) (C16:F0 K lI "_law_bases"=true) (K16:EY K (.ref mL)=true)
    (A17:EI K mainGlobals "_law_split"=some (some (.ref mK))) (L17:K.lookup mK=some ⟨oH,og,.func (F3 "_law_split" "_law_split" (zW xw) (zU xw) (zq xw) .none pe rM nM sM lH sj),nj⟩) (C17:F0 K lH "_law_split"=true) (K17:EY K (.ref mK)=true)
    (A18:EI K mainGlobals "_law_parts"=some (some (.ref mJ))) (L18:K.lookup mJ=some ⟨oG,oe,.func (F3 "_law_parts" "_law_parts" (zW we) (zU we) (zq we) .none pd rL nL sL lG sg),ni⟩) (C18:F0 K lG "_law_parts"=true) (K18:EY K (.ref mJ)=true)
    (A19:EI K mainGlobals "_law_homes"=some (some (.ref mI))) (L19:K.lookup mI=some ⟨oF,o9,.func (F3 "_law_homes" "_law_homes" (zW yG) (zU yG) (zq yG) .none p9 rK nK sJ lF sf),nh⟩) (C19:F0 K lF "_law_homes"=true) (K19:EY K (.ref mI)=true)
    (A20:EI K mainGlobals "_law_blown"=some (some (.ref mH))) (L20:K.lookup mH=some ⟨oE,o8,.func (F3 "_law_blown" "_law_blown" (zW yH) (zU yH) (zq yH) .none p8 rJ nJ sI lE se),ng⟩) (C20:F0 K lE "_law_blown"=true) (K20:EY K (.ref mH)=true)
    (A21:EI K mainGlobals "_law_copy"=some (some (.ref mG))) (L21:K.lookup mG=some ⟨oD,o7,.func (F3 "_law_copy" "_law_copy" (zW xS) (zU xS) (zq xS) .none p7 rH nI sH lD sd),nc⟩) (C21:F0 K lD "_law_copy"=true) (K21:EY K (.ref mG)=true)
    (A22:EI K mainGlobals "_law_by"=some (some (.ref mF))) (L22:K.lookup mF=some ⟨oC,o6,.func (F3 "_law_by" "_law_by" (zW Zg) (zU Zg) (zq Zg) .none oZ rG nH sG lC rZ),n9⟩) (C22:F0 K lC "_law_by"=true) (K22:EY K (.ref mF)=true)
    (A23:EI K mainGlobals "_law_is_fraction"=some (some (.ref gu))) (L23:K.lookup gu=some ⟨oB,nZ,.func (F3 "_law_is_fraction" "_law_is_fraction" (zW yq) (zU yq) (zq yq) .none oY rF nG sF lB rY),mZ⟩) (C23:F0 K lB "_law_is_fraction"=true) (K23:EY K (.ref gu)=true)
    (A24:EI K mainGlobals "_law_is_choice"=some (some (.ref gn))) (L24:K.lookup gn=some ⟨oA,nY,.func (F3 "_law_is_choice" "_law_is_choice" (zW yC) (zU yC) (zq yC) .none oX rE nF sE lA rX),mY⟩) (C24:F0 K lA "_law_is_choice"=true) (K24:EY K (.ref gn)=true)
    (A25:EI K mainGlobals "_law_has"=some (some (.ref mE))) (L25:K.lookup mE=some ⟨oz,nX,.func (F3 "_law_has" "_law_has" (zW wL) (zU wL) (zq wL) .none oW rD nE sD ly rW),mX⟩) (C25:F0 K ly "_law_has"=true) (K25:EY K (.ref mE)=true)
    (A26:EI K mainGlobals "law"=some (some (.ref r6))) (L26:K.lookup r6=some ⟨oy,nW,.func (F3 "law" "law" (zW zaI) (zU zaI) (zq zaI) .none oV rC nD sC lx rV),mW⟩) (C26:F0 K lx "law"=true) (K26:EY K (.ref r6)=true)
    (gE:EI K mainGlobals "abs"=some none)
    (fD:EI K mainGlobals "bool"=some none)
    (cE:EI K mainGlobals "enumerate"=some none)
    (gD:EI K mainGlobals "int"=some none)
    (cm:EI K mainGlobals "isinstance"=some none)
    (gC:EI K mainGlobals "len"=some none)
    (fC:EI K mainGlobals "list"=some none)
    (gB:EI K mainGlobals "max"=some none)
    (eQ:EI K mainGlobals "range"=some none)
    (cX:EI K mainGlobals "reversed"=some none)
    (gA:EI K mainGlobals "set"=some none)
    (e7:EI K mainGlobals "sorted"=some none)
    (gy:EI K mainGlobals "sum"=some none)
    (eP:EI K mainGlobals "tuple"=some none)
    (aQ:EI K mainGlobals "NOUGHT"=some (some (.ref dF)))
    (dP:K.lookup dF=some ⟨.type "tuple",fN,.seq #[.int 0 eT,.int 1 eS] fM,fL⟩):
    ∃fd:FuncData,(∀(s:Shared) (v:Value),BindsTo s fd ⟨[v],[]⟩ [("_law_script",v)])/\∀base:Heap,K.In base->base.Ns mainGlobals mg->xJ l.prog w K mg base (CXE l.prog w) 9 fa fd ["_law_script"] (zad K):=by
  have e:=Cm.symm.trans (F4 X G A26)
  cases e
  let T:Tx K mg:={b0:=f0,aN:=_,bR:=zE (st:=xA) L0 C0 K0,cO:=F4 X G A0,cR:=(zE (st:=xA) L0 C0 K0).binds (ps:=["one","other"]) λ_ _ _ _ _ _ us hl=>match us,hl with|[_,_],_=>rfl,di:=f1,cL:=_,eh:=zE (st:=Yd) L1 C1 K1,eV:=F4 X G A1,fc:=(zE (st:=Yd) L1 C1 K1).binds (ps:=["top","bottom"]) λ_ _ _ _ _ _ us hl=>match us,hl with|[_,_],_=>rfl,eN:=f2,dD:=_,fE:=zE (st:=Vo) L2 C2 K2,g8:=F4 X G A2,gw:=(zE (st:=Vo) L2 C2 K2).binds (ps:=["one","other"]) λ_ _ _ _ _ _ us hl=>match us,hl with|[_,_],_=>rfl,cj:=f3,bH:=_,cY:=zE (st:=wH) L3 C3 K3,dM:=F4 X G A3,dY:=(zE (st:=wH) L3 C3 K3).binds (ps:=["pairs"]) λ_ _ _ _ _ _ us hl=>match us,hl with|[_],_=>rfl,dg:=f4,cJ:=_,e8:=zE (st:=Ye) L4 C4 K4,eU:=F4 X G A4,eZ:=(zE (st:=Ye) L4 C4 K4).binds (ps:=["net","marks"]) λ_ _ _ _ _ _ us hl=>match us,hl with|[_,_],_=>rfl,cg:=f5,bG:=_,cq:=zE (st:=wI) L5 C5 K5,cT:=F4 X G A5,cV:=(zE (st:=wI) L5 C5 K5).binds (ps:=["keys"]) λ_ _ _ _ _ _ us hl=>match us,hl with|[_],_=>rfl,dh:=f6,cK:=_,dj:=zE (st:=Yf) L6 C6 K6,dJ:=F4 X G A6,dX:=(zE (st:=Yf) L6 C6 K6).binds (ps:=["net","classes"]) λ_ _ _ _ _ _ us hl=>match us,hl with|[_,_],_=>rfl,bo:=f7,aS:=_,bz:=zE (st:=xr) L7 C7 K7,bX:=F4 X G A7,c9:=(zE (st:=xr) L7 C7 K7).binds (ps:=["choices","classes"]) λ_ _ _ _ _ _ us hl=>match us,hl with|[_,_],_=>rfl,aZ:=f8,aM:=_,bQ:=zE (st:=yY) L8 C8 K8,cN:=F4 X G A8,cQ:=(zE (st:=yY) L8 C8 K8).binds (ps:=["parts","classes"]) λ_ _ _ _ _ _ us hl=>match us,hl with|[_,_],_=>rfl,eO:=f9,dE:=_,eR:=zE (st:=Wj) L9 C9 K9,fq:=F4 X G A9,fB:=(zE (st:=Wj) L9 C9 K9).binds (ps:=["net","classes"]) λ_ _ _ _ _ _ us hl=>match us,hl with|[_,_],_=>rfl,aP:=ia,aF:=_,ai:=zE (st:=xj) L10 C10 K10,aj:=F4 X G A10,ak:=(zE (st:=xj) L10 C10 K10).binds (ps:=["_law_script","_law_k"]) λ_ _ _ _ _ _ us hl=>match us,hl with|[_,_],_=>rfl,bt:=i9,aV:=_,af:=zE (st:=wd) L11 C11 K11,ag:=F4 X G A11,ah:=(zE (st:=wd) L11 C11 K11).binds (ps:=["_law_number","_law_prime","_law_many"]) λ_ _ _ _ _ _ us hl=>match us,hl with|[_,_,_],_=>rfl,aH:=jw,aA:=_,ay:=zE (st:=yP) L12 C12 K12,aE:=F4 X G A12,aG:=(zE (st:=yP) L12 C12 K12).binds (ps:=["_law_top","_law_bottom"]) λ_ _ _ _ _ _ us hl=>match us,hl with|[_,_],_=>rfl,bM:=mO,bg:=_,cG:=zE (st:=wJ) L13 C13 K13,dy:=F4 X G A13,dB:=(zE (st:=wJ) L13 C13 K13).binds (ps:=["_law_cell"]) λ_ _ _ _ _ _ us hl=>match us,hl with|[_],_=>rfl,bL:=mN,bf:=_,b7:=zE (st:=wK) L14 C14 K14,bF:=F4 X G A14,bJ:=(zE (st:=wK) L14 C14 K14).binds (ps:=["_law_script","_law_count","_law_place"]) λ_ _ _ _ _ _ us hl=>match us,hl with|[_,_,_],_=>rfl,bK:=mM,bb:=_,cF:=zE (st:=xt) L15 C15 K15,dw:=F4 X G A15,dA:=(zE (st:=xt) L15 C15 K15).binds (ps:=["_law_script"]) λ_ _ _ _ _ _ us hl=>match us,hl with|[_],_=>rfl,bx:=mL,aY:=_,cz:=zE (st:=xu) L16 C16 K16,d9:=F4 X G A16,df:=(zE (st:=xu) L16 C16 K16).binds (ps:=["_law_script"]) λ_ _ _ _ _ _ us hl=>match us,hl with|[_],_=>rfl,bp:=mK,aT:=_,cu:=zE (st:=xw) L17 C17 K17,d3:=F4 X G A17,da:=(zE (st:=xw) L17 C17 K17).binds (ps:=["_law_script","_law_node","_law_to","_law_copies"]) λ_ _ _ _ _ _ us hl=>match us,hl with|[_,_,_,_],_=>rfl,bq:=mJ,aU:=_,bA:=zE (st:=we) L18 C18 K18,bY:=F4 X G A18,cf:=(zE (st:=we) L18 C18 K18).binds (ps:=["_law_script","_law_node","_law_weights","_law_homes_here"]) λ_ _ _ _ _ _ us hl=>match us,hl with|[_,_,_,_],_=>rfl,bu:=mI,aW:=_,cw:=zE (st:=yG) L19 C19 K19,d7:=F4 X G A19,dc:=(zE (st:=yG) L19 C19 K19).binds (ps:=["_law_script","_law_count"]) λ_ _ _ _ _ _ us hl=>match us,hl with|[_,_],_=>rfl,bw:=mH,aX:=_,cy:=zE (st:=yH) L20 C20 K20,d8:=F4 X G A20,de:=(zE (st:=yH) L20 C20 K20).binds (ps:=["_law_script"]) λ_ _ _ _ _ _ us hl=>match us,hl with|[_],_=>rfl,bN:=mG,bh:=_,bO:=zE (st:=xS) L21 C21 K21,cB:=F4 X G A21,cD:=(zE (st:=xS) L21 C21 K21).binds (ps:=["_law_net"]) λ_ _ _ _ _ _ us hl=>match us,hl with|[_],_=>rfl,cM:=mF,c7:=_,dv:=zE (st:=Zg) L22 C22 K22,eG:=F4 X G A22,eK:=(zE (st:=Zg) L22 C22 K22).binds (ps:=["_law_choice","_law_classes"]) λ_ _ _ _ _ _ us hl=>match us,hl with|[_,_],_=>rfl,aw:=gu,av:=_,ax:=zE (st:=yq) L23 C23 K23,aI:=F4 X G A23,aJ:=(zE (st:=yq) L23 C23 K23).binds (ps:=["_law_found"]) λ_ _ _ _ _ _ us hl=>match us,hl with|[_],_=>rfl,aB:=gn,az:=_,aR:=zE (st:=yC) L24 C24 K24,bT:=F4 X G A24,bV:=(zE (st:=yC) L24 C24 K24).binds (ps:=["_law_found"]) λ_ _ _ _ _ _ us hl=>match us,hl with|[_],_=>rfl,ck:=mE,bI:=_,cx:=zE (st:=wL) L25 C25 K25,cU:=F4 X G A25,cW:=(zE (st:=wL) L25 C25 K25).binds (ps:=["_law_found","_law_choices","_law_classes"]) λ_ _ _ _ _ _ us hl=>match us,hl with|[_,_,_],_=>rfl,fe:=fa,dU:=_,iN:=zE (st:=zaI) L26 C26 K26,jZ:=F4 X G A26,lQ:=(zE (st:=zaI) L26 C26 K26).binds (ps:=["_law_script"]) λ_ _ _ _ _ _ us hl=>match us,hl with|[_],_=>rfl,g7:=Fy X G gE,fm:=Fy X G fD,aK:=Fy X G cE,fZ:=Fy X G gD,ao:=Fy X G cm,b8:=Fy X G gC,bW:=Fy X G fC,iq:=Fy X G gB,aD:=Fy X G eQ,dI:=Fy X G cX,ip:=Fy X G gA,bS:=Fy X G e7,dH:=Fy X G gy,cH:=Fy X G eP,aQ:=dF,dO:=F4 X G aQ,dW:=λH=> .inr ⟨_,_,_,dP,rfl,rfl,by show 2<=sizeLine;decide,(.cons ⟨_,rfl⟩ (.cons ⟨_,rfl⟩ .nil))⟩}
  exact⟨_,λs v=> .of_eq rfl,λbase _ _=>zly T⟩
theorem zmv {l:IB} {q:Program} {loose:List Str} {XP:(Str->Option Value)->Heap->Prop} {YP:World->Heap->Prop} {d:DefRec} {K:Params->Et} (hn:l.most=some 63) (kI:d.params.defaults=[])
  (hY:∀(w:World) (h:Heap),YP w h->(K w.params).In h)
  (F:∀(w:World) (mg:Str->Option Value) (fa:Addr) (h:Heap),(K w.params).In h->h.Ns mainGlobals mg->mg d.name=some (.ref fa)->
   ∃fd:FuncData,(∀(s:Shared) (u:Value),BindsTo s fd ⟨[u],[]⟩ [("_law_script",u)])/\∀base:Heap,(K w.params).In base->base.Ns mainGlobals mg->xJ l.prog w (K w.params) mg base (CXE l.prog w) 9 fa fd ["_law_script"] (zad (K w.params))):
  JQ q loose XP YP l.row.toRowW d [] (λf vs=>JF f vs):=
 L2.ziH (n:=63) (k:=9) (x:="_law_script") (CX:=λw=>CXE l.prog w) (sp:=λw=>zad (K w.params)) hn ∅ kI ⟨rfl,∅,∅,rfl⟩ hY F (λ_ _ a ns hl hO hS=>⟨a,ns,rfl,hO,hS,hl,λ_=>rfl⟩) λ_ _ _ _ _ ⟨_,_,_,_,_,z⟩=>z
end Prf
open PySem PySem.W PyProof.Rows
set_option maxRecDepth 100000 in
set_option maxHeartbeats 0 in
theorem PySem.Challenge.cw_lots_k73_laid_together_holds : PySem.Challenge.rw_lots_k73_laid_together.Holds := by
 w_on;o_law;k_head;(case hw=>w_witness2)
 k_fill
 refine Prf.zmv (l:=PySem.Challenge.rw_lots_k73_laid_together) rfl rfl (λw h Y=>JM Y) ?F
 case F=>
  intro w mg fa h KX G j9
  refine' Prf.zlz KX G j9 ?A0 ?L0 ?C0 ?K0 ?A1 ?L1 ?C1 ?K1 ?A2 ?L2 ?C2 ?K2 ?A3 ?L3 ?C3 ?K3 ?A4 ?L4 ?C4 ?K4 ?A5 ?L5 ?C5 ?K5 ?A6 ?L6 ?C6 ?K6 ?A7 ?L7 ?C7 ?K7 ?A8 ?L8 ?C8 ?K8 ?A9 ?L9 ?C9 ?K9 ?A10 ?L10 ?C10 ?K10 ?A11 ?L11 ?C11 ?K11 ?A12 ?L12 ?C12 ?K12 ?A13 ?L13 ?C13 ?K13 ?A14 ?L14 ?C14 ?K14 ?A15 ?L15 ?C15 ?K15 ?A16 ?L16 ?C16 ?K16 ?A17 ?L17 ?C17 ?K17 ?A18 ?L18 ?C18 ?K18 ?A19 ?L19 ?C19 ?K19 ?A20 ?L20 ?C20 ?K20 ?A21 ?L21 ?C21 ?K21 ?A22 ?L22 ?C22 ?K22 ?A23 ?L23 ?C23 ?K23 ?A24 ?L24 ?C24 ?K24 ?A25 ?L25 ?C25 ?K25 ?A26 ?L26 ?C26 ?K26 ?gE ?fD ?cE ?gD ?cm ?gC ?fC ?gB ?eQ ?cX ?gA ?e7 ?gy ?eP ?aQ ?dP
  (case A0=>k_is);(case L0=>k_is);(case C0=>k_is);(case K0=>k_is);(case A1=>k_is);(case L1=>k_is)
  (case C1=>k_is);(case K1=>k_is);(case A2=>k_is);(case L2=>k_is);(case C2=>k_is);(case K2=>k_is)
  (case A3=>k_is);(case L3=>k_is);(case C3=>k_is);(case K3=>k_is);(case A4=>k_is);(case L4=>k_is)
  (case C4=>k_is);(case K4=>k_is);(case A5=>k_is);(case L5=>k_is);(case C5=>k_is);(case K5=>k_is)
  (case A6=>k_is);(case L6=>k_is);(case C6=>k_is);(case K6=>k_is);(case A7=>k_is);(case L7=>k_is)
  (case C7=>k_is);(case K7=>k_is);(case A8=>k_is);(case L8=>k_is);(case C8=>k_is);(case K8=>k_is)
  (case A9=>k_is);(case L9=>k_is);(case C9=>k_is);(case K9=>k_is);(case A10=>k_is);(case L10=>k_is)
  (case C10=>k_is);(case K10=>k_is);(case A11=>k_is);(case L11=>k_is);(case C11=>k_is);(case K11=>k_is)
  (case A12=>k_is);(case L12=>k_is);(case C12=>k_is);(case K12=>k_is);(case A13=>k_is);(case L13=>k_is)
  (case C13=>k_is);(case K13=>k_is);(case A14=>k_is);(case L14=>k_is);(case C14=>k_is);(case K14=>k_is)
  (case A15=>k_is);(case L15=>k_is);(case C15=>k_is);(case K15=>k_is);(case A16=>k_is);(case L16=>k_is)
  (case C16=>k_is);(case K16=>k_is);(case A17=>k_is);(case L17=>k_is);(case C17=>k_is);(case K17=>k_is)
  (case A18=>k_is);(case L18=>k_is);(case C18=>k_is);(case K18=>k_is);(case A19=>k_is);(case L19=>k_is)
  (case C19=>k_is);(case K19=>k_is);(case A20=>k_is);(case L20=>k_is);(case C20=>k_is);(case K20=>k_is)
  (case A21=>k_is);(case L21=>k_is);(case C21=>k_is);(case K21=>k_is);(case A22=>k_is);(case L22=>k_is)
  (case C22=>k_is);(case K22=>k_is);(case A23=>k_is);(case L23=>k_is);(case C23=>k_is);(case K23=>k_is)
  (case A24=>k_is);(case L24=>k_is);(case C24=>k_is);(case K24=>k_is);(case A25=>k_is);(case L25=>k_is)
  (case C25=>k_is);(case K25=>k_is);(case A26=>k_is);(case L26=>k_is);(case C26=>k_is);(case K26=>k_is)
  (case gE=>k_is);(case fD=>k_is);(case cE=>k_is);(case gD=>k_is);(case cm=>k_is);(case gC=>k_is)
  (case fC=>k_is);(case gB=>k_is);(case eQ=>k_is);(case cX=>k_is);(case gA=>k_is);(case e7=>k_is)
  (case gy=>k_is);(case eP=>k_is);(case aQ=>k_is);(case dP=>k_is)
