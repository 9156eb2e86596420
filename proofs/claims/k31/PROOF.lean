import PyProof.Rows.All
import Wide.All
import OpenK.AllK
import Wide.FinOn
import Lean
import PyProof.EqAt
import PyProof.EqKinds
import PyProof.TupleCall
import PySem.Challenge.RW_lots_k31_whole_runs_walked
set_option Elab.async false
set_option linter.all false
set_option maxRecDepth 100000
local macro_rules | `(tactic| omega) => `(tactic| first | with_reducible assumption | lia | omega +splitDisjunctions)
open PySem.W renaming Frag->rF,mroIn->rS,nsIn->se,findIn->sf,mg_none_of->sG,kitOne->sW,mg_of->tq,emptyDict->tF,typeIn->tW,instObj->tX,keepIn->ua,fnOf->uh,hideAll->ui,kitMeta->uj,plainGet->uL,excIn->uS,codeIn->w5,hasDictIn->w9,specialIn->x5,isFn->z3,looks_findIn->z4,isClsIn->A0,plainGet_of->A1,lookIn->A2,InstAt->A3,callWith_K->Aa,subIn->Ad,methodObj->Ag,plainOver->Ah,kitx_list->Aj,takerIn->AA,makesIn->AB,takesIn->AF,OpenLaw->AH,findObj->AI,cellsFrom_some->AU,kitCls->B4,clsIn->Bg,hideAll_get->Bi,of_hideAll->Br,kitx_tuple->Bu,kitx_dict->BF,handedIn->BM,kIn_of->C2,WalkO->C4,KitX->Ca
open List renaming getElem?_eq_getElem->rG,getElem?_eq_some_iff->rH,length_map->rJ,getElem?_map->rM,replicate->rN,size_toArray->rO,length_cons->rP,map_append->rR,mem_cons_of_mem->rT,length_append->rV,prefix_append->rW,mem_of_getElem?->rX,set->rY,mem_cons_self->sj,mem_cons->sq,getElem?_append_left->su,mem_singleton->sD,take_length->sE,map_cons->sH,append_nil->sI,replicate_succ->sJ,getElem?_append_right->sL,mem_append->sN,mem_map->sQ,getD_eq_getElem?_getD->sS,mem_append_right->sT,length_take->sV,flatten_cons->sY,getElem_map->t4,append_assoc->t6,map_map->t9,lookup_cons->tj,sum_cons->tE,map->tG,range->tH,getElem?_eq_none->tJ,cons_append->tN,sum_append->tO,cons_ne_nil->tV,getElem?_set->u5,all_eq_true->ub,prefix_refl->ud,lookup->uf,length->ug,pairwise_iff_getElem->uq,mem_range->ur,take_succ_eq_append_getElem->uw,length_eq_zero_iff->uy,length_replicate->uG,length_singleton->uH,length_drop->uM,getElem_mem->uN,replicate_succ'->uP,all_cons->uR,filterMap_cons->uU,length_reverse->uV,getElem?_range->uW,length_set->uZ,map_nil->v5,reverse_cons->x8,findIdx?_eq_some_iff_getElem->y3,getElem?_reverse->y7,take_append_drop->y8,mem_append_left->y9,getElem?_set_ne->z0,nodup_cons->z5,length_nil->z6,nil_append->z9,drop_zero->A5,mem_filterMap->A9,any_cons->Ab,mem_or_eq_of_mem_set->Am,drop_eq_getElem_cons->An,any_eq_true->Aq,map_set->Av,getElem?_replicate->Ay,pairwise_singleton->Az,of_mem_zip->AG,getElem?_set_self->AO,dropLast_eq_take->B5,length_dropLast->Ba,mem_iff_getElem->Bc,map_congr_left->Bm,length_pos_iff->Bo,flatten_append->Bp,zip_cons_cons->Bt,set_cons_zero->Bx,set_cons_succ->By,take_add_one->BG,length_range->BH,pairwise_map->BI,drop_length->BU,flatten_nil->BV,mem_filter->BW,range_succ->C0
open Or renaming inl->rK,inr->y0
open Nat renaming le_refl->rL,le_trans->si,add_eq->sk,lt_of_lt_of_le->sv,ne_of_lt->sA,mul_le_mul_right->sM,le_succ->t5,zero_le->tf,lt_of_le_of_lt->tu,le_of_lt->tK,lt_irrefl->tS,lt_succ_self->tU,mul_assoc->u6,gcd->um,add_assoc->uz,le_of_eq->uF,succ_mul->uI,mul_pos->uT,mul_le_mul_left->uY,gcd_comm->v7,zero_add->v8,succ_ne_self->y6,lt_succ_of_lt->Ai,mul_comm->Ar,sub_self->Aw,mul_one->AX,pow_pos->AZ,pow_one->B1,pow_le_pow_right->Be,ne_of_gt->Bs,sub_zero->Bw,add_right_comm->Bz,mul_add->BK,add_mul->BL,not_lt->BZ,min_eq_left->C1,mul_le_mul->C3
open Int renaming toNat_natCast->rQ,mul_assoc->sC,mul_comm->sO,gcd->sR,mul_pos->sU,dvd_refl->sX,dvd_trans->t8,emod_lt_of_pos->tD,emod_nonneg->tI,zero_add->tM,ediv_eq_of_eq_mul_right->tP,mul_dvd_mul->tQ,fdiv_eq_ediv_of_nonneg->tT,mul_le_mul_of_nonneg_right->u3,natCast_mul->uk,mul_le_mul_of_nonneg_left->uD,natAbs_dvd_natAbs->uJ,natAbs_mul->uK,natAbs_of_nonneg->uO,mul_dvd_mul_left->uQ,toNat_of_nonneg->uX,gcd_pos_of_ne_zero_right->A4,le_of_dvd->Af,gcd_dvd_right->Ak,ediv_nonneg->AK,mul_one->AQ,one_dvd->AW,mul_nonneg->B9,natAbs_natCast->Bv,one_mul->BJ,gcd_dvd_left->BQ,natCast_emod->BR
open Option renaming bind_some->rZ,bind_eq_some_iff->u9,getD_some->uc,isSome_iff_exists->uv,map_some->z7,bind->A7,map_eq_some_iff->AV,getD_none->BO,elim->Cd
open Option.some renaming inj->sr,injEq->tm
open Bool renaming false_ne_true->sy,and_eq_true->tL,eq_iff_iff->tY,beq_eq_decide_eq->B2,false_bne->B6,and_eq_true_iff->Bd,or_eq_true_iff->Bj
open PySem.F renaming plainAttrs_list->sF,slot_list_append->sZ,type_list_append->t2,args_tuple_add_2->v3,entry_tuple_add->w6,slot_tuple_add->x9,excBase_ValueError->Ae,slot_list_extend->As,type_list_extend->Au,slot_list_pop->B7,type_list_pop->B8
open PyProof.Rows renaming callWith_type1->sP,slot_tuple_getitem->t7
open PySem renaming mem_of_lookup->tR,intBits_le_iff->z8,frameOf->Bf,Within->Bq,seqSlot_of->BP,call->BX
open False renaming elim->tZ
open Rat renaming intCast_mul->uo,mul_inv_cancel->uB,div_def->uC,intCast_zero->Ax,intCast_add->AJ,mul_one->AY,zero_mul->BD
open Array renaming length_toList->ux,append_assoc->A8,getElem?_eq_some_iff->Ac,getElem?_toList->B3,toList->C7
open ForInStep renaming yield->uA
open Ne renaming symm->uE
open True renaming intro->v9
open PySem.Builtin.Str renaming strSliceIndices->y4
open Eq renaming symm->A6
open Classical renaming byContradiction->Al
open Sum renaming inl->Ao,inr->Ap
open Prod.mk renaming injEq->Bh
open List.Pairwise renaming nil->BE,imp_of_mem->Cb
open PySem.EqMixed renaming eq_bool_str->C5,eq_str_bool->C6,eq_int_str->C8,eq_str_int->C9
open PySem.W.Looks renaming here->Cg
local macro_rules|`(∅)=>`(by decide)
local macro_rules|`(⋯)=>`(by omega)
local macro_rules|`(nofun)=>`(fun z=>by cases z)
local macro_rules|`(*...*)=>`(by decide+kernel)
structure PySem.W.Fast:Prop where(tw10092492801280456300 tw10215974930829449194 tw10265189077514550507 tw10283070747223251689 tw10298981700957532340 tw10440652830890756648 tw10484592009530115160 tw10523710362461186229 tw10530799830778498212 tw10549300016156528373 tw10592926000961361804 tw10598029806726936003 tw10659878527461570621 tw10760891023999869281 tw10837102434478671963 tw10838675192958971158 tw10921677895281183634 tw10964678269209440346 tw10969758488199337107 tw11008742576478344518 tw11026921196158340323 tw11039417850226281671 tw11052399489389137635 tw1108961130243664132 tw11145952049215865586 tw11156784773143807339 tw11191736915962180496 tw11229174861519660948 tw11236089433938220418 tw112672791706083934 tw11280145640110196428 tw11299705044243558735 tw11366979576987145929 tw11432583930237614754 tw11496151537017367570 tw11599536874491782471 tw1167961448598367749 tw11834398682724906026 tw11971650243361359721 tw11977179425100306067 tw11993401679111086874 tw12067155592749613368 tw12071237640257611975 tw12136147503458082051 tw12177568167388024977 tw12214866589945816017 tw1221712158770648762 tw12221930881100731395 tw12310512471160949852 tw12333652220229718853 tw12380398106472814380 tw12463108389181857949 tw12469192755308733134 tw12495238318156804527 tw12497624552749599156 tw12503759809594422687 tw12548478960855942662 tw12549333032605858591 tw12575992505226843208 tw12619741386074921244 tw12642330075119018675 tw12682507179393346161 tw12709685958976418493 tw12722361079098151699 tw1275896543918883560 tw12828583676732477363 tw12948324627720336529 tw13012113459723569736 tw13051801697535624260 tw13052095409539583239 tw13097607085502976570 tw1311247139286991893 tw13261547543663684185 tw13289645743071162623 tw13370093848434455518 tw13376927476617865404 tw13381390079760745233 tw1341279494040508721 tw13458628019395074905 tw13478434515276980282 tw13521142198502530271 tw13653554550845945058 tw13677951853396107780 tw13687574831453143260 tw13699787019570995464 tw13722599436511107836 tw13734241379513756148 tw13755351473332324485 tw13756764520594929751 tw13800479320316306060 tw13805194708417755888 tw13900466885115497369 tw13950777045858209498 tw13963717108814194851 tw13978538213961091413 tw13989590170321610989 tw14020224469540445559 tw14035191423407865677 tw14049557124029021971 tw14079330671023502536 tw14104935864007128949 tw14176851134508545991 tw1421541326744503492 tw14233049397687939105 tw14264736220017365795 tw14271387680560145437 tw14282446210308580239 tw14387036775314768094 tw14413842353122507058 tw14419701191346907922 tw14425662992760825109 tw1444881580171683335 tw14702977237134715595 tw14730905294163607866 tw14796954622177647010 tw14812548109457826979 tw14867997394169768196 tw14883428512524881326 tw149053565802110140 tw14919806589877943159 tw14954143753636175489 tw14956156195512659506 tw14974052570374977869 tw15004135750188492748 tw1501096296537876465 tw15030228059874954561 tw15066629543248249342 tw15120486863731306100 tw15132779827337691366 tw15151721435490284717 tw1515624130866710412 tw15205954173040820505 tw15229110698517040699 tw15245260330594307436 tw1528049489065730464 tw15311744819498912368 tw1534548645274581741 tw15353305090023941233 tw15355871399391572612 tw15419795084596623777 tw15428329625581025788 tw15443688984563871996 tw1546702702477556034 tw15488490791657042967 tw15491188567995174273 tw15541327885155134768 tw15613927386517851083 tw15627462033573746796 tw1564997513158068221 tw15683259007002104511 tw15689400316941567260 tw15809690630114033154 tw15820849765274250855 tw15855821234654544878 tw15923712150973401637 tw15941655966247922845 tw15981447867673659645 tw16095152022484677826 tw16147590024644644129 tw16150818240644906996 tw16161192340555159459 tw16227943654358715527 tw16322707375606070769 tw16457931995400612067 tw16463903374038031724 tw16586195038957634267 tw16671739974061682318 tw1671753556888895139 tw1672787632033794064 tw16740182055317508307 tw16745019834627854232 tw16756088211471667838 tw16783876361766408408 tw16828158164732086042 tw16863526828718584715 tw16889781436089297241 tw16928122641034420377 tw16954056291999088730 tw16976283042398494846 tw17030497983296983051 tw17064110397189803848 tw17073671452876391468 tw17091230877387310447 tw17112443338802662455 tw17131391541232918759 tw17143807583137753267 tw17174647966086872873 tw17186515711510449709 tw17240662219713276548 tw17289719147929429226 tw17301712353670781549 tw17347923701787637378 tw17401451582773217116 tw17411800835947328326 tw17434142128194906032 tw17450937512585220930 tw17477916846296171298 tw17529977312601107030 tw17559909991281136600 tw1763499003255583533 tw17670838597661049593 tw17673749135540700295 tw17710768340177908808 tw17712617469981555819 tw17739540187516052793 tw17752143220109492961 tw17756666084160917506 tw17787361891821265963 tw17789676740496962260 tw17918155556533471813 tw17923947028895132534 tw17939531766170399326 tw17943790951572235556 tw18012302712073624671 tw18047999651931658818 tw1808515160397075826 tw18161601225776328858 tw18292114980766773151 tw1833467974738013792 tw18359563034110654591 tw1836694874500199300 tw18408052384986144491 tw1880248299002469998 tw1887696231407341916 tw1935767435857242918 tw1972362438602371261 tw2025777586603654860 tw2052147100768876932 tw2178787589001104860 tw2337759226799599834 tw2351724368107178401 tw2436931986439969550 tw2441924930000582222 tw2450247299917004080 tw2502316648735765280 tw252034162535219690 tw2563801340269595317 tw2716644485836714457 tw2728016613394613454 tw2744568798738166433 tw2795835539359102983 tw2832161929651158700 tw2899337175359366428 tw2925054107728431531 tw2931326676168580568 tw2953462374259696155 tw3016139081629303524 tw3181938880953466122 tw3183676670267695060 tw3191820287813414338 tw3336292929984463809 tw3346363677512925998 tw3415495434305802114 tw3463950431640598728 tw3531698346485341958 tw3535020670937116812 tw3541914180641461149 tw3543055177347873957 tw3557197459059020869 tw3590954903687824465 tw3624216963297966326 tw3638234290413631191 tw3721488612672368911 tw3733922049038358014 tw374352988389813029 tw384640867144053250 tw3877999752327425315 tw3954526144013638620 tw3961415520708232713 tw4025510793602804823 tw4045576732010484749 tw4132011789031706247 tw4161646111809677166 tw4270931998900424097 tw4401449897932025930 tw4412811724293452372 tw4422055103353043661 tw4486365505257815388 tw4509005048761025981 tw4584503167741970230 tw4701231167107723496 tw4776380841369298532 tw4815954791614045203 tw4925320174369490697 tw5013870106093228626 tw5137616439998477093 tw5181993552779256551 tw5183210765585660219 tw5184756536519390222 tw5195636836117675141 tw5198669449436630618 tw5243347344757017829 tw541813699352677243 tw5493489688523506949 tw5496521640293770632 tw5518096831800414529 tw5535924539322019821 tw5594535835677039499 tw5660053001705667150 tw5684166993619908049 tw5748373659286693977 tw5834623059407975648 tw5912533091793369810 tw6034560007409395617 tw6079330452815576045 tw6109520088321972199 tw6126167913071451779 tw6162397473621934998 tw6186432217860261967 tw6188808485398293157 tw6247732422361427367 tw6282361373216541911 tw6305699414456535765 tw6374309039412369929 tw6389627439248652307 tw6407588599070463560 tw646905400545682880 tw6498421537350407020 tw6502496139487384149 tw6519765509351055195 tw6535116492468925050 tw6646488956657317687 tw6682640969938634677 tw672020430280139254 tw6735230690492534302 tw6822663871304793861 tw6842618884805499735 tw6884377882141890928 tw6919398782084680827 tw6951751700713179545 tw6963603660164211377 tw7057707440029416898 tw7101337775097728421 tw7179155754435148052 tw7189094489849578225 tw7204045791329879882 tw7217136321899241747 tw7301821463228977627 tw7307118740296316710 tw7357476278802151774 tw7366174632115032000 tw7384977043366984126 tw7406288236467171900 tw7459964969930365429 tw7476075516556342530 tw7481500347392375722 tw7486807526987450801 tw7492697146984060349 tw7560144568993274948 tw7567008235978434877 tw7584534760908872717 tw758844657167552798 tw7696483853435816316 tw7739893805881570379 tw7832464133557818863 tw7854345421304861874 tw7863720280639572321 tw7903112764366031598 tw8009599162592949311 tw8013186421502653995 tw8033329632383115199 tw8118143993288514952 tw819124480338121276 tw821026738516914830 tw8227714095346788180 tw824274803883575977 tw8290807120729852156 tw8312762394747038868 tw8430881765964057770 tw8512328903397266378 tw8547150415654625939 tw8571525058567036132 tw8616255672629950074 tw8714664170793416924 tw8813396438287096612 tw886048088609578793 tw8875619796967213256 tw8885183879913559180 tw8935550364758737853 tw8951708853622844139 tw8981291780516523836 tw902277908308262324 tw9056716388887577756 tw9200420959444884156 tw924776423629744410 tw9314461106051055198 tw9327359526378737168 tw9424731692177787700 tw9463809110920896680 tw9508430981885986120 tw9518069557744555048 tw9534301217384744002 tw9639614666127519762 tw9702748645665218535 tw9753934345287092162 tw9796225035858390735 tw9805674654960190279 tw9871354326825822286 tw9939926258419734737 tw9942425510296362087 tw997370728195131633 tw9979766816718248740:True)
namespace L2
open PySem PySem.Spec PyProof.Rows
abbrev Key:=Sum Int Str
noncomputable def zlh:Key->Value->Bool
 | .inl k,v=>Value.isInt k v
 | .inr x,v=>Value.isStrOf x v
noncomputable def zlI (w:World):Key->Int
 | .inl k=>hashInt k
 | .inr x=>hashStr w x
theorem xE:∀{k:Key} {v:Value},zlh k v=true->(∃i t,k=Ao i/\v=Value.int i t)\/(∃x t,k=Ap x/\v=Value.str x t)
 | .inl i,v,h=>by
  obtain⟨t,e⟩:=Value.isInt_shape (k:=i) (v:=v) h
  exact .inl ⟨i,t,rfl,e⟩
 | .inr x,v,h=>by
  obtain⟨t,e⟩:=Value.isStrOf_shape (x:=x) (v:=v) h
  exact .inr ⟨x,t,rfl,e⟩
theorem zlJ (a b:Int):decide ((Ao a:Key)=Ao b)=(a==b):=by
 by_cases e:a=b
 ·subst e;simp
 ·have h:¬(Ao a:Key)=Ao b:=λq=>e (Sum.inl.inj q)
  rw[decide_eq_false h]
  exact (beq_eq_false_iff_ne.mpr e).symm
theorem zlK (a b:Str):decide ((Ap a:Key)=Ap b)=decide (a=b):=by
 by_cases e:a=b
 ·subst e;simp
 ·have h:¬(Ap a:Key)=Ap b:=λq=>e (Sum.inr.inj q)
  rw[decide_eq_false h,decide_eq_false e]
theorem zlL (a:Int) (b:Str):decide ((Ao a:Key)=Ap b)=false:=decide_eq_false (λq=>nomatch q)
theorem zlM (a:Str) (b:Int):decide ((Ap a:Key)=Ao b)=false:=decide_eq_false (λq=>nomatch q)
noncomputable def zgF (prog:Program) (w:World):PySem.KeyKind prog w Key where
 is:=zlh
 hash:=zlI w
 inj:=λv a b ha hb=>by
  rcases xE ha with⟨i,t,rfl,rfl⟩|⟨x,t,rfl,rfl⟩
  ·rcases xE hb with⟨j,u,rfl,e⟩|⟨y,u,rfl,e⟩
   ·injection e with e1 _;rw[e1]
   ·exact nomatch e
  ·rcases xE hb with⟨j,u,rfl,e⟩|⟨y,u,rfl,e⟩
   ·exact nomatch e
   ·injection e with e1 _;rw[e1]
 byValue:=λk v h=>by
  rcases xE h with⟨i,t,rfl,rfl⟩|⟨x,t,rfl,rfl⟩<;>rfl
 pyHash:=λhv h=>by
  rcases xE hv with⟨i,t,rfl,rfl⟩|⟨x,t,rfl,rfl⟩
  ·exact wpAny_pyHash_int h
  ·exact wpAny_pyHash_str h
 eqBool:=λhu hv h=>by
  rcases xE hu with⟨i,t,rfl,rfl⟩|⟨x,t,rfl,rfl⟩
  ·rcases xE hv with⟨j,u,rfl,rfl⟩|⟨y,u,rfl,rfl⟩
   ·rw[zlJ] at h;exact wpAny_eqBool_int h
   ·rw[zlL] at h;exact SeqAt.EqAt.int_str i t y u _ _ _ _ h
  ·rcases xE hv with⟨j,u,rfl,rfl⟩|⟨y,u,rfl,rfl⟩
   ·rw[zlM] at h;exact SeqAt.EqAt.str_int x t j u _ _ _ _ h
   ·rw[zlK] at h;exact wpAny_eqBool_str h
 «strs» :=λk x t v h=>by
  rcases xE h with⟨i,u,rfl,e⟩|⟨y,u,rfl,e⟩
  ·exact nomatch e
  ·injection e with e1 _
   subst e1
   cases v<;>rfl
inductive V where
 |non|bl (b:Bool)|int (i:Int)|str (x:Str)|byt (b:Array UInt8)|flt (b:UInt64)|ref (a:Addr)|ty (n:String)
 deriving DecidableEq
def yN:V->Value->Prop
 | .non,u=>u=Value.none
 | .bl b,u=>u=Value.bool b
 | .int i,u=>∃t,u=Value.int i t
 | .str x,u=>∃t,u=Value.str x t
 | .byt b,u=>∃t,u=Value.bytes b t
 | .flt b,u=>∃t,u=Value.float b t
 | .ref a,u=>u=Value.ref a
 | .ty n,u=>u=Value.type n
noncomputable abbrev yt:List V->List Value->Prop:=Paired yN
theorem yt.length {xs:List V} {us:List Value} (r:yt xs us):xs.length=us.length:=Paired.length r
theorem yt.get:∀{xs:List V} {us:List Value} {i:Nat} {x:V},yt xs us->xs[i]? =some x->∃u,us[i]? =some u/\yN x u
 |_,_,_,_,.nil,e=>by simp at e
 |_,_,0,_,.cons r _,e=>by simp at e;subst e;exact⟨_,rfl,r⟩
 |_,_,i+1,x,.cons _ t,e=>by
  obtain⟨u,h1,h2⟩:=yt.get (i:=i) (x:=x) t (by simpa using e)
  exact⟨u,by simpa using h1,h2⟩
theorem yt.set {x:V} {u:Value} (r:yN x u):∀{xs:List V} {us:List Value} (i:Nat),yt xs us->yt (xs.set i x) (us.set i u)
 |_,_,_,.nil=> .nil
 |_,_,0,.cons _ t=> .cons r t
 |_,_,i+1,.cons q t=> .cons q (yt.set r i t)
theorem yt.append:∀{xs ys:List V} {us ws:List Value},yt xs us->yt ys ws->yt (xs++ys) (us++ws)
 |_,_,_,_,.nil,s=>s
 |_,_,_,_,.cons r t,s=> .cons r (yt.append t s)
theorem yt.take:∀{xs:List V} {us:List Value} (n:Nat),yt xs us->yt (xs.take n) (us.take n)
 |_,_,0,_=> .nil
 |_,_,_+1,.nil=> .nil
 |_,_,n+1,.cons r t=> .cons r (yt.take n t)
theorem yt.drop:∀{xs:List V} {us:List Value} (n:Nat),yt xs us->yt (xs.drop n) (us.drop n)
 |_,_,0,r=>r
 |_,_,_+1,.nil=> .nil
 |_,_,n+1,.cons _ t=>yt.drop n t
def zcc:Option V->Option Value->Prop
 |some v,some u=>yN v u
 |none,none=>True
 |_,_=>False
def KV {κ:Type}:List (κ×V)->List (κ×Value)->Prop:=Paired λ(p:κ×V) (q:κ×Value)=>p.1=q.1/\yN p.2 q.2
noncomputable def kV:Key->V
 | .inl i=> .int i
 | .inr x=> .str x
inductive NK where
 |int (i:Int)|str (x:Str)|tup (l:List NK)
noncomputable instance:DecidableEq NK:=λa b=>Classical.propDecidable (a=b)
mutual
noncomputable def zli (w:World):NK->Int
 | .int i=>zlI w (.inl i)
 | .str x=>zlI w (.inr x)
 | .tup l=>reduceHash (Builtin.Tuple.tupleHashOf (zh0 w l))
noncomputable def zh0 (w:World):List NK->List Int
 |[]=>[]
 |k::r=>zli w k::zh0 w r
end
mutual
noncomputable def zmX:NK->Nat
 | .int _=>0
 | .str _=>0
 | .tup l=>zlj l+1
noncomputable def zlj:List NK->Nat
 |[]=>0
 |k::r=>max (zmX k) (zlj r)
end
noncomputable def zlN (w:World) (x:NK×Addr×Value):DictEntry:={hash:=zli w x.1,key:= .ref x.2.1,val:=x.2.2}
inductive HO where
 |lst (xs:List V)
 |tup (xs:List V)
 |dK (cL:List (Key×V))|dT (cL:List (List Key×V))
 |dN (ks:List (NK×Addr×V))
 |set (S:Int->Bool) (n:Nat)
 |ins (C dx:Addr) (fs:List (Str×V))
 |own (x:Addr)
 |xd (fs:List (Str×V))
 |met (f x:Addr)
 |rng (lo hi:Int)
 |frz (o:Obj) (u:HO)
 |tbl (ps:Array Value)
 |ext (φ:Heap->Prop)
abbrev Hp:=Addr->Option HO
noncomputable def upd (H:Hp) (a:Addr) (o:HO):Hp:=λb=>if b=a then some o else H b
theorem yW {H:Hp} {a:Addr} {o:HO}:upd H a o a=some o:=by unfold upd;rw[if_pos rfl]
theorem yR {H:Hp} {a b:Addr} {o:HO} (h:b≠a):upd H a o b=H b:=by unfold upd;rw[if_neg h]
theorem Zx {H:Hp} {a b:Addr} {o:HO} (h:H a=some o) (h':H b=none):a≠b:=by
 intro e;subst e;rw[h] at h';cases h'
section
variable (P:Program) (w:World)
def wI (H:Hp) (h:Heap) (a:Addr):HO->Prop
 | .lst xs=>xs.length<=sizeLine/\∃(ag:List Value) (n:Nat),yt xs ag/\h.get? a=some {cls:= .type "list",data:= .seq ag.toArray n}
 | .tup xs=>xs.length<=sizeLine/\∃ag:List Value,yt xs ag/\IsTup h a ag.toArray
 | .dK cL=>cL.length<=sizeLine/\(a==sysModules)=false/\∃vs,KV cL vs/\h.DictOf (zgF P w) a vs
 | .dT cL=>cL.length<=sizeLine/\(a==sysModules)=false/\∃xs:List (List Key×Addr×Value),
   Paired (λ(p:List Key×V) (q:List Key×Addr×Value)=>p.1=q.1/\H q.2.1=some (.tup (p.1.map kV))/\yN p.2 q.2.2) cL xs/\
   ∃o es ep,h.get? a=some o/\o.ExactDict/\o.data= .dict es ep/\es.toList=xs.map (entryOfKey (tupleKind (zgF P w)))/\(xs.map (·.1)).Nodup
 | .dN ks=>ks.length<=sizeLine/\(a==sysModules)=false/\∃xs:List (NK×Addr×Value),Paired (λ(p:NK×Addr×V) (q:NK×Addr×Value)=>p.1=q.1/\p.2.1=q.2.1/\yN p.2.2 q.2.2) ks xs/\
   ∃o es ep,h.get? a=some o/\o.ExactDict/\o.data= .dict es ep/\es.toList=xs.map (zlN w)/\(xs.map (·.1)).Nodup
 | .set S n=>h.SetOf (intKind P w) a S n
 | .ins C dx fs=>H dx=some (.own a)/\fs.length<=1000/\dx≠a/\h.get? a=some (tX C dx)/\
   ∃mA,h.Ns1 dx mA/\(∀f,zcc (fs.lookup f) (mA f))/\Bq mA (fs.map (·.1))
 | .own _=>∃o,h.get? a=some o
 | .xd fs=>∃mA,h.Ns1 a mA/\∀f,zcc (fs.lookup f) (mA f)
 | .rng lo hi=>∃t u v,h.get? a=some {cls:= .type "range",data:= .fields #[.int lo t,.int hi u,.int 1 v]}
 | .frz o u=>h.get? a=some o/\wI H h a u
 | .tbl ps=>h.get? a=some {cls:= .none,data:= .fields ps}
 | .met f x=>h.get? a=some (Ag (.ref f) (.ref x))
 | .ext φ=>φ h/\(∃o,h.get? a=some o)/\∀h1 h2:Heap,φ h1->(∀o,h1.get? a=some o->h2.get? a=some o)->φ h2
def HOk (H:Hp) (h:Heap):Prop:=∀a o,H a=some o->wI P w H h a o
end
section
variable {P:Program} {w:World} {H H':Hp} {h h':Heap} {a:Addr} {o:HO}
theorem wI.lt (x:wI P w H h a o):a<h.objs.size:=by
 cases o with
 |lst xs=>obtain⟨_,_,_,_,e⟩:=x;exact Heap.lt_size e
 |tup xs=>obtain⟨_,_,_,p⟩:=x;exact p.lt
 |dK cL=>obtain⟨_,_,_,_,o,_,_,e,_⟩:=x;exact Heap.lt_size e
 |dT cL=>obtain⟨_,_,_,_,o,_,_,e,_⟩:=x;exact Heap.lt_size e
 |dN ks=>obtain⟨_,_,_,_,o,_,_,e,_⟩:=x;exact Heap.lt_size e
 |set S n=>obtain⟨o,_,_,_,e,_⟩:=x;exact Heap.lt_size e
 |ins C dx fs=>obtain⟨_,_,_,e,_⟩:=x;exact Heap.lt_size e
 |own y=>obtain⟨_,e⟩:=x;exact Heap.lt_size e
 |xd fs=>obtain⟨_,⟨_,_,_,e,_⟩,_⟩:=x;exact Heap.lt_size e
 |rng lo hi=>obtain⟨_,_,_,e⟩:=x;exact Heap.lt_size e
 |frz ob u=>obtain⟨e,_⟩:=x;exact Heap.lt_size e
 |tbl ps=>exact Heap.lt_size (show h.get? a=some _ from x)
 |met f y=>exact Heap.lt_size (show h.get? a=some _ from x)
 |ext φ=>obtain⟨_,⟨_,e⟩,_⟩:=x;exact Heap.lt_size e
theorem Paired.mapP {α β:Type} {F G:α->β->Prop}:∀{l₁:List α} {l₂:List β},Paired F l₁ l₂->(∀a b,F a b->G a b)->Paired G l₁ l₂
 |_,_,.nil,_=> .nil
 |_,_,.cons r t,f=> .cons (f _ _ r) (Paired.mapP t f)
theorem wI.stay (x:wI P w H h a o) (k:∀b u,(b=a\/H b=some (.own a))->h.get? b=some u->h'.get? b=some u)
  (ho:∀b,H b=some (.own a)->H' b=some (.own a)) (ht:∀b xs,H b=some (.tup xs)->H' b=some (.tup xs)):wI P w H' h' a o:=by
 induction o with
 |lst xs=>obtain⟨z,ag,n,r,e⟩:=x;exact⟨z,ag,n,r,k _ _ (.inl rfl) e⟩
 |tup xs=>obtain⟨z,ag,r,ob,e,c⟩:=x;exact⟨z,ag,r,ob,k _ _ (.inl rfl) e,c⟩
 |dK cL=>obtain⟨z,y,vs,r,ob,es,ep,e,c⟩:=x;exact⟨z,y,vs,r,ob,es,ep,k _ _ (.inl rfl) e,c⟩
 |dT cL=>
  obtain⟨z,y,xs,r,ob,es,ep,e,c⟩:=x
  exact⟨z,y,xs,Paired.mapP r λp q z=>⟨z.1,ht _ _ z.2.1,z.2.2⟩,ob,es,ep,k _ _ (.inl rfl) e,c⟩
 |dN ks=>obtain⟨z,y,xs,r,ob,es,ep,e,c⟩:=x;exact⟨z,y,xs,r,ob,es,ep,k _ _ (.inl rfl) e,c⟩
 |set S n=>obtain⟨ob,es,ep,t,e,c⟩:=x;exact⟨ob,es,ep,t,k _ _ (.inl rfl) e,c⟩
 |ins C dx fs=>
  obtain⟨d,z,ne,e,mA,⟨od,es,ep,e2,c⟩,r⟩:=x
  exact⟨ho _ d,z,ne,k _ _ (.inl rfl) e,mA,⟨od,es,ep,k _ _ (.inr d) e2,c⟩,r⟩
 |own y=>obtain⟨ob,e⟩:=x;exact⟨ob,k _ _ (.inl rfl) e⟩
 |xd fs=>obtain⟨mA,⟨od,es,ep,e,c⟩,r⟩:=x;exact⟨mA,⟨od,es,ep,k _ _ (.inl rfl) e,c⟩,r⟩
 |rng lo hi=>obtain⟨t,u,v,e⟩:=x;exact⟨t,u,v,k _ _ (.inl rfl) e⟩
 |frz ob u ih=>obtain⟨e,q⟩:=x;exact⟨k _ _ (.inl rfl) e,ih q⟩
 |tbl ps=>
  have e:h.get? a=some {cls:= .none,data:= .fields ps}:=x
  show h'.get? a=some {cls:= .none,data:= .fields ps}
  exact k a _ (.inl rfl) e
 |met f y=>
  have e:h.get? a=some (Ag (.ref f) (.ref y)):=x
  show h'.get? a=some (Ag (.ref f) (.ref y))
  exact k a _ (.inl rfl) e
 |ext φ=>obtain⟨p,⟨o,e⟩,st⟩:=x;exact⟨st _ _ p λo q=>k _ _ (.inl rfl) q,⟨o,k _ _ (.inl rfl) e⟩,st⟩
theorem HOk.lt (x:HOk P w H h) (e:H a=some o):a<h.objs.size:=(x a o e).lt
theorem HOk.fresh (x:HOk P w H h) (e:h.objs.size<=a):H a=none:=by
 cases q:H a with
 |none=>rfl
 |some u=>exact absurd (sv (x.lt q) e) (tS _)
theorem HOk.kept (x:HOk P w H h) (k:∀b u,h.get? b=some u->h'.get? b=some u):HOk P w H h':=λa o e=>
 (x a o e).stay (λb u _ q=>k b u q) (λ_ q=>q) λ_ _ q=>q
theorem HOk.laid (x:HOk P w H h) (k:∀b u,h.get? b=some u->h'.get? b=some u) (hp:h.objs.size<=a) (new:wI P w (upd H a o) h' a o):HOk P w (upd H a o) h':=λb u e=>by
 have hn:=x.fresh hp
 by_cases hb:b=a
 ·subst hb;rw[yW] at e;cases e;exact new
 ·rw[yR hb] at e
  exact (x b u e).stay (λc v _ q=>k c v q) (λc q=>by rw[yR (Zx q hn)];exact q) λc xs q=>by rw[yR (Zx q hn)];exact q
end
def Rd (H:Hp) (a:Addr) (u:HO):Prop:=H a=some u\/∃o,H a=some (.frz o u)
theorem Rd.ok {P:Program} {w:World} {H:Hp} {h:Heap} {a:Addr} {u:HO} (r:Rd H a u) (x:HOk P w H h):wI P w H h a u:=by
 rcases r with r|⟨o,r⟩
 ·exact x a u r
 ·obtain⟨_,q⟩:=x a _ r
  exact q
def Mut:Option HO->Prop
 |some (.lst _)=>True
 |some (.dK _)=>True
 |some (.dT _)=>True
 |some (.dN _)=>True
 |some (.set _ _)=>True
 |some (.ins _ _ _)=>True
 |some (.ext _)=>True
 |_=>False
section
variable {P:Program} {w:World} {H:Hp} {h h':Heap} {x e:Addr} {o':HO}
theorem HOk.write (ok:HOk P w H h) (mu:Mut (H x)) (he:e=x\/H e=some (.own x)) (k:∀b u,b≠e->h.get? b=some u->h'.get? b=some u) (gG:∃u,h'.get? e=some u)
  (new:wI P w (upd H x o') h' x o'):HOk P w (upd H x o') h':=λb u q=>by
 have ji:∀c y,H c=some (.own y)->c≠x:=λc y r z=>by subst z;rw[r] at mu;exact mu
 have kA:∀c xs,H c=some (.tup xs)->c≠x:=λc xs r z=>by subst z;rw[r] at mu;exact mu
 by_cases hb:b=x
 ·subst hb;rw[yW] at q;cases q;exact new
 ·rw[yR hb] at q
  by_cases iO:b=e
  ·have q':H b=some (.own x):=by
    rcases he with z|z
    ·exact absurd (iO.trans z) hb
    ·rw[iO];exact z
   rw[q] at q';cases q'
   obtain⟨v,hv⟩:=gG
   exact⟨v,by rw[iO];exact hv⟩
  ·refine (ok b u q).stay (λc v hc r=>k c v ?_ r) (λc r=>by rw[yR (ji c b r)];exact r) λc xs r=>by rw[yR (kA c xs r)];exact r
   rcases hc with rfl|hc
   ·exact iO
   ·rintro rfl
    rcases he with z|z
    ·exact ji c b hc z
    ·rw[hc] at z;cases z;exact hb rfl
end
structure Un (fs ex:List Addr) (H H':Hp) (h h':Heap):Prop where
 keep:∀b o,h.get? b=some o->H b=none->b∉fs->b∉ex->h'.get? b=some o
 slot:∀b o,h.get? b=some o->H b=none->b∈fs->b∉ex->∃sl,h'.get? b=some {o with slots:=sl}
 free:∀b o,h.get? b=some o->H b=none->b∉ex->H' b=none
 there:∀b o,h.get? b=some o->b∉ex->∃o',h'.get? b=some o'
 tups:∀b xs,H b=some (.tup xs)->H' b=some (.tup xs)
 frzs:∀b o u,H b=some (.frz o u)->H' b=some (.frz o u)
 tbls:∀b ps,H b=some (.tbl ps)->∃more,H' b=some (.tbl (ps++more))
section
variable {fs fs' ex ex':List Addr} {H H1 H2:Hp} {h h1 h2 h':Heap} {a x e:Addr} {o:HO}
theorem Un.any (u:Un fs ex H H1 h h1) {b:Addr} {ob:Obj} (q:h.get? b=some ob) (n:H b=none) (hx:b∉ex):∃sl,h1.get? b=some {ob with slots:=sl}:=by
 by_cases hb:b∈fs
 ·exact u.slot b ob q n hb hx
 ·exact⟨ob.slots,u.keep b ob q n hb hx⟩
theorem Un.trans (a:Un fs ex H H1 h h1) (b:Un fs ex H1 H2 h1 h2):Un fs ex H H2 h h2 where
 keep:=λc ob q n hc hx=>b.keep c ob (a.keep c ob q n hc hx) (a.free c ob q n hx) hc hx
 slot:=λc ob q n hc hx=>by
  obtain⟨sl,e1⟩:=a.slot c ob q n hc hx
  obtain⟨sl',e2⟩:=b.slot c _ e1 (a.free c ob q n hx) hc hx
  exact⟨sl',e2⟩
 free:=λc ob q n hx=>by
  obtain⟨o',e1⟩:=a.there c ob q hx
  exact b.free c o' e1 (a.free c ob q n hx) hx
 there:=λc ob q hx=>by
  obtain⟨o',e1⟩:=a.there c ob q hx
  exact b.there c o' e1 hx
 tups:=λc xs q=>b.tups c xs (a.tups c xs q)
 frzs:=λc ob xs q=>b.frzs c ob xs (a.frzs c ob xs q)
 tbls:=λc ps q=>by
  obtain⟨m1,e1⟩:=a.tbls c ps q
  obtain⟨m2,e2⟩:=b.tbls c _ e1
  exact⟨m1++m2,by rw[e2,A8]⟩
theorem Un.kept (k:∀b u,h.get? b=some u->h'.get? b=some u):Un fs ex H H h h':=
 ⟨λb ob q _ _ _=>k b ob q,λb ob q _ _ _=>⟨ob.slots,k b ob q⟩,λ_ _ _ n _=>n,λb ob q _=>⟨ob,k b ob q⟩,λ_ _ q=>q,λ_ _ _ q=>q,λ_ ps q=>⟨#[],by rw[q];simp⟩⟩
theorem Un.refl:Un fs ex H H h h:=Un.kept λ_ _ q=>q
theorem Un.laid (k:∀b u,h.get? b=some u->h'.get? b=some u) (hp:h.objs.size<=a) (hn:H a=none):Un fs ex H (upd H a o) h h' where
 keep:=λb u q _ _ _=>k b u q
 slot:=λb u q _ _ _=>⟨u.slots,k b u q⟩
 free:=λb u q n _=>by rw[yR (sA (sv (Heap.lt_size q) hp))];exact n
 there:=λb u q _=>⟨u,k b u q⟩
 tups:=λb xs q=>by rw[yR (Zx q hn)];exact q
 frzs:=λb u xs q=>by rw[yR (Zx q hn)];exact q
 tbls:=λb ps q=>⟨#[],by rw[yR (Zx q hn),q];simp⟩
theorem Un.write (mu:Mut (H x)) (he:e=x\/H e=some (.own x)) (k:∀b u,b≠e->h.get? b=some u->h'.get? b=some u) (gG:∃u,h'.get? e=some u):Un fs ex H (upd H x o) h h':=by
 have hx:∀b,H b=none->b≠x:=λb n z=>by subst z;rw[n] at mu;exact mu
 have hb:∀b,H b=none->b≠e:=λb n z=>by
  subst z
  rcases he with r|r
  ·exact hx b n r
  ·rw[n] at r;cases r
 have hm:∀b u,H b=some u->¬Mut (some u)->b≠x:=λb u q nm z=>by subst z;rw[q] at mu;exact nm mu
 refine⟨λb u q n _ _=>k b u (hb b n) q,λb u q n _ _=>⟨u.slots,k b u (hb b n) q⟩,λb u q n _=>by rw[yR (hx b n)];exact n,λb u q _=> ?_,
  λb xs q=>by rw[yR (hm b _ q λz=>z)];exact q,λb u xs q=>by rw[yR (hm b _ q λz=>z)];exact q,λb ps q=>⟨#[],by rw[yR (hm b _ q λz=>z),q];simp⟩⟩
 by_cases iO:b=e
 ·subst iO;exact gG
 ·exact⟨u,k b u iO q⟩
end
noncomputable def trk (h:Heap) (H:Hp):List Addr:=(tH h.objs.size).filter λa=>(H a).isSome
noncomputable def zdd (h:Heap) (H:Hp):Heap:=ui h (trk h H)
theorem zhk (h:Heap) (H:Hp):(zdd h H).objs.size=h.objs.size:=PySem.W.hideAll_size _ _
theorem zh1 {h:Heap} {H:Hp} {b:Addr} {o:Obj} (e:h.get? b=some o) (n:H b=none):(zdd h H).get? b=some o:=
 Bi _ e λhm=>by
  have q:(H b).isSome=true:=(BW.mp hm).2
  rw[n] at q;simp at q
theorem zka {h:Heap} {H:Hp} {b:Addr} {o:Obj} (e:(zdd h H).get? b=some o):h.get? b=some o/\H b=none:=by
 have e':h.get? b=some o:=Br (trk h H) e
 refine⟨e',?_⟩
 cases q:H b with
 |none=>rfl
 |some x=>
  have hm:b∈trk h H:=BW.mpr ⟨ur.mpr (Heap.lt_size e'),by simp[q]⟩
  have z:(zdd h H).get? b=none:=PySem.W.hideAll_none (trk h H) hm
  rw[z] at e;cases e
structure Mod (K:rF) (mg:Str->Option Value) (base:Heap):Prop where
 kin:K.In base
 glob:base.Ns mainGlobals mg
 blt:∃mb,base.Ns builtinsNs mb/\∀x:Str,x≠"__name__"->mb x=bootBuiltins x
 nolimit:base.NoLimit
structure Cx where
 prog:Program
 w:World
 K:rF
 mg:Str->Option Value
 base:Heap
 A:Around
 N:List Str
 s₀:Shared
 H₀:Hp
 env:Env
 outer:List Env
 stack:List Env
 ex:List Addr
 fn:Str->Bool
 calm:Bool
 pn:List (Addr×Obj)
 xe:Value->Shared->Prop
noncomputable def frs (l:List Env):List Addr:=l.filterMap (·.frame)
noncomputable abbrev Cx.fs (X:Cx):List Addr:=frs X.outer
def Vis (sc:Scope) (x:Str):Prop:=sc.names.lookup x=some .local\/sc.names.lookup x=some .cell\/sc.names.lookup x=some .free
def Loc (sc:Scope) (x:Str):Prop:=sc.names.lookup x=some .local\/sc.names.lookup x=some .cell
def zn3 (env:Env) (h:Heap) (m:Str->Option Value) (x:Str) (u:Value):Prop:=
 (env.kindOf x=some .local/\m x=some u)\/((env.kindOf x=some .cell\/env.kindOf x=some .free)/\∃c,env.cells.lookup x=some c/\h.IsCell c (some u))
structure Cx.Ok (X:Cx):Prop where
 mod:Mod X.K X.mg X.base
 kind:X.env.scope.kind= .function
 glob:X.env.globals=mainGlobals
 blt:X.env.builtins=builtinsNs
 above:X.s₀.heap.objs.size<=X.env.locals
 inj:∀x y c,X.env.cells.lookup x=some c->X.env.cells.lookup y=some c->x=y
 has:∀x,(X.env.kindOf x=some .cell\/X.env.kindOf x=some .free)->∃c,X.env.cells.lookup x=some c
 cab:∀x c,X.fn x=true->X.env.cells.lookup x=some c->X.s₀.heap.objs.size<=c
 hd:X.calm=true->X.A.handled=none
 frames:X.A.frames=some X.stack
 stk:X.stack=X.outer\/(X.stack=X.env::X.outer/\X.env.frame=some X.env.locals)
 exf:∀b∈X.ex,b≠X.env.locals/\∀x c,X.env.cells.lookup x=some c->c≠b
 bs:∀b o,X.base.get? b=some o->X.s₀.heap.get? b=some o/\X.H₀ b=none
 bsz:X.base.objs.size<=X.s₀.heap.objs.size
 noex:∀b o,X.base.get? b=some o->b∉X.ex
 exfs:∀b∈X.ex,b∉X.fs
 funs:X.s₀.heap.FunFrames X.base X.outer
 frf:∀b∈X.fs,X.H₀ b=none
structure Inv (X:Cx) (pins:List (Addr×Obj)) (σ:List (Option V)) (H:Hp) (s:Shared):Prop where
 ok:X.Ok
 os:s.os=X.s₀.os
 bare:AllBare s.gens
 base:Un X.fs X.ex X.H₀ H X.s₀.heap s.heap
 loc:∃m,s.heap.Ns X.env.locals m/\∀(i:Nat) (x:Str) (v:V),X.N[i]? =some x->σ[i]? =some (some v)->Vis X.env.scope x->∃u,yN v u/\zn3 X.env s.heap m x u
 cell:∀x c,X.env.cells.lookup x=some c->∃v,s.heap.IsCell c v
 free:H X.env.locals=none
 freeC:∀x c,X.env.cells.lookup x=some c->H c=none
 pin:∀p∈X.pn++pins,s.heap.get? p.1=some p.2/\H p.1=none/\p.1≠X.env.locals/\p.1∉X.fs/\∀v,p.2.data≠ .cell v
 hok:HOk X.prog X.w H s.heap
 len:σ.length=X.N.length
section
variable {X:Cx} {pins:List (Addr×Obj)} {σ:List (Option V)} {H H':Hp} {s:Shared} {h':Heap}
theorem Cx.Ok.nofr (ok:X.Ok) {b:Addr} {o:Obj} (e:X.base.get? b=some o):b∉X.fs:=λhb=>by
 have:=(ok.funs.mem hb).1
 rw[e] at this;cases this
theorem Inv.bs (I:Inv X pins σ H s):∀b o,X.base.get? b=some o->s.heap.get? b=some o/\H b=none:=λb o e=>
 ⟨I.base.keep b o (I.ok.bs b o e).1 (I.ok.bs b o e).2 (I.ok.nofr e) (I.ok.noex b o e),I.base.free b o (I.ok.bs b o e).1 (I.ok.bs b o e).2 (I.ok.noex b o e)⟩
theorem Inv.bk (I:Inv X pins σ H s):∀b o,X.base.get? b=some o->s.heap.get? b=some o:=λb o e=>(I.bs b o e).1
theorem Inv.mod (I:Inv X pins σ H s):Mod X.K X.mg X.base:=I.ok.mod
theorem Inv.kIn (I:Inv X pins σ H s):X.K.In s.heap:=I.ok.mod.kin.keeps I.bk
theorem Inv.lt (I:Inv X pins σ H s):X.env.locals<s.heap.objs.size:=let ⟨_,hn,_⟩:=I.loc;hn.lt
theorem Inv.sz (I:Inv X pins σ H s):X.s₀.heap.objs.size<=s.heap.objs.size:=si I.ok.above (tK I.lt)
theorem Inv.nofs (I:Inv X pins σ H s) {a:Addr} (h:s.heap.objs.size<=a):a∉X.fs:=λhb=>by
 obtain⟨_,o,ho,_⟩:=I.ok.funs.mem hb
 exact absurd (sv (Heap.lt_size ho) (si I.sz h)) (tS _)
theorem Inv.cne (I:Inv X pins σ H s):∀x c,X.env.cells.lookup x=some c->c≠X.env.locals:=λx c e z=>by
 obtain⟨v,o,ho,hd⟩:=I.cell x c e
 obtain⟨m,⟨o',es,ep,iF,jF,_⟩,_⟩:=I.loc
 rw[z,iF] at ho;cases ho;rw[jF] at hd;cases hd
theorem Inv.funs (I:Inv X pins σ H s):s.heap.FunFrames X.base X.outer:=by
 have all:∀(l:List Env),(∀b∈frs l,b∈X.fs)->X.s₀.heap.FunFrames X.base l->s.heap.FunFrames X.base l:=by
  intro l
  induction l with
  |nil=>intro _ _;trivial
  |cons env r ih=>
   intro hs hl
   obtain⟨hk,⟨L,o,hf,hn,ho,hd⟩,hr⟩:=hl
   have hL:L∈X.fs:=hs L (by unfold frs;rw[uU,hf];exact sj)
   obtain⟨sl,e⟩:=I.base.slot L o ho (I.ok.frf L hL) hL λz=>I.ok.exfs L z hL
   exact⟨hk,⟨L,_,hf,hn,e,hd⟩,ih (λb hb=>hs b (by unfold frs;rw[uU,hf];exact rT _ hb)) hr⟩
 exact all X.outer (λ_ hb=>hb) I.ok.funs
theorem Inv.stack (I:Inv X pins σ H s):s.heap.FunFrames X.base X.stack:=by
 rcases I.ok.stk with e|⟨e,hf⟩
 ·rw[e];exact I.funs
 ·rw[e]
  obtain⟨m,hn,_⟩:=I.loc
  refine .cons (by rw[I.ok.kind];decide) hf hn ?_ I.funs
  exact Heap.get?_none_of_le (si I.ok.bsz I.ok.above)
theorem Inv.stkSub (I:Inv X pins σ H s):∀b∈frs X.stack,b∈X.env.locals::X.fs:=λb hb=>by
 rcases I.ok.stk with e|⟨e,hf⟩
 ·rw[e] at hb;exact rT _ hb
 ·rw[e] at hb
  unfold frs at hb
  rw[uU,hf] at hb
  exact hb
theorem Inv.stkFree (I:Inv X pins σ H s):∀b∈frs X.stack,H b=none:=λb hb=>by
 rcases sq.mp (I.stkSub b hb) with e|hb
 ·rw[e];exact I.free
 ·obtain⟨_,o,ho,_⟩:=I.ok.funs.mem hb
  exact I.base.free b o ho (I.ok.frf b hb) λz=>I.ok.exfs b z hb
theorem Inv.step {g':Array GenState} {t':Nat} {d':Drawn} {ch:List Addr} (I:Inv X pins σ H s)
  (gH:∀b∈ch,(b∈X.ex\/X.s₀.heap.objs.size<=b)/\b≠X.env.locals/\(∀x c,X.env.cells.lookup x=some c->c≠b)/\∀p∈X.pn++pins,p.1≠b)
  (keep:∀b o,b≠X.env.locals->b∉X.fs->b∉ch->s.heap.get? b=some o->H b=none->h'.get? b=some o)
  (slot:∀b o,b≠X.env.locals->b∈X.fs->b∉ch->s.heap.get? b=some o->H b=none->∃sl,h'.get? b=some {o with slots:=sl}) (free:∀b o,b∉ch->s.heap.get? b=some o->H b=none->H' b=none)
  (there:∀b o,b∉ch->s.heap.get? b=some o->∃o',h'.get? b=some o')
  (tups:∀b xs,H b=some (.tup xs)->H' b=some (.tup xs)) (frzs:∀b o u,H b=some (.frz o u)->H' b=some (.frz o u)) (tbls:∀b ps,H b=some (.tbl ps)->∃more,H' b=some (.tbl (ps++more)))
  (ns:∀m,s.heap.Ns X.env.locals m->h'.Ns X.env.locals m) (hok:HOk X.prog X.w H' h') (hg:AllBare g'):
  Inv X pins σ H' {s with heap:=h',gens:=g',drawn:=d',toks:=t'}:=by
 have mw:∀b o,X.s₀.heap.get? b=some o->b≠X.env.locals:=λb o e=>sA (sv (Heap.lt_size e) I.ok.above)
 have jW:∀b o,X.s₀.heap.get? b=some o->b∉X.ex->b∉ch:=λb o e hx hb=>by
  rcases (gH b hb).1 with z|z
  ·exact hx z
  ·exact absurd (sv (Heap.lt_size e) z) (tS _)
 have cellK:∀x c,X.env.cells.lookup x=some c->∀v,s.heap.IsCell c v->h'.IsCell c v:=λx c e v ⟨o,ho,hd⟩=>by
  have jm:c∉ch:=λz=>(gH c z).2.2.1 x c e rfl
  by_cases hc:c∈X.fs
  ·obtain⟨sl,q⟩:=slot c o (I.cne x c e) hc jm ho (I.freeC x c e)
   exact⟨_,q,hd⟩
  ·exact⟨o,keep c o (I.cne x c e) hc jm ho (I.freeC x c e),hd⟩
 refine⟨I.ok,I.os,hg,⟨λb o e n hb hx=> ?_,λb o e n hb hx=> ?_,λb o e n hx=> ?_,λb o e hx=> ?_,λb xs e=>tups b xs (I.base.tups b xs e),λb o xs e=>frzs b o xs (I.base.frzs b o xs e),λb ps e=> ?_⟩,?_,λx c e=> ?_,?_,λx c e=> ?_,λp hp=> ?_,hok,I.len⟩
 ·exact keep b o (mw b o e) hb (jW b o e hx) (I.base.keep b o e n hb hx) (I.base.free b o e n hx)
 ·obtain⟨sl,e1⟩:=I.base.slot b o e n hb hx
  obtain⟨sl',e2⟩:=slot b _ (mw b o e) hb (jW b o e hx) e1 (I.base.free b o e n hx)
  exact⟨sl',e2⟩
 ·obtain⟨o',e1⟩:=I.base.there b o e hx
  exact free b o' (jW b o e hx) e1 (I.base.free b o e n hx)
 ·obtain⟨o',e1⟩:=I.base.there b o e hx
  exact there b o' (jW b o e hx) e1
 ·obtain⟨m1,e1⟩:=I.base.tbls b ps e
  obtain⟨m2,e2⟩:=tbls b _ e1
  exact⟨m1++m2,by rw[e2,A8]⟩
 ·obtain⟨m,hn,hl⟩:=I.loc
  refine⟨m,ns m hn,λi x v e1 e2 e3=> ?_⟩
  obtain⟨u,r,l⟩:=hl i x v e1 e2 e3
  refine⟨u,r,?_⟩
  rcases l with l|⟨k,c,e,z⟩
  ·exact .inl l
  ·exact .inr ⟨k,c,e,cellK x c e _ z⟩
 ·obtain⟨v,z⟩:=I.cell x c e
  exact⟨v,cellK x c e v z⟩
 ·obtain⟨m,⟨o,_,_,ho,_⟩,_⟩:=I.loc
  exact free _ o (λz=>(gH _ z).2.1 rfl) ho I.free
 ·obtain⟨v,o,ho,hd⟩:=I.cell x c e
  exact free c o (λz=>(gH c z).2.2.1 x c e rfl) ho (I.freeC x c e)
 ·obtain⟨e,n,ne,nf,d⟩:=I.pin p hp
  have jm:p.1∉ch:=λz=>(gH p.1 z).2.2.2 p hp rfl
  exact⟨keep p.1 p.2 ne nf jm e n,free p.1 p.2 jm e n,ne,nf,d⟩
theorem Inv.un {t':Nat} (I:Inv X pins σ H s) (u:Un X.fs [] H H' s.heap h') (hok:HOk X.prog X.w H' h'):Inv X pins σ H' {s with heap:=h',toks:=t'}:=by
 obtain⟨m,⟨o,es,ep,ho,r⟩,_⟩:=id I.loc
 obtain⟨sl,hL⟩:=u.any ho I.free (by simp)
 exact I.step (g':=s.gens) (d':=s.drawn) (ch:=[]) (λ_ z=>nomatch z) (λb o _ hb _ e n=>u.keep b o e n hb (by simp)) (λb o _ hb _ e n=>u.slot b o e n hb (by simp)) (λb o _ e n=>u.free b o e n (by simp)) (λb o _ e=>u.there b o e (by simp)) u.tups u.frzs u.tbls (λm' hm=>by
  obtain⟨o',es',ep',iF,r'⟩:=hm
  rw[ho] at iF;cases iF
  exact⟨_,es',ep',hL,r'⟩) hok I.bare
theorem Inv.call {g':Array GenState} {t':Nat} {d':Drawn} {ch:List Addr} (I:Inv X pins σ H s) (u:Un (frs X.stack) ch H H' s.heap h') (hok:HOk X.prog X.w H' h') (hg:AllBare g')
  (gH:∀b∈ch,(b∈X.ex\/X.s₀.heap.objs.size<=b)/\b≠X.env.locals/\(∀x c,X.env.cells.lookup x=some c->c≠b)/\∀p∈X.pn++pins,p.1≠b):
  Inv X pins σ H' {s with heap:=h',gens:=g',drawn:=d',toks:=t'}:=by
 obtain⟨m,⟨o,es,ep,ho,r⟩,_⟩:=id I.loc
 obtain⟨sl,hL⟩:=u.any ho I.free λz=>(gH _ z).2.1 rfl
 exact I.step (ch:=ch) gH (λb o hL hb hc e n=>u.keep b o e n (λz=>(sq.mp (I.stkSub b z)).elim hL hb) hc) (λb o _ _ hc e n=>u.any e n hc) (λb o hc e n=>u.free b o e n hc) (λb o hc e=>u.there b o e hc) u.tups u.frzs u.tbls (λm' hm=>by
  obtain⟨o',es',ep',iF,r'⟩:=hm
  rw[ho] at iF;cases iF
  exact⟨_,es',ep',hL,r'⟩) hok hg
theorem Inv.turned {t':Nat} {it:Addr} (I:Inv X pins σ H s) (k:∀b o,b≠it->s.heap.get? b=some o->h'.get? b=some o) (hn:H it=none) (hL:it≠X.env.locals)
  (h1:it∈X.ex\/X.s₀.heap.objs.size<=it) (h2:∀x c,X.env.cells.lookup x=some c->c≠it) (h3:∀p∈X.pn++pins,p.1≠it):Inv X pins σ H {s with heap:=h',toks:=t'}:=by
 have jk:∀b u,H b=some u->b≠it:=λb u e z=>by rw[z,hn] at e;cases e
 refine I.step (g':=s.gens) (d':=s.drawn) (ch:=[it]) (λb hb=> ?_) (λb o _ _ hc e _=>k b o (λz=>hc (by simp[z])) e) (λb o _ _ hc e _=>⟨o.slots,k b o (λz=>hc (by simp[z])) e⟩) (λ_ _ _ _ n=>n)
  (λb o hc e=>⟨o,k b o (λz=>hc (by simp[z])) e⟩) (λ_ _ e=>e) (λ_ _ _ e=>e) (λb ps e=>⟨#[],by rw[e];simp⟩) (λm hm=> ?_) (λb u e=> ?_) I.bare
 ·have e:b=it:=by simpa using hb
  subst e
  exact⟨h1,hL,h2,h3⟩
 ·obtain⟨o,es,ep,ho,r⟩:=hm
  exact⟨o,es,ep,k _ o (uE hL) ho,r⟩
 ·refine (I.hok b u e).stay (λc v hc q=>k c v ?_ q) (λ_ q=>q) λ_ _ q=>q
  rcases hc with z|z
  ·rw[z];exact jk b u e
  ·exact jk c _ z
theorem Inv.tok (I:Inv X pins σ H s) (t:Nat):Inv X pins σ H {s with toks:=t}:=I.un (h':=s.heap) (t':=t) Un.refl I.hok
theorem Inv.kept {t':Nat} (I:Inv X pins σ H s) (k:∀b u,s.heap.get? b=some u->h'.get? b=some u):Inv X pins σ H {s with heap:=h',toks:=t'}:=I.un (Un.kept k) (I.hok.kept k)
theorem Inv.laid {a:Addr} {o:HO} {t':Nat} (I:Inv X pins σ H s) (k:∀b u,s.heap.get? b=some u->h'.get? b=some u) (hp:s.heap.objs.size<=a) (new:wI X.prog X.w (upd H a o) h' a o):
  Inv X pins σ (upd H a o) {s with heap:=h',toks:=t'}:=I.un (Un.laid k hp (I.hok.fresh hp)) (I.hok.laid k hp new)
theorem Inv.write {x e:Addr} {o:HO} {t':Nat} (I:Inv X pins σ H s) (mu:Mut (H x)) (he:e=x\/H e=some (.own x)) (k:∀b u,b≠e->s.heap.get? b=some u->h'.get? b=some u) (gG:∃u,h'.get? e=some u)
  (new:wI X.prog X.w (upd H x o) h' x o):Inv X pins σ (upd H x o) {s with heap:=h',toks:=t'}:=I.un (Un.write mu he k gG) (I.hok.write mu he k gG new)
theorem Inv.weak {σ':List (Option V)} (I:Inv X pins σ H s) (hl:σ'.length=σ.length) (w:∀(i:Nat) v,σ'[i]? =some (some v)->σ[i]? =some (some v)):Inv X pins σ' H s:=
 ⟨I.ok,I.os,I.bare,I.base,let ⟨m,hn,iI⟩:=I.loc;⟨m,hn,λi x v e1 e2 e3=>iI i x v e1 (w i v e2) e3⟩,I.cell,I.free,I.freeC,I.pin,I.hok,hl.trans I.len⟩
theorem Inv.pins_of {pins':List (Addr×Obj)} (I:Inv X pins σ H s) (h:∀p∈pins',s.heap.get? p.1=some p.2/\H p.1=none/\p.1≠X.env.locals/\p.1∉X.fs/\∀v,p.2.data≠ .cell v):Inv X pins' σ H s:=
 ⟨I.ok,I.os,I.bare,I.base,I.loc,I.cell,I.free,I.freeC,λp hp=>(sN.mp hp).elim (λz=>I.pin p (y9 _ z)) (h p),I.hok,I.len⟩
theorem zel {N:List Str} (hN:N.Nodup) {i j:Nat} {x:Str} (a:N[i]? =some x) (b:N[j]? =some x):i=j:=by
 obtain⟨h1,e1⟩:=rH.mp a
 obtain⟨h2,e2⟩:=rH.mp b
 exact (List.getElem_inj hN).mp (e1.trans e2.symm)
theorem zcF {M:Model} {A:Around} {E:Value->Shared->Prop} {i:Nat} {x:Str} {v:V} {u:Value} {Q:Unit->Shared->Prop} (I:Inv X pins σ H s) (hN:X.N.Nodup) (hi:X.N[i]? =some x) (hx:Loc X.env.scope x) (r:yN v u)
  (h:∀s',Inv X pins (σ.set i (some v)) H s'->(∃a,Heap.SameBut a s.heap s'.heap/\(a=X.env.locals\/X.env.cells.lookup x=some a))->Q () s') (hf:X.fn x=true\/X.env.scope.names.lookup x=some .local:=by first|exact .inl rfl|exact .inr rfl|assumption):wpAny M A (storeName X.env x u) Q E s:=by
 obtain⟨m,hn,hl⟩:=id I.loc
 have lW:(X.env.scope.kind== .class||(X.env.scope.kind== .module&&X.env.locals !=X.env.globals))=false:=by rw[I.ok.kind];rfl
 have hiσ:i<σ.length:=by rw[I.len];exact (rH.mp hi).1
 have cne:=I.cne
 have tracked:∀{a:Addr} {h':Heap},(∃o,s.heap.get? a=some o/\H a=none)->Heap.SameBut a s.heap h'->HOk X.prog X.w H h':=λ{a h'} ha hs b ob e=>by
  obtain⟨_,_,hX⟩:=ha
  refine (I.hok b ob e).stay (λc w' hc q=>(hs.2 c ?_).trans q) (λ_ q=>q) λ_ _ q=>q
  rintro rfl
  rcases hc with rfl|hc
  ·rw[hX] at e;cases e
  ·rw[hX] at hc;cases hc
 rcases hx with hk|hk
 ·refine wpAny_storeName_local hk hn (λh' lI hs=> ?_) lW
  obtain⟨oL,_,_,pf,_⟩:=id hn
  refine h _ ⟨I.ok,I.os,I.bare,⟨λb o e n hb hx=> ?_,λb o e n hb hx=> ?_,I.base.free,λb o e hx=> ?_,I.base.tups,I.base.frzs,I.base.tbls⟩,⟨_,lI,λj y v' e1 e2 e3=> ?_⟩,λy c e=> ?_,I.free,I.freeC,λp hp=> ?_,tracked ⟨oL,pf,I.free⟩ hs,by simpa using I.len⟩ ⟨_,hs,.inl rfl⟩
  ·exact (hs.2 b (sA (sv (Heap.lt_size e) I.ok.above))).trans (I.base.keep b o e n hb hx)
  ·obtain⟨sl,e1⟩:=I.base.slot b o e n hb hx
   exact⟨sl,(hs.2 b (sA (sv (Heap.lt_size e) I.ok.above))).trans e1⟩
  ·obtain⟨o',e1⟩:=I.base.there b o e hx
   exact⟨o',(hs.2 b (sA (sv (Heap.lt_size e) I.ok.above))).trans e1⟩
  ·by_cases hj:j=i
   ·subst hj
    rw[hi] at e1;cases e1
    rw[AO hiσ] at e2
    cases e2
    exact⟨u,r,.inl ⟨hk,by simp⟩⟩
   ·rw[z0 (uE hj)] at e2
    obtain⟨u',r',q⟩:=hl j y v' e1 e2 e3
    refine⟨u',r',?_⟩
    rcases q with⟨k,e⟩|⟨k,c,e,z⟩
    ·refine .inl ⟨k,?_⟩
     have:y≠x:=λe=>hj (zel hN e1 (e ▸ hi))
     simp[this,e]
    ·exact .inr ⟨k,c,e,z.sameBut hs (cne y c e)⟩
  ·obtain⟨w',z⟩:=I.cell y c e
   exact⟨w',z.sameBut hs (cne y c e)⟩
  ·obtain⟨e,n,ne,nf,d⟩:=I.pin p hp
   exact⟨(hs.2 p.1 ne).trans e,n,ne,nf,d⟩
 ·have km:X.fn x=true:=by
   rcases hf with z|z
   ·exact z
   ·rw[z] at hk;cases hk
  obtain⟨c,hc⟩:=I.ok.has x (.inl hk)
  obtain⟨w',z⟩:=I.cell x c hc
  refine wpAny_storeName_cell I.ok.kind hk hc z (λh' jH hs=> ?_)
  obtain⟨oc,nr,lE⟩:=id z
  refine h {s with heap:=h'} ⟨I.ok,I.os,I.bare,⟨λb o e n hb hx=> ?_,λb o e n hb hx=> ?_,I.base.free,λb o e hx=> ?_,I.base.tups,I.base.frzs,I.base.tbls⟩,⟨m,hn.sameBut hs (uE (cne x c hc)),λj y v' e1 e2 e3=> ?_⟩,λy c' e=> ?_,I.free,I.freeC,λp hp=> ?_,tracked ⟨oc,nr,I.freeC x c hc⟩ hs,by simpa using I.len⟩ ⟨c,hs,.inr hc⟩
  ·exact (hs.2 b (sA (sv (Heap.lt_size e) (I.ok.cab x c km hc)))).trans (I.base.keep b o e n hb hx)
  ·obtain⟨sl,e1⟩:=I.base.slot b o e n hb hx
   exact⟨sl,(hs.2 b (sA (sv (Heap.lt_size e) (I.ok.cab x c km hc)))).trans e1⟩
  ·obtain⟨o',e1⟩:=I.base.there b o e hx
   exact⟨o',(hs.2 b (sA (sv (Heap.lt_size e) (I.ok.cab x c km hc)))).trans e1⟩
  ·by_cases hj:j=i
   ·subst hj
    rw[hi] at e1;cases e1
    rw[AO hiσ] at e2
    cases e2
    exact⟨u,r,.inr ⟨.inl hk,c,hc,jH⟩⟩
   ·rw[z0 (uE hj)] at e2
    obtain⟨u',r',q⟩:=hl j y v' e1 e2 e3
    refine⟨u',r',?_⟩
    rcases q with q|⟨k,c',e,z'⟩
    ·exact .inl q
    ·refine .inr ⟨k,c',e,z'.sameBut hs ?_⟩
     rintro rfl
     exact hj (zel hN e1 (I.ok.inj _ _ _ e hc ▸ hi))
  ·by_cases i5:c'=c
   ·subst i5;exact⟨_,jH⟩
   ·obtain⟨w2,z2⟩:=I.cell y c' e
    exact⟨w2,z2.sameBut hs i5⟩
  ·obtain⟨e,n,ne,nf,d⟩:=I.pin p hp
   refine⟨(hs.2 p.1 ?_).trans e,n,ne,nf,d⟩
   intro q
   rw[q,nr] at e
   have q':oc=p.2:=sr e
   exact d w' (by rw[<-q'];exact lE)
theorem zem {M:Model} {A:Around} {E:Value->Shared->Prop} {i:Nat} {x:Str} {v:V} {u:Value} {Q:Unit->Shared->Prop} (I:Inv X pins σ H s) (hN:X.N.Nodup) (hi:X.N[i]? =some x) (hx:Loc X.env.scope x) (r:yN v u)
  (h:∀s',Inv X pins (σ.set i (some v)) H s'->Q () s') (hf:X.fn x=true\/X.env.scope.names.lookup x=some .local:=by first|exact .inl rfl|exact .inr rfl|assumption):wpAny M A (storeName X.env x u) Q E s:=
 zcF I hN hi hx r (λs' I' _=>h s' I') hf
theorem Inv.call' {s':Shared} {ch:List Addr} (I:Inv X pins σ H s) (ho:s'.os=s.os) (u:Un (frs X.stack) ch H H' s.heap s'.heap) (hok:HOk X.prog X.w H' s'.heap) (hg:AllBare s'.gens)
  (gH:∀b∈ch,(b∈X.ex\/X.s₀.heap.objs.size<=b)/\b≠X.env.locals/\(∀x c,X.env.cells.lookup x=some c->c≠b)/\∀p∈X.pn++pins,p.1≠b):Inv X pins σ H' s':=by
 obtain⟨h',g',d',t',o'⟩:=s'
 have e:o'=s.os:=ho
 subst e
 exact I.call (g':=g') (t':=t') (d':=d') u hok hg gH
end
abbrev XK:=Value->Option Addr->Hp->Prop
abbrev St:=List (Option V)
abbrev VK:=V->Hp->Prop
abbrev TE:=St->Hp->VK->Prop
abbrev TT:=St->Hp->(Bool->Hp->Prop)->Prop
abbrev TA:=St->Hp->(List V->Hp->Prop)->Prop
structure TN where
 nx:St->Hp->Prop
 rt:VK
 bk:St->Hp->Prop:=λ_ _=>False
 ct:St->Hp->Prop:=λ_ _=>False
abbrev TS:=TN->St->Hp->Prop
def EP (X:Cx) (pins:List (Addr×Obj)) (σ:St) (Q:VK) (u:Value) (s':Shared):Prop:=∃v H',Inv X pins σ H' s'/\yN v u/\Q v H'
def TP (X:Cx) (pins:List (Addr×Obj)) (σ:St) (Q:Bool->Hp->Prop) (b:Bool) (s':Shared):Prop:=∃H',Inv X pins σ H' s'/\Q b H'
def AP (X:Cx) (pins:List (Addr×Obj)) (σ:St) (Q:List V->Hp->Prop) (us:List Value) (s':Shared):Prop:=∃vs H',Inv X pins σ H' s'/\yt vs us/\Q vs H'
def SP (X:Cx) (pins:List (Addr×Obj)) (D:TN) (f:Flow) (s':Shared):Prop:=
 match f with
 | .next=>∃σ' H',Inv X pins σ' H' s'/\D.nx σ' H'
 | .brk=>∃σ' H',Inv X pins σ' H' s'/\D.bk σ' H'
 | .cont=>∃σ' H',Inv X pins σ' H' s'/\D.ct σ' H'
 | .ret u=>∃v σ' H',Inv X pins σ' H' s'/\yN v u/\D.rt v H'
def PE (X:Cx) (e:Expr) (t:TE):Prop:=
 ∀(pins:List (Addr×Obj)) (s:Shared) (σ:St) (H:Hp) (Q:VK),Inv X pins σ H s->t σ H Q->wpAny (model X.prog X.w) X.A (eval e X.env) (EP X pins σ Q) X.xe s
def PT (X:Cx) (e:Expr) (t:TT):Prop:=
 ∀(pins:List (Addr×Obj)) (s:Shared) (σ:St) (H:Hp) (Q:Bool->Hp->Prop),Inv X pins σ H s->t σ H Q->wpAny (model X.prog X.w) X.A (isTrue e X.env (eval e X.env)) (TP X pins σ Q) X.xe s
def PW (X:Cx) (e:Expr) (t:TT):Prop:=
 ∀(whole:Sem Value) (pins:List (Addr×Obj)) (s:Shared) (σ:St) (H:Hp) (Q:Bool->Hp->Prop),Inv X pins σ H s->t σ H Q->wpAny (model X.prog X.w) X.A (isTrue e X.env whole) (TP X pins σ Q) X.xe s
theorem PW.pt {X:Cx} {e:Expr} {t:TT} (h:PW X e t):PT X e t:=h _
def PA (X:Cx) (es:List Expr) (t:TA):Prop:=
 ∀(pos:Pos) (pins:List (Addr×Obj)) (s:Shared) (σ:St) (H:Hp) (Q:List V->Hp->Prop),Inv X pins σ H s->t σ H Q->wpAny (model X.prog X.w) X.A (spliced (backTo pos (starEach es X.env))) (AP X pins σ Q) X.xe s
def PS (X:Cx) (st:Stmt) (t:TS):Prop:=
 ∀(pins:List (Addr×Obj)) (s:Shared) (σ:St) (H:Hp) (D:TN),Inv X pins σ H s->t D σ H->wpAny (model X.prog X.w) X.A (exec st X.env) (SP X pins D) X.xe s
def PSs (X:Cx) (st:List Stmt) (t:TS):Prop:=
 ∀(pins:List (Addr×Obj)) (s:Shared) (σ:St) (H:Hp) (D:TN),Inv X pins σ H s->t D σ H->wpAny (model X.prog X.w) X.A (execs st X.env) (SP X pins D) X.xe s
theorem thn {α:Type} {t:Sem α} {Q Q':α->Shared->Prop} {M:Model} {A:Around} {E:Value->Shared->Prop} {s:Shared} (h:wpAny M A t Q E s) (hQ:∀a s,Q a s->Q' a s):wpAny M A t Q' E s:=wpAny_mono h hQ λ_ _ x=>x
section
variable {X:Cx}
theorem bin {a b:Expr} {ta tb:TE} (ha:PE X a ta) (hb:PE X b tb) {pins:List (Addr×Obj)} {s:Shared} {σ:St} {H:Hp} {R:V->V->Hp->Prop} (I:Inv X pins σ H s) (h:ta σ H λx H1=>tb σ H1 λy H2=>R x y H2)
  {α:Type} {Q:α->Shared->Prop} {f:Value->Value->Sem α}
  (hf:∀v u s2 x y H2,Inv X pins σ H2 s2->yN x v->yN y u->R x y H2->wpAny (model X.prog X.w) X.A (f v u) Q X.xe s2):
  wpAny (model X.prog X.w) X.A (eval a X.env) (λv s₁=>wpAny (model X.prog X.w) X.A (eval b X.env) (λu s₂=>wpAny (model X.prog X.w) X.A (f v u) Q X.xe s₂) X.xe s₁) X.xe s:=by
 refine thn (ha pins s σ H _ I h) ?_
 rintro v s1 ⟨x,H1,I1,r1,q1⟩
 refine thn (hb pins s1 σ H1 _ I1 q1) ?_
 rintro u s2 ⟨y,H2,I2,r2,q2⟩
 exact hf v u s2 x y H2 I2 r1 r2 q2
def zlO (i:Nat):TE:=λσ H Q=>∃v,σ[i]? =some (some v)/\Q v H
def tC (v:V):TE:=λ_ H Q=>Q v H
theorem zlP {i:Nat} {x:Str} {pos:Pos} (hN:X.N[i]? =some x) (hv:Vis X.env.scope x) (hd:(x==("__debug__":Str))=false:=by decide) (eP:(x==("__classdict__":Str))=false:=by decide):PE X (.Name x pos) (zlO i):=by
 intro pins s σ H Q I h
 obtain⟨v,e,h⟩:=h
 obtain⟨m,hn,hl⟩:=I.loc
 obtain⟨u,r,l⟩:=hl i x v hN e hv
 have fin:EP X pins σ Q u s:=⟨v,H,I,r,h⟩
 rcases l with⟨hk,hm⟩|⟨hk,c,hc,i3⟩
 ·exact wpAny_Name (wpAny_loadName_local I.ok.kind hk hn hm fin) hd
 ·rcases hk with hk|hk
  ·exact wpAny_Name (wpAny_loadName_cell I.ok.kind hk hc i3 fin) hd
  ·exact wpAny_Name (wpAny_loadName_free I.ok.kind hk hc i3 fin eP) hd
theorem zj {i j pos}:PE X (.Constant (.int i) j pos) (tC (.int i)):=λ_ _ _ H _ I h=>wpAny_Constant_int ⟨.int i,H,I.tok _,⟨_,rfl⟩,h⟩
theorem Va {b j pos}:PE X (.Constant (.bool b) j pos) (tC (.bl b)):=λ_ _ _ H _ I h=>Constant_bool ⟨.bl b,H,I,rfl,h⟩
theorem zfy {j pos}:PE X (.Constant .none j pos) (tC .non):=λ_ _ _ H _ I h=>Constant_none ⟨.non,H,I,rfl,h⟩
theorem zJ {x j pos}:PE X (.Constant (.str x) j pos) (tC (.str x)):=λ_ _ _ H _ I h=>Calls.Constant_str ⟨.str x,H,I.tok _,⟨_,rfl⟩,h⟩
def Gl (X:Cx) (x:Str):Prop:=X.env.kindOf x=some .globalImplicit
theorem zaQ {E:Value->Shared->Prop} {pins:List (Addr×Obj)} {s:Shared} {σ:St} {H:Hp} {x:Str} {u:Value} {pos:Pos} {Q:Value->Shared->Prop} (I:Inv X pins σ H s) (hg:Gl X x) (hm:X.mg x=some u) (h:Q u s)
  (hd:(x==("__debug__":Str))=false:=by decide):wpAny (model X.prog X.w) X.A (eval (.Name x pos) X.env) Q E s:=
 Calls.Name_function_global I.ok.kind hg (Calls.loadGlobal_global (by rw[I.ok.glob];exact I.mod.glob.keeps I.bk) hm h) hd
theorem YB {E:Value->Shared->Prop} {pins:List (Addr×Obj)} {s:Shared} {σ:St} {H:Hp} {x:Str} {u:Value} {pos:Pos} {Q:Value->Shared->Prop} (I:Inv X pins σ H s) (hg:Gl X x) (hm:X.mg x=none) (hv:bootBuiltins x=some u) (h:Q u s)
  (hn:x≠"__name__":=by decide) (hd:(x==("__debug__":Str))=false:=by decide):wpAny (model X.prog X.w) X.A (eval (.Name x pos) X.env) Q E s:=by
 obtain⟨mb,h1,h2⟩:=I.mod.blt
 exact Calls.Name_function_global I.ok.kind hg (Calls.loadGlobal_builtin (by rw[I.ok.glob];exact I.mod.glob.keeps I.bk) hm (by rw[I.ok.blt];exact h1.keeps I.bk) ((h2 x hn).trans hv) h) hd
theorem zde {x:Str} {v:V} {u:Value} {pos:Pos} (hg:Gl X x) (hm:X.mg x=some u) (r:yN v u) (hd:(x==("__debug__":Str))=false:=by decide):PE X (.Name x pos) (tC v):=
 λ_ _ _ H _ I h=>zaQ I hg hm ⟨v,H,I,r,h⟩ hd
theorem xk {x:Str} {v:V} {u:Value} {pos:Pos} (hg:Gl X x) (hm:X.mg x=none) (hv:bootBuiltins x=some u) (r:yN v u) (hn:x≠"__name__":=by decide) (hd:(x==("__debug__":Str))=false:=by decide):PE X (.Name x pos) (tC v):=
 λ_ _ _ H _ I h=>YB I hg hm hv ⟨v,H,I,r,h⟩ hn hd
def t2I (ta tb:TE) (k:Int->Int->Hp->Prop):St->Hp->Prop:=λσ H=>ta σ H λx H1=>tb σ H1 λy H2=>∃i j,x= .int i/\y= .int j/\k i j H2
variable {a b:Expr} {ta tb:TE} {pos:Pos}
def PC (X:Cx) (op:CmpOp) (a b:Expr) (t:TE):Prop:=
 ∀(pins:List (Addr×Obj)) (s:Shared) (σ:St) (H:Hp) (Q:VK),Inv X pins σ H s->t σ H Q->
  wpAny (model X.prog X.w) X.A (eval a X.env) (λv s₁=>wpAny (model X.prog X.w) X.A (eval b X.env) (λu s₂=>wpAny (model X.prog X.w) X.A (compareOp op v u) (EP X pins σ Q) X.xe s₂) X.xe s₁) X.xe s
theorem zen (b:Expr) {op:CmpOp} (h:op≠ .In) (h2:op≠ .NotIn):behindInMarks op b=false:=by
 have e1:(op==CmpOp.In)=false:=by cases op<;>first|rfl|exact absurd rfl h
 have e2:(op==CmpOp.NotIn)=false:=by cases op<;>first|rfl|exact absurd rfl h2
 cases b<;>simp[behindInMarks,e1,e2]
def zeo (p:Int->Int->Bool) (ta tb:TE):TE:=λσ H Q=>t2I ta tb (λi j H2=>Q (.bl (p i j)) H2) σ H
noncomputable abbrev tLt:TE->TE->TE:=zeo λi j=>decide (i<j)
noncomputable abbrev tLe:TE->TE->TE:=zeo λi j=>decide (i<=j)
noncomputable abbrev tGt:TE->TE->TE:=zeo λi j=>decide (j<i)
noncomputable abbrev tGe:TE->TE->TE:=zeo λi j=>decide (j<=i)
noncomputable abbrev zmY:TE->TE->TE:=zeo λi j=>decide (i=j)
noncomputable abbrev zmZ:TE->TE->TE:=zeo λi j=> !decide (i=j)
theorem TQ {op:CmpOp} {p:Int->Int->Bool} (ha:PE X a ta) (hb:PE X b tb)
  (rule:∀(i j:Int) (t u:Tok) (Q:Value->Shared->Prop) (s:Shared),Q (.bool (p i j)) s->wpAny (model X.prog X.w) X.A (compareOp op (.int i t) (.int j u)) Q X.xe s):PC X op a b (zeo p ta tb):=by
 intro pins s σ H Q I h
 refine bin ha hb I h λv u s2 x y H2 I2 rx ry q=> ?_
 obtain⟨i,j,rfl,rfl,q⟩:=q
 obtain⟨t,rfl⟩:=rx
 obtain⟨t',rfl⟩:=ry
 exact rule i j t t' _ s2 ⟨.bl _,H2,I2,rfl,q⟩
theorem UW (ha:PE X a ta) (hb:PE X b tb):PC X .Lt a b (tLt ta tb):=TQ ha hb λ_ _ _ _ _ _ h=>lt_int h
theorem zm0 (ha:PE X a ta) (hb:PE X b tb):PC X .LtE a b (tLe ta tb):=TQ ha hb λ_ _ _ _ _ _ h=>le_int h
theorem Vb (ha:PE X a ta) (hb:PE X b tb):PC X .Gt a b (tGt ta tb):=TQ ha hb λ_ _ _ _ _ _ h=>gt_int h
theorem zm1 (ha:PE X a ta) (hb:PE X b tb):PC X .GtE a b (tGe ta tb):=TQ ha hb λ_ _ _ _ _ _ h=>ge_int h
theorem xN (ha:PE X a ta) (hb:PE X b tb):PC X .Eq a b (zmY ta tb):=TQ ha hb λ_ _ _ _ _ _ h=>eq_int (by rw[B2];exact h)
theorem Vh (ha:PE X a ta) (hb:PE X b tb):PC X .NotEq a b (zmZ ta tb):=TQ ha hb λ_ _ _ _ _ _ h=>ne_int (by rw[bne,B2];exact h)
def zm2 (ta:TE):TE:=λσ H Q=>ta σ H λx H1=>Q (.bl (decide (x= .non))) H1
def zlk (ta:TE):TE:=λσ H Q=>ta σ H λx H1=>Q (.bl (!decide (x= .non))) H1
theorem yN.none_iff {x:V} {v:Value} (r:yN x v):(v==Value.none)=decide (x= .non):=by
 cases x with
 |non=>cases r;rfl
 |bl _=>cases r;rfl
 |int _=>obtain⟨t,rfl⟩:=r;rfl
 |str _=>obtain⟨t,rfl⟩:=r;rfl
 |byt _=>obtain⟨t,rfl⟩:=r;rfl
 |flt _=>obtain⟨t,rfl⟩:=r;rfl
 |ref _=>cases r;rfl
 |ty _=>cases r;rfl
theorem zh2 {j pos'} (ha:PE X a ta):PC X .Is a (.Constant .none j pos') (zm2 ta):=by
 intro pins s σ H Q I h
 refine thn (ha pins s σ H _ I h) ?_
 rintro v s1 ⟨x,H1,I1,r1,q1⟩
 exact Constant_none (is_none_gen ⟨.bl _,H1,I1,by rw[r1.none_iff];rfl,q1⟩)
theorem zkb {j pos'} (ha:PE X a ta):PC X .IsNot a (.Constant .none j pos') (zlk ta):=by
 intro pins s σ H Q I h
 refine thn (ha pins s σ H _ I h) ?_
 rintro v s1 ⟨x,H1,I1,r1,q1⟩
 exact Constant_none (isnot_none_gen ⟨.bl _,H1,I1,by rw[r1.none_iff];rfl,q1⟩)
def tB (t:TE):TT:=λσ H Q=>t σ H λx H1=>∃c,x= .bl c/\Q c H1
theorem Vi {op:CmpOp} {t:TE} (h:PC X op a b t) (h1:behindInMarks op b=false:=by first|exact zen _ ∅ ∅|rfl):PE X (.Compare a [op] [b] pos) t:=λpins s σ H Q I hw=>wpAny_Compare1 (h pins s σ H Q I hw) h1
theorem yq {op:CmpOp} {t:TE} (h:PC X op a b t) (h1:behindInMarks op b=false:=by first|exact zen _ ∅ ∅|rfl):PT X (.Compare a [op] [b] pos) (tB t):=by
 intro pins s σ H Q I hw
 refine wpAny_isTrue_Compare1 (thn (h pins s σ H _ I hw) λv s1 h1=>thn h1 λu s2 h2=>thn h2 ?_) h1
 rintro c s3 ⟨x,H1,I1,r1,q1⟩
 obtain⟨d,rfl,q⟩:=q1
 cases r1
 exact wpAny_truthy_bool ⟨H1,I1,q⟩
theorem xr {e:Expr} {t:TE} (h:PE X e t) (he:∀whole,isTrue e X.env whole=(do let v <-whole;standAt e.pos;holding [v] (truthy v)):=by intro _;rfl):PT X e (tB t):=by
 intro pins s σ H Q I hw
 refine isTrue_plain (thn (h pins s σ H _ I hw) ?_) (he _)
 rintro v s1 ⟨x,H1,I1,r1,q1⟩
 obtain⟨d,rfl,q⟩:=q1
 cases r1
 exact wpAny_truthy_bool ⟨H1,I1,q⟩
variable {tA tB':TT} {rest:List Expr}
def zm3 (t u:TT):TT:=λσ H Q=>t σ H λc H1=>if c=true then u σ H1 Q else Q false H1
def tOr (t u:TT):TT:=λσ H Q=>t σ H λc H1=>if c=true then Q true H1 else u σ H1 Q
def zm4 (t:TT):TT:=λσ H Q=>t σ H λc H1=>Q (!c) H1
theorem Ue (ha:PT X a tA):PW X (.BoolOp .And [a] pos) tA:=by
 intro wh pins s σ H Q I h
 refine isTrue_and (thn (ha pins s σ H Q I h) λc s1 e=> ?_)
 cases c with
 |true=>exact isTrue_and_nil e
 |false=>exact e
theorem vE (ha:PT X a tA):PW X (.BoolOp .Or [a] pos) tA:=by
 intro wh pins s σ H Q I h
 refine isTrue_or (thn (ha pins s σ H Q I h) λc s1 e=> ?_)
 cases c with
 |false=>exact isTrue_or_nil e
 |true=>exact e
theorem TR (ha:PT X a tA) (hb:PW X (.BoolOp .And (b::rest) pos) tB'):PW X (.BoolOp .And (a::b::rest) pos) (zm3 tA tB'):=by
 intro wh pins s σ H Q I h
 refine isTrue_and (thn (ha pins s σ H _ I h) ?_)
 rintro c s1 ⟨H1,I1,q1⟩
 cases c with
 |true=>exact hb wh pins s1 σ H1 Q I1 q1
 |false=>exact⟨H1,I1,q1⟩
theorem vY (ha:PT X a tA) (hb:PW X (.BoolOp .Or (b::rest) pos) tB'):PW X (.BoolOp .Or (a::b::rest) pos) (tOr tA tB'):=by
 intro wh pins s σ H Q I h
 refine isTrue_or (thn (ha pins s σ H _ I h) ?_)
 rintro c s1 ⟨H1,I1,q1⟩
 cases c with
 |true=>exact⟨H1,I1,q1⟩
 |false=>exact hb wh pins s1 σ H1 Q I1 q1
theorem wg (ha:PT X a tA):PT X (.UnaryOp .Not a pos) (zm4 tA):=by
 intro pins s σ H Q I h
 exact isTrue_not (ha pins s σ H (λc H1=>Q (!c) H1) I h)
def zll (ta tb:TE):TE:=λσ H Q=>ta σ H λx H1=>∃c,x= .bl c/\if c=true then tb σ H1 Q else Q (.bl false) H1
def zlm (ta:TE):TE:=λσ H Q=>ta σ H λx H1=>∃c,x= .bl c/\Q (.bl (!c)) H1
theorem za4 {op} {t:TE} (h:PE X a t):PE X (.BoolOp op [a] pos) t:=λpins s σ H Q I hw=>BoolOp_one (h pins s σ H Q I hw)
theorem Vj (ha:PE X a ta) (hb:PE X (.BoolOp .And (b::rest) pos) tb):PE X (.BoolOp .And (a::b::rest) pos) (zll ta tb):=by
 intro pins s σ H Q I h
 refine BoolOp_and (thn (ha pins s σ H _ I h) ?_)
 rintro v s1 ⟨x,H1,I1,r1,q1⟩
 obtain⟨c,rfl,q1⟩:=q1
 cases r1
 refine wpAny_truthy_bool ?_
 cases c with
 |true=>exact hb pins s1 σ H1 Q I1 q1
 |false=>exact⟨.bl false,H1,I1,rfl,q1⟩
theorem zdf (ha:PE X a ta):PE X (.UnaryOp .Not a pos) (zlm ta):=by
 intro pins s σ H Q I h
 refine UnaryOp_ (thn (ha pins s σ H _ I h) ?_)
 rintro v s1 ⟨x,H1,I1,r1,q1⟩
 obtain⟨c,rfl,q1⟩:=q1
 cases r1
 exact not_of (wpAny_truthy_bool ⟨.bl (!c),H1,I1,rfl,q1⟩)
def tIf (t:TT) (ta tb:TE):TE:=λσ H Q=>t σ H λc H1=>if c=true then ta σ H1 Q else tb σ H1 Q
theorem zh3 {c:Expr} (hc:PT X c tA) (ha:PE X a ta) (hb:PE X b tb):PE X (.IfExp c a b pos) (tIf tA ta tb):=by
 intro pins s σ H Q I h
 refine wpAny_IfExp (thn (hc pins s σ H _ I h) ?_)
 rintro d s1 ⟨H1,I1,q1⟩
 cases d with
 |true=>exact ha pins s1 σ H1 Q I1 q1
 |false=>exact hb pins s1 σ H1 Q I1 q1
end
def SqL (K:rF) (H:Hp) (a:Addr) (xs:List V):Prop:=
 Rd H a (.lst xs)\/
  ∃(o:Obj) (ag:Array Value) (n:Nat),K.lookup a=some o/\o.cls= .type "list"/\o.dict=none/\o.data= .seq ag n/\ag.size<=sizeLine/\yt xs ag.toList
def SqT (K:rF) (H:Hp) (a:Addr) (xs:List V):Prop:=
 Rd H a (.tup xs)\/
  ∃(o:Obj) (ag:Array Value) (n:Nat),K.lookup a=some o/\o.cls= .type "tuple"/\o.data= .seq ag n/\ag.size<=sizeLine/\yt xs ag.toList
def SqX (K:rF) (H:Hp) (a:Addr) (xs:List V):Prop:=
 Rd H a (.lst xs)\/∃(ag:Array Value) (n:Nat),K.lookup a=some {cls:= .type "list",data:= .seq ag n}/\ag.size<=sizeLine/\yt xs ag.toList
theorem SqX.sql {K:rF} {H:Hp} {a:Addr} {xs:List V} (h:SqX K H a xs):SqL K H a xs:=by
 rcases h with h|⟨ag,n,hk,hz,r⟩
 ·exact .inl h
 ·exact .inr ⟨_,ag,n,hk,rfl,rfl,rfl,hz,r⟩
theorem SqX.of {K:rF} {H:Hp} {a:Addr} {xs:List V} (h:H a=some (.lst xs)):SqX K H a xs:= .inl (.inl h)
noncomputable def zn4:Value->Option V
 | .none=>some .non
 | .bool b=>some (.bl b)
 | .int i _=>some (.int i)
 | .str x _=>some (.str x)
 | .bytes b _=>some (.byt b)
 | .float b _=>some (.flt b)
 | .ref a=>some (.ref a)
 | .type n=>some (.ty n)
 |_=>none
theorem yN.abs {x:V} {u:Value} (r:yN x u):zn4 u=some x:=by
 cases x with
 |non=>cases r;rfl
 |bl _=>cases r;rfl
 |int _=>obtain⟨t,rfl⟩:=r;rfl
 |str _=>obtain⟨t,rfl⟩:=r;rfl
 |byt _=>obtain⟨t,rfl⟩:=r;rfl
 |flt _=>obtain⟨t,rfl⟩:=r;rfl
 |ref _=>cases r;rfl
 |ty _=>cases r;rfl
theorem yN.inj {x y:V} {u:Value} (r:yN x u) (q:yN y u):x=y:=sr (r.abs.symm.trans q.abs)
theorem yt.inj:∀{xs ys:List V} {us:List Value},yt xs us->yt ys us->xs=ys
 |_,_,_,.nil,.nil=>rfl
 |_,_,_,.cons r t,.cons r' t'=>by rw[r.inj r',yt.inj t t']
section
variable {X:Cx} {pins:List (Addr×Obj)} {σ:St} {H:Hp} {s:Shared} {a:Addr} {xs ys:List V}
theorem SqT.of {K:rF} (h:H a=some (.tup xs)):SqT K H a xs:= .inl (.inl h)
theorem Inv.list (I:Inv X pins σ H s) (h:SqL X.K H a xs):∃ag:List Value,yt xs ag/\PlainL s.heap a ag.toArray/\xs.length<=sizeLine:=by
 rcases h with h|⟨o,ag,n,hk,hc,hd,hs,hz,r⟩
 ·obtain⟨z,ag,n,r,e⟩:=h.ok I.hok
  exact⟨ag,r,⟨_,n,e,rfl,rfl,rfl⟩,z⟩
 ·refine⟨ag.toList,r,⟨o,n,I.kIn a o hk,hc,hd,by simpa using hs⟩,?_⟩
  have e:=r.length
  simp only[ux] at e
  omega
theorem Inv.tuple (I:Inv X pins σ H s) (h:SqT X.K H a xs):∃ag:List Value,yt xs ag/\IsTup s.heap a ag.toArray/\xs.length<=sizeLine:=by
 rcases h with h|⟨o,ag,n,hk,hc,hs,hz,r⟩
 ·obtain⟨z,ag,r,p⟩:=h.ok I.hok
  exact⟨ag,r,p,z⟩
 ·refine⟨ag.toList,r,⟨o,I.kIn a o hk,hc,n,by simpa using hs⟩,?_⟩
  have e:=r.length
  simp only[ux] at e
  omega
theorem Inv.list_inj (I:Inv X pins σ H s) (h:SqL X.K H a xs) (h':SqL X.K H a ys):xs=ys:=by
 obtain⟨ag,r,⟨o,n,e,_,_,d⟩,_⟩:=I.list h
 obtain⟨its',r',⟨o',n',e',_,_,d'⟩,_⟩:=I.list h'
 rw[e] at e';cases e'
 rw[d] at d'
 injection d' with d1 _
 have:ag=its':=by simpa using congrArg C7 d1
 subst this
 exact r.inj r'
theorem Inv.tuple_inj (I:Inv X pins σ H s) (h:SqT X.K H a xs) (h':SqT X.K H a ys):xs=ys:=by
 obtain⟨ag,r,⟨o,e,_,n,d⟩,_⟩:=I.tuple h
 obtain⟨its',r',⟨o',e',_,n',d'⟩,_⟩:=I.tuple h'
 rw[e] at e';cases e'
 rw[d] at d'
 injection d' with d1 _
 have:ag=its':=by simpa using congrArg C7 d1
 subst this
 exact r.inj r'
end
noncomputable abbrev Cx.wish (X:Cx) (E:Value->Shared->Prop):Cx:={X with xe:=E}
noncomputable abbrev Cx.nox (X:Cx):Cx:=X.wish λ_ _=>False
section
variable {X:Cx} {pins:List (Addr×Obj)} {σ:St} {H:Hp} {s:Shared} {E:Value->Shared->Prop}
end
section
variable {X:Cx} {st:Stmt} {rest:List Stmt} {t u:TS} {e:Expr} {te:TE} {pos:Pos}
def zln:TS:=λD σ H=>D.nx σ H
def zm5 (t u:TS):TS:=λD σ H=>t {D with nx:=u D} σ H
theorem zM:PSs X [] zln:=λ_ _ σ H _ I h=>wpAny_execs_nil ⟨σ,H,I,h⟩
theorem zh (h1:PS X st t) (h2:PSs X rest u):PSs X (st::rest) (zm5 t u):=by
 intro pins s σ H D I h
 refine wpAny_execs_cons (thn (h1 pins s σ H {D with nx:=u D} I h) λf s1 q=> ?_)
 cases f with
 |next=>
  obtain⟨σ',H',I',q⟩:=q
  exact h2 pins s1 σ' H' D I' q
 |ret v=>exact q
 |brk=>exact q
 |cont=>exact q
theorem zn (h1:PS X st t):PSs X [st] t:=by
 intro pins s σ H D I h
 refine wpAny_execs_cons (thn (h1 pins s σ H D I h) λf s1 q=> ?_)
 cases f with
 |next=>exact wpAny_execs_nil q
 |ret v=>exact q
 |brk=>exact q
 |cont=>exact q
theorem Inv.quiet {pins:List (Addr×Obj)} {σ:St} {H:Hp} {s:Shared} (I:Inv X pins σ H s):interactive X.env=false:=by simp[interactive,I.ok.kind]
def zlo (te:TE):TS:=λD σ H=>te σ H λ_ H1=>D.nx σ H1
theorem vy (he:PE X e te) (hs:swapsWith e none pos.line X.env=pure false:=by rfl):PS X (.Expr e pos) (zlo te):=by
 intro pins s σ H D I h
 refine wpAny_Expr_any (thn (he pins s σ H _ I h) ?_) I.quiet hs
 rintro v s1 ⟨x,H1,I1,r1,q1⟩
 exact⟨σ,H1,I1,q1⟩
def zm6 (te:TE):TS:=λD σ H=>te σ H D.rt
theorem zH (he:PE X e te):PS X (.Return (some e) pos) (zm6 te):=by
 intro pins s σ H D I h
 refine wpAny_Return_some (thn (he pins s σ H _ I h) ?_)
 rintro v s1 ⟨x,H1,I1,r1,q1⟩
 exact⟨x,σ,H1,I1,r1,q1⟩
def zm7 (c:TT) (t u:TS):TS:=λD σ H=>c σ H λb H1=>if b=true then t D σ H1 else u D σ H1
theorem yb {c:Expr} {a b:List Stmt} {tc:TT} (hc:PT X c tc) (ha:PSs X a t) (hb:PSs X b u):PS X (.If c a b pos) (zm7 tc t u):=by
 intro pins s σ H D I h
 refine wpAny_If (thn (hc pins s σ H _ I h) ?_)
 rintro d s1 ⟨H1,I1,q1⟩
 cases d with
 |true=>exact ha pins s1 σ H1 D I1 q1
 |false=>exact hb pins s1 σ H1 D I1 q1
def zlQ:TS:=λ_ _ _=>False
theorem zep:PS X st zlQ:=λ_ _ _ _ _ _ h=>h.elim
end
abbrev TG:=V->St->Hp->(St->Hp->Prop)->Prop
abbrev TGs:=List V->St->Hp->(St->Hp->Prop)->Prop
def PG (X:Cx) (target:Expr) (t:TG):Prop:=
 ∀(pins:List (Addr×Obj)) (s:Shared) (σ:St) (H:Hp) (v:V) (u:Value) (Q:St->Hp->Prop),Inv X pins σ H s->yN v u->t v σ H Q->
  wpAny (model X.prog X.w) X.A (assign target X.env u) (λ_ s'=>∃σ' H',Inv X pins σ' H' s'/\Q σ' H') X.xe s
def PGs (X:Cx) (ts:List Expr) (t:TGs):Prop:=
 ∀(pins:List (Addr×Obj)) (s:Shared) (σ:St) (H:Hp) (vs:List V) (us:List Value) (Q:St->Hp->Prop),Inv X pins σ H s->yt vs us->t vs σ H Q->
  wpAny (model X.prog X.w) X.A (assignInOrder ((assignEach ts X.env).map (·.2)) us) (λ_ s'=>∃σ' H',Inv X pins σ' H' s'/\Q σ' H') X.xe s
abbrev zlR:=V->V->V->Hp->(Hp->Prop)->Prop
def zm8 (X:Cx) (t:zlR):Prop:=
 ∀(pins:List (Addr×Obj)) (s:Shared) (σ:St) (H:Hp) (o i v:V) (ov iv u:Value) (Q:Hp->Prop),Inv X pins σ H s->yN o ov->yN i iv->yN v u->t o i v H Q->
  wpAny (model X.prog X.w) X.A (setItem ov iv u) (λ_ s'=>∃H',Inv X pins σ H' s'/\Q H') X.xe s
abbrev TIp:=V->V->Hp->VK->Prop
section
variable {X:Cx} {pos:Pos}
def zgG (i:Nat):TG:=λv σ H Q=>Q (σ.set i (some v)) H
theorem yp {i:Nat} {x:Str} (hN:X.N.Nodup) (hi:X.N[i]? =some x) (hx:Loc X.env.scope x) (hf:X.fn x=true\/X.env.scope.names.lookup x=some .local:=by first|exact .inl rfl|exact .inr rfl|assumption):PG X (.Name x pos) (zgG i):=by
 intro pins s σ H v u Q I r h
 exact wpAny_assign_Name (zem I hN hi hx r (λs' I'=>⟨_,H,I',h⟩) hf)
def zm9:TGs:=λvs σ H Q=>vs=[]/\Q σ H
def zlp (t:TG) (u:TGs):TGs:=λvs σ H Q=>∃v r,vs=v::r/\t v σ H λσ' H'=>u r σ' H' Q
theorem zdg:PGs X [] zm9:=by
 intro pins s σ H vs us Q I r h
 obtain⟨e,h⟩:=h
 subst e
 cases r
 exact assignInOrder_nil ⟨σ,H,I,h⟩
theorem XT {e:Expr} {es:List Expr} {t:TG} {u:TGs} (h1:PG X e t) (h2:PGs X es u)
  (hs:(assignEach (e::es) X.env).map (·.2)=assign e X.env::(assignEach es X.env).map (·.2):=by rfl):PGs X (e::es) (zlp t u):=by
 intro pins s σ H vs us Q I r h
 obtain⟨v,vr,e1,h⟩:=h
 subst e1
 cases r with
 |cons r rr=>
  rw[hs]
  refine assignInOrder_cons (thn (h1 pins s σ H _ _ _ I r h) ?_)
  rintro _ s1 ⟨σ1,H1,I1,q1⟩
  exact h2 pins s1 σ1 H1 _ _ Q I1 rr q1
def zlS (K:rF) (n:Nat) (t:TGs):TG:=λv σ H Q=>∃a xs,v= .ref a/\SqT K H a xs/\xs.length=n/\t xs σ H Q
theorem zlT {es:List Expr} {k:Nat} {t:TGs} {n:Nat} (hc:X.calm=true) (h:PGs X es t)
  (hn:(assignEach es X.env).length=n:=by rfl) (g7:(assignEach es X.env).findIdx? (·.1)=none:=by rfl):PG X (.Tuple es k pos) (zlS X.K n t):=by
 intro pins s σ H v u Q I r hw
 obtain⟨a,xs,e1,hq,hl,hw⟩:=hw
 subst e1
 cases r
 obtain⟨ag,rv,ht,hz⟩:=I.tuple hq
 refine assign_Tuple_tuple (I.ok.hd hc) ht (by simp[hn,<-hl,rv.length]) g7 λh' hx=> ?_
 have I1:Inv X pins σ H {s with heap:=h'}:=I.kept (t':=s.toks) λb o e=>hx b o (sA (Heap.lt_size e)) e
 exact h pins _ σ H xs _ Q I1 (by simpa using rv) hw
def zna (to ti:TE) (t:zlR):TG:=λv σ H Q=>to σ H λo H1=>ti σ H1 λi H2=>t o i v H2 λH3=>Q σ H3
theorem zfz {o i:Expr} {to ti:TE} {t:zlR} (ho:PE X o to) (hi:PE X i ti) (hs:zm8 X t)
  (ha:∀v,assign (.Subscript o i pos) X.env v=(do
   let ov <-holding [v] (eval o X.env)
   let iv <-holding [v,ov] (eval i X.env)
   standAt pos
   holding [v,ov,iv] (setItem ov iv v)
   release [v,ov,iv] []):=by intro _;rfl):PG X (.Subscript o i pos) (zna to ti t):=by
 intro pins s σ H v u Q I r h
 rw[ha]
 refine wpAny_bind (wpAny_holding (thn (ho pins s σ H _ I h) ?_))
 rintro ov s1 ⟨x,H1,I1,r1,q1⟩
 refine wpAny_bind (wpAny_holding (thn (hi pins s1 σ H1 _ I1 q1) ?_))
 rintro iv s2 ⟨y,H2,I2,r2,q2⟩
 refine wpAny_bind (wpAny_standAt (wpAny_bind (wpAny_holding (thn (hs pins s2 σ H2 x y v ov iv u _ I2 r1 r2 r q2) ?_))))
 rintro _ s3 ⟨H3,I3,q3⟩
 exact wpAny_release ⟨σ,H3,I3,q3⟩
def zlU (te:TE) (g:TG):TS:=λD σ H=>te σ H λx H1=>g x σ H1 D.nx
theorem zfA {tg e:Expr} {te:TE} {g:TG} (he:PE X e te) (hg:PG X tg g) (hs:swapsWithSole [tg] e pos.line X.env=pure false:=by rfl) (hw:swappedStores [tg] e X.env=pure none:=by rfl)
  (h1:(assignEach [tg] X.env).map (·.2)=[assign tg X.env]:=by rfl):PS X (.Assign [tg] e pos) (zlU te g):=by
 intro pins s σ H D I h
 refine wpAny_Assign_stores (thn (he pins s σ H _ I h) ?_) hs hw
 rintro v s1 ⟨x,H1,I1,r1,q1⟩
 rw[h1]
 exact thn (hg pins s1 σ H1 x v _ I1 r1 q1) λ_ s2 q=>q
theorem zB {i:Nat} {x:Str} {e:Expr} {te:TE} {pos':Pos} (hN:X.N.Nodup) (hi:X.N[i]? =some x) (hx:Loc X.env.scope x) (he:PE X e te) (hs:swapsWith e (some (.Name x pos')) pos.line X.env=pure false:=by rfl) (hf:X.fn x=true\/X.env.scope.names.lookup x=some .local:=by first|exact .inl rfl|exact .inr rfl|assumption):
  PS X (.Assign [.Name x pos'] e pos) (zlU te (zgG i)):=by
 intro pins s σ H D I h
 refine wpAny_Assign_Name (thn (he pins s σ H _ I h) ?_) hs
 rintro v s1 ⟨y,H1,I1,r1,q1⟩
 exact zem I1 hN hi hx r1 (λs2 I2=>⟨_,H1,I2,q1⟩) hf
end
section
variable {X:Cx} {pos:Pos}
def zh4 (c:TT) (tb:TS):TS:=λD σ H=>∃W:Nat->St->Hp->Prop,(∃m,W m σ H)/\∀m σ H,W m σ H->
 c σ H λb H1=>if b=true then ∃N:St->Hp->Prop,(∀σ' H',N σ' H'->∃m',m'<m/\W m' σ' H')/\tb {D with nx:=N,ct:=N,bk:=D.nx} σ H1 else D.nx σ H1
theorem XU {c:Expr} {body:List Stmt} {tc:TT} {tb:TS} (hp:PassesOwn (model X.prog X.w) X.A X.env X.xe) (hc:PT X c tc) (hb:PSs X body tb):PS X (.While c body [] pos) (zh4 tc tb):=by
 intro pins s σ H D I h
 obtain⟨W,⟨m0,w0⟩,turn⟩:=h
 refine wpAny_While (codeAny_whileLoop (λn s'=>∃σ' H',Inv X pins σ' H' s'/\W n σ' H') ?_ m0 ⟨σ,H,I,w0⟩)
 rintro n s1 ⟨σ1,H1,I1,w1⟩
 refine wpAny_passesOwn hp (thn (hc pins s1 σ1 H1 _ I1 (turn n σ1 H1 w1)) ?_)
 rintro b s2 ⟨H2,I2,q2⟩
 cases b with
 |true=>
  obtain⟨N,hN,q2⟩:=q2
  rw[if_pos rfl]
  refine wpAny_passesOwn hp (thn (hb pins s2 σ1 H2 _ I2 q2) λf s3 q3=> ?_)
  cases f with
  |next=>
   obtain⟨σ3,H3,I3,n3⟩:=q3
   obtain⟨m',hm,w3⟩:=hN σ3 H3 n3
   exact⟨m',hm,σ3,H3,I3,w3⟩
  |cont=>
   obtain⟨σ3,H3,I3,n3⟩:=q3
   obtain⟨m',hm,w3⟩:=hN σ3 H3 n3
   exact⟨m',hm,σ3,H3,I3,w3⟩
  |brk=>exact q3
  |ret v=>exact q3
 |false=>
  rw[if_neg sy]
  exact wpAny_execs_nil ⟨σ1,H2,I2,q2⟩
end
structure It where
 go:Nat->Hp->Prop
 yld:Nat->Hp->V->Hp->Prop
 stop:Nat->Hp->Prop
def za5 (X:Cx) (pins:List (Addr×Obj)) (H:Hp) (b:Addr):Prop:=
 H b=none/\b≠X.env.locals/\b∉X.fs/\(b∈X.ex\/X.s₀.heap.objs.size<=b)/\(∀x c,X.env.cells.lookup x=some c->c≠b)/\∀p∈X.pn++pins,p.1≠b
theorem Inv.fpOk {X:Cx} {pins:List (Addr×Obj)} {σ:St} {H H':Hp} {s:Shared} {b:Addr} (I:Inv X pins σ H s) (hb:s.heap.objs.size<=b) (hn:H' b=none):za5 X pins H' b:=by
 refine⟨hn,Bs (sv I.lt hb),I.nofs hb,.inr (si I.sz hb),λx c e z=> ?_,λp hp z=> ?_⟩
 ·obtain⟨v,q⟩:=I.cell x c e
  exact absurd (sv q.lt (by rw[z];exact hb)) (tS _)
 ·exact absurd (sv (Heap.lt_size (I.pin p hp).1) (by rw[z];exact hb)) (tS _)
structure zfB (P:Program) (w:World) (K:rF) (tg:Expr) (J:It) (fp:List Addr) (it:Addr) (tn:Nat->Heap->Prop):Prop where
 mem:it∈fp
 obj:∀i h,tn i h->∀b∈fp,∃o,h.get? b=some o/\∀v,o.data≠ .cell v
 keep:∀i h h',tn i h->(∀b∈fp,∀o,h.get? b=some o->h'.get? b=some o)->tn i h'
 item:∀(X:Cx),X.prog=P->X.w=w->X.K=K->X.calm=true->∀(i:Nat) (pins:List (Addr×Obj)) (s:Shared) (σ:St) (H:Hp) (E:Value->Shared->Prop),Inv X pins σ H s->(∀b∈fp,za5 X pins H b)->tn i s.heap->J.go i H->
  wpAny (model P w) X.A (pyNext (.ref it)) (λr s1=>∃u,r=some u/\
   wpAny (model P w) X.A (letOwnedTupleGo tg (.ref it) u) (λ_ s2=>∃x H',Inv X pins σ H' s2/\yN x u/\J.yld i H x H'/\tn (i+1) s2.heap/\∀b∈fp,H' b=none) E s1) E s
 done:∀(X:Cx),X.prog=P->X.w=w->X.K=K->X.calm=true->∀(i:Nat) (pins:List (Addr×Obj)) (s:Shared) (σ:St) (H:Hp) (E:Value->Shared->Prop),Inv X pins σ H s->(∀b∈fp,za5 X pins H b)->tn i s.heap->J.stop i H->
  wpAny (model P w) X.A (pyNext (.ref it)) (λr s1=>r=none/\Inv X pins σ H s1) E s
 self:∀(A:Around) (i:Nat) (s:Shared) (Q:Value->Shared->Prop) (E:Value->Shared->Prop),tn i s.heap->Q (.ref it) s->wpAny (model P w) A (pyIter (.ref it)) Q E s
abbrev TI:=St->Hp->(It->Hp->Prop)->Prop
def PIE (X:Cx) (pins:List (Addr×Obj)) (σ:St) (tg:Expr) (R:It->Hp->Prop) (kH:Value) (s2:Shared):Prop:=
 ∃(it:Addr) (fp:List Addr) (tn:Nat->Heap->Prop) (J:It) (H':Hp),kH= .ref it/\Inv X pins σ H' s2/\zfB X.prog X.w X.K tg J fp it tn/\tn 0 s2.heap/\(∀b∈fp,za5 X pins H' b)/\R J H'
def PI (X:Cx) (tg iter:Expr) (wi:TI):Prop:=
 ∀(pins:List (Addr×Obj)) (s:Shared) (σ:St) (H:Hp) (R:It->Hp->Prop),Inv X pins σ H s->wi σ H R->
  wpAny (model X.prog X.w) X.A (eval iter X.env) (λv s1=>wpAny (model X.prog X.w) X.A (pyIter v) (PIE X pins σ tg R) X.xe s1) X.xe s
theorem zgH {M:Model} {A:Around} {E:Value->Shared->Prop} {s:Shared} {tg:Expr} {it:Addr} {u:Value} {o:Obj} {n:String} {vs:Array Value} {Q:Unit->Shared->Prop} (ho:s.heap.get? it=some o) (hc:o.cls= .type n) (hd:o.data= .fields vs)
    (hn:["enumerate","zip","dict_itemiterator","dict_reverseitemiterator","odict_iterator","itertools.zip_longest","itertools.pairwise"].contains n=false) (hQ:Q () s):wpAny M A (letOwnedTupleGo tg (.ref it) u) Q E s:=by
  unfold letOwnedTupleGo
  cases tg<;>first
    |exact wpAny_pure hQ
    | (cases u <;> first
        |exact wpAny_pure hQ
        | (refine wpAny_bind (wpAny_load ho ?_)
           rw[hc,hd]
           show wpAny M A (if (["enumerate","zip","dict_itemiterator","dict_reverseitemiterator","odict_iterator","itertools.zip_longest","itertools.pairwise"].contains n&&vs[0]? ==some (rawInt _))=true then _ else _) Q E s
           rw[if_neg (by intro h;rw[hn,Bool.false_and] at h;cases h)]
           exact wpAny_pure hQ))
noncomputable def Itl (K:rF) (a:Addr):It:=
 ⟨λi H=>∃xs x,SqL K H a xs/\xs[i]? =some x,λi H x H'=>H'=H/\∀xs,SqL K H a xs->xs[i]? =some x,λi H=>∃xs,SqL K H a xs/\xs.length<=i⟩
noncomputable def Itt (K:rF) (a:Addr):It:=
 ⟨λi H=>∃xs x,SqT K H a xs/\xs[i]? =some x,λi H x H'=>H'=H/\∀xs,SqT K H a xs->xs[i]? =some x,λi H=>∃xs,SqT K H a xs/\xs.length<=i⟩
noncomputable def Itr (lo:Int) (n:Nat):It:=⟨λi _=>i<n,λi H x H'=>H'=H/\x= .int (lo+i),λi _=>n<=i⟩
theorem zhl {P:Program} {w:World} {K:rF} {tg:Expr} (a it:Addr):zfB P w K tg (Itl K a) [it] it (λi h=>h.IsListIter it a i) where
 mem:=by simp
 obj:=λi h st b hb=>by
  have e:b=it:=by simpa using hb
  subst e
  obtain⟨o,e,c,d⟩:=st
  exact⟨o,e,λv z=>by rw[d] at z;cases z⟩
 keep:=λi h h' st k=>st.at λo e=>k it (by simp) o e
 item:=by
  intro X hP hw hK hc i pins s σ H E I hf st hg
  subst hP hw hK
  obtain⟨xs,x,hq,hx⟩:=hg
  obtain⟨ag,rv,p,hz⟩:=I.list hq
  obtain⟨u,hu,ru⟩:=rv.get hx
  obtain⟨f0,f1,f2,f3,f4,f5⟩:=hf it (by simp)
  refine wpAny_pyNext_list_item st p.isList (x:=u) (by simpa using hu) λh' st' sb=> ?_
  have I1:Inv X pins σ H {s with heap:=h'}:=I.turned (t':=s.toks) (λb o hb e=>(sb.2 b hb).trans e) f0 f1 f3 f4 f5
  obtain⟨o,e,c,d⟩:=id st'
  exact⟨u,rfl,zgH (s:={s with heap:=h'}) e c d ∅ ⟨x,H,I1,ru,⟨rfl,λys hy=>by rw[I.list_inj hy hq];exact hx⟩,st',λb hb=>(hf b hb).1⟩⟩
 done:=by
  intro X hP hw hK hc i pins s σ H E I hf st hg
  subst hP hw hK
  obtain⟨xs,hq,hx⟩:=hg
  obtain⟨ag,rv,p,hz⟩:=I.list hq
  obtain⟨f0,f1,f2,f3,f4,f5⟩:=hf it (by simp)
  have hl:=rv.length
  exact wpAny_pyNext_list_end (I.ok.hd hc) st p.isList (by simp;omega) λh' eb=>⟨rfl,I.turned (t':=s.toks) (λb o hb e=>eb b o hb e) f0 f1 f3 f4 f5⟩
 self:=λ_ _ _ _ _ st h=>wpAny_pyIter_listiter st h
theorem zfC {P:Program} {w:World} {K:rF} {tg:Expr} (a it:Addr):zfB P w K tg (Itt K a) [it] it (λi h=>h.IsTupleIter it a i) where
 mem:=by simp
 obj:=λi h st b hb=>by
  have e:b=it:=by simpa using hb
  subst e
  obtain⟨o,e,c,d⟩:=st
  exact⟨o,e,λv z=>by rw[d] at z;cases z⟩
 keep:=λi h h' st k=>st.at λo e=>k it (by simp) o e
 item:=by
  intro X hP hw hK hc i pins s σ H E I hf st hg
  subst hP hw hK
  obtain⟨xs,x,hq,hx⟩:=hg
  obtain⟨ag,rv,p,hz⟩:=I.tuple hq
  obtain⟨u,hu,ru⟩:=rv.get hx
  obtain⟨f0,f1,f2,f3,f4,f5⟩:=hf it (by simp)
  refine wpAny_pyNext_tuple_item st (show s.heap.IsTuple a ag.toArray from p) (x:=u) (by simpa using hu) λh' st' sb=> ?_
  have I1:Inv X pins σ H {s with heap:=h'}:=I.turned (t':=s.toks) (λb o hb e=>(sb.2 b hb).trans e) f0 f1 f3 f4 f5
  obtain⟨o,e,c,d⟩:=id st'
  exact⟨u,rfl,zgH (s:={s with heap:=h'}) e c d ∅ ⟨x,H,I1,ru,⟨rfl,λys hy=>by rw[I.tuple_inj hy hq];exact hx⟩,st',λb hb=>(hf b hb).1⟩⟩
 done:=by
  intro X hP hw hK hc i pins s σ H E I hf st hg
  subst hP hw hK
  obtain⟨xs,hq,hx⟩:=hg
  obtain⟨ag,rv,p,hz⟩:=I.tuple hq
  obtain⟨f0,f1,f2,f3,f4,f5⟩:=hf it (by simp)
  have hl:=rv.length
  exact wpAny_pyNext_tuple_end (I.ok.hd hc) st (show s.heap.IsTuple a ag.toArray from p) (by simp;omega) λh' eb=>⟨rfl,I.turned (t':=s.toks) (λb o hb e=>eb b o hb e) f0 f1 f3 f4 f5⟩
 self:=λ_ _ _ _ _ st h=>wpAny_pyIter_tupleiter st h
theorem zfD {P:Program} {w:World} {K:rF} {tg:Expr} (it:Addr) (lo:Int) (n:Nat):zfB P w K tg (Itr lo n) [it] it (λi h=>IsRangeIter h it (lo+(i:Nat)*1) ((n:Int)-(i:Nat)) 1) where
 mem:=by simp
 obj:=λi h st b hb=>by
  have e:b=it:=by simpa using hb
  subst e
  exact⟨_,st,λv z=>by
   have z':Data.fields _=Data.cell v:=z
   cases z'⟩
 keep:=λi h h' st k=>k it (by simp) _ st
 item:=by
  intro X hP hw hK hc i pins s σ H E I hf st hg
  subst hP hw hK
  obtain⟨f0,f1,f2,f3,f4,f5⟩:=hf it (by simp)
  have W:=Walks.range (prog:=X.prog) (w:=X.w) (I.ok.hd hc) it lo 1 n
  refine W.item i s _ _ hg st λv h' tk hv st' kk=> ?_
  obtain⟨t,rfl⟩:=hv
  have I1:Inv X pins σ H {s with heap:=h',toks:=tk}:=I.turned (λb o hb e=>kk b o (by simpa using hb) e) f0 f1 f3 f4 f5
  refine⟨_,rfl,zgH (s:={s with heap:=h',toks:=tk}) (n:="range_iterator") st' rfl rfl ∅ ⟨.int (lo+i),H,I1,⟨t,?_⟩,⟨rfl,rfl⟩,st',λb hb=>(hf b hb).1⟩⟩
  rw[AQ]
 done:=by
  intro X hP hw hK hc i pins s σ H E I hf st hg
  subst hP hw hK
  obtain⟨f0,f1,f2,f3,f4,f5⟩:=hf it (by simp)
  exact wpAny_pyNext_range_end (I.ok.hd hc) st (by have:n<=i:=hg;omega) λh' eb=>⟨rfl,I.turned (t':=s.toks) (λb o hb e=>eb b o hb e) f0 f1 f3 f4 f5⟩
 self:=λ_ _ _ _ _ st h=>wpAny_pyIter_rangeiter st h
section
variable {X:Cx} {tg:Expr}
def zh5 (K:rF) (tl:TE):TI:=λσ H R=>tl σ H λx H1=>∃a,x= .ref a/\(∃xs,SqL K H1 a xs)/\R (Itl K a) H1
def zlV (K:rF) (tl:TE):TI:=λσ H R=>tl σ H λx H1=>∃a,x= .ref a/\(∃xs,SqT K H1 a xs)/\R (Itt K a) H1
theorem zkc {l:Expr} {tl:TE} (hl:PE X l tl):PI X tg l (zh5 X.K tl):=by
 intro pins s σ H R I h
 refine thn (hl pins s σ H _ I h) ?_
 rintro v s1 ⟨x,H1,I1,r1,q1⟩
 obtain⟨a,e,⟨xs,hq⟩,q⟩:=q1
 subst e
 cases r1
 obtain⟨ag,rv,p,hz⟩:=I1.list hq
 refine wpAny_pyIter_list p.isList ?_
 refine⟨s1.heap.objs.size,[s1.heap.objs.size],_,_,H1,rfl,I1.kept (t':=s1.toks) λb o e=>Heap.get?_push_of_some _ e,zhl a _,⟨_,Heap.get?_push_size _ rfl,rfl,rfl⟩,λb hb=> ?_,q⟩
 have e:b=s1.heap.objs.size:=by simpa using hb
 subst e
 exact I1.fpOk (rL _) (I1.hok.fresh (rL _))
theorem zlW {l:Expr} {tl:TE} (hl:PE X l tl):PI X tg l (zlV X.K tl):=by
 intro pins s σ H R I h
 refine thn (hl pins s σ H _ I h) ?_
 rintro v s1 ⟨x,H1,I1,r1,q1⟩
 obtain⟨a,e,⟨xs,hq⟩,q⟩:=q1
 subst e
 cases r1
 obtain⟨ag,rv,p,hz⟩:=I1.tuple hq
 refine wpAny_pyIter_tuple (show s1.heap.IsTuple a ag.toArray from p) ?_
 refine⟨s1.heap.objs.size,[s1.heap.objs.size],_,_,H1,rfl,I1.kept (t':=s1.toks) λb o e=>Heap.get?_push_of_some _ e,zfC a _,⟨_,Heap.get?_push_size _ rfl,rfl,rfl⟩,λb hb=> ?_,q⟩
 have e:b=s1.heap.objs.size:=by simpa using hb
 subst e
 exact I1.fpOk (rL _) (I1.hok.fresh (rL _))
theorem zh6 {pins:List (Addr×Obj)} {σ:St} {H:Hp} {s:Shared} {R:It->Hp->Prop} {E:Value->Shared->Prop} {lo hi:Int} {t u v:Tok} {tk:Nat} (I:Inv X pins σ H s) (h1: -(2^62)<=lo) (h2:lo<2^62) (h3: -(2^62)<=hi) (h4:hi<2^62)
  (q:R (Itr lo (hi-lo).toNat) H):wpAny (model X.prog X.w) X.A (pyIter (.ref s.heap.objs.size)) (PIE X pins σ tg R) E {s with heap:=s.heap.push {cls:= .type "range",data:= .fields #[.int lo t,.int hi u,.int 1 v]},toks:=tk}:=by
 refine wpAny_pyIter_range (IsRange.new ..) (small_one h1 h2 h3 h4) ?_
 have I1:Inv X pins σ H {s with heap:=s.heap.push {cls:= .type "range",data:= .fields #[.int lo t,.int hi u,.int 1 v]},toks:=tk}:=I.kept λb o e=>Heap.get?_push_of_some _ e
 refine⟨(s.heap.push {cls:= .type "range",data:= .fields #[.int lo t,.int hi u,.int 1 v]}).objs.size,[(s.heap.push {cls:= .type "range",data:= .fields #[.int lo t,.int hi u,.int 1 v]}).objs.size],_,_,H,rfl,
  I1.kept (t':=tk) λb o e=>Heap.get?_push_of_some _ e,zfD _ lo (hi-lo).toNat,?_,λb hb=> ?_,q⟩
 ·have e1:lo+((0:Nat):Int)*1=lo:=by simp
  have e2:(((hi-lo).toNat:Nat):Int)-((0:Nat):Int)=Builtin.Range.rangeSize lo hi 1:=by rw[rangeSize_one];split<;>omega
  show IsRangeIter _ _ (lo+((0:Nat):Int)*1) ((((hi-lo).toNat:Nat):Int)-((0:Nat):Int)) 1
  rw[e1,e2]
  exact Heap.get?_push_size _ rfl
 ·have e:b=(s.heap.push {cls:= .type "range",data:= .fields #[.int lo t,.int hi u,.int 1 v]}).objs.size:=by simpa using hb
  subst e
  exact I1.fpOk (rL _) (I1.hok.fresh (rL _))
def zlq (ta:TA):TI:=λσ H R=>ta σ H λvs H1=>∃j:Int,vs=[.int j]/\ -(2^62)<=j/\j<2^62/\R (Itr 0 j.toNat) H1
theorem xc {a:Expr} {ta:TA} {p pos:Pos} (hg:Gl X "range") (hm:X.mg "range"=none) (ha:PA X [a] ta) (hs:starEach [a] X.env=[(false,eval a X.env)]:=by rfl):PI X tg (.Call (.Name "range" p) [a] [] pos) (zlq ta):=by
 intro pins s σ H R I h
 refine Call_ (YB I hg hm boot_range (sP (thn (ha pos pins s σ H _ I h) ?_) hs rfl))
 rintro us s1 ⟨vs,H1,I1,r1,q1⟩
 obtain⟨j,e,q1,q2,q⟩:=q1
 subst e
 cases r1 with
 |cons r rr=>
  cases rr
  obtain⟨t,rfl⟩:=r
  exact call_range_1 (zh6 I1 ⋯ ⋯ q1 q2 (by simpa using q))
def znb (wi:TI) (g:TG) (tb:TS):TS:=λD σ H=>wi σ H λJ H1=>∃W:Nat->Nat->St->Hp->Prop,(∃m,W 0 m σ H1)/\∀i m σ H,W i m σ H->
 (J.stop i H/\D.nx σ H)\/(J.go i H/\∃N:St->Hp->Prop,(∀σ' H',N σ' H'->∃m',m'<m/\W (i+1) m' σ' H')/\∀x H',J.yld i H x H'->g x σ H' λσ2 H2=>tb {D with nx:=N,ct:=N,bk:=D.nx} σ2 H2)
noncomputable def za6 (fp:List Addr) (h:Heap):List (Addr×Obj):=fp.filterMap λb=>(h.get? b).map λo=>(b,o)
theorem Wm {fp:List Addr} {h:Heap} {b:Addr} {o:Obj} (hb:b∈fp) (e:h.get? b=some o):(b,o)∈za6 fp h:=A9.mpr ⟨b,hb,by rw[e];rfl⟩
theorem zhm {fp:List Addr} {h:Heap} {p:Addr×Obj} (hp:p∈za6 fp h):p.1∈fp/\h.get? p.1=some p.2:=by
 obtain⟨b,hb,e⟩:=A9.mp hp
 cases q:h.get? b with
 |none=>rw[q] at e;cases e
 |some o=>
  rw[q] at e
  have e':(b,o)=p:=sr e
  subst e'
  exact⟨hb,q⟩
theorem Inv.pinned {pins:List (Addr×Obj)} {σ:St} {H:Hp} {s:Shared} {fp:List Addr} (I:Inv X pins σ H s) (hf:∀b∈fp,za5 X pins H b) (ho:∀b∈fp,∃o,s.heap.get? b=some o/\∀v,o.data≠ .cell v):Inv X (pins++za6 fp s.heap) σ H s:=
 I.pins_of λp hp=>(sN.mp hp).elim (λz=>I.pin p (sT _ z)) λz=>by
  obtain⟨hb,e⟩:=zhm z
  obtain⟨f0,f1,f2,_⟩:=hf p.1 hb
  obtain⟨o,e',d⟩:=ho p.1 hb
  rw[e] at e';cases e'
  exact⟨e,f0,f1,f2,d⟩
theorem Inv.unpinned {pins pl:List (Addr×Obj)} {σ:St} {H:Hp} {s:Shared} (I:Inv X (pins++pl) σ H s):Inv X pins σ H s:=I.pins_of λp hp=>I.pin p (sT _ (y9 _ hp))
theorem wJ {iter:Expr} {body:List Stmt} {wi:TI} {g:TG} {tb:TS} {pos:Pos} (hp:PassesOwn (model X.prog X.w) X.A X.env X.xe) (hc:X.calm=true) (hi:PI X tg iter wi) (hg:PG X tg g) (hb:PSs X body tb)
  (hs:∀x,foldedSetIterable iter X.env x=pure x:=by intro _;rfl):PS X (.For tg iter body [] pos) (znb wi g tb):=by
 intro pins s σ H D I h
 refine wpAny_For (thn (hi pins s σ H _ I h) λv s1 h1=>thn h1 λkH s2 h2=> ?_) hs
 obtain⟨it,fp,tn,J,H2,e,I2,T,ig,f2,W,⟨m0,w0⟩,turn⟩:=h2
 subst e
 have stat:∀{H':Hp},(∀b∈fp,H' b=none)->∀b∈fp,za5 X pins H' b:=λhn b hb=>⟨hn b hb,(f2 b hb).2⟩
 refine codeAny_forLoop_any (λn s'=>∃i σ' H',Inv X pins σ' H' s'/\tn i s'.heap/\(∀b∈fp,H' b=none)/\W i n σ' H') ?_ m0 ⟨0,σ,H2,I2,ig,λb hb=>(f2 b hb).1,w0⟩
 rintro n s3 ⟨i,σ3,H3,I3,jf,jM,w3⟩
 rcases turn i n σ3 H3 w3 with⟨stop,qn⟩|⟨go,N,hN,step⟩
 ·refine wpAny_passesOwn hp (thn (T.done X rfl rfl rfl hc i pins s3 σ3 H3 X.xe I3 (stat jM) jf stop) λr s4 ⟨hr,I4⟩=> ?_)
  subst hr
  exact wpAny_execs_nil ⟨σ3,H3,I4,qn⟩
 ·refine wpAny_passesOwn hp (thn (T.item X rfl rfl rfl hc i pins s3 σ3 H3 X.xe I3 (stat jM) jf go) λr s4 ⟨u,hr,h4⟩=> ?_)
  subst hr
  refine wpAny_passesOwn hp (thn h4 ?_)
  rintro _ s5 ⟨x,H5,I5,r5,y5,ie,ml⟩
  have I5':=I5.pinned (stat ml) (T.obj _ _ ie)
  refine wpAny_passesOwn hp (thn (hg _ s5 σ3 H5 x u _ I5' r5 (step x H5 y5)) ?_)
  rintro _ s6 ⟨σ6,H6,I6,q6⟩
  refine wpAny_passesOwn hp (thn (hb _ s6 σ6 H6 _ I6 q6) λf s7 q7=> ?_)
  have again:∀{σ7:St} {H7:Hp},Inv X (pins++za6 fp s5.heap) σ7 H7 s7->N σ7 H7->∃m,m<n/\∃i σ' H',Inv X pins σ' H' s7/\tn i s7.heap/\(∀b∈fp,H' b=none)/\W i m σ' H':=λ{σ7 H7} I7 n7=>by
   obtain⟨m',hm,w7⟩:=hN σ7 H7 n7
   refine⟨m',hm,i+1,σ7,H7,I7.unpinned,T.keep _ _ _ ie λb hb o e=>(I7.pin (b,o) (sT _ (sT _ (Wm hb e)))).1,λb hb=> ?_,w7⟩
   obtain⟨o,e,d⟩:=T.obj _ _ ie b hb
   exact (I7.pin (b,o) (sT _ (sT _ (Wm hb e)))).2.1
  cases f with
  |next=>obtain⟨σ7,H7,I7,n7⟩:=q7;exact again I7 n7
  |cont=>obtain⟨σ7,H7,I7,n7⟩:=q7;exact again I7 n7
  |brk=>obtain⟨σ7,H7,I7,q7⟩:=q7;exact⟨σ7,H7,I7.unpinned,q7⟩
  |ret v=>obtain⟨x7,σ7,H7,I7,r7,q7⟩:=q7;exact⟨x7,σ7,H7,I7.unpinned,r7,q7⟩
end
abbrev R2:=V->V->Hp->VK->Prop
def OpR (X:Cx) (f:Value->Value->Sem Value) (r:R2):Prop:=
 ∀(pins:List (Addr×Obj)) (s:Shared) (σ:St) (H:Hp) (x y:V) (v u:Value) (Q:VK),Inv X pins σ H s->yN x v->yN y u->r x y H Q->
  wpAny (model X.prog X.w) X.A (f v u) (EP X pins σ Q) X.xe s
def UnR (X:Cx) (f:Value->Sem Value) (r:V->Hp->VK->Prop):Prop:=
 ∀(pins:List (Addr×Obj)) (s:Shared) (σ:St) (H:Hp) (x:V) (v:Value) (Q:VK),Inv X pins σ H s->yN x v->r x H Q->
  wpAny (model X.prog X.w) X.A (f v) (EP X pins σ Q) X.xe s
def Zw (X:Cx) (f:Value) (r:List V->Hp->VK->Prop):Prop:=
 ∀(pins:List (Addr×Obj)) (s:Shared) (σ:St) (H:Hp) (xs:List V) (us:List Value) (Q:VK),Inv X pins σ H s->yt xs us->r xs H Q->
  wpAny (model X.prog X.w) X.A (call f us) (EP X pins σ Q) X.xe s
def tOp (r:R2) (ta tb:TE):TE:=λσ H Q=>ta σ H λx H1=>tb σ H1 λy H2=>r x y H2 Q
def tUn (r:V->Hp->VK->Prop) (ta:TE):TE:=λσ H Q=>ta σ H λx H1=>r x H1 Q
def rI (C:Int->Int->Prop) (g:Int->Int->V):R2:=λx y H Q=>∃i j,x= .int i/\y= .int j/\C i j/\Q (g i j) H
def rI0 (g:Int->Int->V):R2:=λx y H Q=>∃i j,x= .int i/\y= .int j/\Q (g i j) H
def rU (g:Int->V):V->Hp->VK->Prop:=λx H Q=>∃i,x= .int i/\Q (g i) H
section
variable {X:Cx} {a b c:Expr} {ta tb tc:TE} {pos:Pos}
theorem zlX (ha:PE X a ta) (hb:PE X b tb) {pins:List (Addr×Obj)} {s:Shared} {σ:St} {H:Hp} {R:V->V->Hp->Prop} (I:Inv X pins σ H s)
  (h:ta σ H λx H1=>tb σ H1 λy H2=>R x y H2) {Q:Value->Shared->Prop} {f:Value->Value->Sem Value}
  (hf:∀v u s2 x y H2,Inv X pins σ H2 s2->yN x v->yN y u->R x y H2->wpAny (model X.prog X.w) X.A (f v u) Q X.xe s2):
  wpAny (model X.prog X.w) X.A (eval a X.env) (λv s₁=>wpAny (model X.prog X.w) X.A (eval b X.env) (λu s₂=>wpAny (model X.prog X.w) X.A (f v u) Q X.xe s₂) X.xe s₁) X.xe s:=by
 refine thn (ha pins s σ H _ I h) ?_
 rintro v s1 ⟨x,H1,I1,r1,q1⟩
 refine thn (hb pins s1 σ H1 _ I1 q1) ?_
 rintro u s2 ⟨y,H2,I2,r2,q2⟩
 exact hf v u s2 x y H2 I2 r1 r2 q2
theorem yd {op:Operator} {r:R2} (ho:OpR X (binaryOp op) r) (ha:PE X a ta) (hb:PE X b tb):PE X (.BinOp a op b pos) (tOp r ta tb):=by
 intro pins s σ H Q I h
 exact wpAny_BinOp (zlX ha hb I h λv u s2 x y H2 I2 rx ry q=>ho pins s2 σ H2 x y v u Q I2 rx ry q)
theorem zh7 {op:UnaryOp} {r:V->Hp->VK->Prop} (ho:UnR X (unaryOp op) r) (ha:PE X a ta):PE X (.UnaryOp op a pos) (tUn r ta):=by
 intro pins s σ H Q I h
 refine UnaryOp_ (thn (ha pins s σ H _ I h) ?_)
 rintro v s1 ⟨x,H1,I1,r1,q1⟩
 exact ho pins s1 σ H1 x v Q I1 r1 q1
theorem opI {f:Value->Value->Sem Value} {C:Int->Int->Prop} {g:Int->Int->Int}
  (rule:∀(i j:Int) (t u:Tok) (s:Shared) (Q:Value->Shared->Prop) (E:Value->Shared->Prop),C i j->Q (.int (g i j) s.toks) {s with toks:=s.toks+1}->wpAny (model X.prog X.w) X.A (f (.int i t) (.int j u)) Q E s):
  OpR X f (rI C λi j=> .int (g i j)):=by
 intro pins s σ H x y v u Q I rx ry h
 obtain⟨i,j,rfl,rfl,hc,q⟩:=h
 obtain⟨t,rfl⟩:=rx
 obtain⟨t',rfl⟩:=ry
 exact rule i j t t' s _ _ hc ⟨.int (g i j),H,I.tok _,⟨_,rfl⟩,q⟩
theorem znc {f:Value->Value->Sem Value} {g:Int->Int->Int}
  (rule:∀(i j:Int) (t u:Tok) (s:Shared) (Q:Value->Shared->Prop) (E:Value->Shared->Prop),Q (.int (g i j) s.toks) {s with toks:=s.toks+1}->wpAny (model X.prog X.w) X.A (f (.int i t) (.int j u)) Q E s):
  OpR X f (rI0 λi j=> .int (g i j)):=by
 intro pins s σ H x y v u Q I rx ry h
 obtain⟨i,j,rfl,rfl,q⟩:=h
 obtain⟨t,rfl⟩:=rx
 obtain⟨t',rfl⟩:=ry
 exact rule i j t t' s _ _ ⟨.int (g i j),H,I.tok _,⟨_,rfl⟩,q⟩
def zlY (i j:Int):Prop:=0<j/\j<1073741824
def zlZ (i j:Int):Prop:=0<=j/\j<=1000000/\i.natAbs<2^64
def zh8 (i j:Int):Prop:=(-(2^64)<i/\i<2^64)\/(-(2^64)<j/\j<2^64)
theorem zh8.ok {i j:Int} (h:zh8 i j):IntMulOk i j:=by
 rcases h with⟨h1,h2⟩|⟨h1,h2⟩
 ·exact .of_left (intBits_le_64 h1 h2)
 ·exact .of_right (intBits_le_64 h1 h2)
theorem xa:OpR X (binaryOp .Add) (rI0 λi j=> .int (i+j)):=znc λ_ _ _ _ _ _ _ q=>add_int q
theorem TU:OpR X (binaryOp .Sub) (rI0 λi j=> .int (i-j)):=znc λ_ _ _ _ _ _ _ q=>sub_int q
theorem zl0:OpR X (binaryOp .Mult) (rI zh8 λi j=> .int (i*j)):=opI λ_ _ _ _ _ _ _ hc q=>mul_int q hc.ok
theorem zaR:OpR X (binaryOp .FloorDiv) (rI zlY λi j=> .int (i / j)):=opI λi j _ _ _ _ _ hc q=>by
 have h1:(0:Int)<j:=hc.1
 have h2:j<1073741824:=hc.2
 exact floordiv_int ⋯ (by rw[tT i ⋯];exact q) (.inl (PyProof.noPylong_small ⋯))
theorem vF:OpR X (binaryOp .Mod) (rI (λ_ j=>0<j) λi j=> .int (i % j)):=opI λi j _ _ _ _ _ hc q=>by
 have h1:(0:Int)<j:=hc
 exact mod_int' ⋯ (by rw[Int.fmod_eq_emod_of_nonneg i ⋯];exact q)
theorem zdh:OpR X (binaryOp .Pow) (rI zlZ λi j=> .int (i^j.toNat)):=opI λ_ _ _ _ _ _ _ hc q=>pow_int_small hc.1 hc.2.1 hc.2.2 q
theorem unI {f:Value->Sem Value} {g:Int->Int}
  (rule:∀(i:Int) (t:Tok) (s:Shared) (Q:Value->Shared->Prop) (E:Value->Shared->Prop),Q (.int (g i) s.toks) {s with toks:=s.toks+1}->wpAny (model X.prog X.w) X.A (f (.int i t)) Q E s):
  UnR X f (rU λi=> .int (g i)):=by
 intro pins s σ H x v Q I rx h
 obtain⟨i,rfl,q⟩:=h
 obtain⟨t,rfl⟩:=rx
 exact rule i t s _ _ ⟨.int (g i),H,I.tok _,⟨_,rfl⟩,q⟩
theorem zfE:UnR X (unaryOp .USub) (rU λi=> .int (-i)):=unI λ_ _ _ _ _ q=>neg_int q
end
noncomputable def zn5:V->V->Bool
 | .non,.non=>true| .non,.int _=>true| .int _,.non=>true| .non,.bl _=>true| .bl _,.non=>true| .non,.str _=>true| .str _,.non=>true
 | .int _,.int _=>true| .bl _,.bl _=>true| .str _,.str _=>true| .byt _,.byt _=>true
 | .int _,.str _=>true| .str _,.int _=>true| .bl _,.str _=>true| .str _,.bl _=>true
 |_,_=>false
def rEq:R2:=λx y H Q=>zn5 x y=true/\Q (.bl (decide (x=y))) H
theorem zkd {i j:Int}:decide (V.int i=V.int j)=(i==j):=by
 rw[tY]
 simp
theorem zl1 {i j:Bool}:decide (V.bl i=V.bl j)=(i==j):=by
 rw[tY]
 simp
theorem zke {i j:Str}:decide (V.str i=V.str j)=(i==j):=by
 rw[tY]
 simp
theorem zkf {i j:Array UInt8}:decide (V.byt i=V.byt j)=(i.toList==j.toList):=by
 rw[tY]
 cases i
 cases j
 simp
section
variable {X:Cx} {a b c:Expr} {ta tb tc:TE} {pos:Pos}
theorem vG {pins:List (Addr×Obj)} {σ:St} {H:Hp} {s:Shared} {Q:VK} {k k':Bool} (I:Inv X pins σ H s) (q:Q (.bl k) H) (e:k=k'):EP X pins σ Q (.bool k') s:=by
 subst e
 exact⟨.bl k,H,I,rfl,q⟩
theorem yw:OpR X (compareOp .Eq) rEq:=by
 intro pins s σ H x y v u Q I rx ry h
 obtain⟨hs,q⟩:=h
 cases x with
 |non=>
  cases rx
  cases y with
  |non=>cases ry;exact PySem.EqNone.eq_none_none (vG I q (by simp))
  |bl j=>cases ry;exact PySem.EqNone.eq_none_bool (vG I q (by simp))
  |int j=>obtain⟨t',rfl⟩:=ry;exact PySem.EqNone.eq_none_int (vG I q (by simp))
  |str j=>obtain⟨t',rfl⟩:=ry;exact PySem.EqNone.eq_none_str (vG I q (by simp))
  |_=>exact absurd (show false=true from hs) sy
 |bl i=>
  cases rx
  cases y with
  |non=>cases ry;exact PySem.EqNone.eq_bool_none (vG I q (by simp))
  |bl j=>cases ry;exact eq_bool (vG I q zl1)
  |str j=>obtain⟨t',rfl⟩:=ry;exact C5 (vG I q (by simp))
  |_=>exact absurd (show false=true from hs) sy
 |int i=>
  obtain⟨t,rfl⟩:=rx
  cases y with
  |non=>cases ry;exact PySem.EqNone.eq_int_none (vG I q (by simp))
  |int j=>obtain⟨t',rfl⟩:=ry;exact eq_int (vG I q zkd)
  |str j=>obtain⟨t',rfl⟩:=ry;exact C8 (vG I q (by simp))
  |_=>exact absurd (show false=true from hs) sy
 |str i=>
  obtain⟨t,rfl⟩:=rx
  cases y with
  |non=>cases ry;exact PySem.EqNone.eq_str_none (vG I q (by simp))
  |bl j=>cases ry;exact C6 (vG I q (by simp))
  |int j=>obtain⟨t',rfl⟩:=ry;exact C9 (vG I q (by simp))
  |str j=>obtain⟨t',rfl⟩:=ry;exact eq_str (vG I q zke)
  |_=>exact absurd (show false=true from hs) sy
 |byt i=>
  obtain⟨t,rfl⟩:=rx
  cases y with
  |byt j=>obtain⟨t',rfl⟩:=ry;exact PySem.W.eq_bytes (vG I q zkf)
  |_=>exact absurd (show false=true from hs) sy
 |_=>cases y<;>exact absurd (show false=true from hs) sy
theorem UX {op:CmpOp} {r:R2} (ho:OpR X (compareOp op) r) (ha:PE X a ta) (hb:PE X b tb) (hm:behindInMarks op b=false):PE X (.Compare a [op] [b] pos) (tOp r ta tb):=by
 intro pins s σ H Q I h
 exact wpAny_Compare1 (zlX ha hb I h λv u s2 x y H2 I2 rx ry q=>ho pins s2 σ H2 x y v u Q I2 rx ry q) hm
def zlr (t:TE):TT:=λσ H Q=>t σ H λx H'=>∃k,x= .bl k/\Q k H'
theorem zZ {op:CmpOp} {r:R2} (ho:OpR X (compareOp op) r) (ha:PE X a ta) (hb:PE X b tb) (hm:behindInMarks op b=false):PT X (.Compare a [op] [b] pos) (zlr (tOp r ta tb)):=by
 intro pins s σ H Q I h
 refine wpAny_isTrue_Compare1 (thn (ha pins s σ H _ I h) λv s1 ⟨x,H1,I1,r1,q1⟩=>thn (hb pins s1 σ H1 _ I1 q1) λu s2 ⟨y,H2,I2,r2,q2⟩=>
  thn (ho pins s2 σ H2 x y v u _ I2 r1 r2 q2) λc s3 ⟨z,H3,I3,r3,k,e,q3⟩=> ?_) hm
 subst e
 cases r3
 exact wpAny_truthy_bool ⟨H3,I3,q3⟩
theorem Vk:(sizeLine:Nat)<2^63:=by rw[sizeLine_eq];decide
theorem UA:OpR X (binaryOp .Add) (λx y H Q=>∃i j,x= .str i/\y= .str j/\i.length+j.length<=sizeLine/\Q (.str (i++j)) H):=by
 intro pins s σ H x y v u Q I rx ry h
 obtain⟨i,j,rfl,rfl,hz,q⟩:=h
 obtain⟨t,rfl⟩:=rx
 obtain⟨t',rfl⟩:=ry
 exact add_str (λt' tk=>⟨.str (i++j),H,I.tok _,⟨_,rfl⟩,q⟩) hz
theorem YC {x:V} {us:List Value} (r:yt [x] us):∃u,us=[u]/\yN x u:=by
 cases r with
 |cons r1 r2=>cases r2;exact⟨_,rfl,r1⟩
theorem zh9 {x y:V} {us:List Value} (r:yt [x,y] us):∃u w',us=[u,w']/\yN x u/\yN y w':=by
 cases r with
 |cons r1 r2=>
  cases r2 with
  |cons r3 r4=>cases r4;exact⟨_,_,rfl,r1,r3⟩
theorem za7:Zw X (.builtin "abs") (λxs H Q=>∃i,xs=[.int i]/\Q (.int (if i<0 then -i else i)) H):=by
 intro pins s σ H xs us Q I r h
 obtain⟨i,rfl,q⟩:=h
 obtain⟨u,rfl,t,rfl⟩:=YC r
 exact call_abs_int λu tk=>⟨.int (if i<0 then -i else i),H,I.tok _,⟨_,rfl⟩,q⟩
theorem Uf (hc:X.calm=true):Zw X (.builtin "max") (λxs H Q=>∃i j,xs=[.int i,.int j]/\Q (.int (if j>i then j else i)) H):=by
 intro pins s σ H xs us Q I r h
 obtain⟨i,j,rfl,q⟩:=h
 obtain⟨u,w',rfl,⟨t,rfl⟩,⟨t',rfl⟩⟩:=zh9 r
 refine max_two_ints (I.ok.hd hc) λh' tk k=>⟨_,H,I.kept k,?_,q⟩
 by_cases hj:j>i
 ·rw[if_pos hj,if_pos hj];exact⟨_,rfl⟩
 ·rw[if_neg hj,if_neg hj];exact⟨_,rfl⟩
theorem zcG (hc:X.calm=true):Zw X (.builtin "min") (λxs H Q=>∃i j,xs=[.int i,.int j]/\Q (.int (if j<i then j else i)) H):=by
 intro pins s σ H xs us Q I r h
 obtain⟨i,j,rfl,q⟩:=h
 obtain⟨u,w',rfl,⟨t,rfl⟩,⟨t',rfl⟩⟩:=zh9 r
 refine min_two_ints (I.ok.hd hc) λh' tk k=>⟨_,H,I.kept k,?_,q⟩
 by_cases hj:j<i
 ·rw[if_pos hj,if_pos hj];exact⟨_,rfl⟩
 ·rw[if_neg hj,if_neg hj];exact⟨_,rfl⟩
theorem zhn:Zw X (.type "int") (λxs H Q=>(∃i,xs=[.int i]/\Q (.int i) H)\/∃k,xs=[.bl k]/\Q (.int (if k then 1 else 0)) H):=by
 intro pins s σ H xs us Q I r h
 rcases h with⟨i,rfl,q⟩|⟨k,rfl,q⟩
 ·obtain⟨u,rfl,t,rfl⟩:=YC r
  exact call_int_int ⟨.int i,H,I,⟨_,rfl⟩,q⟩
 ·obtain⟨u,rfl,r1⟩:=YC r
  cases r1
  exact call_int_bool ⟨.int (if k then 1 else 0),H,I.tok _,⟨_,rfl⟩,q⟩
end
structure zfF (h:Heap) (x dx C:Addr) (mA:Str->Option Value):Prop where
 obj:h.get? x=some (tX C dx)
 ns:h.Ns1 dx mA
 ne:dx≠x
theorem zho {h:Heap} {dx:Addr} {mA:Str->Option Value} (n:h.Ns1 dx mA):∃od,h.get? dx=some od/\∀name,A2 name od=some (mA name):=by
 obtain⟨o,es,ep,ho,hd,hk,_,hm⟩:=n
 refine⟨o,ho,λname=> ?_⟩
 have e:=hm name
 unfold nsFind findBy at e
 rw[<-Array.find?_toList] at e
 unfold A2
 rw[hd]
 dsimp only
 split
 ·rename_i y q
  rw[q] at e
  exact congrArg some e
 ·rename_i q
  rw[q] at e
  have a:es.toList.any (·.refKey)=false:=by
   rw[List.any_eq_false]
   intro y hy
   obtain⟨z,t,lM⟩:=hk y (Array.mem_toList_iff.mp hy)
   simp[DictEntry.refKey,lM]
  have a':¬es.toList.any (·.refKey)=true:=by rw[a];exact sy
  rw[if_neg a']
  exact congrArg some e
theorem zfF.look {h:Heap} {x dx C:Addr} {mA:Str->Option Value} (I:zfF h x dx C mA):∃od,A3 h x (tX C dx) C (some od)/\∀name,A2 name od=some (mA name):=
 let ⟨od,ho,hl⟩:=zho I.ns
 ⟨od,⟨I.obj,rfl,rfl,ho⟩,hl⟩
section
variable {prog:Program} {w:World} {A:Around} {E:Value->Shared->Prop} {s:Shared} {K:rF} {x dx C f:Addr} {mA:Str->Option Value} {name:Str} {v:Value}
theorem zkg {expr:Bool} {Q:Value->Shared->Prop} (X:K.In s.heap) (I:zfF s.heap x dx C mA) (hg:uL K C name=true) (hh:w9 K C=true)
  (ha:sf K (.ref C) name=some none) (hv:mA name=some v) (kg:BM v=true) (h:Q v {s with toks:=s.toks+1}):
  wpAny (model prog w) A (getAttr (.ref x) name expr) Q E s:=by
 obtain⟨od,J,hl⟩:=I.look
 exact PySem.W.get_value X J (A1 hg).1 (PySem.W.findObj_own hh ha rfl (by rw[hl,hv])) kg h
theorem zia {pl:Sem Bool} {Q:Value×List Value->Shared->Prop} (X:K.In s.heap) (I:zfF s.heap x dx C mA) (hg:uL K C name=true)
  (hf:sf K (.ref C) name=some (some (.ref f))) (ht:z3 K (.ref f)=true) (hv:mA name=none) (h:Q (.ref f,[.ref x]) s):
  wpAny (model prog w) A (getMethod (.ref x) name pl) Q E s:=by
 obtain⟨od,J,hl⟩:=I.look
 exact PySem.W.method_fn X J (A1 hg).1 (A1 hg).2 hf (beq_iff_eq.mp ht) (by show (A2 name od).map (·.isSome)=some false;rw[hl,hv];rfl) h
theorem zkh {ns:List Str} {Q:Unit->Shared->Prop} (X:K.In s.heap) (I:zfF s.heap x dx C mA)
  (hs:sf K (.ref C) "__setattr__"=some (some (.builtin "object.__setattr__"))) (hp:Ah K C=true) (ht:AA K C name=some none) (hh:w9 K C=true)
  (hw:Bq mA ns) (eN:ns.length<=sizeLine)
  (h:∀h',zfF h' x dx C (λy=>if y=name then some v else mA y)->Heap.SameBut dx s.heap h'->Q () {s with heap:=h',toks:=s.toks+2}):
  wpAny (model prog w) A (setAttr (.ref x) name v) Q E s:=by
 obtain⟨od,J,hl⟩:=I.look
 refine PySem.W.set_plain X J hs (PySem.W.osa_open (s:={s with toks:=s.toks+1}) (r:=none) X J hp ht λb=> ?_)
 obtain⟨cd,hc,jF⟩:=PySem.W.any_some hh
 have hx:s.heap.get? x=some ⟨.ref C,some dx,.plain,#[]⟩:=I.obj
 refine wpAny_bind (wpAny_pure (wpAny_bind (wpAny_bind (wpAny_loadPart hx (wpAny_bind (Cg (s:={s with toks:=s.toks+1}) (PySem.W.looks_clsIn X hc) ?_))))))
 rw[jF]
 refine wpAny_pure (a:=some dx) (wpAny_bind (wpAny_pure (wpAny_bind ?_)))
 refine wpAny_nsSet1 (s:={s with toks:=s.toks+1}) I.ns λh' ec dZ=> ?_
 obtain⟨oD,rj,rk,ph,pY,qa⟩:=ec.count (PySem.Within.cons name v hw)
 refine wpAny_bind (wpAny_lookBehind ph (by rw[pY];exact pastItsLine_dict (si qa (by rw[rP];omega))) ?_)
 exact wpAny_pure (h _ ⟨(dZ.2 _ (uE I.ne)).trans I.obj,ec,I.ne⟩ dZ)
theorem zib {R:Result->Shared->Prop} {vs:List Value} {kw:List (Str×Value)} (X:K.In s.heap) (hm:AB K C=true)
  (hi:sf K (.ref C) "__init__"=some (some (.ref f))) (hf:tW K (.ref f)=some (.type "function"))
  (h:codeAny (model prog w) (A.under (.builtin "type.__call__" ⟨.ref C::vs,kw⟩)) (.call (.ref f) ⟨.ref (s.heap.objs.size+1)::vs,kw⟩) (PySem.W.InitBack (s.heap.objs.size+1) R)
   {s with heap:=(s.heap.push tF).push (tX C s.heap.objs.size)}):
  codeAny (model prog w) A (.call (.ref C) ⟨vs,kw⟩) R s:=by
 obtain⟨hh,g,d,t,os⟩:=s
 exact PySem.W.make_core (PySem.W.makes_of X hm) (z4 X hi) (λself=>PySem.W.bind_fn X self hf) (.inl rfl) h
end
noncomputable def Xt (f:Str) (v:V):List (Str×V)->List (Str×V)
 |[]=>[(f,v)]
 |(g,x)::r=>if g=f then (g,v)::r else (g,x)::Xt f v r
theorem zau (f g:Str) (v:V):∀fs:List (Str×V),(Xt f v fs).lookup g=if g=f then some v else fs.lookup g
 |[]=>by
  show uf g [(f,v)]=_
  by_cases h:g=f
  ·have hb:(g==f)=true:=beq_iff_eq.mpr h
   simp only[uf,hb,if_pos h]
  ·have hb:(g==f)=false:=beq_eq_false_iff_ne.mpr h
   simp only[uf,hb,if_neg h]
 |(k,x)::r=>by
  have ih:=zau f g v r
  rw[show Xt f v ((k,x)::r)=(if k=f then (k,v)::r else (k,x)::Xt f v r) from rfl]
  by_cases hk:k=f
  ·rw[if_pos hk]
   by_cases h:g=k
   ·have hb:(g==k)=true:=beq_iff_eq.mpr h
    simp only[uf,hb,if_pos (h.trans hk)]
   ·have hb:(g==k)=false:=beq_eq_false_iff_ne.mpr h
    simp only[uf,hb,if_neg (λe:g=f=>h (e.trans hk.symm))]
  ·rw[if_neg hk]
   by_cases h:g=k
   ·have hb:(g==k)=true:=beq_iff_eq.mpr h
    simp only[uf,hb,if_neg (λe:g=f=>hk (h.symm.trans e))]
   ·have hb:(g==k)=false:=beq_eq_false_iff_ne.mpr h
    simp only[uf,hb]
    exact ih
theorem TV (f:Str) (v:V):∀fs:List (Str×V),f∈(Xt f v fs).map (·.1)/\∀g,g∈fs.map (·.1)->g∈(Xt f v fs).map (·.1)
 |[]=>⟨by simp[Xt],λg h=>by simp at h⟩
 |(k,x)::r=>by
  obtain⟨i1,i2⟩:=TV f v r
  rw[show Xt f v ((k,x)::r)=(if k=f then (k,v)::r else (k,x)::Xt f v r) from rfl]
  by_cases hk:k=f
  ·rw[if_pos hk]
   subst hk
   exact⟨by simp,λg h=>by simpa using h⟩
  ·rw[if_neg hk]
   refine⟨?_,λg h=> ?_⟩
   ·rw[sH]
    exact rT _ i1
   ·rw[sH] at h ⊢
    rcases sq.mp h with e|e
    ·exact sq.mpr (.inl e)
    ·exact rT _ (i2 g e)
theorem zav (f:Str) (v:V):∀fs:List (Str×V),(Xt f v fs).length<=fs.length+1
 |[]=>by simp[Xt]
 |(k,x)::r=>by
  have ih:=zav f v r
  rw[show Xt f v ((k,x)::r)=(if k=f then (k,v)::r else (k,x)::Xt f v r) from rfl]
  by_cases hk:k=f
  ·rw[if_pos hk,rP,rP];omega
  ·rw[if_neg hk,rP,rP];omega
theorem zcc.some_of {v:V} {o:Option Value} (r:zcc (some v) o):∃u,o=some u/\yN v u:=by
 cases o with
 |none=>exact (show False from r).elim
 |some u=>exact⟨u,rfl,r⟩
theorem zcc.none_of {o:Option Value} (r:zcc none o):o=none:=by
 cases o with
 |none=>rfl
 |some u=>exact (show False from r).elim
theorem zhp {v:V} {u:Value} (r:yN v u):BM u=true:=by
 cases v with
 |non=>cases (show u=Value.none from r);rfl
 |bl b=>cases (show u=Value.bool b from r);rfl
 |int i=>obtain⟨t,e⟩:=(show ∃t,u=Value.int i t from r);cases e;rfl
 |str x=>obtain⟨t,e⟩:=(show ∃t,u=Value.str x t from r);cases e;rfl
 |byt b=>obtain⟨t,e⟩:=(show ∃t,u=Value.bytes b t from r);cases e;rfl
 |flt b=>obtain⟨t,e⟩:=(show ∃t,u=Value.float b t from r);cases e;rfl
 |ref a=>cases (show u=Value.ref a from r);rfl
 |ty n=>cases (show u=Value.type n from r);rfl
section
variable {P:Program} {w:World} {H H':Hp} {h h':Heap} {a C dx:Addr} {fs fs':List (Str×V)}
theorem zaS (hok:HOk P w H h) (e:H a=some (.ins C dx fs)):∃mA,zfF h a dx C mA/\(∀f,zcc (fs.lookup f) (mA f))/\Bq mA (fs.map (·.1))/\fs.length<=1000/\H dx=some (.own a):=by
 obtain⟨d,z,ne,ob,mA,n,r,q⟩:=(show wI P w H h a (.ins C dx fs) from hok a _ e)
 exact⟨mA,⟨ob,n,ne⟩,r,q,z,d⟩
end
structure Cls (K:rF) (C:Addr):Prop where
 pg:uL K C Str.empty=true
 hd:w9 K C=true
 po:Ah K C=true
 sa:sf K (.ref C) "__setattr__"=some (some (.builtin "object.__setattr__"))
theorem Cls.get {K:rF} {C:Addr} (c:Cls K C) (f:Str):uL K C f=true:=c.pg
def Ye (K:rF) (C:Addr) (f:Str):Prop:=sf K (.ref C) f=some none
theorem Ye.taker {K:rF} {C:Addr} {f:Str} (n:Ye K C f):AA K C f=some none:=by
 unfold AA
 rw[show sf K (.ref C) f=some none from n]
 rfl
structure Con (K:rF) (C:Addr) (f:Str) (v:V) (u:Value):Prop where
 at_:sf K (.ref C) f=some (some u)
 rel:yN v u
 get:x5 K u "__get__"=some none
 cp:PySem.W.copiedNames.contains f=false
structure zl2 (K:rF) (C:Addr) (m:Str) (f:Addr):Prop where
 at_:sf K (.ref C) m=some (some (.ref f))
 fn:z3 K (.ref f)=true
 kp:ua K (.ref f)=true
section
variable {X:Cx} {pins:List (Addr×Obj)} {σ:St} {H:Hp} {s:Shared} {a C dx:Addr} {fs:List (Str×V)} {f:Str} {v:V} {A:Around} {E:Value->Shared->Prop}
theorem za8 {b:Bool} {Q:Value->Shared->Prop} (I:Inv X pins σ H s) (e:H a=some (.ins C dx fs)) (c:Cls X.K C) (n:Ye X.K C f) (l:fs.lookup f=some v)
  (h:∀u s',Inv X pins σ H s'->yN v u->Q u s'):wpAny (model X.prog X.w) A (getAttr (.ref a) f b) Q E s:=by
 obtain⟨mA,O,r,_,_,_⟩:=zaS I.hok e
 obtain⟨u,hu,ru⟩:=zcc.some_of (v:=v) (o:=mA f) (by rw[<-l];exact r f)
 exact zkg I.kIn O (c.get f) c.hd n hu (zhp ru) (h u _ (I.tok _) ru)
theorem zfG {m:Str} {g:Addr} {pl:Sem Bool} {Q:Value×List Value->Shared->Prop} (I:Inv X pins σ H s) (e:H a=some (.ins C dx fs)) (c:Cls X.K C) (k:zl2 X.K C m g) (l:fs.lookup m=none)
  (h:Q (.ref g,[.ref a]) s):wpAny (model X.prog X.w) A (getMethod (.ref a) m pl) Q E s:=by
 obtain⟨mA,O,r,_,_,_⟩:=zaS I.hok e
 have hn:mA m=none:=zcc.none_of (by rw[<-l];exact r m)
 exact zia I.kIn O (c.get m) k.at_ k.fn hn h
theorem za9 {y:V} {u:Value} {Q:Unit->Shared->Prop} (I:Inv X pins σ H s) (e:H a=some (.ins C dx fs)) (c:Cls X.K C) (n:Ye X.K C f) (hl:fs.length<1000) (ry:yN y u)
  (h:∀s',Inv X pins σ (upd H a (.ins C dx (Xt f y fs))) s'->Q () s'):wpAny (model X.prog X.w) A (setAttr (.ref a) f u) Q E s:=by
 obtain⟨mA,O,r,wi,_,ho⟩:=zaS I.hok e
 have hz:(fs.map (·.1)).length<=sizeLine:=by rw[rJ,sizeLine_eq];omega
 refine zkh I.kIn O c.sa c.po n.taker c.hd wi hz λh' O' sb=>h _ ?_
 have hd:∃o,h'.get? dx=some o:=let ⟨o,_,_,e',_⟩:=O'.ns;⟨o,e'⟩
 refine I.write (x:=a) (e:=dx) (by rw[e];exact v9) (.inr ho) (λb q hb z=>(sb.2 b hb).trans z) hd ?_
 refine⟨by rw[yR O.ne];exact ho,?_,O.ne,O'.obj,_,O'.ns,λg=> ?_,λg hg=> ?_⟩
 ·have:=zav f y fs;omega
 ·show zcc ((Xt f y fs).lookup g) (if g=f then some u else mA g)
  rw[zau]
  by_cases q:g=f
  ·rw[if_pos q,if_pos q];exact ry
  ·rw[if_neg q,if_neg q];exact r g
 ·by_cases q:g=f
  ·rw[q];exact (TV f y fs).1
  ·refine (TV f y fs).2 g (wi g λz=>hg ?_)
   show (if g=f then some u else mA g)=none
   rw[if_neg q];exact z
theorem Inv.made (I:Inv X pins σ H s):Inv X pins σ (upd (upd H s.heap.objs.size (.own (s.heap.objs.size+1))) (s.heap.objs.size+1) (.ins C s.heap.objs.size []))
  {s with heap:=(s.heap.push tF).push (tX C s.heap.objs.size)}:=by
 have e1:(s.heap.push tF).get? s.heap.objs.size=some tF:=Heap.get?_push_size s.heap rfl
 have e2:((s.heap.push tF).push (tX C s.heap.objs.size)).get? (s.heap.objs.size+1)=some (tX C s.heap.objs.size):=by
  have:=Heap.get?_push_size (s.heap.push tF) (o:=tX C s.heap.objs.size) rfl
  rwa [Heap.size_push] at this
 have e3:(s.heap.push tF).Ns s.heap.objs.size (λ_=>none):=⟨tF,#[],_,e1,rfl,(λe he=>absurd he (by simp)),λ_=>rfl⟩
 have I1:=I.laid (a:=s.heap.objs.size) (o:= .own (s.heap.objs.size+1)) (h':=s.heap.push tF) (t':=s.toks) (λb u q=>Heap.get?_push_of_some _ q) (rL _) ⟨_,e1⟩
 refine I1.laid (a:=s.heap.objs.size+1) (o:= .ins C s.heap.objs.size []) (t':=s.toks) (λb u q=>Heap.get?_push_of_some _ q) (uF (Heap.size_push _ _)) ?_
 have ne:s.heap.objs.size≠s.heap.objs.size+1:=sA (tU _)
 refine⟨by rw[yR ne,yW],tf _,ne,e2,λ_=>none,(Heap.Ns1.of_empty e3).at λo q=>Heap.get?_push_of_some _ q,λ_=>v9,λy hy=>absurd rfl hy⟩
theorem zki {prog:Program} {w:World} {env:Env} {e:Expr} {f:Str} {pos:Pos} {s:Shared} {Q:Value->Shared->Prop} (hb:attributeBase e f env (eval e env)=eval e env)
  (h:wpAny (model prog w) A (eval e env) (λo s₁=>wpAny (model prog w) A (getAttr o f true) Q E s₁) E s):wpAny (model prog w) A (eval (.Attribute e f pos) env) Q E s:=
 Attribute_any_ h (by rw[arm_eval_Attribute,hb])
end
def znd (K:rF) (ta:TE) (f:Str):TE:=λσ H Q=>ta σ H λx H1=>∃a C dx fs v,x= .ref a/\H1 a=some (.ins C dx fs)/\Cls K C/\Ye K C f/\fs.lookup f=some v/\Q v H1
def zne (K:rF) (ta tv:TE) (f:Str):TS:=λD σ H=>tv σ H λy H1=>ta σ H1 λx H2=>∃a C dx fs,x= .ref a/\H2 a=some (.ins C dx fs)/\Cls K C/\Ye K C f/\fs.length<1000/\
 D.nx σ (upd H2 a (.ins C dx (Xt f y fs)))
def znf (X:Cx) (op:Operator) (rd:V->V->Hp->VK->Prop):Prop:=
 ∀(pins:List (Addr×Obj)) (s:Shared) (σ:St) (H:Hp) (x y:V) (u v:Value) (Q:VK),Inv X pins σ H s->yN x u->yN y v->rd x y H Q->wpAny (model X.prog X.w) X.A (inplaceOp op u v) (EP X pins σ Q) X.xe s
def zgI (K:rF) (ta tv:TE) (rd:V->V->Hp->VK->Prop) (f:Str):TS:=λD σ H=>ta σ H λx H1=>∃a C dx fs v,x= .ref a/\H1 a=some (.ins C dx fs)/\Cls K C/\Ye K C f/\fs.lookup f=some v/\
 tv σ H1 λy H2=>rd v y H2 λz H3=>∃dx' fs',H3 a=some (.ins C dx' fs')/\fs'.length<1000/\D.nx σ (upd H3 a (.ins C dx' (Xt f z fs')))
section
variable {X:Cx} {o e value:Expr} {f:Str} {pos pos' i9:Pos} {ta tv:TE}
theorem UB (he:PE X e ta) (hb:attributeBase e f X.env (eval e X.env)=eval e X.env):PE X (.Attribute e f pos) (znd X.K ta f):=by
 intro pins s σ H Q I h
 refine zki hb (thn (he pins s σ H _ I h) ?_)
 rintro u s1 ⟨x,H1,I1,rx,a,C,dx,fs,v,ex,ea,c,n,l,q⟩
 subst ex
 obtain rfl:u=Value.ref a:=rx
 exact za8 I1 ea c n l λu' s2 I2 ru=>⟨v,H1,I2,ru,q⟩
theorem zic (ha:PE X o ta) (hv:PE X value tv) (hs:swapsWith value (some (.Attribute o f pos')) pos.line X.env=pure false):PS X (.Assign [.Attribute o f pos'] value pos) (zne X.K ta tv f):=by
 intro pins s σ H D I h
 refine plainObj_wpAny_Assign_Attribute (thn (hv pins s σ H _ I h) ?_) hs
 rintro u s1 ⟨y,H1,I1,ry,q⟩
 refine thn (ha pins s1 σ H1 _ I1 q) ?_
 rintro ov s2 ⟨x,H2,I2,rx,a,C,dx,fs,ex,ea,c,n,l,q2⟩
 subst ex
 obtain rfl:ov=Value.ref a:=rx
 exact za9 I2 ea c n l ry λs3 I3=>⟨σ,_,I3,q2⟩
theorem zhq {op:Operator} {rd:V->V->Hp->VK->Prop} (ha:PE X o ta) (hv:PE X value tv) (lB:znf X op rd):PS X (.AugAssign (.Attribute o f i9) op value pos) (zgI X.K ta tv rd f):=by
 intro pins s σ H D I h
 refine wpAny_AugAssign_AttributeAny (thn (ha pins s σ H _ I h) ?_)
 rintro ov s1 ⟨x,H1,I1,rx,a,C,dx,fs,v,ex,ea,c,n,l,q⟩
 subst ex
 obtain rfl:ov=Value.ref a:=rx
 refine za8 I1 ea c n l λu s2 I2 ru=>thn (hv pins s2 σ H1 _ I2 q) ?_
 rintro w3 s3 ⟨y,H2,I3,ry,q3⟩
 refine thn (lB pins s3 σ H2 v y u w3 _ I3 ru ry q3) ?_
 rintro w4 s4 ⟨z,H3,I4,rz,dx',fs',ea',l',q4⟩
 exact za9 I4 ea' c n l' rz λs5 I5=>⟨σ,_,I5,q4⟩
def zng:V->V->Hp->VK->Prop:=λx y H Q=>∃i j,x= .int i/\y= .int j/\Q (.int (i+j)) H
theorem zl3:znf X .Add zng:=by
 rintro pins s σ H x y u v Q I rx ry ⟨i,j,rfl,rfl,q⟩
 obtain⟨t,rfl⟩:=(show ∃t,u=Value.int i t from rx)
 obtain⟨t',rfl⟩:=(show ∃t',v=Value.int j t' from ry)
 exact PyProof.Rows.iadd_int ⟨.int (i+j),H,I.tok _,⟨_,rfl⟩,q⟩
end
section
variable {X:Cx} {pins:List (Addr×Obj)} {σ:St} {H:Hp} {s:Shared} {A:Around} {E:Value->Shared->Prop} {Q:Value->Shared->Prop} {c:Value} {b:Bool}
inductive zaF (K:rF) (H:Hp):V->Value->Prop where
 |non:zaF K H .non (.type "NoneType")
 |bl (x:Bool):zaF K H (.bl x) (.type "bool")
 |int (i:Int):zaF K H (.int i) (.type "int")
 |str (x:Str):zaF K H (.str x) (.type "str")
 |flt (x:UInt64):zaF K H (.flt x) (.type "float")
 |lst {a:Addr} {xs:List V} (e:H a=some (.lst xs)):zaF K H (.ref a) (.type "list")
 |frz {a:Addr} {o:Obj} {xs:List V} (e:H a=some (.frz o (.lst xs))):zaF K H (.ref a) (.type "list")
 |tup {a:Addr} {xs:List V} (e:H a=some (.tup xs)):zaF K H (.ref a) (.type "tuple")
 |dK {a:Addr} {cL:List (Key×V)} (e:H a=some (.dK cL)):zaF K H (.ref a) (.type "dict")
 |dT {a:Addr} {cL:List (List Key×V)} (e:H a=some (.dT cL)):zaF K H (.ref a) (.type "dict")
 |ins {a C dx:Addr} {fs:List (Str×V)} (e:H a=some (.ins C dx fs)) (cl:Cls K C) (ha:sf K (.ref C) "__class__"=some (some (.builtin "object.__class__")))
   (hn:x5 K (.builtin "object.__class__") "__get__"=some (some (.builtin "getset_descriptor.__get__"))) (htk:AF K (.builtin "object.__class__")=some true)
   (hm:rS K C (.type "object")=some true):zaF K H (.ref a) (.ref C)
end
structure ZQ (k:Nat) (A:Around):Prop where
 hd:A.handled=none
 dp:A.depth+3*k+5<recursionLimit
 un:A.units+16*k+200<cLine
 gd:A.guards=some []
theorem ZQ.mono {j k:Nat} {A:Around} (r:ZQ k A) (h:j<=k):ZQ j A:=⟨r.hd,by have:=r.dp;omega,by have:=r.un;omega,r.gd⟩
theorem ZQ.deeper {k:Nat} {A:Around} (r:ZQ (k+1) A) (env:Env):ZQ k (A.deeper env):=
 ⟨r.hd,by have:=r.dp;show A.depth+1+3*k+5<_;omega,by have:=r.un;show A.units+3+16*k+200<_;omega,r.gd⟩
theorem zfH {A:Around} {C:Addr} {us:List Value} {kw:List (Str×Value)}:(A.under (.builtin "type.__call__" ⟨.ref C::us,kw⟩)).depth=A.depth+1:=by
 first|rfl|simp[Around.under,Code.weight,Code.isCreation,Code.isGuard,Code.isCaller,Code.frames,Code.isFrame,guardIds]
theorem zfI {A:Around} {C:Addr} {us:List Value} {kw:List (Str×Value)}:(A.under (.builtin "type.__call__" ⟨.ref C::us,kw⟩)).units=A.units+1:=by
 first|rfl|simp[Around.under,Code.cUnits,Code.frames,Code.isFrame]
theorem ZQ.make {k:Nat} {A:Around} (r:ZQ (k+1) A) (C:Addr) (us:List Value) (kw:List (Str×Value)):ZQ k (A.under (.builtin "type.__call__" ⟨.ref C::us,kw⟩)):=
 ⟨r.hd,by have:=r.dp;rw[zfH];omega,by have:=r.un;rw[zfI];omega,r.gd⟩
theorem ZQ.depth {k:Nat} {A:Around} (r:ZQ k A):A.depth<recursionLimit:=by have:=r.dp;omega
theorem ZQ.units {k:Nat} {A:Around} (r:ZQ k A):A.units+64<cLine:=by have:=r.un;omega
def zfJ:TA:=λ_ H Q=>Q [] H
def zaw (ta:TE) (tr:TA):TA:=λσ H Q=>ta σ H λx H1=>tr σ H1 λxs H2=>Q (x::xs) H2
section
variable {X:Cx} {e:Expr} {es:List Expr} {te:TE} {t:TA} {pos:Pos}
theorem zg:PA X [] zfJ:=λ_ _ _ _ H Q I h=>Calls.spliced_nil ⟨[],H,I,.nil,h⟩
theorem za (ha:PE X e te) (hr:PA X es t) (hs:starEach (e::es) X.env=(false,eval e X.env)::starEach es X.env:=by rfl):PA X (e::es) (zaw te t):=by
 intro pos pins s σ H Q I h
 rw[hs]
 show wpAny _ _ (spliced ((false,eval e X.env)::backTo pos (starEach es X.env))) _ _ s
 refine Calls.spliced_cons (thn (ha pins s σ H _ I h) ?_)
 rintro u s1 ⟨x,H1,I1,r1,q1⟩
 refine thn (hr pos pins s1 σ H1 _ I1 q1) ?_
 rintro us s2 ⟨xs,H2,I2,r2,q2⟩
 exact⟨x::xs,H2,I2,.cons r1 r2,q2⟩
def znh (t:TA):TE:=λσ H Q=>t σ H λxs H1=>xs.length<=sizeLine/\∀p,H1 p=none->Q (.ref p) (upd H1 p (.tup xs))
def zni (t:TA):TE:=λσ H Q=>t σ H λxs H1=>xs.length<=sizeLine/\∀p,H1 p=none->Q (.ref p) (upd H1 p (.lst xs))
theorem yk {x1} (h:PA X es t):PE X (.Tuple es x1 pos) (znh t):=by
 intro pins s σ H Q I hq
 refine wpAny_Tuple_spliced (thn (h pos pins s σ H _ I hq) λus s1 ⟨xs,H1,I1,r,z,q⟩=>⟨by rw[<-r.length];exact z,?_⟩)
 have hf:H1 s1.heap.objs.size=none:=I1.hok.fresh (rL _)
 refine⟨.ref s1.heap.objs.size,upd H1 s1.heap.objs.size (.tup xs),I1.laid (t':=s1.toks) (λb u e=>Heap.get?_push_of_some _ e) (rL _) ?_,rfl,q _ hf⟩
 exact⟨z,us,r,⟨_,Heap.get?_push_size _ rfl,rfl,_,rfl⟩⟩
theorem vZ (h:PA X es t):PE X (.List es pos) (zni t):=by
 intro pins s σ H Q I hq
 refine wpAny_List_spliced (thn (h pos pins s σ H _ I hq) λus s1 ⟨xs,H1,I1,r,z,q⟩=>⟨by rw[<-r.length];exact z,?_⟩)
 have hf:H1 s1.heap.objs.size=none:=I1.hok.fresh (rL _)
 refine⟨.ref s1.heap.objs.size,upd H1 s1.heap.objs.size (.lst xs),I1.laid (t':=s1.toks) (λb u e=>Heap.get?_push_of_some _ e) (rL _) ?_,rfl,q _ hf⟩
 exact⟨z,us,0,r,Heap.get?_push_size _ rfl⟩
end
abbrev Sp:=List V->Hp->VK->XK->Prop
abbrev CXT:=List Env->Hp->Shared->XK->Value->Shared->Prop
structure zfK (P:Program) (w:World) (K:rF) (mg:Str->Option Value) (base:Heap) (A:Around) (outer:List Env) (s:Shared) (H:Hp):Prop where
 frames:A.frames=some outer
 mod:Mod K mg base
 bs:∀b o,base.get? b=some o->s.heap.get? b=some o/\H b=none
 bsz:base.objs.size<=s.heap.objs.size
 funs:s.heap.FunFrames base outer
 frf:∀b∈frs outer,H b=none
 hok:HOk P w H s.heap
 bare:AllBare s.gens
def CE (outer:List Env) (P:Program) (w:World) (H:Hp) (s:Shared) (Q:VK) (u:Value) (s':Shared):Prop:=
 ∃v H',s'.os=s.os/\AllBare s'.gens/\Un (frs outer) [] H H' s.heap s'.heap/\HOk P w H' s'.heap/\yN v u/\Q v H'
def CR (CX:CXT) (outer:List Env) (P:Program) (w:World) (H:Hp) (s:Shared) (Q:VK) (E:XK) (r:Result) (s':Shared):Prop:=
 match r with
 | .ok (.ret u)=>CE outer P w H s Q u s'
 | .ok _=>False
 | .error e=>CX outer H s E e s'
structure yA (P:Program) (w:World) (K:rF) (mg:Str->Option Value) (base:Heap) (CX:CXT) (k:Nat) (f:Addr) (fd:FuncData) (ps:List Str) (sp:Sp):Prop where
 len:∀vs H Q E,sp vs H Q E->vs.length=ps.length
 run:∀(A:Around) (outer:List Env) (s:Shared) (H:Hp) (args:Args) (us:List Value) (vs:List V) (Q:VK) (E:XK),ZQ k A->zfK P w K mg base A outer s H->BindsTo s fd args (ps.zip us)->yt vs us->sp vs H Q E->
  codeAny (model P w) A (.call (.ref f) args) (CR CX outer P w H s Q E) s
theorem yA.imp {P:Program} {w:World} {K:rF} {mg:Str->Option Value} {base:Heap} {CX:CXT} {k:Nat} {f:Addr} {fd:FuncData} {ps:List Str} {sp sp':Sp} (F:yA P w K mg base CX k f fd ps sp)
  (h:∀vs H Q E,sp' vs H Q E->sp vs H Q E):yA P w K mg base CX k f fd ps sp':=
 ⟨λvs H Q E q=>F.len vs H Q E (h _ _ _ _ q),λA outer s H args us vs Q E hr he hb hv hs=>F.run A outer s H args us vs Q E hr he hb hv (h _ _ _ _ hs)⟩
theorem zfK.make {P:Program} {w:World} {K:rF} {mg:Str->Option Value} {base:Heap} {A:Around} {outer:List Env} {s:Shared} {H:Hp} (e:zfK P w K mg base A outer s H) (C:Addr) (us:List Value) (kw:List (Str×Value)):
  zfK P w K mg base (A.under (.builtin "type.__call__" ⟨.ref C::us,kw⟩)) outer s H:=⟨by first|exact e.frames|(simpa [Around.under,Code.envs,Code.isFrame,pushEnvs] using e.frames),e.mod,e.bs,e.bsz,e.funs,e.frf,e.hok,e.bare⟩
section
variable {X:Cx} {pins:List (Addr×Obj)} {σ:St} {H:Hp} {s s':Shared}
theorem Inv.env0 (I:Inv X pins σ H s):zfK X.prog X.w X.K X.mg X.base X.A X.stack s H:=
 ⟨I.ok.frames,I.ok.mod,I.bs,si I.ok.bsz I.sz,I.stack,I.stkFree,I.hok,I.bare⟩
theorem Inv.after {Q:VK} {u:Value} (I:Inv X pins σ H s) (h:CE X.stack X.prog X.w H s Q u s'):EP X pins σ Q u s':=by
 obtain⟨v,H',os,bare,un,hok,r,q⟩:=h
 obtain⟨hh,g,d,t,os'⟩:=s'
 obtain rfl:os'=s.os:=os
 exact⟨v,H',I.call (h':=hh) (g':=g) (d':=d) (t':=t) (ch:=[]) un hok bare (λb z=>absurd z (by simp)),r,q⟩
end
def zls (sp:Sp) (eY:List V) (E:XK) (t:TA):TE:=λσ H Q=>t σ H λvs H1=>sp (vs++eY) H1 Q E
def zlt (C:Addr) (m:Str) (sp:Sp) (eY:List V) (E:XK) (ta:TE) (t:TA):TE:=λσ H Q=>ta σ H λx H1=>∃a dx fs,x= .ref a/\H1 a=some (.ins C dx fs)/\fs.lookup m=none/\
 t σ H1 λvs H2=>sp (x::(vs++eY)) H2 Q E
def zlu (C:Addr) (sp:Sp) (eY:List V) (E:XK) (t:TA):TE:=λσ H Q=>t σ H λvs H1=>∀x dx,H1 x=none->H1 dx=none->dx≠x->
 sp (.ref x::(vs++eY)) (upd (upd H1 dx (.own x)) x (.ins C dx [])) (λv H2=>v= .non/\Q (.ref x) H2) E
def Ut (K:rF) (fd:FuncData) (ps:List Str) (ds:List Value):Prop:=
 ∀(s:Shared) (us:List Value),K.In s.heap->(us++ds).length=ps.length->BindsTo s fd ⟨us,[]⟩ (ps.zip (us++ds))
theorem Ut.all {K:rF} {fd:FuncData} {ps:List Str} (h:∀us:List Value,us.length=ps.length->bindArgs fd ⟨us,[]⟩=pure (ps.zip us)):Ut K fd ps []:=λs us _ hl=>by
 rw[sI] at hl ⊢
 exact .of_eq (h us hl)
def UC (CX:CXT) (X:Cx) (E:XK):Prop:=∀(pins:List (Addr×Obj)) (σ:St) (H:Hp) (s:Shared) (e:Value) (s':Shared),Inv X pins σ H s->CX X.stack H s E e s'->X.xe e s'
section
variable {X:Cx} {CX:CXT} {k:Nat} {f C:Addr} {fd:FuncData} {ps:List Str} {sp:Sp} {eY:List V} {ds:List Value} {E:XK} {x m:Str} {p pos apos:Pos} {e o:Expr} {es:List Expr} {ta:TE} {t:TA}
theorem zid {pins:List (Addr×Obj)} {σ:St} {H:Hp} {s:Shared} {Q:VK} {us:List Value} {vs:List V} (F:yA X.prog X.w X.K X.mg X.base CX k f fd ps sp) (hr:ZQ k X.A) (hb:Ut X.K fd ps ds) (hd:yt eY ds) (hx:UC CX X E)
  (I:Inv X pins σ H s) (r:yt vs us) (h:sp (vs++eY) H Q E):wpAny (model X.prog X.w) X.A (call (.ref f) us) (EP X pins σ Q) X.xe s:=by
 have r2:yt (vs++eY) (us++ds):=r.append hd
 have hl:(us++ds).length=ps.length:=by rw[<-r2.length];exact F.len _ _ _ _ h
 refine wpAny_call (codeAny_mono (F.run X.A X.stack s H ⟨us,[]⟩ (us++ds) (vs++eY) Q E hr I.env0 (hb s us I.kIn hl) r2 h) λr s' hq=> ?_)
 cases r with
 |error e=>exact hx pins σ H s e s' I hq
 |ok fl=>
  cases fl with
  |ret u=>exact I.after hq
  |next=>exact tZ hq
  |brk=>exact tZ hq
  |cont=>exact tZ hq
theorem zv (F:yA X.prog X.w X.K X.mg X.base CX k f fd ps sp) (hr:ZQ k X.A) (hg:Gl X x) (hm:X.mg x=some (.ref f)) (hk:ua X.K (.ref f)=true) (hb:Ut X.K fd ps ds) (hd:yt eY ds) (hx:UC CX X E)
  (ha:PA X (e::es) t) (iM:(x==("__debug__":Str))=false:=by decide) (he:starEach (e::es) X.env=(false,eval e X.env)::starEach es X.env:=by rfl) (eW:(backTo pos (starEach es X.env)).any (·.1)=false:=by rfl):
  PE X (.Call (.Name x p) (e::es) [] pos) (zls sp eY E t):=by
 intro pins s σ H Q I h
 refine wpAny_Call_Name_kw (zaQ I hg hm ?_ iM)
 refine Aa (h₀:=X.base) I.ok.mod.kin hk (thn (ha pos pins s σ H _ I h) ?_) he eW
 rintro us s1 ⟨vs,H1,I1,r,q⟩
 refine⟨I1.kIn,?_⟩
 exact zid F hr hb hd hx I1 r q
theorem Wn {pl:Sem Bool} (he:PE X o ta) (c:Cls X.K C) (hm:zl2 X.K C m f) (F:yA X.prog X.w X.K X.mg X.base CX k f fd ps sp) (hr:ZQ k X.A) (hb:Ut X.K fd ps ds) (hd:yt eY ds) (hx:UC CX X E) (ha:PA X (e::es) t)
  (g7:starEach (e::es) X.env=(false,eval e X.env)::starEach es X.env:=by rfl) (eW:(backTo pos (starEach es X.env)).any (·.1)=false:=by rfl)
  (ht:eval (.Call (.Attribute o m apos) (e::es) [] pos) X.env=(do
   let ov <-eval o X.env
   standAt apos.atName
   let (f,first) <-holding [ov] (getMethod ov m pl)
   callWith pos f first (backTo pos (starEach (e::es) X.env)) (backToKw pos (keywordEach [] X.env))):=by rfl):
  PE X (.Call (.Attribute o m apos) (e::es) [] pos) (zlt C m sp eY E ta t):=by
 intro pins s σ H Q I h
 refine PySem.W.methodCall_KW (pl:=pl) (thn (he pins s σ H _ I h) ?_) ht
 rintro u s1 ⟨x,H1,I1,rx,a,dx,fs,ex,ea,l,q⟩
 subst ex
 obtain rfl:u=Value.ref a:=rx
 refine zfG I1 ea c hm l ?_
 refine Aa (first:=[.ref a]) (h₀:=X.base) I.ok.mod.kin hm.kp (thn (ha pos pins s1 σ H1 _ I1 q) ?_) g7 eW
 rintro us s2 ⟨vs,H2,I2,r,q2⟩
 refine⟨I2.kIn,?_⟩
 exact zid (us:= .ref a::us) (vs:= .ref a::vs) F hr hb hd hx I2 (.cons rfl r) q2
structure Mk (K:rF) (C f:Addr):Prop where
 makes:AB K C=true
 init:sf K (.ref C) "__init__"=some (some (.ref f))
 fn:z3 K (.ref f)=true
 kp:ua K (.ref C)=true
theorem zie {pins:List (Addr×Obj)} {σ:St} {H:Hp} {s:Shared} {Q:VK} {us:List Value} {vs:List V} (M:Mk X.K C f) (F:yA X.prog X.w X.K X.mg X.base CX k f fd ps sp) (hr:ZQ (k+1) X.A) (hb:Ut X.K fd ps ds) (hd:yt eY ds)
  (hx:UC CX X E) (I:Inv X pins σ H s) (r:yt vs us)
  (h:∀x dx,H x=none->H dx=none->dx≠x->sp (.ref x::(vs++eY)) (upd (upd H dx (.own x)) x (.ins C dx [])) (λv H2=>v= .non/\Q (.ref x) H2) E):
  wpAny (model X.prog X.w) X.A (call (.ref C) us) (EP X pins σ Q) X.xe s:=by
 have hq:=h (s.heap.objs.size+1) s.heap.objs.size (I.hok.fresh (t5 _)) (I.hok.fresh (rL _)) (sA (tU _))
 have I2:=Inv.made (C:=C) I
 have r2:yt (V.ref (s.heap.objs.size+1)::(vs++eY)) (Value.ref (s.heap.objs.size+1)::(us++ds)):= .cons rfl (r.append hd)
 have hl:(Value.ref (s.heap.objs.size+1)::us++ds).length=ps.length:=by
  have e:=r2.length
  rw[F.len _ _ _ _ hq] at e
  exact e.symm
 refine wpAny_call (zib (f:=f) I.kIn M.makes M.init (beq_iff_eq.mp M.fn) (codeAny_mono (F.run _ X.stack _ _ ⟨Value.ref (s.heap.objs.size+1)::us,[]⟩ (Value.ref (s.heap.objs.size+1)::(us++ds)) _ _ E (hr.make C us [])
  (I2.env0.make C us []) (hb _ (Value.ref (s.heap.objs.size+1)::us) I2.kIn hl) r2 hq) λr s' fS=> ?_))
 cases r with
 |error e=>exact hx pins σ _ _ e s' I2 fS
 |ok fl=>
  cases fl with
  |ret u=>
   obtain⟨v,H',I3,rv,ev,q3⟩:=I2.after fS
   subst ev
   exact⟨rv,⟨V.ref (s.heap.objs.size+1),H',I3,rfl,q3⟩⟩
  |next=>exact tZ fS
  |brk=>exact tZ fS
  |cont=>exact tZ fS
theorem zkj (M:Mk X.K C f) (F:yA X.prog X.w X.K X.mg X.base CX k f fd ps sp) (hr:ZQ (k+1) X.A) (hg:Gl X x) (hm:X.mg x=some (.ref C)) (hb:Ut X.K fd ps ds) (hd:yt eY ds) (hx:UC CX X E)
  (ha:PA X (e::es) t) (iM:(x==("__debug__":Str))=false:=by decide) (he:starEach (e::es) X.env=(false,eval e X.env)::starEach es X.env:=by rfl) (eW:(backTo pos (starEach es X.env)).any (·.1)=false:=by rfl):
  PE X (.Call (.Name x p) (e::es) [] pos) (zlu C sp eY E t):=by
 intro pins s σ H Q I h
 refine wpAny_Call_Name_kw (zaQ I hg hm ?_ iM)
 refine Aa (h₀:=X.base) I.ok.mod.kin M.kp (thn (ha pos pins s σ H _ I h) ?_) he eW
 rintro us s1 ⟨vs,H1,I1,r,q⟩
 refine⟨I1.kIn,?_⟩
 exact zie M F hr hb hd hx I1 r q
end
section
variable {X:Cx} {CX:CXT} {k:Nat} {f C:Addr} {fd:FuncData} {ps ks:List Str} {sp:Sp} {E:XK} {x m:Str} {p pos apos oy:Pos} {e o:Expr} {es:List Expr} {qB:List Keyword} {te ta:TE} {t tk:TA} {nm:Option Str}
structure zn6 (K:rF) (fd:FuncData) (ps ks:List Str) (g:List Value->List Value->List Value) (gV:List V->List V->List V):Prop where
 to:∀(s:Shared) (us ws:List Value),K.In s.heap->(g us ws).length=ps.length->BindsTo s fd ⟨us,ks.zip ws⟩ (ps.zip (g us ws))
 rel:∀{vs:List V} {us:List Value} {zs:List V} {ws:List Value},yt vs us->yt zs ws->yt (gV vs zs) (g us ws)
variable {g:List Value->List Value->List Value} {gV:List V->List V->List V}
end
structure zY (N P:List Str) (sc:Scope):Prop where
 kind:sc.kind= .function
 co:sc.isCoroutine=false
 gen:sc.isGenerator=false
 nd:N.Nodup
 pre:N.take P.length=P
 par:∀x∈P,sc.names.lookup x=some .local\/sc.names.lookup x=some .cell
 nofree:∀y∈sc.names,y.2≠ .free
theorem zcH {kindOf:Str->Option NameKind} {x:Str}:∀{binds:List (Str×Value)} {m:Str->Option Value},(∀v,(x,v)∉binds)->bindL kindOf binds m x=m x
 |[],_,_=>rfl
 |(n,v)::r,m,h=>by
  unfold bindL
  rw[zcH λw hw=>h w (rT _ hw)]
  split
  ·have:x≠n:=by rintro rfl;exact h v sj
   simp[this]
  ·rfl
theorem zcI {kindOf:Str->Option NameKind} {x:Str}:∀{binds:List (Str×Value)} {m:Str->Option Value},(∀v,(x,v)∉binds)->bindC kindOf binds m x=m x
 |[],_,_=>rfl
 |(n,v)::r,m,h=>by
  unfold bindC
  rw[zcI λw hw=>h w (rT _ hw)]
  split
  ·rfl
  ·have:x≠n:=by rintro rfl;exact h v sj
   simp[this]
theorem zcJ {kindOf:Str->Option NameKind} {x:Str} {v:Value}:∀{P:List Str} {vs:List Value} {i:Nat} {m:Str->Option Value},P.Nodup->P[i]? =some x->vs[i]? =some v->kindOf x=some .local->
  bindL kindOf (P.zip vs) m x=some v
 |[],_,_,_,_,h,_,_=>by simp at h
 |_::_,[],_,_,_,_,h,_=>by simp at h
 |p::P,w::vs,0,m,nd,h1,h2,hk=>by
  simp at h1 h2;subst h1;subst h2
  show bindL kindOf ((p,w)::P.zip vs) m p=_
  unfold bindL
  rw[zcH λv hv=>(z5.mp nd).1 (AG hv).1,if_pos hk]
  simp
 |p::P,w::vs,i+1,m,nd,h1,h2,hk=>by
  show bindL kindOf ((p,w)::P.zip vs) m x=_
  unfold bindL
  exact zcJ (i:=i) (z5.mp nd).2 (by simpa using h1) (by simpa using h2) hk
theorem zcK {kindOf:Str->Option NameKind} {x:Str} {v:Value}:∀{P:List Str} {vs:List Value} {i:Nat} {m:Str->Option Value},P.Nodup->P[i]? =some x->vs[i]? =some v->kindOf x≠some .local->
  bindC kindOf (P.zip vs) m x=some v
 |[],_,_,_,_,h,_,_=>by simp at h
 |_::_,[],_,_,_,_,h,_=>by simp at h
 |p::P,w::vs,0,m,nd,h1,h2,hk=>by
  simp at h1 h2;subst h1;subst h2
  show bindC kindOf ((p,w)::P.zip vs) m p=_
  unfold bindC
  rw[zcI λv hv=>(z5.mp nd).1 (AG hv).1,if_neg hk]
  simp
 |p::P,w::vs,i+1,m,nd,h1,h2,hk=>by
  show bindC kindOf ((p,w)::P.zip vs) m x=_
  unfold bindC
  exact zcK (i:=i) (z5.mp nd).2 (by simpa using h1) (by simpa using h2) hk
noncomputable def Vl (N:List Str) (vs:List V):St:=vs.map some++rN (N.length-vs.length) none
noncomputable def TW (CX:CXT) (P:Program) (w:World) (K:rF) (mg:Str->Option Value) (base:Heap) (N:List Str) (qual:Str) (scope:Scope) (f:Addr) (cd:Value) (A:Around) (outer:List Env) (s:Shared) (H:Hp) (E:XK):Cx where
 prog:=P
 w:=w
 K:=K
 mg:=mg
 base:=base
 A:=A.deeper (envOfC qual scope s.heap.objs.size f cd)
 N:=N
 s₀:=s
 H₀:=H
 env:=envOfC qual scope s.heap.objs.size f cd
 outer:=outer
 stack:=envOfC qual scope s.heap.objs.size f cd::outer
 ex:=[]
 calm:=true
 fn:=λ_=>true
 pn:=[]
 xe:=λe s'=>wpAny (model P w) (A.deeper (envOfC qual scope s.heap.objs.size f cd)) (leaving (envOfC qual scope s.heap.objs.size f cd) e) (λ_ s''=>CX outer H s E e s'') (λe' s''=>CX outer H s E e' s'') s'
theorem zeq {sc:Scope} {n:Nat} {x:Str} (h:sc.names.lookup x=some .cell):∃c,(cellsFrom n sc.names []).lookup x=some c:=by
 have q:=AU sc.names n [] (.inl h)
 exact uv.mp q
theorem zhr {CX:CXT} {P:Program} {w:World} {K:rF} {mg:Str->Option Value} {base:Heap} {N ps:List Str} {qual:Str} {scope:Scope} {f:Addr} {cd:Value} {A:Around} {outer:List Env} {s s1:Shared} {H:Hp} {E:XK} {us:List Value} {vs:List V}
  (S:zY N ps scope) (hd:A.handled=none) (e0:zfK P w K mg base A outer s H) (hl:vs.length=ps.length) (r:yt vs us)
  (x:InCallC s s.heap.objs.size (bindL (envOfC qual scope s.heap.objs.size f cd).kindOf (ps.zip us) λ_=>none) (cellsFrom (s.heap.objs.size+1) scope.names []) (bindC (envOfC qual scope s.heap.objs.size f cd).kindOf (ps.zip us) λ_=>none) s1):
  Inv (TW CX P w K mg base N qual scope f cd A outer s H E) [] (Vl N vs) H s1:=by
 have eW:ps.length<=N.length:=by have:=congrArg ug S.pre;rw[sV] at this;omega
 obtain⟨h1,tk,rfl,hk⟩:=x.done
 have jj:∀b:Addr,b∉(TW CX P w K mg base N qual scope f cd A outer s H E).ex:=λb z=>absurd (show b∈([]:List Addr) from z) (by simp)
 refine⟨⟨e0.mod,S.kind,rfl,rfl,rL _,λy z c h1 h2=> ?_,λy hy=> ?_,λy c _ h=> ?_,λ_=>hd,Around.frames_deeper e0.frames,.inr ⟨rfl,rfl⟩,λb z=>absurd z (jj b),e0.bs,e0.bsz,λb _ _=>jj b,λb z=>absurd z (jj b),e0.funs,e0.frf⟩,
  rfl,e0.bare,Un.kept hk,⟨_,x.toInCall.ns,λi y v h1 h2 h3=> ?_⟩,λy c h=>⟨_,x.cell y c h⟩,e0.hok.fresh (rL _),λy c h=> ?_,λp hp=>absurd (show p∈([]:List (Addr×Obj)) from hp) (by simp),e0.hok.kept hk,?_⟩
 ·exact name_of_addr x.apart (tR h1) (tR h2)
 ·have hy:scope.names.lookup y=some .cell\/scope.names.lookup y=some .free:=hy
  rcases hy with hy|hy
  ·exact zeq hy
  ·exact absurd rfl (S.nofree _ (tR hy))
 ·exact tK (x.above y c (tR h))
 ·have hi:i<vs.length:=by
   unfold Vl at h2
   by_cases hi:i<vs.length
   ·exact hi
   ·rw[sL (by simpa using hi)] at h2
    rw[Ay] at h2
    split at h2<;>cases h2
  have ha:vs[i]? =some v:=by
   unfold Vl at h2
   rw[su (by simpa using hi),rM] at h2
   cases e:vs[i]? with
   |none=>rw[e] at h2;cases h2
   |some a=>rw[e] at h2;cases h2;rfl
  obtain⟨u,hu,rv⟩:=r.get ha
  have hp:ps[i]? =some y:=by
   rw[<-S.pre,List.getElem?_take_of_lt ⋯];exact h1
  have my:ps.Nodup:=by rw[<-S.pre];exact S.nd.sublist (List.take_sublist _ _)
  refine⟨u,rv,?_⟩
  rcases S.par y (rX hp) with k|k
  ·exact .inl ⟨k,zcJ my hp hu k⟩
  ·obtain⟨c,e⟩:=zeq (n:=s.heap.objs.size+1) k
   refine .inr ⟨.inl k,c,e,?_⟩
   have q:=x.cell y c e
   rw[zcK my hp hu (by show scope.names.lookup y≠_;rw[k];decide)] at q
   exact q
 ·exact e0.hok.fresh (tK (x.above y c (tR h)))
 ·unfold Vl
  show _=N.length
  rw[rV,rJ,uG]
  omega
theorem znj {CX:CXT} {P:Program} {w:World} {K:rF} {mg:Str->Option Value} {base:Heap} {k:Nat} {f:Addr} {name qual:Str} {params:Arguments} {body:List Stmt} {scope:Scope} {dV kV doc pm aS ct oc:Value} {an od:Option Addr}
  {fU:Array (Option Value)} {N ps:List Str} {sp:Sp} (lk:K.lookup f=some ⟨oc,od,.func (uh name qual params body scope dV kV doc pm an aS ct),fU⟩) (eP:w5 K aS qual=true) (S:zY N ps scope)
  (len:∀vs H Q E,sp vs H Q E->vs.length=ps.length)
  (gg:∀(A:Around) (outer:List Env) (s:Shared) (H:Hp) (vs:List V) (Q:VK) (E:XK),ZQ k (A.deeper (envOfC qual scope s.heap.objs.size f aS))->sp vs H Q E->
   ∃t,PSs (TW CX P w K mg base N qual scope f aS A outer s H E) body t/\t {nx:=λ_ H'=>Q .non H',rt:=Q} (Vl N vs) H):
  yA P w K mg base CX (k+1) f (uh name qual params body scope dV kV doc pm an aS ct) ps sp:=by
 refine⟨len,λA outer s H args us vs Q E hr e0 hb r h8=> ?_⟩
 have hl:=len _ _ _ _ h8
 have KX:K.In s.heap:=e0.mod.kin.keeps λb o e=>(e0.bs b o e).1
 have lim:s.heap.NoLimit:=e0.mod.nolimit.keeps λb o e=>(e0.bs b o e).1
 have jw:∀y∈ps.zip us,scope.names.lookup y.1=some .local\/(scope.names.lookup y.1=some .cell/\((cellsFrom (s.heap.objs.size+1) scope.names []).lookup y.1).isSome=true):=λ⟨n,v⟩ hy=>by
  rcases S.par n (AG hy).1 with q|q
  ·exact .inl q
  ·exact .inr ⟨q,AU _ _ _ (.inl q)⟩
 refine codeAny_call_function hr.depth (KX _ _ lk) rfl S.co S.gen rfl (PySem.W.codeRec_of KX eP) (hb _ _ _ _ ?_)
 refine wpAny_newFunctionEnv_cells S.kind jw λenv he s1 x=> ?_
 subst he
 refine⟨lim.keeps x.toInCall.keep,codeAny_func ?_⟩
 obtain⟨t,ht,hq⟩:=gg A outer s H vs Q E (hr.deeper _) h8
 have I:Inv (TW CX P w K mg base N qual scope f aS A outer s H E) [] (Vl N vs) H s1:=zhr S hr.hd e0 hl r x
 refine wpAny_mono (ht [] s1 (Vl N vs) H _ I hq) (λfl s' hs=> ?_) λe s' hs=>hs
 have fin:∀{σ':St} {H':Hp} {v:V} {u:Value},Inv (TW CX P w K mg base N qual scope f aS A outer s H E) [] σ' H' s'->yN v u->Q v H'->CE outer P w H s Q u s':=
  λ{σ' H' v u} J rv q=>⟨v,H',J.os,J.bare,J.base,J.hok,rv,q⟩
 cases fl with
 |ret u=>
  obtain⟨v,σ',H',J,rv,q⟩:=hs
  exact fin J rv q
 |next=>
  obtain⟨σ',H',J,q⟩:=hs
  exact fin (v:=V.non) (u:=Value.none) J rfl q
 |brk=>
  obtain⟨_,_,_,q⟩:=hs
  exact tZ q
 |cont=>
  obtain⟨_,_,_,q⟩:=hs
  exact tZ q
section
variable {X:Cx} {x:Str} {p pos:Pos} {e:Expr} {es:List Expr} {t:TA} {id T:String} {r:List V->Hp->VK->Prop}
def tCB (r:List V->Hp->VK->Prop) (t:TA):TE:=λσ H Q=>t σ H λvs H1=>r vs H1 Q
theorem zK (hc:Zw X (.builtin id) r) (hg:Gl X x) (hm:X.mg x=none) (hv:bootBuiltins x=some (.builtin id)) (ha:PA X (e::es) t) (hn:x≠"__name__":=by decide) (iM:(x==("__debug__":Str))=false:=by decide)
  (he:starEach (e::es) X.env=(false,eval e X.env)::starEach es X.env:=by rfl) (eW:(backTo pos (starEach es X.env)).any (·.1)=false:=by rfl):PE X (.Call (.Name x p) (e::es) [] pos) (tCB r t):=by
 intro pins s σ H Q I h
 refine wpAny_Call_Name_kw (YB I hg hm hv ?_ hn iM)
 refine PyProof.Rows.callWith_builtin1 (thn (ha pos pins s σ H _ I h) ?_) he eW
 rintro us s1 ⟨vs,H1,I1,r1,q1⟩
 exact hc pins s1 σ H1 vs us Q I1 r1 q1
theorem wA (hc:Zw X (.type T) r) (hg:Gl X x) (hm:X.mg x=none) (hv:bootBuiltins x=some (.type T)) (ha:PA X (e::es) t) (hn:x≠"__name__":=by decide) (iM:(x==("__debug__":Str))=false:=by decide)
  (he:starEach (e::es) X.env=(false,eval e X.env)::starEach es X.env:=by rfl) (eW:(backTo pos (starEach es X.env)).any (·.1)=false:=by rfl):PE X (.Call (.Name x p) (e::es) [] pos) (tCB r t):=by
 intro pins s σ H Q I h
 refine wpAny_Call_Name_kw (YB I hg hm hv ?_ hn iM)
 refine sP (thn (ha pos pins s σ H _ I h) ?_) he eW
 rintro us s1 ⟨vs,H1,I1,r1,q1⟩
 exact hc pins s1 σ H1 vs us Q I1 r1 q1
end
end L2
namespace HT
open PySem PyProof.Rows
noncomputable def YD:List Int->List Int->Bool
 |[],[]=>false
 |[],_::_=>true
 |_::_,[]=>false
 |x::xs,y::ys=>if x=y then YD xs ys else decide (x<y)
theorem zba (x y:Int) (xs ys:List Int):YD (x::xs) (y::ys)=if x=y then YD xs ys else decide (x<y):=rfl
theorem zcd:YD [] []=false:=rfl
theorem zbb (y:Int) (ys:List Int):YD [] (y::ys)=true:=rfl
theorem zbc (x:Int) (xs:List Int):YD (x::xs) []=false:=rfl
theorem zif (A:Around) (s:Shared) (a:Int) (t:Tok) (c:Int) (u:Tok):∃e,SeqAt.EqAt A s (.int a t) (.int c u) e/\(e=true↔a=c):=
 ⟨(a==c),SeqAt.EqAt.int_int a t c u,by simp⟩
theorem zig (A:Around) (s:Shared) (a:Int) (t:Tok) (c:Int) (u:Tok) (prog:Program) (w:World) (E:Value->Shared->Prop) (Q:Value->Shared->Prop) (h:Q (.bool (decide (a<c))) s):
  wpAny (model prog w) A (richCompare .Lt (.int a t) (.int c u)) Q E s:=
 (PyProof.Rows.lt_int h:wpAny (model prog w) A (compareOp .Lt (.int a t) (.int c u)) Q E s)
section
open PySem.SeqAt
open PySem.AutoSeq1 (wpAny_loadPart')
open PySem.MeetsSeq PySem.MeetsSeq2 PySem.MeetsSeq3
theorem zce (l b:Addr) (items bQ:Array Value) (n n2:Nat) (dd i7:Option Addr) (sl gE:Array (Option Value)) (ns ms:List Int) (hi:IntsAre items.toList ns) (hj:IntsAre bQ.toList ms):
  Meets (Builtin.«tuple.__lt__» ⟨[.ref l,.ref b],[]⟩)
   (λ_ R s=>s.heap.get? l=some {cls:= .type "tuple",dict:=dd,data:= .seq items n,slots:=sl}/\s.heap.get? b=some {cls:= .type "tuple",dict:=i7,data:= .seq bQ n2,slots:=gE}/\
    R (.ok (.ret (.bool (YD ns ms)))) s):=
 .of_wp λprog w A R s h=>by
  obtain⟨hp,g,d,tk,os⟩:=s;obtain⟨hl,hb,h⟩:=h
  have f2:=AutoSeq1.sub_tuple_tuple
  have z1:items.size=ns.length:=by rw[<-hi.length];simp
  have z2:bQ.size=ms.length:=by rw[<-hj.length];simp
  wp_walk using wpAny_loadPart' hl,wpAny_loadPart' hb,wpAny_forIn_list _ (λrest b s'=>b.1=none/\s'=⟨hp,g,d,tk,os⟩/\∃(vs ws:List Value) (ns' ms':List Int),rest=vs.zip ws/\
   IntsAre vs ns'/\IntsAre ws ms'/\ns'.length+bQ.size=ms'.length+items.size/\R (.ok (.ret (.bool (YD ns' ms')))) ⟨hp,g,d,tk,os⟩) _
  case turn=>
   rintro⟨y,x⟩ rest b s' ⟨eR,rfl,vs,ws,ns',ms',hz,lh,kf,hlen,hR⟩
   cases lh with
   |nil=>rw[List.zip_nil_left] at hz;cases hz
   |cons a t lg=>
    cases kf with
    |nil=>rw[List.zip_nil_right] at hz;cases hz
    |cons c u kY=>
     rw[Bt] at hz
     injection hz with oI jo
     injection oI with hy hx
     subst hy hx
     rw[zba] at hR
     simp only[rP] at hlen
     obtain⟨e,he,jA⟩:=zif A.in1 ⟨hp,g,d,tk,os⟩ a t c u
     refine wpAny_bind (he prog w _ _ ?_)
     cases e with
     |true=>
      rw[if_pos (jA.mp rfl)] at hR
      wp_walk
      exact⟨rfl,rfl,_,_,_,_,jo,lg,kY,⋯,hR⟩
     |false=>
      rw[if_neg (λq=>absurd (jA.mpr q) sy)] at hR
      have p7:=zig A.in1 ⟨hp,g,d,tk,os⟩ a t c u prog w
      wp_walk using p7
      exact⟨_,rfl,by simpa using hR⟩
  case fin=>
   rintro⟨b1,b2⟩ s' ⟨eR,rfl,vs,ws,ns',ms',hz,lh,kf,hlen,hR⟩
   simp only at eR
   subst eR
   have hv:YD ns' ms'=decide (items.size<bQ.size):=by
    cases lh with
    |nil=>
     cases kf with
     |nil=>
      simp only[z6] at hlen
      rw[zcd]
      exact (decide_eq_false ⋯).symm
     |cons c u hw=>
      simp only[z6,rP] at hlen
      rw[zbb]
      exact (decide_eq_true ⋯).symm
    |cons a t hv=>
     cases kf with
     |nil=>
      simp only[z6,rP] at hlen
      rw[zbc]
      exact (decide_eq_false ⋯).symm
     |cons c u hw=>
      rw[Bt] at hz
      cases hz
   rw[hv] at hR
   wp_walk
   exact⟨_,rfl,by simpa [Builtin.Tuple.tupleCompareSizes] using hR⟩
  case h=>
   exact⟨rfl,rfl,items.toList,bQ.toList,ns,ms,rfl,hi,hj,⋯,h⟩
end
section
variable {prog:Program} {w:World} {A:Around} {E:Value->Shared->Prop} {s:Shared}
theorem zfL {l b:Addr} {items bQ:Array Value} {ns ms:List Int} {Q:Value->Shared->Prop} (hl:IsTup s.heap l items) (hb:IsTup s.heap b bQ) (hi:IntsAre items.toList ns) (hj:IntsAre bQ.toList ms)
  (hu:A.units<cLine) (h:Q (.bool (YD ns ms)) s):wpAny (model prog w) A (compareOp .Lt (.ref l) (.ref b)) Q E s:=by
 obtain⟨⟨cls,dd,data,sl⟩,ho,hc,n,hd⟩:=id hl
 obtain⟨⟨jR,i7,data2,gE⟩,gF,i6,n2,hd2⟩:=id hb
 simp only at hc hd i6 hd2
 subst hc hd i6 hd2
 exact richCompare_meets_room (op:= .Lt) ⟨_,ho,rfl⟩ ⟨_,gF,rfl⟩ PySem.F.slot_tuple_lt PySem.F.entry_tuple_lt (PySem.F.args_tuple_lt_2 _ _) (zce l b items bQ n n2 dd i7 sl gE ns ms hi hj)
  ⟨ho,gF,show Value.bool (YD ns ms)≠Value.notImplemented/\Q (.bool (YD ns ms)) s from ⟨(λx=>nomatch x),h⟩⟩ hu
theorem zkk {t b:Addr} {vs ws:List Value} {Q:Value->Shared->Prop} (ht:IsTup s.heap t vs.toArray) (hb:IsTup s.heap b ws.toArray) (hv:vs≠[])
  (h1:ws=[]->Q (.ref t) s) (h2:ws≠[]->Q (.ref s.heap.objs.size) {s with heap:=s.heap.push {cls:= .type "tuple",data:= .seq (vs++ws).toArray}})
  (eN:vs.length+ws.length<=sizeLine):wpAny (model prog w) A (binaryOp .Add (.ref t) (.ref b)) Q E s:=by
 obtain⟨⟨cls,dd,data,sl⟩,ho,hc,n,hd⟩:=id ht
 obtain⟨⟨jR,i7,data2,gE⟩,gF,i6,n2,hd2⟩:=id hb
 simp only at hc hd i6 hd2
 subst hc hd i6 hd2
 have e:vs.toArray++ws.toArray=(vs++ws).toArray:=by simp
 by_cases hw:ws=[]
 ·exact concat_meets ⟨_,ho,rfl⟩ ⟨_,gF,rfl⟩ noFill_tuple_add seq_tuple_add x9 w6 (v3 _ _)
   (tuple_addW1 t b vs.toArray ws.toArray n n2 dd i7 sl gE (by simpa using hv) (by simp[hw])) ⟨ho,gF,h1 hw⟩
 ·refine concat_meets ⟨_,ho,rfl⟩ ⟨_,gF,rfl⟩ noFill_tuple_add seq_tuple_add x9 w6 (v3 _ _)
   (tuple_addW2 t b vs.toArray ws.toArray n n2 dd i7 sl gE (by simpa using hv) (by simpa using hw) (by rw[rO,rO];exact eN)) ⟨ho,gF,?_⟩
  rw[e]
  exact h2 hw
noncomputable def sIx (n d:Nat):Option Int->Nat
 |none=>d
 |some v=>if v<0 then (v+(n:Int)).toNat else min v.toNat n
theorem zer (n d:Nat):sIx n d none=d:=rfl
theorem zgJ (n d k:Nat):sIx n d (some (k:Int))=min k n:=by
 show (if (k:Int)<0 then ((k:Int)+(n:Int)).toNat else min (k:Int).toNat n)=min k n
 rw[if_neg ⋯,rQ]
theorem zl4 (n d:Nat) (hd:d<=n) (o:Option Int):sIx n d o<=n:=by
 cases o with
 |none=>exact hd
 |some v=>
  show (if v<0 then (v+(n:Int)).toNat else min v.toNat n)<=n
  by_cases hv:v<0
  ·rw[if_pos hv];omega
  ·rw[if_neg hv];exact Nat.min_le_right _ _
theorem zgK (v:Int) (n d:Nat):(if v<0 then max (v+(n:Int)) 0 else min v (n:Int))=((sIx n d (some v):Nat):Int):=by
 show (if v<0 then max (v+(n:Int)) 0 else min v (n:Int))=(((if v<0 then (v+(n:Int)).toNat else min v.toNat n):Nat):Int)
 by_cases hv:v<0
 ·simp only[if_pos hv];omega
 ·simp only[if_neg hv];omega
theorem zfM (lo hi:Option Int) (n:Nat):Builtin.Slice.sliceAdjust lo hi 1 (n:Int)=(((sIx n 0 lo:Nat):Int),((sIx n n hi:Nat):Int)):=by
 have h1:¬((1:Int)<0):=by omega
 unfold Builtin.Slice.sliceAdjust
 simp only[h1,if_false]
 refine Prod.ext ?_ ?_
 ·cases lo with
  |none=>rfl
  |some v=>exact zgK v n 0
 ·cases hi with
  |none=>rfl
  |some v=>exact zgK v n n
theorem zfN (i j:Nat):Builtin.Slice.slicePlaces (i:Int) (j:Int) 1=j-i:=by
 unfold Builtin.Slice.slicePlaces
 have h1:(1:Int)>0:=by omega
 simp only[h1,if_true,Int.ediv_one]
 split<;>omega
theorem zbd {v:Value} {o:Option Int} {Q:Option Int->Shared->Prop} (p:IsPart v o) (h:Q o s):wpAny (model prog w) A (Builtin.Slice.slicePartIndex v) Q E s:=by
 cases p with
 |none=>exact slicePart_none h
 |int i t=>exact slicePart_int h
theorem XV {sl:Addr} {vl vu:Value} {lo hi:Option Int} {n:Nat} {Q:Int×Int×Nat->Shared->Prop} (hs:s.heap.IsSliceOf sl vl vu .none) (pl:IsPart vl lo) (pu:IsPart vu hi)
  (h:Q (((sIx n 0 lo:Nat):Int),1,sIx n n hi-sIx n 0 lo) s):wpAny (model prog w) A (Builtin.Slice.sliceApplied (.ref sl) (pure (n:Int))) Q E s:=by
 obtain⟨os,iD,ko,hZ⟩:=id hs
 unfold Builtin.Slice.sliceApplied Builtin.Slice.sliceFields
 refine wpAny_bind (wpAny_bind (wpAny_field iD hZ (x:=vl) rfl (wpAny_bind (wpAny_field iD hZ (x:=vu) rfl (wpAny_bind (wpAny_field iD hZ (x:= .none) rfl (wpAny_pure ?_)))))))
 refine wpAny_bind (slicePart_none ?_)
 show wpAny _ _ (if ((1:Int)==0)=true then _ else _) _ _ s
 rw[if_neg ∅]
 refine wpAny_bind (zbd pl (wpAny_bind (zbd pu (wpAny_bind (wpAny_pure ?_)))))
 show wpAny _ _ (match Builtin.Slice.sliceAdjust lo hi 1 (n:Int) with|(lo,hi)=>pure (lo,(1:Int),Builtin.Slice.slicePlaces lo hi 1)) _ _ s
 rw[zfM lo hi n]
 show wpAny _ _ (pure (((sIx n 0 lo:Nat):Int),(1:Int),Builtin.Slice.slicePlaces ((sIx n 0 lo:Nat):Int) ((sIx n n hi:Nat):Int) 1)) _ _ s
 rw[zfN]
 exact wpAny_pure h
theorem zih (xs:Array Value) (i k:Nat):((tH k).filterMap λ(m:Nat)=>xs[((i:Int)+(m:Int)*1).toNat]?).toArray=((xs.toList.drop i).take k).toArray:=by
 have e:(λ(m:Nat)=>xs[((i:Int)+(m:Int)*1).toNat]?)=λm=>xs[i+m]? :=by
  funext m
  have:((i:Int)+(m:Int)*1).toNat=i+m:=by omega
  rw[this]
 rw[e]
 have:=pick_run xs i k
 rw[List.filterMap_map] at this
 have e2:((λx=>xs[x]?) ∘ λx=>i+x)=λm=>xs[i+m]? :=rfl
 rw[e2] at this
 rw[this]
theorem UY {t sl:Addr} {items:Array Value} {vl vu:Value} {lo hi:Option Int} {Q:Value->Shared->Prop} (ht:IsTup s.heap t items) (hs:s.heap.IsSliceOf sl vl vu .none) (pl:IsPart vl lo) (pu:IsPart vu hi)
  (hw:¬(sIx items.size 0 lo=0/\sIx items.size items.size hi=items.size))
  (h:Q (.ref s.heap.objs.size) {s with heap:=s.heap.push {cls:= .type "tuple",data:= .seq ((items.toList.drop (sIx items.size 0 lo)).take (sIx items.size items.size hi-sIx items.size 0 lo)).toArray}})
  (eN:items.size<=sizeLine):wpAny (model prog w) A (getItem (.ref t) (.ref sl)) Q E s:=by
 have fI:sizeOk (.seq ((items.toList.drop (sIx items.size 0 lo)).take (sIx items.size items.size hi-sIx items.size 0 lo)).toArray):=by
  show ((items.toList.drop (sIx items.size 0 lo)).take (sIx items.size items.size hi-sIx items.size 0 lo)).toArray.size<=sizeLine
  rw[rO,sV,uM,ux]
  omega
 have hj:sIx items.size items.size hi<=items.size:=zl4 _ _ (rL _) hi
 obtain⟨os,iD,ko,hZ⟩:=id hs
 have m5:s.TypeIs (.ref sl) "slice":=⟨os,iD,ko⟩
 unfold getItem
 try with_reducible refine wpAny_holding ?_
 first|refine wpAny_bind (wpAny_pure ?_)|skip
 refine wpAny_bind (wpAny_sequenceKey ht.typeIs ∅ ?_)
 refine wpAny_bind (wpAny_callSpecial?_slot (name:=Str.ofString "__getitem__") ht.typeIs t7
  (wpAny_call_entry t7 ht.typeIs entry_tuple_getitem ?_ (args_tuple_getitem _ _)))
 show wpAny _ _ (Builtin.Tuple.tupleItemsOf (.ref t)>>=_) _ _ s
 refine wpAny_bind (tupleItemsOf_ ht ?_)
 refine wpAny_bind (wpAny_typeOf m5 ?_)
 rw[if_pos ∅]
 refine wpAny_bind (XV hs pl pu ?_)
 have lF:¬((((sIx items.size 0 lo:Nat):Int)==0&&(1:Int)==1&&(sIx items.size items.size hi-sIx items.size 0 lo)==items.size)=true):=by
  intro q
  rw[tL,tL] at q
  have q1:((sIx items.size 0 lo:Nat):Int)=0:=eq_of_beq q.1.1
  have q2:sIx items.size items.size hi-sIx items.size 0 lo=items.size:=eq_of_beq q.2
  exact hw ⟨⋯,⋯⟩
 show wpAny _ _ (if (((sIx items.size 0 lo:Nat):Int)==0&&(1:Int)==1&&(sIx items.size items.size hi-sIx items.size 0 lo)==items.size)=true then _ else _) _ _ s
 rw[if_neg lF,zih]
 first
  |exact wpAny_bind (m:=Builtin.Tuple.tupleExact _) (wpAny_newObj_type (wpAny_pure ⟨_,rfl,wpAny_pure h⟩) fI)
  |exact wpAny_bind (m:=Builtin.Tuple.tupleExact _) (wpAny_newObj_type (wpAny_bind (wpAny_pure (wpAny_pure ⟨_,rfl,wpAny_pure h⟩))) fI)
  |exact wpAny_bind (wpAny_bind (m:=Builtin.Tuple.tupleExact _) (wpAny_newObj_type (wpAny_pure (wpAny_pure ⟨_,rfl,wpAny_pure h⟩)) fI))
  |exact wpAny_bind (wpAny_bind (m:=Builtin.Tuple.tupleExact _) (wpAny_newObj_type (wpAny_pure ⟨_,rfl,wpAny_pure h⟩) fI))
end
end HT
namespace L2
open PySem PySem.Spec PyProof.Rows
abbrev TO:=St->Hp->(Option Int->Hp->Prop)->Prop
def PO (X:Cx) (e:Option Expr) (t:TO):Prop:=
 ∀(pins:List (Addr×Obj)) (s:Shared) (σ:St) (H:Hp) (Q:Option Int->Hp->Prop),Inv X pins σ H s->t σ H Q->
  wpAny (model X.prog X.w) X.A (evalPart e X.env) (λu s'=>∃o H',Inv X pins σ H' s'/\IsPart u o/\Q o H') X.xe s
def zgL:TO:=λ_ H Q=>Q none H
def zlv (t:TE):TO:=λσ H Q=>t σ H λx H1=>∃i,x= .int i/\Q (some i) H1
theorem zbe {ns:List Int}:∀{us:List Value},yt (ns.map V.int) us->IntsAre us ns:=by
 induction ns with
 |nil=>intro us r;rw[v5] at r;cases r;exact .nil
 |cons n ns ih=>
  intro us r
  rw[sH] at r
  cases r with
  |cons r1 r2=>
   obtain⟨t,e⟩:=r1
   subst e
   exact .cons n t (ih r2)
section
variable {X:Cx} {e:Expr} {te:TE} {lo hi:Option Expr} {tl th:TO} {pos p2:Pos}
theorem YZ:PO X none zgL:=by
 intro pins s σ H Q I h
 rw[evalPart_none]
 exact wpAny_pure ⟨none,H,I,.none,h⟩
theorem ZH (h:PE X e te):PO X (some e) (zlv te):=by
 intro pins s σ H Q I hw
 rw[evalPart_some]
 refine thn (h pins s σ H _ I hw) ?_
 rintro u s1 ⟨x,H1,I1,r1,q1⟩
 obtain⟨i,rfl,q⟩:=q1
 obtain⟨t,rfl⟩:=r1
 exact⟨some i,H1,I1,.int i t,q⟩
def SlR (X:Cx) (r:V->Option Int->Option Int->Hp->VK->Prop):Prop:=
 ∀(pins:List (Addr×Obj)) (s:Shared) (σ:St) (H:Hp) (x:V) (v vl vu:Value) (lo hi:Option Int) (sl:Addr) (Q:VK),Inv X pins σ H s->yN x v->s.heap.IsSliceOf sl vl vu .none->IsPart vl lo->IsPart vu hi->r x lo hi H Q->
  ∃T id,typeLookup (.type T) "__getitem__"=pure (some (.builtin id))/\s.TypeIs v T/\wpAny (model X.prog X.w) X.A (getItem v (.ref sl)) (EP X pins σ Q) X.xe s
def tSl (r:V->Option Int->Option Int->Hp->VK->Prop) (te:TE) (tl th:TO):TE:=λσ H Q=>te σ H λx H1=>tl σ H1 λl H2=>th σ H2 λu H3=>r x l u H3 Q
theorem Za {r:V->Option Int->Option Int->Hp->VK->Prop} (hr:SlR X r) (he:PE X e te) (hl:PO X lo tl) (hu:PO X hi th):PE X (.Subscript e (.Slice lo hi none p2) pos) (tSl r te tl th):=by
 intro pins s σ H Q I h
 refine Subscript_ (thn (he pins s σ H _ I h) ?_)
 rintro v s1 ⟨x,H1,I1,r1,q1⟩
 refine wpAny_Slice (thn (hl pins s1 σ H1 _ I1 q1) ?_)
 rintro vl s2 ⟨l,H2,I2,pl,q2⟩
 refine thn (hu pins s2 σ H2 _ I2 q2) ?_
 rintro vu s3 ⟨u,H3,I3,pu,q3⟩
 rw[evalPart_none]
 refine wpAny_pure ?_
 have I4:Inv X pins σ H3 {s3 with heap:=s3.heap.push {cls:= .type "slice",data:= .fields #[vl,vu,.none]}}:=I3.kept (t':=s3.toks) λb ob q=>Heap.get?_push_of_some _ q
 obtain⟨T,id,hT,ht,hg⟩:=hr pins {s3 with heap:=s3.heap.push {cls:= .type "slice",data:= .fields #[vl,vu,.none]}} σ H3 x v vl vu l u s3.heap.objs.size Q I4 r1 (Heap.IsSliceOf.new ..) pl pu q3
 show wpAny (model X.prog X.w) X.A (subscriptTail e (.Slice lo hi none p2) v (.ref s3.heap.objs.size)) (EP X pins σ Q) X.xe {s3 with heap:=s3.heap.push {cls:= .type "slice",data:= .fields #[vl,vu,.none]}}
 exact tail_any (ops:=[.ref s3.heap.objs.size,v]) ht hT hg (by with_unfolding_all rfl)
noncomputable def zcf (xs:List V) (lo hi:Option Int):List V:=(xs.drop (HT.sIx xs.length 0 lo)).take (HT.sIx xs.length xs.length hi-HT.sIx xs.length 0 lo)
theorem zax (xs:List V) (lo hi:Option Int):(zcf xs lo hi).length<=xs.length:=by
 unfold zcf
 rw[sV,uM]
 omega
def zn7 (K:rF):V->Option Int->Option Int->Hp->VK->Prop:=λx lo hi H Q=>∃a xs,x= .ref a/\SqT K H a xs/\
 ¬(HT.sIx xs.length 0 lo=0/\HT.sIx xs.length xs.length hi=xs.length)/\∀p,H p=none->Q (.ref p) (upd H p (.tup (zcf xs lo hi)))
theorem zl5:SlR X (zn7 X.K):=by
 intro pins s σ H x v vl vu lo hi sl Q I rx hs pl pu h
 obtain⟨a,xs,rfl,hx,hw,q⟩:=h
 cases rx
 obtain⟨ag,r,ht,hz⟩:=I.tuple hx
 have hlen:ag.toArray.size=xs.length:=by rw[rO];exact r.length.symm
 refine⟨"tuple",_,t7.lookup,ht.typeIs,?_⟩
 refine HT.UY ht hs pl pu (by rw[hlen];exact hw) ?_ (by rw[hlen];exact hz)
 rw[hlen]
 refine⟨.ref s.heap.objs.size,_,I.laid (t':=s.toks) (o:= .tup (zcf xs lo hi)) (λb ob q=>Heap.get?_push_of_some _ q) (rL _) ?_,rfl,q _ (I.hok.fresh (rL _))⟩
 exact⟨si (zax xs lo hi) hz,_,(r.drop (HT.sIx xs.length 0 lo)).take (HT.sIx xs.length xs.length hi-HT.sIx xs.length 0 lo),IsTup.new _ _⟩
def zl6 (K:rF):R2:=λx y H Q=>∃a b ns ms,x= .ref a/\y= .ref b/\SqT K H a (ns.map V.int)/\SqT K H b (ms.map V.int)/\Q (.bl (HT.YD ns ms)) H
theorem zl7 (hu:X.A.units<cLine):OpR X (compareOp .Lt) (zl6 X.K):=by
 intro pins s σ H x y v u Q I rx ry h
 obtain⟨a,b,ns,ms,rfl,rfl,ha,hb,q⟩:=h
 cases rx
 cases ry
 obtain⟨ag,r1,p1,_⟩:=I.tuple ha
 obtain⟨bZ,r2,p2,_⟩:=I.tuple hb
 have i1:IntsAre ag.toArray.toList ns:=zbe r1
 have i2:IntsAre bZ.toArray.toList ms:=zbe r2
 exact HT.zfL p1 p2 i1 i2 hu ⟨.bl (HT.YD ns ms),H,I,rfl,q⟩
def znk (K:rF):R2:=λx y H Q=>∃a b xs ys,x= .ref a/\y= .ref b/\SqT K H a xs/\SqT K H b ys/\xs≠[]/\xs.length+ys.length<=sizeLine/\
 (ys=[]->Q (.ref a) H)/\(ys≠[]->∀p,H p=none->Q (.ref p) (upd H p (.tup (xs++ys))))
theorem yt.nil_iff {xs:List V} {us:List Value} (r:yt xs us):us=[]↔xs=[]:=by
 cases r with
 |nil=>simp
 |cons _ _=>simp
theorem zkl:OpR X (binaryOp .Add) (znk X.K):=by
 intro pins s σ H x y v u Q I rx ry h
 obtain⟨a,b,xs,ys,rfl,rfl,ha,hb,hx,hz,q1,q2⟩:=h
 cases rx
 cases ry
 obtain⟨ag,r1,p1,_⟩:=I.tuple ha
 obtain⟨bZ,r2,p2,_⟩:=I.tuple hb
 refine HT.zkk p1 p2 (λz=>hx (r1.nil_iff.mp z)) (λz=>⟨.ref a,H,I,rfl,q1 (r2.nil_iff.mp z)⟩) (λz=> ?_) (by rw[<-r1.length,<-r2.length];exact hz)
 refine⟨.ref s.heap.objs.size,_,I.laid (t':=s.toks) (o:= .tup (xs++ys)) (λb ob q=>Heap.get?_push_of_some _ q) (rL _) ?_,rfl,q2 (λw=>z (r2.nil_iff.mpr w)) _ (I.hok.fresh (rL _))⟩
 exact⟨by rw[rV];exact hz,_,r1.append r2,IsTup.new _ _⟩
end
noncomputable def ixN (n:Nat) (i:Int):Option Nat:=if 0<=i then (if i<n then some i.toNat else none) else if -(n:Int)<=i then some (i+n).toNat else none
noncomputable def atI {α:Type} (xs:List α) (i:Int):Option α:=(ixN xs.length i).bind λj=>xs[j]?
theorem zgM {n:Nat} {i:Int} {j:Nat} (h:ixN n i=some j):seqIndex? i n=some j/\j<n/\ -(n:Int)<=i/\i<n:=by
 unfold ixN at h
 by_cases h0:0<=i
 ·rw[if_pos h0] at h
  by_cases h1:i<n
  ·rw[if_pos h1] at h
   have e:i.toNat=j:=sr h
   exact⟨by rw[seqIndex_of h0 h1,e],⋯,⋯,h1⟩
  ·rw[if_neg h1] at h;cases h
 ·rw[if_neg h0] at h
  by_cases h1: -(n:Int)<=i
  ·rw[if_pos h1] at h
   have e:(i+n).toNat=j:=sr h
   exact⟨by rw[seqIndex_neg ⋯ h1,e],⋯,h1,⋯⟩
  ·rw[if_neg h1] at h;cases h
theorem zdi {α:Type} {xs:List α} {i:Int} {v:α} (h:atI xs i=some v):∃j,seqIndex? i xs.length=some j/\xs[j]? =some v/\j<xs.length/\ -(xs.length:Int)<=i/\i<xs.length:=by
 unfold atI at h
 cases e:ixN xs.length i with
 |none=>rw[e] at h;cases h
 |some j=>
  rw[e] at h
  obtain⟨h1,h2,h3,h4⟩:=zgM e
  exact⟨j,h1,h,h2,h3,h4⟩
def zkm (b:Expr):Prop:=∀o i,subscripted b false o i=operate [o,i] (getItem o i)
def IxR (X:Cx) (r:R2):Prop:=
 ∀(value slice:Expr) (pins:List (Addr×Obj)) (s:Shared) (σ:St) (H:Hp) (x y:V) (v u:Value) (Q:VK),Inv X pins σ H s->yN x v->yN y u->r x y H Q->
  subscripted slice false v u=operate [v,u] (getItem v u)->wpAny (model X.prog X.w) X.A (subscriptTail value slice v u) (EP X pins σ Q) X.xe s
def MtR (X:Cx) (id:String) (r:V->List V->Hp->VK->Prop):Prop:=
 ∀(pins:List (Addr×Obj)) (s:Shared) (σ:St) (H:Hp) (x:V) (xs:List V) (v:Value) (us:List Value) (Q:VK),Inv X pins σ H s->yN x v->yt xs us->r x xs H Q->
  wpAny (model X.prog X.w) X.A (call (.builtin id) (v::us)) (EP X pins σ Q) X.xe s
section
variable {X:Cx} {a b:Expr} {ta tb:TE} {pos:Pos}
theorem IxR.or {r r':R2} (h:IxR X r) (h':IxR X r'):IxR X (λx y H Q=>r x y H Q\/r' x y H Q):=by
 intro value slice pins s σ H x y v u Q I rx ry q hs
 rcases q with q|q
 ·exact h value slice pins s σ H x y v u Q I rx ry q hs
 ·exact h' value slice pins s σ H x y v u Q I rx ry q hs
theorem zx {r:R2} (hr:IxR X r) (ha:PE X a ta) (hb:PE X b tb) (hs:zkm b):PE X (.Subscript a b pos) (tOp r ta tb):=by
 intro pins s σ H Q I h
 exact Subscript_ (zlX ha hb I h λv u s2 x y H2 I2 rx ry q=>hr a b pins s2 σ H2 x y v u Q I2 rx ry q (hs _ _))
def zkn (K:rF):R2:=λx y H Q=>∃p xs i v,x= .ref p/\y= .int i/\SqL K H p xs/\atI xs i=some v/\Q v H
def zko (K:rF):R2:=λx y H Q=>∃p xs i v,x= .ref p/\y= .int i/\SqT K H p xs/\atI xs i=some v/\Q v H
def zl8:R2:=λx y H Q=>∃z i c,x= .str z/\y= .int i/\z.length<=sizeLine/\atI z.cps.toList i=some c/\Q (.str ⟨#[c]⟩) H
theorem zgN:IxR X (zkn X.K):=by
 intro value slice pins s σ H x y v u Q I rx ry h hs
 obtain⟨p,xs,i,z,rfl,rfl,hq,he,q⟩:=h
 cases rx
 obtain⟨t,rfl⟩:=ry
 obtain⟨ag,r,pl,hz⟩:=I.list hq
 obtain⟨j,h1,h2,h3,h4,h5⟩:=zdi he
 obtain⟨w,ew,rw'⟩:=r.get h2
 have hl:=r.length
 have hn:=Vk
 have fin:EP X pins σ Q w s:=⟨z,H,I,rw',q⟩
 by_cases h0:0<=i
 ·have hj:i.toNat=j:=by
   rw[seqIndex_of h0 h5] at h1
   exact sr h1
  exact item_listR pl.isList h0 ⋯ (by rw[hj];simpa using ew) fin hs
 ·have hj:(i+(ag.toArray.size:Int)).toNat=j:=by
   rw[seqIndex_neg ⋯ h4] at h1
   rw[rO,<-hl]
   exact sr h1
  exact subscriptTail_builtinR (x:=w) pl.isList.typeIs slot_list_getitem.lookup
   (wpAny_getItem_list_neg (Q:=λr s'=>r=w/\EP X pins σ Q r s') pl.isList ⋯ (by rw[rO]<;>omega) ⋯ (by rw[hj];simpa using ew) ⟨rfl,fin⟩) hs
theorem zii:IxR X (zko X.K):=by
 intro value slice pins s σ H x y v u Q I rx ry h hs
 obtain⟨p,xs,i,z,rfl,rfl,hq,he,q⟩:=h
 cases rx
 obtain⟨t,rfl⟩:=ry
 obtain⟨ag,r,pl,hz⟩:=I.tuple hq
 obtain⟨j,h1,h2,h3,h4,h5⟩:=zdi he
 obtain⟨w,ew,rw'⟩:=r.get h2
 have hl:=r.length
 have hn:=Vk
 have fin:EP X pins σ Q w s:=⟨z,H,I,rw',q⟩
 exact subscriptTail_builtinR (x:=w) pl.typeIs slot_tuple_getitem.lookup
  (getItem_tuple (j:=j) (Q:=λr s'=>r=w/\EP X pins σ Q r s') pl ⋯ ⋯ (by rw[rO,<-hl];exact h1) (by simpa using ew) ⟨rfl,fin⟩) hs
theorem zdj:IxR X zl8:=by
 intro value slice pins s σ H x y v u Q I rx ry h hs
 obtain⟨z,i,c,rfl,rfl,hz,he,q⟩:=h
 obtain⟨t,rfl⟩:=rx
 obtain⟨t',rfl⟩:=ry
 obtain⟨j,h1,h2,h3,h4,h5⟩:=zdi he
 have hl:z.cps.toList.length=z.length:=by simp[Str.length]
 rw[hl] at h1 h4 h5
 have hn:=Vk
 exact tail_any (typeIs_str s z t) slot_str_getitem.lookup (getItem_str (c:=c) (by
  have e1:decide (i< -(2^63:Int))=false:=decide_eq_false ⋯
  have e2:decide (i≥2^63)=false:=decide_eq_false ⋯
  rw[e1,e2,Bool.or_false]) (by rw[h1];simpa using h2) ⟨.str ⟨#[c]⟩,H,I.tok _,⟨_,rfl⟩,q⟩) hs
def rIx (K:rF):R2:=λx y H Q=>zkn K x y H Q\/zko K x y H Q\/zl8 x y H Q
theorem zl9:IxR X (rIx X.K):=zgN.or (zii.or zdj)
theorem zfO (ag:List Value) (n j:Nat) (u:Value):Obj.mapSeq (·.setIfInBounds j u) {cls:= .type "list",data:= .seq ag.toArray n}={cls:= .type "list",data:= .seq (ag.set j u).toArray n}:=by
 simp[Obj.mapSeq]
theorem Inv.lst {pins:List (Addr×Obj)} {σ:St} {H:Hp} {s:Shared} {p:Addr} {xs:List V} (I:Inv X pins σ H s) (h:H p=some (.lst xs)):
  ∃(ag:List Value) (n:Nat),yt xs ag/\s.heap.get? p=some {cls:= .type "list",data:= .seq ag.toArray n}/\xs.length<=sizeLine:=by
 obtain⟨z,ag,n,r,e⟩:=I.hok p _ h
 exact⟨ag,n,r,e,z⟩
theorem Inv.lstUpd {pins:List (Addr×Obj)} {σ:St} {H:Hp} {s:Shared} {p:Addr} {xs ys:List V} {ag its':List Value} {n n':Nat} {f:Obj->Obj} (I:Inv X pins σ H s) (h:H p=some (.lst xs))
  (ho:s.heap.get? p=some {cls:= .type "list",data:= .seq ag.toArray n}) (hf:f {cls:= .type "list",data:= .seq ag.toArray n}={cls:= .type "list",data:= .seq its'.toArray n'}) (r:yt ys its') (hz:ys.length<=sizeLine) (t:Nat):
  Inv X pins σ (upd H p (.lst ys)) {s with heap:=s.heap.update p f,toks:=t}:=by
 have e:(s.heap.update p f).get? p=some {cls:= .type "list",data:= .seq its'.toArray n'}:=by
  rw[Heap.get?_update_self f ho (by rw[hf]<;>rfl),hf]
 refine I.write (x:=p) (e:=p) (by rw[h];trivial) (.inl rfl) (λb u hb q=>(Heap.get?_update_other _ _ (uE hb)).trans q) ⟨_,e⟩ ?_
 exact⟨hz,its',n',r,e⟩
def zlw:V->V->V->Hp->(Hp->Prop)->Prop:=λo i v H Q=>∃p xs k j,o= .ref p/\i= .int k/\H p=some (.lst xs)/\ixN xs.length k=some j/\Q (upd H p (.lst (xs.set j v)))
theorem zbf:zm8 X zlw:=by
 intro pins s σ H o i v ov iv u Q I ro ri rv h
 obtain⟨p,xs,k,j,rfl,rfl,hp,hj,q⟩:=h
 cases ro
 obtain⟨t,rfl⟩:=ri
 obtain⟨ag,n,r,ho,hz⟩:=I.lst hp
 obtain⟨h1,h2,h3,h4⟩:=zgM hj
 have hl:=r.length
 have hn:=Vk
 have I':Inv X pins σ (upd H p (.lst (xs.set j v))) {s with heap:=s.heap.update p (Obj.mapSeq (·.setIfInBounds j u))}:=
  I.lstUpd hp ho (zfO ag n j u) (r.set rv j) (by rw[uZ];exact hz) s.toks
 by_cases h0:0<=k
 ·have hk:k.toNat=j:=by
   rw[seqIndex_of h0 h4] at h1
   exact sr h1
  exact PySem.W.ki_setAt ho h0 ⋯ (by rw[rO,<-hl];exact h4) (by rw[hk];exact⟨_,I',q⟩)
 ·have hk:(k+(ag.toArray.size:Int)).toNat=j:=by
   rw[seqIndex_neg ⋯ h3] at h1
   rw[rO,<-hl]
   exact sr h1
  exact PySem.W.ki_setBack ho ⋯ (by rw[rO,<-hl];exact h3) ⋯ (by rw[hk];exact⟨_,I',q⟩)
theorem zdk (lo hi:Option Int) (n:Nat):(sliceBounds lo hi none n).1=((HT.sIx n 0 lo:Nat):Int)/\(sliceBounds lo hi none n).2.1=((HT.sIx n n hi:Nat):Int)/\(sliceBounds lo hi none n).2.2=1:=by
 refine⟨?_,?_,rfl⟩
 ·cases lo with
  |none=>simp[sliceBounds,HT.sIx]
  |some i=>
   simp only[sliceBounds,HT.sIx,BO,show (1:Int)>0 by decide,if_true]
   by_cases h:i<0
   ·simp only[h,if_true]<;>omega
   ·simp only[h,if_false]<;>omega
 ·cases hi with
  |none=>simp[sliceBounds,HT.sIx]
  |some i=>
   simp only[sliceBounds,HT.sIx,BO,show (1:Int)>0 by decide,if_true]
   by_cases h:i<0
   ·simp only[h,if_true]<;>omega
   ·simp only[h,if_false]<;>omega
theorem zcg (ag:List Value) (lo hi:Option Int):slicePick ag.toArray lo hi none=((ag.drop (HT.sIx ag.length 0 lo)).take (HT.sIx ag.length ag.length hi-HT.sIx ag.length 0 lo)).toArray:=by
 obtain⟨h1,h2,h3⟩:=zdk lo hi ag.toArray.size
 unfold slicePick
 rw[h1,h2,h3]
 simp only[sliceRange_one,pick_run,rO]<;>rfl
def zij (K:rF):V->Option Int->Option Int->Hp->VK->Prop:=λx lo hi H Q=>∃a xs,x= .ref a/\SqL K H a xs/\∀p,H p=none->Q (.ref p) (upd H p (.lst (zcf xs lo hi)))
theorem zkp:SlR X (zij X.K):=by
 intro pins s σ H x v vl vu lo hi sl Q I rx hs pl pu h
 obtain⟨a,xs,rfl,hx,q⟩:=h
 cases rx
 obtain⟨ag,r,ht,hz⟩:=I.list hx
 have hlen:=r.length
 refine⟨"list",_,slot_list_getitem.lookup,ht.isList.typeIs,?_⟩
 refine wpAny_getItem_list_slice ht.isList hs pl pu .none (by simp) ?_ (by rw[rO]<;>omega)
 rw[zcg,<-hlen]
 refine⟨.ref s.heap.objs.size,_,I.laid (t':=s.toks) (o:= .lst (zcf xs lo hi)) (λb ob q=>Heap.get?_push_of_some _ q) (rL _) ?_,rfl,q _ (I.hok.fresh (rL _))⟩
 exact⟨si (zax xs lo hi) hz,_,0,(r.drop (HT.sIx xs.length 0 lo)).take (HT.sIx xs.length xs.length hi-HT.sIx xs.length 0 lo),Heap.get?_push_size _ rfl⟩
noncomputable def XW:V->Bool
 | .non=>true
 | .bl _=>true
 | .int _=>true
 | .str _=>true
 |_=>false
noncomputable def eqV:V->V->Bool
 | .non,.non=>true
 | .bl a,.bl b=>a==b
 | .bl a,.int b=>(if a then 1 else 0)==b
 | .int a,.bl b=>a==(if b then 1 else 0)
 | .int a,.int b=>a==b
 | .str a,.str b=>a==b
 |_,_=>false
theorem zma {A:Around} {s:Shared} {y x:V} {u v:Value} (ry:yN y u) (rx:yN x v) (fy:XW y=true) (fx:XW x=true):SeqAt.EqAt A s u v (eqV y x):=by
 cases y with
 |non=>
  cases ry
  cases x with
  |non=>cases rx;exact SeqAt.EqAt.same _
  |bl b=>cases rx;exact SeqAt.EqAt.none_bool b
  |int b=>obtain⟨t,rfl⟩:=rx;exact SeqAt.EqAt.none_int b t
  |str b=>obtain⟨t,rfl⟩:=rx;exact SeqAt.EqAt.none_str b t
  |_=>exact absurd (show false=true from fx) sy
 |bl a=>
  cases ry
  cases x with
  |non=>cases rx;exact SeqAt.EqAt.bool_none a
  |bl b=>cases rx;exact SeqAt.EqAt.bool_bool a b
  |int b=>obtain⟨t,rfl⟩:=rx;exact SeqAt.EqAt.bool_int a b t
  |str b=>obtain⟨t,rfl⟩:=rx;exact SeqAt.EqAt.bool_str a b t
  |_=>exact absurd (show false=true from fx) sy
 |int a=>
  obtain⟨t',rfl⟩:=ry
  cases x with
  |non=>cases rx;exact SeqAt.EqAt.int_none a t'
  |bl b=>cases rx;exact SeqAt.EqAt.int_bool a t' b
  |int b=>obtain⟨t,rfl⟩:=rx;exact SeqAt.EqAt.int_int a t' b t
  |str b=>obtain⟨t,rfl⟩:=rx;exact SeqAt.EqAt.int_str a t' b t
  |_=>exact absurd (show false=true from fx) sy
 |str a=>
  obtain⟨t',rfl⟩:=ry
  cases x with
  |non=>cases rx;exact SeqAt.EqAt.str_none a t'
  |bl b=>cases rx;exact SeqAt.EqAt.str_bool a t' b
  |int b=>obtain⟨t,rfl⟩:=rx;exact SeqAt.EqAt.str_int a t' b t
  |str b=>obtain⟨t,rfl⟩:=rx;exact SeqAt.EqAt.str_str a t' b t
  |_=>exact absurd (show false=true from fx) sy
 |_=>exact absurd (show false=true from fy) sy
noncomputable def eqU (x:V) (u:Value):Bool:=match u with
 | .none=>eqV .non x
 | .bool b=>eqV (.bl b) x
 | .int i _=>eqV (.int i) x
 | .str z _=>eqV (.str z) x
 |_=>false
theorem zfP {x y:V} {u:Value} (r:yN y u) (f:XW y=true):eqU x u=eqV y x:=by
 cases y with
 |non=>cases r;rfl
 |bl b=>cases r;rfl
 |int i=>obtain⟨t,rfl⟩:=r;rfl
 |str z=>obtain⟨t,rfl⟩:=r;rfl
 |_=>exact absurd (show false=true from f) sy
theorem zdl {x:V}:∀{xs:List V} {us:List Value},yt xs us->xs.all XW=true->us.any (eqU x)=xs.any λy=>eqV y x
 |_,_,.nil,_=>rfl
 |y::xs,u::us,.cons r t,f=>by
  rw[uR,tL] at f
  rw[Ab,Ab,zfP r f.1,zdl t f.2]
theorem UZ {A:Around} {s:Shared} {x:V} {v:Value} (rx:yN x v) (fx:XW x=true):∀{xs:List V} {us:List Value},yt xs us->xs.all XW=true->∀u∈us,SeqAt.EqAt A s u v (eqU x u)
 |_,_,.nil,_=>λu hu=>by cases hu
 |y::xs,u::us,.cons r t,f=>λu' hu=>by
  rw[uR,tL] at f
  rcases sq.mp hu with rfl|hu
  ·rw[zfP r f.1];exact zma r rx f.1 fx
  ·exact UZ rx fx t f.2 u' hu
noncomputable def inV (x:V) (xs:List V):Bool:=xs.any λy=>eqV y x
def rIn (K:rF) (neg:Bool):R2:=λx y H Q=>∃p xs,y= .ref p/\(SqL K H p xs\/SqT K H p xs)/\XW x=true/\xs.all XW=true/\Q (.bl (if neg then !inV x xs else inV x xs)) H
theorem zdm:OpR X (compareOp .NotIn) (rIn X.K true):=by
 intro pins s σ H x y v u Q I rx ry h
 obtain⟨p,xs,rfl,hq,fx,fs,q⟩:=h
 cases ry
 rcases hq with hq|hq
 ·obtain⟨ag,r,pl,hz⟩:=I.list hq
  refine SeqAt.notIn_listAt (eqU x) pl.isList (λw hw=>UZ rx fx r fs w (by simpa using hw)) ⟨.bl _,H,I,rfl,?_⟩
  rw[show ag.toArray.any (eqU x)=ag.any (eqU x) by simp,zdl r fs]
  exact q
 ·obtain⟨ag,r,pl,hz⟩:=I.tuple hq
  refine SeqAt.notIn_tupleAt (eqU x) pl (λw hw=>UZ rx fx r fs w (by simpa using hw)) ⟨.bl _,H,I,rfl,?_⟩
  rw[show ag.toArray.any (eqU x)=ag.any (eqU x) by simp,zdl r fs]
  exact q
theorem zdn:Zw X (.builtin "len") (λxs H Q=>∃p ys,xs=[.ref p]/\(SqL X.K H p ys\/SqT X.K H p ys)/\Q (.int ys.length) H):=by
 intro pins s σ H xs us Q I r h
 obtain⟨p,ys,rfl,hq,q⟩:=h
 obtain⟨u,rfl,rx⟩:=YC r
 cases rx
 have hn:=Vk
 rcases hq with hq|hq
 ·obtain⟨ag,r',pl,hz⟩:=I.list hq
  have hlen:=r'.length
  exact Calls.call_len_list pl.isList (by simp only[rO]<;>omega) ⟨.int ys.length,H,I.tok _,⟨s.toks+1,by rw[rO,hlen]⟩,q⟩
 ·obtain⟨ag,r',pl,hz⟩:=I.tuple hq
  have hlen:=r'.length
  exact len_tuple pl (by simp only[rO]<;>omega) ⟨.int ys.length,H,I.tok _,⟨s.toks+1,by rw[rO,hlen]⟩,q⟩
theorem zdo:Zw X (.type "list") (λxs H Q=>∃p ys,xs=[.ref p]/\(SqL X.K H p ys\/SqT X.K H p ys)/\∀l,H l=none->Q (.ref l) (upd H l (.lst ys))):=by
 intro pins s σ H xs us Q I r h
 obtain⟨p,ys,rfl,hq,q⟩:=h
 obtain⟨u,rfl,rx⟩:=YC r
 cases rx
 have fin:∀(ag:List Value),yt ys ag->ys.length<=sizeLine->∀(h':Heap) (c':Nat),(∀b o',s.heap.get? b=some o'->h'.get? b=some o')->
   h'.get? s.heap.objs.size=some {cls:= .type "list",dict:=none,data:= .seq ag.toArray c',slots:= #[]}->EP X pins σ Q (.ref s.heap.objs.size) {s with heap:=h'}:=λag r' hz h' c' kp e=>
  ⟨.ref s.heap.objs.size,_,I.laid (t':=s.toks) kp (rL _) (show wI X.prog X.w _ h' _ (.lst ys) from ⟨hz,ag,c',r',e⟩),rfl,q _ (I.hok.fresh (rL _))⟩
 rcases hq with hq|hq
 ·obtain⟨ag,r',pl,hz⟩:=I.list hq
  have hlen:=r'.length
  obtain⟨o,ho,hc,n,hd⟩:=pl.isList
  exact call_list_seq p (.inl rfl) ho hc hd (λh' c' kp e=>fin ag r' hz h' c' kp e) (by simp only[rO]<;>omega)
 ·obtain⟨ag,r',pl,hz⟩:=I.tuple hq
  have hlen:=r'.length
  obtain⟨o,ho,hc,n,hd⟩:=pl
  exact call_list_seq p (.inr rfl) ho hc hd (λh' c' kp e=>fin ag r' hz h' c' kp e) (by simp only[rO]<;>omega)
theorem zch:Zw X (.type "tuple") (λxs H Q=>∃p ys,xs=[.ref p]/\((SqL X.K H p ys/\∀l,H l=none->Q (.ref l) (upd H l (.tup ys)))\/(SqT X.K H p ys/\Q (.ref p) H))):=by
 intro pins s σ H xs us Q I r h
 obtain⟨p,ys,rfl,h⟩:=h
 obtain⟨u,rfl,rx⟩:=YC r
 cases rx
 rcases h with⟨hq,q⟩|⟨hq,q⟩
 ·obtain⟨ag,r',pl,hz⟩:=I.list hq
  have hlen:=r'.length
  refine call_tuple_list pl.isList (λh' kp=> ?_) (by simp only[rO]<;>omega)
  have I1:Inv X pins σ H {s with heap:=h'}:=I.kept (t':=s.toks) kp
  have I2:Inv X pins σ (upd H h'.objs.size (.tup ys)) {s with heap:=h'.push {cls:= .type "tuple",data:= .seq ag.toArray}}:=
   I1.laid (t':=s.toks) (λb o e=>Heap.get?_push_of_some _ e) (rL _) (show wI X.prog X.w _ _ _ (.tup ys) from ⟨hz,ag,r',IsTup.new _ _⟩)
  exact⟨.ref h'.objs.size,_,I2,rfl,q _ (I1.hok.fresh (rL _))⟩
 ·obtain⟨ag,r',pl,hz⟩:=I.tuple hq
  exact call_tuple_same pl ⟨.ref p,H,I,rfl,q⟩
def tyV (K:rF) (T:String) (x:V) (H:Hp):Prop:=match x with
 | .str _=>T="str"
 | .int _=>T="int"
 | .ref p=>(T="list"/\∃xs,SqL K H p xs)\/(T="tuple"/\∃o,K.lookup p=some o/\o.cls= .type "tuple"/\o.dict=none)\/
   (T="dict"/\((∃cL,Rd H p (.dK cL))\/∃cL,H p=some (.dT cL)))\/(T="set"/\∃S n,H p=some (.set S n))
 |_=>False
theorem zik {pins:List (Addr×Obj)} {σ:St} {H:Hp} {s:Shared} {T:String} {x:V} {v:Value} (I:Inv X pins σ H s) (r:yN x v) (ty:tyV X.K T x H):
  s.TypeIs v T/\∀a,v= .ref a->∃ob,s.heap.get? a=some ob/\ob.dict=none:=by
 cases x with
 |str z=>
  obtain⟨t,rfl⟩:=r
  cases (show T="str" from ty)
  exact⟨typeIs_str s z t,λ_ e=>nomatch e⟩
 |int i=>
  obtain⟨t,rfl⟩:=r
  cases (show T="int" from ty)
  exact⟨typeIs_int s i t,λ_ e=>nomatch e⟩
 |ref p=>
  cases r
  rcases ty with⟨rfl,xs,hq⟩|⟨rfl,o,hk,hc,hd⟩|⟨rfl,hk⟩|⟨rfl,S,n,hk⟩
  ·obtain⟨ag,_,pl,_⟩:=I.list hq
   refine⟨pl.isList.typeIs,λa e=> ?_⟩
   cases e
   obtain⟨o,n,e,c,hd,_⟩:=pl
   exact⟨o,e,hd⟩
  ·refine⟨⟨o,I.kIn p o hk,hc⟩,λa e=> ?_⟩
   cases e
   exact⟨o,I.kIn _ o hk,hd⟩
  ·have z:∃o,s.heap.get? p=some o/\o.ExactDict:=by
    rcases hk with⟨cL,hk⟩|⟨cL,hk⟩
    ·obtain⟨_,_,_,_,o,_,_,e,ex,_⟩:=hk.ok I.hok
     exact⟨o,e,ex⟩
    ·obtain⟨_,_,_,_,o,_,_,e,ex,_⟩:=I.hok p _ hk
     exact⟨o,e,ex⟩
   obtain⟨o,e,ex⟩:=z
   refine⟨⟨o,e,ex.1⟩,λa e2=> ?_⟩
   cases e2
   exact⟨o,e,ex.2.1⟩
  ·obtain⟨o,_,_,_,e,ex,_⟩:=I.hok p _ hk
   refine⟨⟨o,e,ex.1⟩,λa e2=> ?_⟩
   cases e2
   exact⟨o,e,ex.2.1⟩
 |_=>exact tZ ty
def znl (K:rF) (T:String) (r:V->List V->Hp->VK->Prop) (to:TE):TE:=λσ H Q=>to σ H λx H1=>tyV K T x H1/\r x [] H1 Q
def tBM (K:rF) (T:String) (r:V->List V->Hp->VK->Prop) (to:TE) (t:TA):TE:=λσ H Q=>to σ H λx H1=>tyV K T x H1/\t σ H1 λxs H2=>r x xs H2 Q
variable {o e:Expr} {es:List Expr} {to:TE} {t:TA} {name:Str} {apos cC:Pos} {T id:String} {r:V->List V->Hp->VK->Prop}
theorem zil (pa:PlainAttrs T) (slot:Slot T name id) (lj:typeOf (.builtin id)=pure (.type "method_descriptor")) (hm:MtR X id r) (ho:PE X o to)
  (gi:attributeBase o name X.env (eval o X.env)=eval o X.env:=by rfl) (hline:(apos.endLine==cC.line)=true:=by rfl):PE X (.Call (.Attribute o name apos) [] [] cC) (znl X.K T r to):=by
 intro pins s σ H Q I h
 refine wpAny_Call_method0_late gi hline (thn (ho pins s σ H _ I h) ?_)
 rintro v s1 ⟨x,H1,I1,r1,ty,q1⟩
 obtain⟨h1,h2⟩:=zik I1 r1 ty
 exact⟨T,id,pa,slot,lj,h1,h2,Calls.callWith_builtin rfl (PySem.evalArgs_none (hm pins s1 σ H1 x [] v [] Q I1 r1 .nil q1))⟩
theorem Vm (pa:PlainAttrs T) (slot:Slot T name id) (lj:typeOf (.builtin id)=pure (.type "method_descriptor")) (hm:MtR X id r) (ho:PE X o to) (ha:PA X (e::es) t)
  (gi:attributeBase o name X.env (eval o X.env)=eval o X.env:=by rfl)
  (lT:((backTo cC (starEach (e::es) X.env)).all (λx=> !x.1)&&(backToKw cC (keywordEach [] X.env)).all (λx=>x.1.isSome)
   &&decide ((e::es).length+([]:List Keyword).length+(if ([]:List Keyword).isEmpty then 0 else 1)<30))=true:=by rfl)
  (hline:(apos.endLine==cC.line)=true:=by rfl) (hs:starEach (e::es) X.env=(false,eval e X.env)::starEach es X.env:=by rfl) (iC:(backTo cC (starEach es X.env)).any (·.1)=false:=by rfl):
  PE X (.Call (.Attribute o name apos) (e::es) [] cC) (tBM X.K T r to t):=by
 intro pins s σ H Q I h
 refine wpAny_Call_method_late gi lT hline rfl (thn (ho pins s σ H _ I h) ?_)
 rintro v s1 ⟨x,H1,I1,r1,ty,q1⟩
 obtain⟨h1,h2⟩:=zik I1 r1 ty
 refine⟨T,id,pa,slot,lj,h1,h2,?_⟩
 have hA:=ha cC pins s1 σ H1 _ I1 q1
 rw[hs] at hA ⊢
 refine Calls.callWith_builtin (by show (false||(backTo cC (starEach es X.env)).any (·.1))=false;rw[iC]<;>rfl) (Calls.evalArgs_plain ?_)
 refine thn hA ?_
 rintro us s2 ⟨vs,H2,I2,r2,q2⟩
 exact hm pins s2 σ H2 x vs v us Q I2 r1 r2 q2
/- xs.append(e), list.index on a module's tuple .. are MtR facts of 06m -/
end
def MtM (X:Cx) (id:String) (r:V->List V->Hp->VK->Prop):Prop:=
 ∀(pins:List (Addr×Obj)) (s:Shared) (σ:St) (H:Hp) (x:V) (xs:List V) (v:Value) (us:List Value) (Q:VK),Inv X pins σ H s->yN x v->yt xs us->r x xs H Q->
  wpAny (model X.prog X.w) X.A (call (.builtin id) (v::us)) (EP X pins σ Q) X.xe s
theorem yt.one:∀{x:V} {us:List Value},yt [x] us->∃u,us=[u]/\yN x u
 |_,_,.cons r .nil=>⟨_,rfl,r⟩
theorem yt.zero:∀{us:List Value},yt [] us->us=[]
 |_,.nil=>rfl
theorem yt.dropLast {xs:List V} {us:List Value} (h:yt xs us):yt xs.dropLast us.dropLast:=by
 induction h with
 |nil=>exact .nil
 |cons r t ih=>
  cases t with
  |nil=>exact .nil
  |cons q t'=>exact .cons r ih
theorem yt.reverse {xs:List V} {us:List Value} (h:yt xs us):yt xs.reverse us.reverse:=by
 induction h with
 |nil=>exact .nil
 |cons r t ih=>rw[x8,x8];exact yt.append ih (.cons r .nil)
theorem yt.rep {xs:List V} {us:List Value} (h:yt xs us):∀k:Nat,yt (rN k xs).flatten (rN k us).flatten
 |0=> .nil
 |k+1=>by
  rw[sJ,sJ,sY,sY]
  exact yt.append h (yt.rep h k)
theorem zfQ {α:Type} (l:List α):l.eraseIdx (l.length-1)=l.dropLast:=by
 induction l with
 |nil=>rfl
 |cons a r ih=>
  cases r with
  |nil=>rfl
  |cons b r=>
   have e:(a::b::r).length-1=((b::r).length-1)+1:=by
    have h1:(a::b::r).length=r.length+2:=rfl
    have h2:(b::r).length=r.length+1:=rfl
    omega
   rw[e,List.eraseIdx_cons_succ,ih]
   all_goals rfl
theorem zcL (ag:List Value):∀(k:Nat) (acc:List Value),
  List.foldl (λx1 x2=>x1++x2) acc.toArray (rN k ag.toArray)=(acc++(rN k ag).flatten).toArray
 |0,acc=>by simp
 |k+1,acc=>by
  have e:acc.toArray++ag.toArray=(acc++ag).toArray:=by simp
  have e2:(acc++ag)++(rN k ag).flatten=acc++(rN (k+1) ag).flatten:=by
   rw[sJ,sY,t6]
  rw[<-e2,<-zcL ag k (acc++ag),<-e,sJ,List.foldl_cons]
section
variable {X:Cx} {pins:List (Addr×Obj)} {σ:St} {H:Hp} {s:Shared} {l b:Addr} {xs ys zs:List V}
theorem Inv.lset {ag its':List Value} {n:Nat} {f:Array Value->Array Value} {t':Nat} (I:Inv X pins σ H s) (hH:H l=some (.lst xs))
  (e:s.heap.get? l=some {cls:= .type "list",data:= .seq ag.toArray n}) (hf:f ag.toArray=its'.toArray) (hv:yt ys its') (hz:ys.length<=sizeLine):
  Inv X pins σ (upd H l (.lst ys)) {s with heap:=s.heap.update l (Obj.mapSeq f),toks:=t'}:=by
 have q:=PySem.IsL.update e f
 rw[hf] at q
 refine I.write (x:=l) (e:=l) (by rw[hH];exact trivial) (.inl rfl) (λb' u hb hu=>(Heap.get?_update_other s.heap (Obj.mapSeq f) (uE hb)).trans hu) ⟨_,q⟩ ?_
 exact⟨hz,its',_,hv,q⟩
theorem Inv.lnew {ag:List Value} {t':Nat} (I:Inv X pins σ H s) (hv:yt ys ag) (hz:ys.length<=sizeLine):
  Inv X pins σ (upd H s.heap.objs.size (.lst ys)) {s with heap:=s.heap.push {cls:= .type "list",data:= .seq ag.toArray},toks:=t'}:=
 I.laid (λ_ _ q=>Heap.get?_push_of_some _ q) (rL _) ⟨hz,ag,0,hv,Heap.get?_push_size _ rfl⟩
theorem Inv.fresh (I:Inv X pins σ H s):H s.heap.objs.size=none:=I.hok.fresh (rL _)
theorem Inv.lstM (I:Inv X pins σ H s) (hH:H l=some (.lst xs)):xs.length<=sizeLine/\∃(ag:List Value) (n:Nat),yt xs ag/\xs.length=ag.length/\s.heap.get? l=some {cls:= .type "list",data:= .seq ag.toArray n}:=by
 obtain⟨z,ag,n,r,e⟩:=I.hok l _ hH
 exact⟨z,ag,n,r,r.length,e⟩
theorem zim {n:Nat} (h:n<=sizeLine):Builtin.List.listTooLong n=false:=by
 unfold Builtin.List.listTooLong
 exact decide_eq_false ⋯
end
section
variable {X:Cx}
def zgO:V->List V->Hp->VK->Prop:=λx vs H Q=>∃l xs y,x= .ref l/\vs=[y]/\H l=some (.lst xs)/\xs.length<sizeLine/\Q .non (upd H l (.lst (xs++[y])))
theorem wX:MtM X "list.append" zgO:=by
 intro pins s σ H x vs v us Q I rx rv h
 obtain⟨l,xs,y,rfl,rfl,hH,hz,q⟩:=h
 cases rx
 obtain⟨u,rfl,ru⟩:=rv.one
 obtain⟨z,ag,n,r,hl,e⟩:=I.lstM hH
 refine call_meets F.slot_list_append ⟨_,e,rfl⟩ F.entry_list_append (F.args_list_append_2 _ _) (PySem.list_append l ag.toArray n u (by rw[rO];omega)) ⟨e,?_⟩
 refine⟨.non,_,I.lset (its':=ag++[u]) hH e (by simp) (r.append (.cons ru .nil)) ?_,rfl,q⟩
 rw[rV,uH]
 omega
def znm:V->List V->Hp->VK->Prop:=λx vs H Q=>∃l xs y,x= .ref l/\vs=[]/\H l=some (.lst xs)/\xs[xs.length-1]? =some y/\Q y (upd H l (.lst xs.dropLast))
theorem zin:MtM X "list.pop" znm:=by
 intro pins s σ H x vs v us Q I rx rv h
 obtain⟨l,xs,y,rfl,rfl,hH,hy,q⟩:=h
 cases rx
 have oQ:=rv.zero
 subst oQ
 obtain⟨z,ag,n,r,hl,e⟩:=I.lstM hH
 obtain⟨u,hu,ru⟩:=r.get hy
 have oJ:ag.toArray[ag.toArray.size-1]? =some u:=by
  show ag.toArray[ag.length-1]? =some u
  rw[<-B3,<-hl]
  exact hu
 refine call_meets F.slot_list_pop ⟨_,e,rfl⟩ F.entry_list_pop (F.args_list_pop_1 _) (MeetsSeq.list_pop_last l ag.toArray n u oJ (by rw[rO];omega)) ⟨e,?_⟩
 refine⟨y,_,I.lset (its':=ag.dropLast) hH e ?_ r.dropLast ?_,ru,q⟩
 ·show ag.toArray.eraseIdxIfInBounds (ag.toArray.size-1)=ag.dropLast.toArray
  rw[rO,List.eraseIdxIfInBounds_toArray,zfQ]
 ·rw[Ba]
  omega
theorem zgP {α:Type} (xs:List α) (k:Nat):(rN k xs).flatten.length=k*xs.length:=by
 induction k with
 |zero=>simp
 |succ k ih=>rw[sJ,sY,rV,ih,uI,Nat.add_comm]
end
section
variable {prog:Program} {w:World} {A:Around} {E:Value->Shared->Prop} {s:Shared}
end
section
variable {X:Cx}
end
section
variable {κ:Type} [DecidableEq κ]
end
noncomputable abbrev KT (H:Hp):List (List Key×V)->List (List Key×Addr×Value)->Prop:=Paired λp q=>p.1=q.1/\H q.2.1=some (.tup (p.1.map kV))/\yN p.2 q.2.2
section
variable {P:Program} {w:World} {H:Hp} {h:Heap} {a:Addr}
end
section
variable {X:Cx} {pins:List (Addr×Obj)} {σ:St} {H:Hp} {s:Shared} {a:Addr} {y v:V} {u r:Value} {o:Option V} {A:Around} {E:Value->Shared->Prop}
end
section
variable {X:Cx} {pins:List (Addr×Obj)} {σ:St} {H:Hp} {s:Shared} {a:Addr} {cL:List (Key×V)} {k:Key} {u:Value} {A:Around} {E:Value->Shared->Prop}
end
section
variable {X:Cx} {o i e value:Expr} {pos pos' i9:Pos} {td ty tv:TE}
end
section
variable {X:Cx} {pos:Pos}
end
noncomputable abbrev VV:List (V×V)->List (Value×Value)->Prop:=Paired λp q=>yN p.1 q.1/\yN p.2 q.2
structure M1 (X:Cx) (o:Expr) (m:Str) (apos:Pos) (e:Expr) (cC:Pos):Prop where
 base:attributeBase o m X.env (eval o X.env)=eval o X.env
 few:((backTo cC (starEach [e] X.env)).all (λx=> !x.1)&&(backToKw cC (keywordEach [] X.env)).all (λx=>x.1.isSome)
  &&decide (([e]:List Expr).length+([]:List Keyword).length+(if ([]:List Keyword).isEmpty then 0 else 1)<30))=true
 line:(apos.endLine==cC.line)=true
 trees:backTo cC (starEach [e] X.env)=[(false,eval e X.env)]
structure M2 (X:Cx) (o:Expr) (m:Str) (apos:Pos) (e f:Expr) (cC:Pos):Prop where
 base:attributeBase o m X.env (eval o X.env)=eval o X.env
 few:((backTo cC (starEach [e,f] X.env)).all (λx=> !x.1)&&(backToKw cC (keywordEach [] X.env)).all (λx=>x.1.isSome)
  &&decide (([e,f]:List Expr).length+([]:List Keyword).length+(if ([]:List Keyword).isEmpty then 0 else 1)<30))=true
 line:(apos.endLine==cC.line)=true
 trees:backTo cC (starEach [e,f] X.env)=[(false,eval e X.env),(false,eval f X.env)]
section
variable {X:Cx} {pins:List (Addr×Obj)} {σ:St} {H:Hp} {s:Shared} {a:Addr} {y d:V} {u r:Value} {o:Option V} {A:Around} {E:Value->Shared->Prop}
end
section
variable {X:Cx} {o e f:Expr} {apos cC:Pos} {td ty tx:TE}
end
section
variable {X:Cx} {pins:List (Addr×Obj)} {σ:St} {H:Hp} {s:Shared} {a:Addr} {cL:List (Key×V)} {A:Around} {E:Value->Shared->Prop}
end
section
variable {X:Cx} {pins:List (Addr×Obj)} {σ:St} {H:Hp} {s:Shared} {a:Addr} {y:V} {u:Value} {A:Around} {E:Value->Shared->Prop}
end
end L2
namespace Att
open PySem PySem.W PySem.Calls PyProof.Rows
theorem zaG {P:Params} {h:Heap}:∀(ns:List Int) (vs:List Value),WellAll P h vs (ns.map WData.int)->IntsAre vs ns:=by
 intro ns
 induction ns with
 |nil=>
  intro vs w
  rw[v5] at w
  cases w
  exact .nil
 |cons n ns ih=>
  intro vs w
  rw[sH] at w
  cases w with
  |cons a b=>
   cases a
   exact .cons _ _ (ih _ b)
theorem zhs {l:OpenLaw} {n:Nat} (hn:l.most=some n) {P:Params} {h:Heap} {args:List WData} {vals:List Value}
  (gM:l.row.toRowW.claim.pre args=true) (iB:WellAll P h vals args):
  ∃a vs ns,vals=[Value.ref a]/\args=[WData.list (ns.map WData.int)]/\h.get? a=some {cls:= .type "list",data:= .seq vs.toArray}/\IntsAre vs ns/\ns.length<=n:=by
 have fv:WShape.hasAll [] args [.list .int]=true:=(pre_splitW gM).1
 have hc:l.pre.holds [] {args:=args}=true:=(pre_splitW gM).2
 obtain⟨d,r,rfl,h1,h2⟩:=hasAllW_cons fv
 obtain rfl:=hasAllW_nil h2
 obtain⟨xs,rfl,h3⟩:=hasW_list h1
 obtain⟨ns,rfl⟩:=items_int h3
 have hlen:ns.length<=n:=by
  unfold OpenLaw.pre at hc
  have h4:(WTm.not (.lt (.lit (.int (n:Int))) (.len (.arg 0)))).holds [] {args:=[.list (ns.map .int)]}=true:=by
   have h4:=(holds_andW hc).1
   rw[hn] at h4
   exact h4
  have h5:=condW_of h4 (w_not (w_lt w_lit (w_len_list (w_arg rfl))))
  rw[rJ] at h5
  refine Nat.le_of_not_lt λq=> ?_
  have q':(n:Int)<((ns.length:Nat):Int):=by omega
  first
   |(rw[decide_eq_true q'] at h5;exact absurd h5 ∅)
   |(simp at h5;omega)
 cases iB with
 |cons w1 w2=>
  cases w2
  cases w1 with
  |list ho gS=>exact⟨_,_,ns,rfl,rfl,ho,zaG ns _ gS,hlen⟩
theorem zht (l:OpenLaw) (args:List WData):l.row.toRowW.claim.post args (.bool true) args=true:=
 postW_of (r:=l.row.toRowW) (X:=(true==true))
  (show WShape.has [] (.bool true) .bool=true by first|rfl|decide|simp[WShape.has,WShape.arms,WShape.armsAll])
  (show (WTm.eq .res (.lit (.bool true))).value [] {args:=args,res:=some (.bool true),after:=args}=some (.bool (true==true)) from w_eq_bool (w_res rfl) w_lit) rfl
theorem zes {l:OpenLaw} {n:Nat} {q:Program} {loose:List Str} {XP:(Str->Option Value)->Heap->Prop} {YP:World->Heap->Prop} {d:DefRec}
  (hn:l.most=some n) (jD:d.params.defaults=[])
  (call:∀(w:World) (s₀ s₁:Shared) (mg mb:Str->Option Value) (fa:Addr) (o:Obj) (pm cd doc:Value) (a:Addr) (vs:List Value) (ns:List Int),
   Ground q loose [] XP w s₀ mg mb s₁.heap->YP w s₁.heap->
   s₁.heap.get? fa=some o->o.data= .func (docDef d.name d.params d.body d.scope pm cd doc)->s₁.heap.CodeRec cd d.name->mg d.name=some (.ref fa)->
   s₁.heap.get? a=some {cls:= .type "list",data:= .seq vs.toArray}->IntsAre vs ns->ns.length<=n->s₁.gens= #[]->
   codeAny (model l.prog w) callerA (.call (.ref fa) ⟨[.ref a],[]⟩) (λr s'=>r= .ok (.ret (.bool true))/\OldK s₁.heap s'.heap/\s'.os=s₁.os/\AllBare s'.gens) s₁):
  WalkO q loose XP YP l.row.toRowW d [] (λf vs=>BX f vs):=by
 intro w s₀ s₁ mg mb G Y fa o pm cd doc dV kV ho hd eP hD iG hg args vals as gM pA qL iB qS
 obtain rfl:dV= .none:=Dflts.none hD jD
 obtain rfl:kV= .none:=Dflts.noKw hD
 obtain⟨a,vs,ns,rfl,rfl,iE,hints,hlen⟩:=zhs hn gM iB
 refine enter_call (codeAny_mono (call w s₀ s₁ mg mb fa o pm cd doc a vs ns G Y ho (fd_plain hd) eP iG iE hints hlen hg) λr s' hq=> ?_)
 obtain⟨rfl,h2,h3,h4⟩:=hq
 exact⟨.inl ⟨.bool true,.bool true,[],rfl,λ_=>rfl,.bool true,zht l _,λ_=>⟨BE,λ_ hm=>(nomatch hm)⟩⟩,h2,h3,h4⟩
section
variable {prog:Program} {w:World} {A:Around} {E:Value->Shared->Prop} {s:Shared} {K:Frag}
end
end Att
namespace L2
open PySem PySem.Spec PyProof.Rows
theorem zcM:∀{vs:List Value} {ns:List Int},IntsAre vs ns->yt (ns.map V.int) vs
 |_,_,.nil=> .nil
 |_,_,.cons n t h=> .cons ⟨t,rfl⟩ (zcM h)
def zkq (H:Hp):Prop:=∀b,H b=none\/∃o xs,H b=some (.frz o (.lst xs))
theorem zio {P:Program} {w:World} {K:rF} {mg mb:Str->Option Value} {CX:CXT} {k:Nat} {fa a:Addr} {fd:FuncData} {x:Str} {sp:Sp} {s₁:Shared} {vs:List Value} {ns:List Int}
  (KX:K.In s₁.heap) (eL:s₁.heap.Ns mainGlobals mg) (hb:s₁.heap.Ns builtinsNs mb) (qe:∀x:Str,x≠"__name__"->mb x=bootBuiltins x) (lL:s₁.heap.NoLimit) (hg:s₁.gens= #[])
  (ha:s₁.heap.get? a=some {cls:= .type "list",data:= .seq vs.toArray}) (hi:IntsAre vs ns) (hl:ns.length<=sizeLine) (hr:ZQ k callerA)
  (F:∀base:Heap,K.In base->base.Ns mainGlobals mg->yA P w K mg base CX k fa fd [x] sp) (jI:∀(s:Shared) (u:Value),BindsTo s fd ⟨[u],[]⟩ [(x,u)])
  (h8:∀H:Hp,zkq H->SqX K H a (ns.map V.int)->sp [.ref a] H (λv _=>v= .bl true) λ_ _ _=>False)
  (m7:∀H e s',CX [] H s₁ (λ_ _ _=>False) e s'->False):
  codeAny (model P w) callerA (.call (.ref fa) ⟨[.ref a],[]⟩) (λr s'=>r= .ok (.ret (.bool true))/\OldK s₁.heap s'.heap/\s'.os=s₁.os/\AllBare s'.gens) s₁:=by
 have rv:=zcM hi
 have kF:=hi.length
 have core:∀H:Hp,zkq H->SqX K H a (ns.map V.int)->HOk P w H s₁.heap->(∀b,H b≠none->b=a)->(H a≠none->K.lookup a=none)->
   codeAny (model P w) callerA (.call (.ref fa) ⟨[.ref a],[]⟩) (λr s'=>r= .ok (.ret (.bool true))/\OldK s₁.heap s'.heap/\s'.os=s₁.os/\AllBare s'.gens) s₁:=by
  intro H hO hS hok hA hK
  have fL:∀{b:Addr} {o:Obj},s₁.heap.get? b=some o->H b=none->(zdd s₁.heap H).get? b=some o:=λe n=>zh1 e n
  have jj:∀{b:Addr} {o:Obj} {es:Array DictEntry} {ep:Nat},s₁.heap.get? b=some o->o.data= .dict es ep->H b=none:=λ{b o es ep} e d=>by
   cases q:H b with
   |none=>rfl
   |some u=>
    have e':b=a:=hA b (by rw[q];simp)
    subst e'
    rw[ha] at e;cases e
    have d':Data.seq vs.toArray _=Data.dict es ep:=d
    cases d'
  have jU:∀{b:Addr} {m:Str->Option Value},s₁.heap.Ns b m->(zdd s₁.heap H).Ns b m:=λ{b m} ⟨o,es,ep,e,d,r⟩=>⟨o,es,ep,fL e (jj e d),d,r⟩
  have nP:K.In (zdd s₁.heap H):=λb o e=>fL (KX b o e) (by
   cases q:H b with
   |none=>rfl
   |some u=>
    have e':b=a:=hA b (by rw[q];simp)
    subst e'
    rw[hK (by rw[q];simp)] at e;cases e)
  have hM:Mod K mg (zdd s₁.heap H):=⟨nP,jU eL,⟨mb,jU hb,qe⟩,let ⟨mc,h1,h2⟩:=lL;⟨mc,jU h1,h2⟩⟩
  have e0:zfK P w K mg (zdd s₁.heap H) callerA [] s₁ H:=⟨rfl,hM,λb o e=>zka e,uF (zhk _ _),trivial,λb hb=>absurd (show b∈([]:List Addr) from hb) (by simp),hok,.of_eq hg⟩
  refine codeAny_mono ((F _ nP (jU eL)).run callerA [] s₁ H ⟨[.ref a],[]⟩ [.ref a] [.ref a] _ _ hr e0 (jI s₁ (.ref a)) (.cons rfl .nil) (h8 H hO hS)) λr s' h=> ?_
  cases r with
  |error e=>exact (m7 H e s' h).elim
  |ok fl=>
   cases fl with
   |next=>exact tZ h
   |brk=>exact tZ h
   |cont=>exact tZ h
   |ret u=>
    obtain⟨v,H',os,bare,un,lD,r',q⟩:=h
    have q':v= .bl true:=q
    subst q'
    obtain rfl:u=Value.bool true:=r'
    refine⟨rfl,OldK.of_keep λb o e=> ?_,os,bare⟩
    cases q:H b with
    |none=>exact un.keep b o e q (by intro z;exact absurd (show b∈([]:List Addr) from z) (by simp)) (by simp)
    |some u=>
     rcases hO b with z|⟨ob,xs,z⟩
     ·rw[q] at z;cases z
     ·have z2:=un.frzs b ob _ z
      obtain⟨e1,_⟩:=hok b _ z
      obtain⟨e2,_⟩:=lD b _ z2
      rw[e] at e1;cases e1
      exact e2
 cases hk:K.lookup a with
 |some o=>
  have e:=KX a o hk
  rw[ha] at e
  cases e
  refine core (λ_=>none) (λ_=> .inl rfl) (.inr ⟨vs.toArray,_,hk,by rw[rO,kF];exact hl,by simpa using rv⟩) (λb u z=>by have z':(none:Option HO)=some u:=z;cases z') (λb z=>absurd rfl z) λz=>absurd rfl z
 |none=>
  refine core (λb=>if b=a then some (.frz {cls:= .type "list",data:= .seq vs.toArray} (.lst (ns.map V.int))) else none) (λb=> ?_) (.inl (.inr ⟨{cls:= .type "list",data:= .seq vs.toArray},if_pos rfl⟩)) (λb u z=> ?_) (λb z=> ?_) λ_=>hk
  ·by_cases hb:b=a
   ·exact .inr ⟨_,_,if_pos hb⟩
   ·exact .inl (if_neg hb)
  ·by_cases hb:b=a
   ·have z':=(if_pos hb).symm.trans z
    cases z'
    subst hb
    exact⟨ha,by rw[rJ];exact hl,vs,_,rv,ha⟩
   ·have z':=(if_neg hb).symm.trans z
    cases z'
  ·by_cases hb:b=a
   ·exact hb
   ·exact absurd (if_neg hb) z
noncomputable abbrev KOf {K:rF} {h:Heap} (_:K.In h):rF:=K
theorem zkr {l:AH} {n k:Nat} {q:Program} {loose:List Str} {XP:(Str->Option Value)->Heap->Prop} {YP:World->Heap->Prop} {d:DefRec} {K:Params->rF} {CX:World->CXT} {sp:World->Sp} {x:Str}
  (hn:l.most=some n) (ec:n<=sizeLine) (jD:d.params.defaults=[]) (hr:ZQ k callerA)
  (hY:∀(w:World) (h:Heap),YP w h->(K w.params).In h)
  (F:∀(w:World) (mg:Str->Option Value) (fa:Addr) (h:Heap),(K w.params).In h->h.Ns mainGlobals mg->mg d.name=some (.ref fa)->
   ∃fd:FuncData,(∀(s:Shared) (u:Value),BindsTo s fd ⟨[u],[]⟩ [(x,u)])/\
    ∀base:Heap,(K w.params).In base->base.Ns mainGlobals mg->yA l.prog w (K w.params) mg base (CX w) k fa fd [x] (sp w))
  (h8:∀(w:World) (H:Hp) (a:Addr) (ns:List Int),ns.length<=n->zkq H->SqX (K w.params) H a (ns.map V.int)->sp w [.ref a] H (λv _=>v= .bl true) λ_ _ _=>False)
  (m7:∀(w:World) (H:Hp) (s:Shared) (e:Value) (s':Shared),CX w [] H s (λ_ _ _=>False) e s'->False):
  C4 q loose XP YP l.row.toRowW d [] (λf vs=>BX f vs):=by
 refine Att.zes hn jD λw s₀ s₁ mg mb fa o pm cd doc a vs ns G Y ho hd eP iG iE hints hlen hg=> ?_
 have KX:=hY w _ Y
 obtain⟨fd,hb,hF⟩:=F w mg fa _ KX G.T.g iG
 exact zio KX G.T.g G.T.b G.T.builtins G.T.nolimit hg iE hints (si hlen ec) hr hF hb (λH hO hS=>h8 w H a ns hlen hO hS) λH e s'=>m7 w H s₁ e s'
end L2
/- THE LAST THEOREM (shape; LID, My.* are mq):
   My.Adr: a structure of eS addresses fW o5 mz names (classes, functions); My.Txt K t: a structure (Prop) of eS equations over K;
   My.txt_mk : {K} {implicit addresses ..} (e1 : nsIn K mainGlobals "law" = some (some (.ref f))) (e2 : K.lookup f = some ⟨oc, od, .func (fnOf "law" "law" params body scope dV kV doc pm an aS ct), sl⟩) (e3 : codeIn K aS "law" = true) .. : ∃ t, My.Txt K t
set_option maxHeartbeats 0 in
theorem PySem.Challenge.cw_LID_holds : PySem.Challenge.rw_LID.Holds := by
 w_on; o_law; k_head; (case hw => w_witness2)
 k_fill
 refine L2.walk_of (l := PySem.Challenge.rw_LID) (n := 63) (k := 40) (x := "script") (CX := λw => ..) (sp := λ_ => My.sp_law) rfl ∅ rfl ⟨rfl, by decide, by decide⟩ (λw h Y => C2 Y) ?F ?S ?C
 case F =>
  intro w mg fa h KX G iG
  have T : ∃ t, My.Txt (L2.KOf KX) t := by
   dsimp only[L2.KOf]                          -- K om mv as «<heap const> w.params» for k_is
   refine' My.txt_mk ?e1 ?e2 ?e3 ..
   (case e1 => PySem.W.k_is)                    -- in eS order: a name -> ag address -> ag object -> ag parts
   (case e2 => PySem.W.k_is)
   ..
  obtain⟨t, T⟩ := T
  have e0 := iG.symm.trans (tq KX G T.law)
  cases e0                                       -- fa is eS law's own address
  exact⟨_, λs u => .of_eq rfl, λbase kb nb => My.law_fn T kb nb⟩     -- if «.of_eq rfl» comes qA early: refine' ⟨_, ?b, λbase kb nb => My.law_fn T kb nb⟩; exact λs u => .of_eq rfl
 case S => exact λw H a ns hl hO hS => ..
 case C => exact ..
(eS tactic k_is has no namespace: write k_is) -/
namespace L2
open PySem PySem.Spec PyProof.Rows
noncomputable def Ta (s:Stmt) (j:Nat):Stmt:=match s with
 | .ClassDef _ _ _ body _ _ _ _ _ _ _=>body.getD j (.Pass ⟨0,0,0,0⟩)
 |_=> .Pass ⟨0,0,0,0⟩
noncomputable def Wp (s:Stmt):Arguments:=match s with
 | .FunctionDef _ a _ _ _ _ _ _ _ _=>a
 |_=>{posonlyargs:=[],args:=[],vararg:=none,kwonlyargs:=[],kw_defaults:=[],kwarg:=none,defaults:=[]}
noncomputable def Xb (s:Stmt):List Stmt:=match s with
 | .FunctionDef _ _ b _ _ _ _ _ _ _=>b
 |_=>[]
noncomputable def zC (s:Stmt):Scope:=match s with
 | .FunctionDef _ _ _ _ _ _ sc _ _ _=>sc
 |_=>{kind:= .function,names:=[],isGenerator:=false,isCoroutine:=false}
noncomputable abbrev CX0:CXT:=λ_ _ _ _ _ _=>False
noncomputable abbrev E0:XK:=λ_ _ _=>False
structure Fun (K:rF) (x qual:Str) (st:Stmt) (f:Addr) (fd:FuncData):Prop where
 ex:∃(oc:Value) (od:Option Addr) (kV doc pm:Value) (an:Option Addr) (aS ct:Value) (fU:Array (Option Value)),
  fd=uh x qual (Wp st) (Xb st) (zC st) .none kV doc pm an aS ct/\K.lookup f=some ⟨oc,od,.func fd,fU⟩/\w5 K aS qual=true
 kp:ua K (.ref f)=true
section
variable {P:Program} {w:World} {K:rF} {mg:Str->Option Value} {base:Heap}
theorem Fun.binds {x qual:Str} {st:Stmt} {f:Addr} {fd:FuncData} {ps:List Str} (F:Fun K x qual st f fd)
  (h:∀(kV doc pm:Value) (an:Option Addr) (aS ct:Value) (us:List Value),us.length=ps.length->bindArgs (uh x qual (Wp st) (Xb st) (zC st) .none kV doc pm an aS ct) ⟨us,[]⟩=pure (ps.zip us)):Ut K fd ps []:=by
 obtain⟨oc,od,kV,doc,pm,an,aS,ct,fU,rfl,lk,eP⟩:=F.ex
 exact .all (h kV doc pm an aS ct)
theorem ziq {x qual:Str} {st:Stmt} {f:Addr} {oc:Value} {od an:Option Addr} {fU:Array (Option Value)} {kV doc pm aS ct:Value} (l:K.lookup f=some ⟨oc,od,.func (uh x qual (Wp st) (Xb st) (zC st) .none kV doc pm an aS ct),fU⟩)
  (c:w5 K aS qual=true) (k:ua K (.ref f)=true):Fun K x qual st f (uh x qual (Wp st) (Xb st) (zC st) .none kV doc pm an aS ct):=⟨⟨oc,od,kV,doc,pm,an,aS,ct,fU,rfl,l,c⟩,k⟩
end
section
variable {X:Cx}
theorem pv (i:Nat) {x:Str} {pos:Pos} (hN:X.N[i]? =some x:=by rfl) (hv:Vis X.env.scope x:=by first|exact rK rfl|exact y0 (rK rfl)|exact y0 (y0 rfl)) (hd:(x==("__debug__":Str))=false:=by decide)
  (eP:(x==("__classdict__":Str))=false:=by decide):PE X (.Name x pos) (zlO i):=zlP hN hv hd eP
end
def TX (H H':Hp):Prop:=∀b o,H b=some o->H' b=some o
theorem TX.refl (H:Hp):TX H H:=λ_ _ h=>h
section
variable {κ:Type} [DecidableEq κ]
end
theorem Vn {prog:Program} {w:World} {A:Around} {elt iter tg:Expr} {ifs:List Expr} {scope:Scope} {pos:Pos} {it acc:Value} {env:Env} {s:Shared} {R:Result->Shared->Prop} (I:Nat->Shared->Prop)
  (turn:∀n s,I n s->wpAny (model prog w) A (pyNext it) (λr s₁=>match r with
   |none=>R (.ok .next) s₁
   |some v=>wpAny (model prog w) A (letOwnedTupleGo tg it v) (λ_ s₁'=>wpAny (model prog w) A (assign tg env v) (λ_ s₂=>
     wpAny (model prog w) A (forIn ifs true λc r=>if r=true then do let ok <-isTrue c env (eval c env);pure (uA ok) else pure (uA r)) (λok s₃=>
      if ok=true then wpAny (model prog w) A (eval elt env) (λx s₄=>
       wpAny (model prog w) A (call (.builtin "list.append") [acc,x]) (λ_ s₅=>∃m,m<n/\I m s₅) (λ_ _=>False) s₄) (λ_ _=>False) s₃
      else ∃m,m<n/\I m s₃) (λ_ _=>False) s₂)
     (λ_ _=>False) s₁') (λ_ _=>False) s₁) (λ_ _=>False) s)
  (n:Nat) (h:I n s):codeAny (model prog w) A (.compLoop (.ListComp elt [⟨tg,iter,ifs,0⟩] scope pos) 0 it acc env) R s:=by
 refine codeAny_loop rfl I (λn s hI=> ?_) n h
 show wpAny _ A ((compTurn (.ListComp elt [⟨tg,iter,ifs,0⟩] scope pos) 0 it acc env).onRaise (λx=>do noteFrame x env;theTreesLotGoes x)) _ _ s
 refine wpAny_noted ?_
 rw[compTurn_list]
 refine wpAny_bind (wpAny_standAt (wpAny_bind (wpAny_mono (turn n s hI) (λr s₁ h₁=> ?_) λ_ _ h'=>h'.elim)))
 cases r with
 |none=>exact wpAny_pure h₁
 |some v=>
  refine wpAny_bind (wpAny_mono h₁ (λ_ s₁' h₁'=> ?_) λ_ _ h'=>h'.elim)
  refine wpAny_bind (wpAny_mono h₁' (λ_ s₂ h₂=>wpAny_bind (wpAny_mono h₂ (λok s₃ h₃=> ?_) λ_ _ h'=>h'.elim)) λ_ _ h'=>h'.elim)
  cases ok with
  |false=>exact wpAny_pure ⟨rfl,h₃⟩
  |true=>
   exact wpAny_bind (wpAny_bind (wpAny_mono h₃ (λx s₄ h₄=>wpAny_bind (wpAny_mono h₄ (λ_ s₅ h₅=>wpAny_pure (wpAny_pure ⟨rfl,h₅⟩)) λ_ _ h'=>h'.elim)) λ_ _ h'=>h'.elim))
noncomputable def zci (env:Env):List (Str×NameKind)->List (Str×Addr)->List (Str×Addr)
 |[],cs=>cs
 |(n,k)::r,cs=>zci env r (if k== .free then (match env.cells.lookup n with|some c=>(n,c)::cs|none=>cs) else cs)
noncomputable def zet (sc:Scope) (env:Env):List (Str×Addr):=zci env sc.names []
theorem zeu {env:Env}:∀{ns:List (Str×NameKind)} {cs:List (Str×Addr)},(∀p∈cs,env.cells.lookup p.1=some p.2)->∀p∈zci env ns cs,env.cells.lookup p.1=some p.2
 |[],_,h=>h
 |(n,k)::r,cs,h=>by
  unfold zci
  refine zeu ?_
  by_cases hk:(k== .free)=true
  ·rw[if_pos hk]
   cases e:env.cells.lookup n with
   |none=>exact h
   |some c=>
    intro p hp
    rcases sq.mp hp with rfl|hp
    ·exact e
    ·exact h p hp
  ·rw[if_neg hk];exact h
theorem zev {env:Env}:∀{ns:List (Str×NameKind)} {cs:List (Str×Addr)} {p:Str×Addr},p∈cs->p∈zci env ns cs
 |[],_,_,h=>h
 |(n,k)::r,cs,p,h=>by
  unfold zci
  refine zev ?_
  by_cases hk:(k== .free)=true
  ·rw[if_pos hk]
   cases env.cells.lookup n with
   |none=>exact h
   |some c=>exact rT _ h
  ·rw[if_neg hk];exact h
theorem zew {env:Env} {x:Str} {c:Addr} (e:env.cells.lookup x=some c):∀{ns:List (Str×NameKind)} {cs:List (Str×Addr)},(x,NameKind.free)∈ns->(x,c)∈zci env ns cs
 |[],_,h=>by cases h
 |(n,k)::r,cs,h=>by
  unfold zci
  rcases sq.mp h with h|h
  ·injection h with h1 h2
   subst h1 h2
   refine zev ?_
   rw[if_pos (by rfl),e]
   exact sj
  ·exact zew e h
theorem Uu:∀{l:List (Str×Addr)} {x:Str} {c:Addr},(x,c)∈l->∃d,l.lookup x=some d
 |[],_,_,h=>by cases h
 |(n,d)::r,x,c,h=>by
  rw[tj]
  cases e:x==n with
  |true=>exact⟨d,rfl⟩
  |false=>
   rcases sq.mp h with h|h
   ·injection h with h1 h2
    subst h1
    simp at e
   ·exact Uu h
theorem Zy {sc:Scope} {env:Env} {x:Str} {c:Addr} (e:(zet sc env).lookup x=some c):env.cells.lookup x=some c:=
 zeu (cs:=[]) (λp hp=>by cases hp) (x,c) (tR e)
theorem zex {sc:Scope} {env:Env} {x:Str} {c:Addr} (h:(x,NameKind.free)∈sc.names) (e:env.cells.lookup x=some c):(zet sc env).lookup x=some c:=by
 obtain⟨d,hd⟩:=Uu (zew (cs:=[]) e h)
 have:=Zy (sc:=sc) hd
 rw[e] at this
 cases this
 exact hd
theorem zcj {sc:Scope} {env:Env} (h:∀y∈sc.names,y.2= .free->∃c,env.cells.lookup y.1=some c):closureFor sc env=pure (zet sc env):=by
 unfold zet closureFor
 generalize sc.names=ns at h
 suffices hh:∀cs:List (Str×Addr),(forIn ns cs (λ(x:Str×NameKind) (r:List (Str×Addr))=>
    (match x with
     |(name,kind)=>if (kind==NameKind.free)=true then (cellOf env name>>=λc=>pure (uA ((name,c)::r))) else pure (uA r):Sem (ForInStep (List (Str×Addr)))))>>=λr=>pure r:Sem (List (Str×Addr)))=pure (zci env ns cs) from hh []
 induction ns with
 |nil=>intro cs;rfl
 |cons p r ih=>
  intro cs
  obtain⟨n,k⟩:=p
  rw[List.forIn_cons]
  unfold zci
  have ih':=ih λy hy=>h y (rT _ hy)
  by_cases hk:(k== .free)=true
  ·obtain⟨c,hc⟩:=h (n,k) sj (by simpa using hk)
   have hc:env.cells.lookup n=some c:=hc
   have h1:cellOf env n=pure c:=by unfold cellOf;rw[hc]
   simp only[hk,if_true,h1,hc,pure_bind]
   exact ih' _
  ·simp only[hk,if_false,pure_bind]
   exact ih' _
noncomputable def wK (X:Cx) (N':List Str) (sc:Scope) (C:Addr) (s₀:Shared) (H₀:Hp) (fp:List Addr):Cx where
 prog:=X.prog
 w:=X.w
 K:=X.K
 mg:=X.mg
 base:=X.base
 A:=X.A
 N:=N'
 s₀:=s₀
 H₀:=H₀
 env:=compEnvC sc (zet sc X.env) C X.env
 outer:=X.stack
 stack:=X.stack
 ex:=fp
 fn:=λ_=>false
 calm:=X.calm
 pn:=[]
 xe:=λ_ _=>False
theorem Ym {env:Env}:∀{names:List (Str×NameKind)} {x:Str},names.lookup x=some .free->
  (names.map λ(n,k)=>if (k==NameKind.free&&env.scope.kind== .function&&env.kindOf n==some .cell) then (n,NameKind.cell) else (n,k)).lookup x=some .cell\/
  (names.map λ(n,k)=>if (k==NameKind.free&&env.scope.kind== .function&&env.kindOf n==some .cell) then (n,NameKind.cell) else (n,k)).lookup x=some .free
 |[],_,h=>by simp at h
 |(n,k)::r,x,h=>by
  have ih:= @Ym env r x
  show uf x ((if (k==NameKind.free&&env.scope.kind== .function&&env.kindOf n==some .cell)=true then (n,NameKind.cell) else (n,k))::_)=_\/uf x ((if (k==NameKind.free&&env.scope.kind== .function&&env.kindOf n==some .cell)=true then (n,NameKind.cell) else (n,k))::_)=_
  cases hx:x==n with
  |true=>
   simp only[tj,hx] at h
   cases h
   by_cases hc:(NameKind.free==NameKind.free&&env.scope.kind== .function&&env.kindOf n==some .cell)=true
   ·rw[if_pos hc];left;simp[tj,hx]
   ·rw[if_neg hc];right;simp[tj,hx]
  |false=>
   simp only[tj,hx] at h
   by_cases hc:(k==NameKind.free&&env.scope.kind== .function&&env.kindOf n==some .cell)=true
   ·rw[if_pos hc];simp only[tj,hx];exact ih h
   ·rw[if_neg hc];simp only[tj,hx];exact ih h
theorem Xc {env:Env} {x:Str} {k:NameKind} (hk:k= .cell\/k= .free):∀{names:List (Str×NameKind)},(∀y∈names,y.2≠ .cell)->
  (names.map λ(n,k)=>if (k==NameKind.free&&env.scope.kind== .function&&env.kindOf n==some .cell) then (n,NameKind.cell) else (n,k)).lookup x=some k->(x,NameKind.free)∈names
 |[],_,h=>by simp at h
 |(n,j)::r,hc,h=>by
  have hr:∀y∈r,y.2≠ .cell:=λy hy=>hc y (rT _ hy)
  have h:uf x ((if (j==NameKind.free&&env.scope.kind== .function&&env.kindOf n==some .cell)=true then (n,NameKind.cell) else (n,j))::_)=_:=h
  by_cases hj:(j==NameKind.free&&env.scope.kind== .function&&env.kindOf n==some .cell)=true
  ·rw[if_pos hj,tj] at h
   have lO:j= .free:=by
    simp only[tL,beq_iff_eq] at hj
    exact hj.1.1
   cases hx:x==n with
   |true=>
    rw[eq_of_beq hx,<-lO]
    exact sj
   |false=>
    rw[hx] at h
    exact rT _ (Xc hk hr h)
  ·rw[if_neg hj,tj] at h
   cases hx:x==n with
   |true=>
    rw[hx] at h
    have h':j=k:=sr h
    have jx:j≠ .cell:=hc (n,j) sj
    rcases hk with e|e
    ·exact absurd (h'.trans e) jx
    ·rw[eq_of_beq hx]
     have:j= .free:=h'.trans e
     rw[this]
     exact sj
   |false=>
    rw[hx] at h
    exact rT _ (Xc hk hr h)
def Zb (X:Cx) (sc:Scope):List (Option Nat)->List Str->Prop
 |[],[]=>True
 |none::r,_::n=>Zb X sc r n
 |some i::r,x::n=>(X.N[i]? =some x/\sc.names.lookup x=some .free)/\Zb X sc r n
 |_,_=>False
noncomputable def YE (cap:List (Option Nat)) (σ:St):St:=cap.map λo=>o.bind λi=>(σ[i]?).join
theorem Zb.at {X:Cx} {sc:Scope}:∀{cap:List (Option Nat)} {N':List Str},Zb X sc cap N'->∀(j i:Nat) (x:Str),cap[j]? =some (some i)->N'[j]? =some x->X.N[i]? =some x/\sc.names.lookup x=some .free
 |[],[],_,j,i,x,h,_=>by simp at h
 |none::r,y::n,c,0,i,x,h,_=>by simp at h
 |none::r,y::n,c,j+1,i,x,h,h2=>Zb.at (cap:=r) c j i x (by simpa using h) (by simpa using h2)
 |some k::r,y::n,c,0,i,x,h,h2=>by
  simp at h h2
  subst h h2
  exact c.1
 |some k::r,y::n,c,j+1,i,x,h,h2=>Zb.at (cap:=r) c.2 j i x (by simpa using h) (by simpa using h2)
theorem Zb.len {X:Cx} {sc:Scope}:∀{cap:List (Option Nat)} {N':List Str},Zb X sc cap N'->cap.length=N'.length
 |[],[],_=>rfl
 |none::r,y::n,c=>by simpa using Zb.len (cap:=r) (N':=n) c
 |some k::r,y::n,c=>by simpa using Zb.len (cap:=r) (N':=n) c.2
theorem zcN {cap:List (Option Nat)} {σ:St} {j:Nat} {v:V} (h:(YE cap σ)[j]? =some (some v)):∃i,cap[j]? =some (some i)/\σ[i]? =some (some v):=by
 unfold YE at h
 rw[rM] at h
 cases e:cap[j]? with
 |none=>rw[e] at h;cases h
 |some o=>
  rw[e] at h
  cases o with
  |none=>simp at h
  |some i=>
   refine⟨i,rfl,?_⟩
   simp only[z7,rZ,tm] at h
   cases q:σ[i]? with
   |none=>rw[q] at h;simp at h
   |some z=>rw[q] at h;simp at h;rw[h]
def PTs (X:Cx) (ifs:List Expr) (t:TT):Prop:=
 ∀(pins:List (Addr×Obj)) (s:Shared) (σ:St) (H:Hp) (Q:Bool->Hp->Prop),Inv X pins σ H s->t σ H Q->
  wpAny (model X.prog X.w) X.A (forIn ifs true λc r=>if r=true then do let ok <-isTrue c X.env (eval c X.env);pure (uA ok) else pure (uA r)) (TP X pins σ Q) X.xe s
theorem xS {X:Cx}:PTs X [] (λ_ H Q=>Q true H):=λ_ _ _ H _ I h=>wpAny_tests_nil ⟨H,I,h⟩
theorem zgQ {X:Cx} {c:Expr} {t:TT} (h:PT X c t):PTs X [c] t:=λpins s σ H Q I hw=>wpAny_tests_one (h pins s σ H Q I hw)
def zir (cap:List (Option Nat)) (g:TG) (tt:TT) (te:TE) (J:It) (σ:St) (acc:Addr) (H0:Hp) (Q:Hp->Prop):Prop:=
 ∃W:Nat->Nat->List V->Hp->Prop,(∃m,W 0 m [] (upd H0 acc (.lst [])))/\∀i m ys H,W i m ys H->
  (J.stop i H/\Q H)\/(J.go i H/\∀x H',J.yld i H x H'->g x (YE cap σ) H' λσ2 H2=>tt σ2 H2 λb H3=>
   if b=true then te σ2 H3 λv H4=>H4 acc=some (.lst ys)/\ys.length<sizeLine/\∃m',m'<m/\W (i+1) m' (ys++[v]) (upd H4 acc (.lst (ys++[v])))
   else ∃m',m'<m/\W (i+1) m' ys H3)
def zis (cap:List (Option Nat)) (wi:TI) (g:TG) (tt:TT) (te:TE):TE:=λσ H Q=>wi σ H λJ H1=>∀acc,H1 acc=none->zir cap g tt te J σ acc H1 λH2=>Q (.ref acc) H2
def zey (i:Nat) (cap:List (Option Nat)) (wi:TI) (g:TG) (tt:TT) (te:TE):TS:=λD σ H=>wi σ H λJ H1=>∀acc,H1 acc=none->zir cap g tt te J σ acc H1 λH2=>D.nx (σ.set i (some (.ref acc))) H2
structure ZI (X:Cx) (sc:Scope):Prop where
 cell:∀y∈sc.names,y.2≠ .cell
 kind:sc.kind= .function
 names:∀y∈sc.names,y.2= .local->sc.names.lookup y.1=some .local
 free:∀y∈sc.names,y.2= .free->X.env.kindOf y.1=some .cell\/X.env.kindOf y.1=some .free
section
variable {X:Cx} {elt tg iter:Expr} {ifs:List Expr} {sc:Scope} {pos:Pos} {wi:TI} {g:TG} {tt:TT} {te:TE} {N':List Str} {cap:List (Option Nat)}
theorem Inv.closure {pins:List (Addr×Obj)} {σ:St} {H:Hp} {s:Shared} (I:Inv X pins σ H s) (B:ZI X sc):closureFor sc X.env=pure (zet sc X.env):=
 zcj λy hy e=>I.ok.has y.1 (B.free y hy e)
theorem zhu {pins:List (Addr×Obj)} {σ:St} {H:Hp} {s:Shared} {h₁:Heap} {t':Nat} {fp:List Addr} {acc C:Addr} {s₀:Shared} {m:Str->Option Value}
  (I:Inv X pins σ H s) (B:ZI X sc) (cp:Zb X sc cap N') (hf:∀b∈fp,za5 X pins H b) (pP:∀b∈fp,b<s.heap.objs.size) (d5:acc=s.heap.objs.size) (ho:s₀.os=s.os) (lQ:s₀.gens=s.gens)
  (h0:s₀.heap=s.heap.push {cls:= .type "list",data:= .seq #[]}) (hC:C=s₀.heap.objs.size)
  (eL:h₁.Ns C m) (iX:∀b o,s₀.heap.get? b=some o->h₁.get? b=some o):
  Inv (wK X N' sc C s₀ (upd H acc (.lst [])) fp) [] (YE cap σ) (upd H acc (.lst [])) {s₀ with heap:=h₁,toks:=t'}:=by
 have qZ:H acc=none:=I.hok.fresh (uF d5.symm)
 have gW:∀b o,s.heap.get? b=some o->s₀.heap.get? b=some o:=λb o e=>by rw[h0];exact Heap.get?_push_of_some _ e
 have kz:s₀.heap.objs.size=s.heap.objs.size+1:=by rw[h0,Heap.size_push]
 have I0:Inv X pins σ (upd H acc (.lst [])) {s with heap:=s₀.heap,toks:=s.toks}:=I.laid gW (uF d5.symm) ⟨tf _,[],0,.nil,by rw[h0,d5];exact Heap.get?_push_size _ rfl⟩
 have CX':∀b,b<s.heap.objs.size->b≠C:=λb hb=>sA (by rw[hC,kz];exact Ai hb)
 have CA:∀b,b<s.heap.objs.size->b≠acc:=λb hb=>sA (by rw[d5];exact hb)
 have cellLt:∀x c,X.env.cells.lookup x=some c->c<s.heap.objs.size:=λx c e=>by
  obtain⟨v,o,q,_⟩:=I.cell x c e
  exact Heap.lt_size q
 refine⟨⟨I.ok.mod,B.kind,I.ok.glob,I.ok.blt,uF hC.symm,λx y c h1 h2=>I.ok.inj x y c (Zy h1) (Zy h2),λx hx=> ?_,λx c h=>Bool.noConfusion h,I.ok.hd,I.ok.frames,.inl rfl,λb hb=>⟨CX' b (pP b hb),λx c e=>(hf b hb).2.2.2.2.1 x c (Zy e)⟩,
   λb o e=> ?_,?_,λb o e hb=> ?_,λb hb hz=> ?_,I0.stack,I0.stkFree⟩,
  rfl,?_,Un.kept iX,⟨m,eL,λj x v h1 h2 h3=> ?_⟩,λx c e=> ?_,?_,λx c e=> ?_,λp hp=>absurd (show p∈([]:List (Addr×Obj)) from hp) (by simp),I0.hok.kept iX,?_⟩
 ·have hm:(x,NameKind.free)∈sc.names:=by
   rcases hx with hx|hx
   ·exact Xc (env:=X.env) (.inl rfl) B.cell hx
   ·exact Xc (env:=X.env) (.inr rfl) B.cell hx
  obtain⟨c,hc⟩:=I.ok.has x (B.free _ hm rfl)
  exact⟨c,zex hm hc⟩
 ·obtain⟨e1,e2⟩:=I.bs b o e
  exact⟨gW b o e1,by show upd H acc (.lst []) b=none;rw[yR (CA b (Heap.lt_size e1))];exact e2⟩
 ·exact si I.ok.bsz (si I.sz (by show _<=s₀.heap.objs.size;omega))
 ·rcases (hf b hb).2.2.2.1 with z|z
  ·exact I.ok.noex b o e z
  ·exact absurd (sv (Heap.lt_size e) (si I.ok.bsz z)) (tS _)
 ·rcases sq.mp (I.stkSub b hz) with e|e
  ·exact (hf b hb).2.1 e
  ·exact (hf b hb).2.2.1 e
 ·show AllBare s₀.gens
  rw[lQ];exact I.bare
 ·obtain⟨i,e1,e2⟩:=zcN h2
  obtain⟨e3,e4⟩:=cp.at j i x e1 h1
  have hm:(x,NameKind.free)∈sc.names:=tR e4
  have hk:=B.free _ hm rfl
  obtain⟨m0,qR,hl⟩:=I.loc
  obtain⟨u,r,l⟩:=hl i x v e3 e2 (by rcases hk with k|k;exact .inr (.inl k);exact .inr (.inr k))
  refine⟨u,r,.inr ?_⟩
  rcases l with⟨k,_⟩|⟨_,c,hc,o,q,d⟩
  ·rcases hk with k'|k'
   ·rw[k] at k';cases k'
   ·rw[k] at k';cases k'
  ·exact⟨Ym (env:=X.env) e4,c,zex hm hc,o,iX c o (gW c o q),d⟩
 ·obtain⟨v,o,q,d⟩:=I.cell x c (Zy e)
  exact⟨v,o,iX c o (gW c o q),d⟩
 ·show upd H acc (.lst []) C=none
  rw[yR (by rw[hC,d5,kz];exact y6 _)]
  exact I.hok.fresh (by rw[hC,kz];exact t5 _)
 ·show upd H acc (.lst []) c=none
  rw[yR (CA c (cellLt x c (Zy e)))]
  exact I.freeC x c (Zy e)
 ·show (YE cap σ).length=N'.length
  unfold YE
  rw[rJ]
  exact cp.len
def Kp (σ0 σ:St):Prop:=σ.length=σ0.length/\∀(j:Nat) v,σ0[j]? =some (some v)->σ[j]? =some (some v)
def zks (cap:List (Option Nat)) (g:TG):Prop:=∀σ0 σ x H Q,Kp (YE cap σ0) σ->g x σ H Q->g x σ H λσ2 H2=>Q σ2 H2/\Kp (YE cap σ0) σ2
theorem yQ {i:Nat} (h:cap[i]? =some none):zks cap (zgG i):=λσ0 σ x H Q k q=>by
 refine⟨q,by rw[uZ];exact k.1,λj v e=> ?_⟩
 have:j≠i:=by
  rintro rfl
  obtain⟨i',e1,_⟩:=zcN e
  rw[h] at e1;cases e1
 rw[z0 (uE this)]
 exact k.2 j v e
theorem zcO {pins:List (Addr×Obj)} {σ:St} {H:Hp} {s:Shared} {use:Option (Value->Sem Unit)} {Q:Value->Shared->Prop} {R:Addr->Hp->Prop} {p:Pos}
  (hc:X.calm=true) (B:ZI X sc) (cp:Zb X sc cap N') (hi:PI X tg iter wi) (ow:zks cap g)
  (hg:∀C s₀ H₀ fp,PG (wK X N' sc C s₀ H₀ fp) tg g) (ht:∀C s₀ H₀ fp,PTs (wK X N' sc C s₀ H₀ fp) ifs tt) (he:∀C s₀ H₀ fp,PE (wK X N' sc C s₀ H₀ fp) elt te)
  (hs:∀x,foldedSetIterable iter X.env x=pure x)
  (I:Inv X pins σ H s) (h:wi σ H λJ H1=>∀acc,H1 acc=none->zir cap g tt te J σ acc H1 (R acc))
  (fin:∀(acc C:Addr) (H':Hp) (s':Shared) (m:Str->Option Value),Inv X pins σ H' s'->s'.heap.Ns C m->C≠X.env.locals->
   (∀{σ':St} {s'':Shared},Inv X pins σ' H' s''->∀h',Heap.SameBut C s''.heap h'->Inv X pins σ' H' {s'' with heap:=h'})->
   R acc H'->compPost (model X.prog X.w) X.A X.xe use Q (.ref acc) C (.ok .next) s'):
  wpAny (model X.prog X.w) X.A (comprehension (.ListComp elt [⟨tg,iter,ifs,0⟩] sc pos) sc X.env p (newList []) false (eval iter X.env) use) Q X.xe s:=by
 refine wpAny_comprehension_free rfl hs (I.closure B) B.kind B.names (thn (hi pins s σ H _ I h) λxv s1 h1=>thn h1 λkH s2 h2=> ?_)
 obtain⟨it,fp,tn,J,H2,e,I2,T,ig,f2,r2⟩:=h2
 subst e
 have nU:∀b∈fp,b<s2.heap.objs.size:=λb hb=>by
  obtain⟨o,e,_⟩:=T.obj _ _ ig b hb
  exact Heap.lt_size e
 refine wpAny_newObj_type (wpAny_newFunctionEnv B.cell (by intro y hy;simp at hy) (λh₁ hns₁ hsb₁=> ?_) B.kind)
 dsimp only at hns₁ hsb₁ ⊢
 obtain⟨s₀,jO⟩:∃s₀:Shared,s₀={s2 with heap:=s2.heap.push {cls:= .type "list",dict:=none,data:= .seq ([]:List Value).toArray}}:=⟨_,rfl⟩
 have e0h:s₀.heap=s2.heap.push {cls:= .type "list",data:= .seq #[]}:=by rw[jO]
 obtain⟨C,eC⟩:∃C:Addr,C=s₀.heap.objs.size:=⟨_,rfl⟩
 obtain⟨acc,eA⟩:∃a:Addr,a=s2.heap.objs.size:=⟨_,rfl⟩
 rw[show (s2.heap.push {cls:= .type "list",dict:=none,data:= .seq ([]:List Value).toArray}).objs.size=C by rw[eC,e0h]] at hns₁ hsb₁ ⊢
 have keep₁:∀b o,s₀.heap.get? b=some o->h₁.get? b=some o:=λb o e=>by
  refine hsb₁.extBut b o ?_ ?_
  ·rw[eC];exact sA (Heap.lt_size e)
  ·rw[e0h] at e;exact Heap.get?_push_of_some _ e
 have jT:C=s2.heap.objs.size+1:=by rw[eC,e0h,Heap.size_push]
 have gW:∀b o,s2.heap.get? b=some o->s₀.heap.get? b=some o:=λb o e=>by rw[e0h];exact Heap.get?_push_of_some _ e
 have nT:H2 acc=none:=I2.hok.fresh (uF eA.symm)
 show codeAny (model X.prog X.w) X.A (.compStart (.ListComp elt [⟨tg,iter,ifs,0⟩] sc pos) 0 (.ref it) (.ref s2.heap.objs.size) (compEnvC sc (zet sc X.env) C X.env))
  (compPost (model X.prog X.w) X.A X.xe use Q (.ref s2.heap.objs.size) C) {s2 with heap:=h₁,toks:=s2.toks+([]:List (Str×Value)).length}
 rw[<-eA]
 have qt:({s2 with heap:=h₁,toks:=s2.toks+([]:List (Str×Value)).length}:Shared)={s₀ with heap:=h₁,toks:=s2.toks+([]:List (Str×Value)).length}:=by rw[jO]
 rw[qt]
 obtain⟨W,⟨m0,w0⟩,turn⟩:=r2 acc nT
 have Ib:Inv (wK X N' sc C s₀ (upd H2 acc (.lst [])) fp) [] (YE cap σ) (upd H2 acc (.lst [])) {s₀ with heap:=h₁,toks:=s2.toks+([]:List (Str×Value)).length}:=
  zhu I2 B cp f2 nU eA (by rw[jO]) (by rw[jO]) e0h eC hns₁ keep₁
 have stat:∀{H':Hp},(∀b∈fp,H' b=none)->∀b∈fp,za5 (wK X N' sc C s₀ (upd H2 acc (.lst [])) fp) [] H' b:=λhn b hb=>
  ⟨hn b hb,(Ib.ok.exf b hb).1,Ib.ok.exfs b hb,.inl hb,λx c e=>(Ib.ok.exf b hb).2 x c e,λp hp=>absurd (show p∈([]:List (Addr×Obj)) from hp) (by simp)⟩
 have qm:∀b∈fp,upd H2 acc (.lst []) b=none:=λb hb=>by
  rw[yR (by rw[eA];exact sA (nU b hb))]
  exact (f2 b hb).1
 have loop:codeAny (model X.prog X.w) X.A (.compLoop (.ListComp elt [⟨tg,iter,ifs,0⟩] sc pos) 0 (.ref it) (.ref acc) (compEnvC sc (zet sc X.env) C X.env))
   (compPost (model X.prog X.w) X.A X.xe use Q (.ref acc) C) {s₀ with heap:=h₁,toks:=s2.toks+([]:List (Str×Value)).length}:=by
  refine Vn (λn s'=>∃i ys H',Inv (wK X N' sc C s₀ (upd H2 acc (.lst [])) fp) [] (YE cap σ) H' s'/\tn i s'.heap/\(∀b∈fp,H' b=none)/\W i n ys H') ?_ m0
   ⟨0,[],_,Ib,T.keep _ _ _ ig λb hb o e=>keep₁ b o (gW b o e),qm,w0⟩
  rintro n s3 ⟨i,ys,H3,I3,jf,jM,w3⟩
  rcases turn i n ys H3 w3 with⟨stop,qn⟩|⟨go,step⟩
  ·refine thn (T.done (wK X N' sc C s₀ (upd H2 acc (.lst [])) fp) rfl rfl rfl hc i [] s3 _ H3 (λ_ _=>False) I3 (stat jM) jf stop) λr s4 ⟨hr,I4⟩=> ?_
   subst hr
   have u0:Un (frs X.stack) fp H2 (upd H2 acc (.lst [])) s2.heap s₀.heap:=Un.laid gW (uF eA.symm) nT
   have un:Un (frs X.stack) fp H2 H3 s2.heap s4.heap:=u0.trans I4.base
   have I5:Inv X pins σ H3 s4:=I2.call' (by rw[I4.os];show s₀.os=_;rw[jO]) un I4.hok I4.bare λb hb=>⟨(f2 b hb).2.2.2.1,(f2 b hb).2.1,(f2 b hb).2.2.2.2.1,(f2 b hb).2.2.2.2.2⟩
   obtain⟨m4,pk,_⟩:=I4.loc
   have CL:C≠X.env.locals:=λz=>by
    have:=I2.lt
    rw[<-z,jT] at this
    exact absurd this (BZ.mpr (t5 _))
   refine fin acc C H3 s4 m4 I5 pk CL (λ{σ' s''} I6 h' sb=> ?_) qn
   refine I6.turned (t':=s''.toks) (λb o hb e=>(sb.2 b hb).trans e) I4.free CL (.inr ?_) (λx c e z=> ?_) λp hp z=> ?_
   ·have:=I2.sz
    rw[jT]
    omega
   ·obtain⟨v,o,q,_⟩:=I2.cell x c e
    have:=Heap.lt_size q
    rw[z,jT] at this
    exact absurd this (BZ.mpr (t5 _))
   ·obtain⟨q,_⟩:=I2.pin p hp
    have:=Heap.lt_size q
    rw[z,jT] at this
    exact absurd this (BZ.mpr (t5 _))
  ·refine thn (T.item (wK X N' sc C s₀ (upd H2 acc (.lst [])) fp) rfl rfl rfl hc i [] s3 _ H3 (λ_ _=>False) I3 (stat jM) jf go) λr s4 ⟨u,hr,h4⟩=> ?_
   subst hr
   refine thn h4 ?_
   rintro _ s5 ⟨x,H5,I5,r5,y5,ie,ml⟩
   have I5':=I5.pinned (stat ml) (T.obj _ _ ie)
   refine thn (hg C s₀ _ fp _ s5 _ H5 x u _ I5' r5 (ow σ _ x H5 _ ⟨rfl,λ_ _ e=>e⟩ (step x H5 y5))) ?_
   rintro _ s6 ⟨σ6,H6,I6,q6,mF⟩
   have again:∀{H7:Hp} {s7:Shared} {zs:List V},Inv (wK X N' sc C s₀ (upd H2 acc (.lst [])) fp) ([]++za6 fp s5.heap) σ6 H7 s7->(∃m',m'<n/\W (i+1) m' zs H7)->
     ∃m,m<n/\∃i ys H',Inv (wK X N' sc C s₀ (upd H2 acc (.lst [])) fp) [] (YE cap σ) H' s7/\tn i s7.heap/\(∀b∈fp,H' b=none)/\W i m ys H':=λ{H7 s7 zs} I7 w7=>by
    obtain⟨m',hm,w7⟩:=w7
    refine⟨m',hm,i+1,zs,H7,(I7.unpinned).weak mF.1.symm mF.2,T.keep _ _ _ ie λb hb o e=>(I7.pin (b,o) (sT _ (sT _ (Wm hb e)))).1,λb hb=> ?_,w7⟩
    obtain⟨o,e,d⟩:=T.obj _ _ ie b hb
    exact (I7.pin (b,o) (sT _ (sT _ (Wm hb e)))).2.1
   refine thn (ht C s₀ _ fp _ s6 σ6 H6 _ I6 q6) ?_
   rintro ok s7 ⟨H7,I7,q7⟩
   cases ok with
   |false=>
    rw[if_neg sy] at q7 ⊢
    exact again I7 q7
   |true=>
    rw[if_pos rfl] at q7 ⊢
    refine thn (he C s₀ _ fp _ s7 σ6 H7 _ I7 q7) ?_
    rintro xv s8 ⟨v,H8,I8,r8,jK,pC,w8⟩
    refine thn (wX _ s8 σ6 H8 (.ref acc) [v] (.ref acc) [xv] (λ_ H9=>H9=upd H8 acc (.lst (ys++[v]))) I8 rfl (.cons r8 .nil) ⟨acc,ys,v,rfl,rfl,jK,pC,rfl⟩) ?_
    rintro _ s9 ⟨_,H9,I9,_,e9⟩
    subst e9
    exact again I9 w8
 exact codeAny_compStart_list loop (T.self _ 0 _ _ _ (T.keep _ _ _ ig λb hb o e=>keep₁ b o (gW b o e)) loop)
theorem xT (hc:X.calm=true) (B:ZI X sc) (cp:Zb X sc cap N') (hi:PI X tg iter wi) (ow:zks cap g)
  (hg:∀C s₀ H₀ fp,PG (wK X N' sc C s₀ H₀ fp) tg g) (ht:∀C s₀ H₀ fp,PTs (wK X N' sc C s₀ H₀ fp) ifs tt) (he:∀C s₀ H₀ fp,PE (wK X N' sc C s₀ H₀ fp) elt te)
  (hs:∀x,foldedSetIterable iter X.env x=pure x:=by intro _;rfl):PE X (.ListComp elt [⟨tg,iter,ifs,0⟩] sc pos) (zis cap wi g tt te):=by
 intro pins s σ H Q I h
 rw[eval_ListComp]
 refine zcO (use:=none) (R:=λacc H2=>Q (.ref acc) H2) hc B cp hi ow hg ht he hs I h λacc C H' s' m I' hn CL mk r=> ?_
 exact⟨m,hn,λh' sb=>⟨.ref acc,H',mk I' h' sb,rfl,r⟩⟩
theorem zbg {i:Nat} {y:Str} {py jg:Pos} (hc:X.calm=true) (B:ZI X sc) (cp:Zb X sc cap N') (hi:PI X tg iter wi) (ow:zks cap g)
  (hg:∀C s₀ H₀ fp,PG (wK X N' sc C s₀ H₀ fp) tg g) (ht:∀C s₀ H₀ fp,PTs (wK X N' sc C s₀ H₀ fp) ifs tt) (he:∀C s₀ H₀ fp,PE (wK X N' sc C s₀ H₀ fp) elt te)
  (hN:X.N.Nodup) (hy:X.N[i]? =some y) (hl:X.env.scope.names.lookup y=some .local)
  (oW:swapsWith (.ListComp elt [⟨tg,iter,ifs,0⟩] sc pos) (some (.Name y py)) jg.line X.env=pure true:=by rfl)
  (hs:∀x,foldedSetIterable iter X.env x=pure x:=by intro _;rfl):PS X (.Assign [.Name y py] (.ListComp elt [⟨tg,iter,ifs,0⟩] sc pos) jg) (zey i cap wi g tt te):=by
 intro pins s σ H D I h
 rw[exec_Assign_Name_used _ _ _ _ oW]
 refine wpAny_bind (wpAny_standAt (wpAny_bind ?_))
 show wpAny _ X.A (do let _ <-comprehension (.ListComp elt [⟨tg,iter,ifs,0⟩] sc pos) sc X.env _ (newList []) false (eval iter X.env) (some (assign (.Name y py) X.env))) _ _ s
 refine wpAny_bind (thn (zcO (use:=some (assign (.Name y py) X.env)) (Q:=λ_ s'=>SP X pins D .next s') (R:=λacc H2=>D.nx (σ.set i (some (.ref acc))) H2) hc B cp hi ow hg ht he hs I h λacc C H' s' m I' hn CL mk r=> ?_) λ_ s' hq=>wpAny_pure (wpAny_pure hq))
 show wpAny _ X.A (assign (.Name y py) X.env (.ref acc)) _ _ _
 refine wpAny_assign_Name (zcF I' hN hy (.inl hl) (v:= .ref acc) rfl (λs'' I'' iX=> ?_) (.inr hl))
 obtain⟨a,sb,ha⟩:=iX
 have qj:C≠a:=by
  rcases ha with ha|ha
  ·rw[ha];exact CL
  ·intro z
   rw[<-z] at ha
   obtain⟨v,o,q,d⟩:=I'.cell y C ha
   obtain⟨o',es,ep,q',d',_⟩:=hn
   rw[q] at q';cases q'
   rw[d] at d';cases d'
 exact⟨m,hn.sameBut sb qj,λh' sb'=>⟨_,H',mk I'' h' sb',r⟩⟩
end
def vi {α:Type}:Sem α->Prop
 | .pure _=>True
 | .raise _=>True
 | .unsupported _=>True
 | .finish _=>True
 | .rule _ k=>∀u,vi (k u)
 | .at _ k=>∀u,vi (k u)
 | .load _ _ k=>∀o,vi (k o)
 | .update _ _ f k=>(∀o,(f o).dict=o.dict/\(f o).cls=o.cls)/\∀u,vi (k u)
 | .alloc _ k=>∀a,vi (k a)
 | .loadIfAlive _ k=>∀o,vi (k o)
 | .point _ k=>∀u,vi (k u)
 | .stack k=>∀x,vi (k x)
 | .ask k=>∀x,vi (k x)
 |_=>False
def KD (h h':Heap):Prop:=∀(b:Nat) o,h.objs[b]? =some o->∃o',h'.objs[b]? =some o'/\o'.dict=o.dict/\o'.cls=o.cls
theorem KD.refl (h:Heap):KD h h:=λ_ o e=>⟨o,e,rfl,rfl⟩
theorem KD.trans {h h1 h2:Heap} (x:KD h h1) (y:KD h1 h2):KD h h2:=λb o e=>by
 obtain⟨o1,e1,d1,c1⟩:=x b o e
 obtain⟨o2,e2,d2,c2⟩:=y b o1 e1
 exact⟨o2,e2,d2.trans d1,c2.trans c1⟩
theorem KD.push (h:Heap) (o:Obj):KD h (h.push o):=λb o' e=>by
 refine⟨o',?_,rfl,rfl⟩
 obtain⟨objs,l⟩:=h
 show (objs.push o)[b]? =some o'
 have e:objs[b]? =some o':=e
 rw[Array.getElem?_push]
 have hb:b<objs.size:=(Ac.mp e).1
 rw[if_neg (sA hb)]
 exact e
theorem KD.update (h:Heap) (a:Addr) {f:Obj->Obj} (hf:∀o,(f o).dict=o.dict/\(f o).cls=o.cls):KD h (h.update a f):=λb o e=>by
 obtain⟨objs,l⟩:=h
 show ∃o',(objs.modify a f)[b]? =some o'/\_
 rw[Array.getElem?_modify]
 have e:objs[b]? =some o:=e
 by_cases fT:a=b
 ·rw[if_pos fT,e]
  exact⟨f o,rfl,hf o⟩
 ·rw[if_neg fT,e]
  exact⟨o,rfl,rfl,rfl⟩
theorem zez {h:Heap} {a:Addr} {o:Obj} (e:h.get? a=some o):h.objs[a]? =some o:=by
 unfold Heap.get? at e
 split at e
 ·cases e
 ·exact e
theorem KD.at {h h':Heap} {a:Addr} {o o':Obj} (k:KD h h') (e:h.get? a=some o) (e':h'.get? a=some o'):o'.dict=o.dict/\o'.cls=o.cls:=by
 obtain⟨o1,e1,d⟩:=k a o (zez e)
 rw[zez e'] at e1
 cases e1
 exact d
theorem zkt {α:Type} {M:Model} {Γ:PySem.Ctx} {t:Sem α}:∀{Q:α->Pos->Shared->Prop} {E:Value->Pos->Shared->Prop} {p:Pos} {s:Shared} {h₀:Heap},vi t->KD h₀ s.heap->Sem.wp M Γ t Q E p s->
  Sem.wp M Γ t (λa p' s'=>Q a p' s'/\KD h₀ s'.heap) (λe p' s'=>E e p' s'/\KD h₀ s'.heap) p s:=by
 induction t with
 |pure a=>exact λ_ k h=>⟨h,k⟩
 |raise e=>exact λ_ k h=>⟨h,k⟩
 |unsupported w=>exact λ_ _ h=>h.elim
 |finish e=>exact λ_ _ h=>h.elim
 |rule _ k ih=>exact λt z h=>ih () (t ()) z h
 | «at» _ k ih=>exact λt z h=>ih () (t ()) z h
 |load a _ k ih=>
  intro Q E p s h₀ t z h
  obtain⟨o,e,h⟩:=h
  exact⟨o,e,ih o (t o) z h⟩
 |update a _ f k ih=>
  intro Q E p s h₀ t z h
  obtain⟨e,h⟩:=h
  exact⟨e,ih () (t.2 ()) (z.trans (KD.update _ _ t.1)) h⟩
 |alloc o k ih=>exact λt z h=>ih _ (t _) (z.trans (KD.push _ _)) h
 |loadIfAlive a k ih=>exact λt z h=>ih _ (t _) z h
 |point _ k ih=>exact λt z h=>ih () (t ()) z h
 |stack k ih=>exact λt z h=>ih _ (t _) z h
 |ask k ih=>exact λt z h=>ih _ (t _) z h
 |register _ _ _=>exact λt=>t.elim
 |fresh _ _=>exact λt=>t.elim
 |choose _ _ _ _=>exact λt=>t.elim
 |os _ _ _ _=>exact λt=>t.elim
 |call _ _ _ _ _ _=>exact λt=>t.elim
 |handled _ _ _=>exact λt=>t.elim
 |newGen _ _ _=>exact λt=>t.elim
 |genState _ _ _=>exact λt=>t.elim
 |resume _ _ _ _ _=>exact λt=>t.elim
 |yield _ _ _ _ _=>exact λt=>t.elim
 |fork _ _ _=>exact λt=>t.elim
 |thread _ _=>exact λt=>t.elim
 |await _ _ _ _ _ _=>exact λt=>t.elim
theorem zeA {α:Type} {M:Model} {A:Around} {t:Sem α} {Q:α->Shared->Prop} {E:Value->Shared->Prop} {s:Shared} (T:vi t) (h:wpAny M A t Q E s):wpAny M A t (λa s'=>Q a s'/\KD s.heap s'.heap) (λe s'=>E e s'/\KD s.heap s'.heap) s:=
 λΓ p hΓ=>zkt T (KD.refl _) (h Γ p hΓ)
theorem zhv {α β:Type} {f:α->Sem β} (hf:∀a,vi (f a)):∀{t:Sem α},vi t->vi (t.bind f):=by
 intro t
 induction t with
 |pure a=>exact λ_=>hf a
 |raise e=>exact λ_=>trivial
 |unsupported w=>exact λ_=>trivial
 |finish e=>exact λ_=>trivial
 |rule _ k ih=>exact λt u=>ih u (t u)
 | «at» _ k ih=>exact λt u=>ih u (t u)
 |load a _ k ih=>exact λt u=>ih u (t u)
 |update a _ f k ih=>exact λt=>⟨t.1,λu=>ih u (t.2 u)⟩
 |alloc o k ih=>exact λt u=>ih u (t u)
 |loadIfAlive a k ih=>exact λt u=>ih u (t u)
 |point _ k ih=>exact λt u=>ih u (t u)
 |stack k ih=>exact λt u=>ih u (t u)
 |ask k ih=>exact λt u=>ih u (t u)
 |register _ _ _=>exact λt=>t.elim
 |fresh _ _=>exact λt=>t.elim
 |choose _ _ _ _=>exact λt=>t.elim
 |os _ _ _ _=>exact λt=>t.elim
 |call _ _ _ _ _ _=>exact λt=>t.elim
 |handled _ _ _=>exact λt=>t.elim
 |newGen _ _ _=>exact λt=>t.elim
 |genState _ _ _=>exact λt=>t.elim
 |resume _ _ _ _ _=>exact λt=>t.elim
 |yield _ _ _ _ _=>exact λt=>t.elim
 |fork _ _ _=>exact λt=>t.elim
 |thread _ _=>exact λt=>t.elim
 |await _ _ _ _ _ _=>exact λt=>t.elim
theorem tb {α β:Type} {t:Sem α} {f:α->Sem β} (h:vi t) (hf:∀a,vi (f a)):vi (t>>=f):=zhv hf h
theorem zck (v:Value):vi (fieldsOf v):=by
 unfold fieldsOf
 split
 ·refine tb (λo=>trivial) λo=> ?_
  split<;>trivial
 ·trivial
theorem Wq (v:Value) (i:Nat):vi (field v i):=by
 unfold field
 refine tb (zck v) λa=> ?_
 split<;>trivial
theorem zbh (g:Array Value->Array Value) (o:Obj):(Obj.mapFields g o).dict=o.dict/\(Obj.mapFields g o).cls=o.cls:=by
 obtain⟨c,d,dt,sl⟩:=o
 cases dt<;>exact⟨rfl,rfl⟩
theorem Xu (v:Value) (i:Nat) (x:Value):vi (setField v i x):=by
 unfold setField
 split
 ·unfold updateField
  refine tb (λo=>trivial) λo=> ?_
  split
  ·split
   ·exact⟨λo=>zbh _ o,λ_=>trivial⟩
   ·trivial
  ·trivial
 ·trivial
theorem zbi (e:Value) (f:Option Addr):vi (setFlight e f):=by
 unfold setFlight
 refine tb (Wq _ _) λtb'=> ?_
 split
 ·exact Xu _ _ _
 ·trivial
theorem zbj (ty:String) (vs:List Value):vi (newFields ty vs):=by
 have h:vi (newObjAsIs (Value.type ty) (Data.fields vs.toArray)):=by
  unfold newObjAsIs
  exact tb (λa=>trivial) λa=>trivial
 unfold newFields newObj
 show vi (if vs.toArray.size>sizeLine+2 then (unsupported "record:memory">>=λ_=>newObjAsIs (Value.type ty) (Data.fields vs.toArray)) else newObjAsIs (Value.type ty) (Data.fields vs.toArray))
 split
 ·trivial
 ·exact h
theorem zeB (env:Env) (outer:List Env):vi (behindIsImport env outer):=by
 unfold behindIsImport
 split
 ·trivial
 ·split
  ·trivial
  ·exact tb (Wq _ _) λ_=>trivial
theorem zfR:vi underTheClaimsCaller:=tb (λ_=>trivial) λ_=>trivial
theorem zcl (env:Env) (i:Bool) (outer:List Env):vi (keptBack env i outer):=by
 cases outer with
 |nil=>
  unfold keptBack
  by_cases h:(env.scope.isGenerator||env.scope.isCoroutine)=true
  ·rw[if_pos h];trivial
  ·rw[if_neg h]
   refine tb zfR λx=> ?_
   trivial
 |cons c r=>
  unfold keptBack
  trivial
theorem zbk:∀l:List Env,vi (readyFrames l)
 |[]=>trivial
 |env::outer=>by
  unfold readyFrames
  split
  ·refine tb (λo=>trivial) λo=> ?_
   split
   ·trivial
   ·exact tb (zeB _ _) λi=>tb (zcl _ _ _) λb=>tb ⟨λo=>⟨rfl,rfl⟩,λ_=>trivial⟩ λ_=>zbk outer
  ·trivial
theorem zdp (env:Env):vi (Bf env):=by
 unfold Bf
 refine tb (λx=>trivial) λl=>tb ?_ λo=> ?_
 ·generalize List.dropWhile _ l=l'
  unfold frameObject
  cases l' with
  |nil=>trivial
  |cons a r=>exact tb (zbk _) λ_=>trivial
 ·split<;>trivial
theorem zaH (f:Addr) (b:Bool):vi (entryPlaceOf f b):=by
 unfold entryPlaceOf
 refine tb (λx=>trivial) λl=> ?_
 split<;>trivial
theorem zbl (e:Value) (env:Env):vi (noteFrame e env):=by
 unfold noteFrame
 split
 ·rename_i f _
  have last:∀head:Value,vi (do setField e 1 (<-EntryCells.newEntry head (<-Bf env) .none (rawInt f) .none (<-entryPlaceOf f (head != .none)))):=λhead=>
   tb (zdp env) λa=>tb (zaH _ _) λpl=>tb (zbj _ _) λb=>Xu _ _ _
  refine tb (Wq _ _) λhead=> ?_
  split
  ·refine tb (Wq _ _) λx=> ?_
   split
   ·trivial
   ·exact tb (Xu _ _ _) λ_=>last head
  ·exact last head
 ·trivial
theorem Tb (env:Env) (e:Value):vi (leaving env e):=tb (zbl e env) λ_=>zbi _ _
theorem wI.there {P:Program} {w:World} {H:Hp} {h:Heap} {a:Addr} {o:HO} (x:wI P w H h a o):∃ob,h.get? a=some ob:=by
 cases o with
 |lst xs=>obtain⟨_,_,_,_,e⟩:=x;exact⟨_,e⟩
 |tup xs=>obtain⟨_,_,_,ob,e,_⟩:=x;exact⟨_,e⟩
 |dK cL=>obtain⟨_,_,_,_,o,_,_,e,_⟩:=x;exact⟨_,e⟩
 |dT cL=>obtain⟨_,_,_,_,o,_,_,e,_⟩:=x;exact⟨_,e⟩
 |dN cL=>obtain⟨_,_,_,_,o,_,_,e,_⟩:=x;exact⟨_,e⟩
 |set S n=>obtain⟨o,_,_,_,e,_⟩:=x;exact⟨_,e⟩
 |ins C dx fs=>obtain⟨_,_,_,e,_⟩:=x;exact⟨_,e⟩
 |own y=>obtain⟨_,e⟩:=x;exact⟨_,e⟩
 |xd fs=>obtain⟨_,⟨_,_,_,e,_⟩,_⟩:=x;exact⟨_,e⟩
 |rng lo hi=>obtain⟨_,_,_,e⟩:=x;exact⟨_,e⟩
 |frz ob u=>obtain⟨e,_⟩:=x;exact⟨_,e⟩
 |tbl ps=>exact⟨_,(show h.get? a=some _ from x)⟩
 |met f y=>exact⟨_,(show h.get? a=some _ from x)⟩
 |ext φ=>obtain⟨_,⟨_,e⟩,_⟩:=x;exact⟨_,e⟩
def Cov (outer:List Env) (H':Hp) (old h' B:Heap):Prop:=
 (∀b o,(∃o0,old.get? b=some o0)->b∉frs outer->h'.get? b=some o->B.get? b=some o)/\∀b u o,H' b=some u->h'.get? b=some o->B.get? b=some o
structure Fly (P:Program) (w:World) (outer:List Env) (H:Hp) (s:Shared) (e:Addr) (cls:Value) (H':Hp) (s':Shared):Prop where
 os:s'.os=s.os
 bare:AllBare s'.gens
 un:Un (frs outer) [] H H' s.heap s'.heap
 hok:HOk P w H' s'.heap
 fly:∃B t,Heap.FlyingW B outer e cls (.ref t) s'.heap/\Cov outer H' s.heap s'.heap B
 new:s.heap.get? e=none
 free:H' e=none
 nd:∀o,s'.heap.get? e=some o->o.dict=none
noncomputable def CXE (P:Program) (w:World):CXT:=λouter H s E ev s'=>∃e cls H',ev= .ref e/\Fly P w outer H s e cls H' s'/\E cls none H'
theorem Fly.moved {P:Program} {w:World} {outer:List Env} {H H':Hp} {s s':Shared} {e:Addr} {cls a0:Value} {B h2:Heap} (F:Fly P w outer H s e cls H' s') (fl:Heap.FlyingW B outer e cls a0 s'.heap) (cov:Cov outer H' s.heap s'.heap B)
  (st:B.StaysIn h2) (sm:s'.heap.UpToSlots h2):Un (frs outer) [] H H' s.heap h2/\HOk P w H' h2/\Cov outer H' s.heap h2 B:=by
 have nofs:∀b u,H' b=some u->∃o,s'.heap.get? b=some o/\B.get? b=some o/\h2.get? b=some o:=λb u q=>by
  obtain⟨o,e1⟩:=(F.hok b u q).there
  have e2:=cov.2 b u o q e1
  exact⟨o,e1,e2,st b o e2⟩
 have old:∀b o0,s.heap.get? b=some o0->b∉frs outer->∃o,s'.heap.get? b=some o/\B.get? b=some o/\h2.get? b=some o:=λb o0 q hb=>by
  obtain⟨o,e1⟩:=F.un.there b o0 q (by simp)
  have e2:=cov.1 b o ⟨o0,q⟩ hb e1
  exact⟨o,e1,e2,st b o e2⟩
 have fr:∀b∈frs outer,∃o sl,s'.heap.get? b=some o/\h2.get? b=some {o with slots:=sl}:=λb hb=>by
  obtain⟨_,o,e1,d⟩:=fl.2.2.1.mem hb
  obtain⟨sl,e2⟩:=sm b o e1 d
  exact⟨o,sl,e1,e2⟩
 refine⟨⟨λb o q n hb _=> ?_,λb o q n hb _=> ?_,λb o q n hx=>F.un.free b o q n hx,λb o q _=> ?_,F.un.tups,F.un.frzs,F.un.tbls⟩,λa u q=> ?_,λb o q hb e1=> ?_,λb u o q e1=> ?_⟩
 ·obtain⟨o1,e1,_,e3⟩:=old b o q hb
  have e4:=F.un.keep b o q n hb (by simp)
  rw[e1] at e4;cases e4
  exact e3
 ·obtain⟨o1,jh,e1,e2⟩:=fr b hb
  obtain⟨sl,e4⟩:=F.un.slot b o q n hb (by simp)
  rw[e1] at e4;cases e4
  exact⟨jh,e2⟩
 ·by_cases hb:b∈frs outer
  ·obtain⟨o1,jh,e1,e2⟩:=fr b hb
   exact⟨_,e2⟩
  ·obtain⟨o1,_,_,e3⟩:=old b o q hb
   exact⟨_,e3⟩
 ·refine (F.hok a u q).stay (λb ob hb eb=> ?_) (λ_ z=>z) λ_ _ z=>z
  have:∃u',H' b=some u':=by
   rcases hb with z|z
   ·exact⟨u,z ▸ q⟩
   ·exact⟨_,z⟩
  obtain⟨u',hu⟩:=this
  obtain⟨o1,e1,_,e3⟩:=nofs b u' hu
  rw[eb] at e1;cases e1
  exact e3
 ·obtain⟨o0,q⟩:=q
  obtain⟨o1,_,e2,e3⟩:=old b o0 q hb
  rw[e1] at e3;cases e3
  exact e2
 ·obtain⟨o1,_,e2,e3⟩:=nofs b u q
  rw[e1] at e3;cases e3
  exact e2
section
variable {P:Program} {w:World} {K:rF} {mg:Str->Option Value} {base:Heap} {N:List Str} {qual:Str} {scope:Scope} {f:Addr} {aS:Value} {A:Around} {outer:List Env} {s:Shared} {H:Hp} {E:XK}
theorem zit {pins:List (Addr×Obj)} {σ:St} {H1:Hp} {s1:Shared} {h2:Heap} {e:Addr} {cls:Value} {vs:List Value} {t':Nat}
  (I:Inv (TW (CXE P w) P w K mg base N qual scope f aS A outer s H E) pins σ H1 s1) (hx:Heap.MadeExcOf s1.heap h2 e cls vs) (hE:E cls none H1):
  (TW (CXE P w) P w K mg base N qual scope f aS A outer s H E).xe (.ref e) {s1 with heap:=h2}:=by
 have lS:∀b∈frs (envOfC qual scope s.heap.objs.size f aS::outer),b∈s.heap.objs.size::frs outer:=I.stkSub
 have o8:(ui s1.heap (frs (envOfC qual scope s.heap.objs.size f aS::outer))).StaysIn s1.heap:=λb o q=>Br _ q
 have ou:∀b o,s.heap.get? b=some o->b≠s.heap.objs.size:=λb o q=>sA (Heap.lt_size q)
 have mJ:∀b o,s1.heap.get? b=some o->b∉frs (envOfC qual scope s.heap.objs.size f aS::outer)->(ui s1.heap (frs (envOfC qual scope s.heap.objs.size f aS::outer))).get? b=some o:=λb o q hb=>Bi _ q hb
 refine wpAny_mono (zeA (Tb _ _) (wpAny_leaves_madeW (E:=λ_ _=>False) (Q:=λ_ s''=>∃h' t,s''={s1 with heap:=h'}/\Heap.FlyingW (ui s1.heap (frs (envOfC qual scope s.heap.objs.size f aS::outer))) outer e cls (.ref t) h'/\h2.UpToSlots h')
  (base:=ui s1.heap (frs (envOfC qual scope s.heap.objs.size f aS::outer))) (L:=s.heap.objs.size) I.ok.frames rfl o8 (PySem.W.funFrames_hide I.stack λenv he a ha=>A9.mpr ⟨env,he,ha⟩) hx λh' t x1 x2 x3 x4=>⟨h',t,rfl,x1,x4⟩)) (λ_ s3 h3=> ?_) λ_ _ h3=>h3.1.elim
 obtain⟨⟨h',t,rfl,x1,x4⟩,kd⟩:=h3
 have jV:∀b o,s.heap.get? b=some o->b∉frs outer->b∉frs (envOfC qual scope s.heap.objs.size f aS::outer):=λb o q hb hz=>by
  rcases sq.mp (lS b hz) with z|z
  ·exact ou b o q z
  ·exact hb z
 have trk:∀b u,H1 b=some u->∃o,s1.heap.get? b=some o/\(ui s1.heap (frs (envOfC qual scope s.heap.objs.size f aS::outer))).get? b=some o/\h'.get? b=some o:=λb u q=>by
  obtain⟨o,e1⟩:=(I.hok b u q).there
  have e2:=mJ b o e1 λhz=>by
   have z:=I.stkFree b hz
   rw[q] at z;cases z
  exact⟨o,e1,e2,x1.1 b o e2⟩
 have old:∀b o0,s.heap.get? b=some o0->b∉frs outer->∃o,s1.heap.get? b=some o/\(ui s1.heap (frs (envOfC qual scope s.heap.objs.size f aS::outer))).get? b=some o/\h'.get? b=some o:=λb o0 q hb=>by
  obtain⟨o,e1⟩:=I.base.there b o0 q (by simp[TW])
  have e2:=mJ b o e1 (jV b o0 q hb)
  exact⟨o,e1,e2,x1.1 b o e2⟩
 have fr:∀b∈frs outer,∃o sl,s1.heap.get? b=some o/\h'.get? b=some {o with slots:=sl}:=λb hb=>by
  obtain⟨_,o,e1,d⟩:=I.funs.mem hb
  obtain⟨sl,e2⟩:=x4 b o (hx.keeps b o e1) d
  exact⟨o,sl,e1,e2⟩
 have fK:∀b:Addr,b∉(TW (CXE P w) P w K mg base N qual scope f aS A outer s H E).ex:=λb z=>absurd (show b∈([]:List Addr) from z) (by simp)
 refine⟨e,cls,H1,rfl,⟨I.os,I.bare,⟨λb o q n hb _=> ?_,λb o q n hb _=> ?_,λb o q n hx=>I.base.free b o q n (fK b),λb o q _=> ?_,I.base.tups,I.base.frzs,I.base.tbls⟩,λa u q=> ?_,⟨_,t,x1,λb o q hb e1=> ?_,λb u o q e1=> ?_⟩,?_,?_,?_⟩,hE⟩
 ·obtain⟨o1,e1,_,e3⟩:=old b o q hb
  have e4:=I.base.keep b o q n hb (fK b)
  rw[e1] at e4;cases e4
  exact e3
 ·obtain⟨o1,jh,e1,e2⟩:=fr b hb
  obtain⟨sl,e4⟩:=I.base.slot b o q n hb (fK b)
  rw[e1] at e4;cases e4
  exact⟨jh,e2⟩
 ·by_cases hb:b∈frs outer
  ·obtain⟨o1,jh,e1,e2⟩:=fr b hb
   exact⟨_,e2⟩
  ·obtain⟨o1,_,_,e3⟩:=old b o q hb
   exact⟨_,e3⟩
 ·refine (I.hok a u q).stay (λb ob hb eb=> ?_) (λ_ z=>z) λ_ _ z=>z
  have:∃u',H1 b=some u':=by
   rcases hb with z|z
   ·exact⟨u,z ▸ q⟩
   ·exact⟨_,z⟩
  obtain⟨u',hu⟩:=this
  obtain⟨o1,e1,_,e3⟩:=trk b u' hu
  rw[eb] at e1;cases e1
  exact e3
 ·obtain⟨o0,q⟩:=q
  obtain⟨o1,_,e2,e3⟩:=old b o0 q hb
  rw[e1] at e3;cases e3
  exact e2
 ·obtain⟨o1,_,e2,e3⟩:=trk b u q
  rw[e1] at e3;cases e3
  exact e2
 ·cases q:s.heap.get? e with
  |none=>rfl
  |some o=>
   obtain⟨o',q'⟩:=I.base.there e o q (fK e)
   have:=hx.new
   rw[q'] at this;cases this
 ·cases q:H1 e with
  |none=>rfl
  |some u=>
   obtain⟨o,e1⟩:=(I.hok e u q).there
   have:=hx.new
   rw[e1] at this;cases this
 ·intro o q
  obtain⟨t0,e0,_⟩:=hx.there
  exact (kd.at e0 q).1
theorem zQ:UC (CXE P w) (TW (CXE P w) P w K mg base N qual scope f aS A outer s H E) E:=by
 rintro pins σ H1 s1 ev s' I ⟨e,cls,H',rfl,F,hE⟩
 obtain⟨B,t,fl,cov⟩:=F.fly
 have lS:∀b∈frs (envOfC qual scope s.heap.objs.size f aS::outer),b∈s.heap.objs.size::frs outer:=I.stkSub
 refine wpAny_mono (zeA (Tb _ _) (wpAny_leaves_onW (E:=λ_ _=>False) (Q:=λ_ s''=>∃h',s''={s' with heap:=h'}/\Heap.FlyingW B outer e cls (.ref t) h'/\s'.heap.UpToSlots h') (L:=s.heap.objs.size) I.ok.frames rfl fl λh' x1 x2=>⟨h',rfl,x1,x2⟩)) (λ_ s3 h3=> ?_) λ_ _ h3=>h3.1.elim
 obtain⟨⟨h',rfl,x1,x2⟩,kd⟩:=h3
 obtain⟨un,hok,cov'⟩:=F.moved fl cov x1.1 x2
 have fK:∀b:Addr,b∉(TW (CXE P w) P w K mg base N qual scope f aS A outer s H E).ex:=λb z=>absurd (show b∈([]:List Addr) from z) (by simp)
 have jV:∀b o,s.heap.get? b=some o->b∉frs outer->b∉frs (envOfC qual scope s.heap.objs.size f aS::outer):=λb o q hb hz=>by
  rcases sq.mp (lS b hz) with z|z
  ·exact sA (Heap.lt_size q) z
  ·exact hb z
 have sub:∀b∈frs outer,b∈frs (envOfC qual scope s.heap.objs.size f aS::outer):=λb hb=>by
  unfold frs at hb ⊢
  rw[uU]
  exact rT _ hb
 refine⟨e,cls,H',rfl,⟨F.os.trans I.os,F.bare,⟨λb o q n hb _=> ?_,λb o q n hb _=> ?_,λb o q n _=> ?_,λb o q _=> ?_,λb xs q=>un.tups b xs (I.base.tups b xs q),λb o xs q=>un.frzs b o xs (I.base.frzs b o xs q),λb ps q=> ?_⟩,hok,
  ⟨B,t,x1,λb o q hb e1=> ?_,cov'.2⟩,?_,F.free,λo q=> ?_⟩,hE⟩
 ·exact un.keep b o (I.base.keep b o q n hb (fK b)) (I.base.free b o q n (fK b)) (jV b o q hb) (by simp)
 ·obtain⟨sl,e1⟩:=I.base.slot b o q n hb (fK b)
  obtain⟨gE,e2⟩:=un.slot b _ e1 (I.base.free b o q n (fK b)) (sub b hb) (by simp)
  exact⟨gE,e2⟩
 ·obtain⟨o1,e1⟩:=I.base.there b o q (fK b)
  exact un.free b o1 e1 (I.base.free b o q n (fK b)) (by simp)
 ·obtain⟨o1,e1⟩:=I.base.there b o q (fK b)
  exact un.there b o1 e1 (by simp)
 ·obtain⟨m1,e1⟩:=I.base.tbls b ps q
  obtain⟨m2,e2⟩:=un.tbls b _ e1
  exact⟨m1++m2,by rw[e2,A8]⟩
 ·obtain⟨o0,q⟩:=q
  obtain⟨o1,q1⟩:=I.base.there b o0 q (fK b)
  exact cov'.1 b o ⟨o1,q1⟩ (jV b o0 q hb) e1
 ·cases q:s.heap.get? e with
  |none=>rfl
  |some o=>
   obtain⟨o',q'⟩:=I.base.there e o q (fK e)
   have:=F.new
   rw[q'] at this;cases this
 ·obtain⟨ob,ny,_⟩:=fl.there
  exact (kd.at ny q).1.trans (F.nd ob ny)
end
structure UD (K:rF) (mg:Str->Option Value) (x:Str) (C:Addr) (iR:List Value) (newId:String):Prop where
 mg:mg x=some (.ref C)
 inK:uS K C iR newId=true
theorem UD.own {K:rF} {mg:Str->Option Value} {x:Str} {C:Addr} {iR:List Value} {newId:String} {h:Heap} (O:UD K mg x C iR newId) (X:K.In h):OwnCls x C iR newId mg h:=by
 refine⟨O.mg,?_⟩
 have q:=O.inK
 unfold uS at q
 split at q
 ·rename_i dd cd sl ho
  split at q
  ·rename_i C' bm k0 k1 k2 k3 n k5 hm hs
   simp only[tL,beq_iff_eq,Bool.not_eq_true'] at q
   obtain⟨⟨⟨⟨⟨rfl,rfl⟩,jE⟩,ht⟩,hok⟩,kj⟩:=q
   obtain⟨nm,bs,mro,ns,qn,hd,sn,sub,ab,col,del⟩:=cd
   dsimp only at hm jE hok kj
   subst hm jE
   have oY:sl= #[k0,k1,k2,k3,some (.builtin n),k5]:=by
    obtain⟨l⟩:=sl
    simp only at hs
    rw[hs]
   subst oY
   exact⟨bm,ns,nm,qn,bs,hd,sn,sub,ab,col,dd,k0,k1,k2,k3,k5,_,X _ _ ho,.of_isNs (PySem.W.isNs_of_in X hok),PySem.W.nsMap_none_of_in X hok kj,PySem.W.tail_of_in X ht⟩
  ·cases q
 ·cases q
def ziu (C:Addr) (E:XK) (ta:TA):TS:=λ_ σ H=>ta σ H λvs H1=>vs.length<=sizeLine/\E (.ref C) none H1
def ziv (X:Cx) (E:XK):Prop:=∀(pins:List (Addr×Obj)) (σ:St) (H:Hp) (s:Shared) (h':Heap) (e:Addr) (cls:Value) (vs:List Value),Inv X pins σ H s->Heap.MadeExcOf s.heap h' e cls vs->E cls none H->X.xe (.ref e) {s with heap:=h'}
theorem zgR {P:Program} {w:World} {K:rF} {mg:Str->Option Value} {base:Heap} {N:List Str} {qual:Str} {scope:Scope} {f:Addr} {aS:Value} {A:Around} {outer:List Env} {s:Shared} {H:Hp} {E:XK}:
  ziv (TW (CXE P w) P w K mg base N qual scope f aS A outer s H E) E:=λ_ _ _ _ _ _ _ _ I hx hE=>zit (t':=0) I hx hE
theorem zeC {X:Cx} {E:XK} {x:Str} {C:Addr} {B newId initId:String} {iR:List Value} {a:Expr} {ta:TA} {np cC pos:Pos} (hr:ziv X E) (hc:X.calm=true) (hg:Gl X x) (O:UD X.K X.mg x C iR newId) (FB:ExcBaseFacts B newId initId iR)
  (ha:PA X [a] ta) (he:starEach [a] X.env=[(false,eval a X.env)]:=by rfl) (hd:(x==("__debug__":Str))=false:=by decide):PS X (.Raise (some (.Call (.Name x np) [a] [] cC)) none pos) (ziu C E ta):=by
 intro pins s σ H D I h
 obtain⟨tl,N,nm,q,bs,hdct,sn,sub,ab,col,dd,k0,k1,k2,k3,k5,mN,hC,hN,kj,T⟩:=(O.own I.ok.mod.kin).obj
 refine wpAny_Raise_call_subT (C:=C) (nm:=nm) (q:=q) (N:=N) (bs:=bs) (bm:=tl) (hdct:=hdct) (sn:=sn) (sub:=sub) (ab:=ab) (col:=col) (dd:=dd) (k0:=k0) (k1:=k1) (k2:=k2) (k3:=k3) (k5:=k5)
  FB (mN:=mN) (T.hasType FB.hasBase) (I.ok.hd hc) (by rw[he];rfl) kj (zaQ I hg O.mg ⟨rfl,?_⟩ hd)
 have hh:=ha cC pins s σ H _ I h
 rw[he] at hh ⊢
 exact Calls.evalArgs_plain (thn hh λus s₂ ⟨vs,H1,I2,r,z,q⟩=>⟨rfl,by rw[<-r.length];exact z,I2.bk _ _ hC,hN.keeps I2.bk,T.keeps I2.bk,λh' e hm=>hr pins σ H1 s₂ h' e (.ref C) us I2 hm q⟩)
theorem Uv {P:Program} {w:World} {X:Cx}:UC (CXE P w) X E0:=λ_ _ _ _ _ _ _ ⟨_,_,_,_,_,h⟩=>h.elim
abbrev TEx:=St->Hp->VK->(Value->Hp->Prop)->Prop
abbrev TAx:=St->Hp->(List V->Hp->Prop)->(Value->Hp->Prop)->Prop
abbrev TSx:=TN->(Value->Hp->Prop)->St->Hp->Prop
section
variable {X:Cx} {e:Expr} {es:List Expr} {te:TE}
end
noncomputable def zmb (e:Addr) (cls:Value):HO:= .ext λh=>∃ob,h.get? e=some ob/\ob.cls=cls/\ob.dict=none/\∃vs,ob.data= .fields vs
noncomputable abbrev Cx.hand (X:Cx) (e:Addr):Cx:={X with A:=X.A.mark (some (.ref e)),calm:=false,xe:=λ_ _=>False}
section
variable {X:Cx} {pins:List (Addr×Obj)} {σ:St} {H:Hp} {s:Shared}
end
open PySem.Builtin.Int (intBits)
def zlx (i j:Int):Prop:=∃m n:Nat,intBits i<=m/\intBits j<=n/\m+n<=134217728
def ziw (i j:Int):Prop:=j≠0/\intBits j<=9000
section
variable {X:Cx}
theorem wj:OpR X (binaryOp .Mult) (rI zlx λi j=> .int (i*j)):=opI λ_ _ _ _ _ _ _ hc q=>by
 obtain⟨m,n,h1,h2,h3⟩:=hc
 exact mul_int q (IntMulOk.of_le h1 h2 h3)
theorem XX:OpR X (binaryOp .FloorDiv) (rI ziw λi j=> .int (i.fdiv j)):=opI λi j _ _ _ _ _ hc q=>floordiv_int hc.1 q (.inl (PyProof.noPylong_of_log2 (by
 have h:=z8.mp hc.2
 by_cases z:j.natAbs=0
 ·rw[z];decide
 ·exact (Nat.log2_lt z).mpr h)))
end
section
variable {prog:Program} {w:World} {A:Around} {E:Value->Shared->Prop} {s:Shared} {K:rF} {x D:Addr} {ox:Obj}
theorem zdq {M:Model} {nameV:Value} {Q:Unit->Shared->Prop} (X:K.In s.heap) (I:A3 s.heap x ox D none) (be:rS K D (.type "BaseException")=some true) (hq:Q () s):
  wpAny M A (checkBuiltinCall "BaseException.__getattribute__" ⟨[.ref x,nameV],[]⟩) Q E s:=by
 obtain⟨hh,g,d,t,os⟩:=s
 have hk:builtinKind "BaseException.__getattribute__"=some .slot:=by decide+kernel
 have hsplit:splitId "BaseException.__getattribute__"=some ("BaseException","__getattribute__"):=by decide+kernel
 have L0:=I.type (M:=M)
 have L1:=PySem.W.looks_mroIn (M:=M) X be
 have ha:=F.args_bexc_ga (.ref x) nameV
 simp only[checkBuiltinCall,hk,hsplit]
 refine wpAny_bind ?_
 unfold isInstance
 refine wpAny_bind (L0.at (L1.at ?_))
 repeat (first|wp_step)
 exact hq
theorem zhw {Q:Option Value->Shared->Prop} (X:K.In s.heap) (I:A3 s.heap x ox D none) (ga:sf K (.ref D) "__getattribute__"=some (some (.builtin "BaseException.__getattribute__"))) (noga:sf K (.ref D) "__getattr__"=some none)
  (be:rS K D (.type "BaseException")=some true) (hf:AI K D none "__class__"=some (.bind (.builtin "getset_descriptor.__get__") (.builtin "object.__class__"))) (hm:rS K D (.type "object")=some true)
  (h:Q (some (.ref D)) {s with toks:=s.toks+1}):wpAny (model prog w) A (getAttr? (.ref x) "__class__") Q E s:=by
 obtain⟨hh,g,d,t,os⟩:=s
 have L0:=I.type (M:=model prog w)
 have L1:=z4 (M:=model prog w) X ga
 have L2:=z4 (M:=model prog w) X noga
 have L3:=PySem.W.looks_find (M:=model prog w) X I hf
 have hb:=F.attrBase_ValueError.ga.bind (.ref x)
 unfold getAttr? getAttrBy? getAttrBy
 refine wpAny_bind (wpAny_mkText (wpAny_bind (wpAny_attempt (wpAny_holding (wpAny_bind (L0.at (wpAny_bind (L1.at ?_))))))))
 dsimp only
 rw[if_neg (show ¬(onTheHeap (Value.ref D)&&(Value.builtin "BaseException.__getattribute__"==Value.builtin "object.__getattribute__"))=true by rw[show (Value.builtin "BaseException.__getattribute__"==Value.builtin "object.__getattribute__")=false by decide+kernel];simp)]
 unfold getAttrByItsOwn hookBefore
 refine wpAny_bind ?_
 show wpAny _ _ (typeLookup (.ref D) "__getattr__") _ _ _
 refine L2.at ?_
 refine wpAny_bind (wpAny_attempt (wpAny_holding ?_))
 unfold callGetattribute boundAndCalled
 rw[if_neg ∅,hb]
 refine wpAny_bind (wpAny_pure ?_)
 dsimp only
 refine wpAny_call (codeAny_call_builtin F.attrBase_ValueError.ga.plain F.entry_bexc_ga (zdq (ox:=ox) X I be ?_))
 unfold Builtin.«object.__getattribute__»
 refine wpAny_bind (wpAny_of_eq (show slotArgs "__getattribute__" 1 {pos:=[Value.ref x]++[Value.str (Str.ofString "__class__") t]}=pure (.ref x,[Value.str (Str.ofString "__class__") t]) from rfl) ?_)
 dsimp only
 refine wpAny_bind (wpAny_of_eq (show Builtin.ObjectAttr.attrName (Value.str (Str.ofString "__class__") t)=pure (Str.ofString "__class__") from rfl) ?_)
 refine wpAny_bind (L0.at (wpAny_bind (L3.at ?_)))
 dsimp only
 show wpAny _ _ (do ret (<-holding [Value.builtin "object.__class__"] (call (.builtin "getset_descriptor.__get__") [.builtin "object.__class__",.ref x,.ref D]))) _ _ _
 refine wpAny_bind (wpAny_holding (wpAny_call (PySem.W.class_get (ox:=ox) (od:=none) X I hm ?_)))
 exact wpAny_pure (PySem.W.handed_on rfl (wpAny_pure h))
end
section
variable {X:Cx}
structure zcP (K:rF) (D:Addr):Prop where
 ga:sf K (.ref D) "__getattribute__"=some (some (.builtin "BaseException.__getattribute__"))
 noga:sf K (.ref D) "__getattr__"=some none
 be:rS K D (.type "BaseException")=some true
 hc:(Bg K D).isSome=true
 ha:sf K (.ref D) "__class__"=some (some (.builtin "object.__class__"))
 hn:x5 K (.builtin "object.__class__") "__get__"=some (some (.builtin "getset_descriptor.__get__"))
 htk:AF K (.builtin "object.__class__")=some true
 hm:rS K D (.type "object")=some true
theorem zix {K:rF} {x D:Addr} (e:zcP K D):Ca K (.ref x) (.ref D) (λh=>∃ox,A3 h x ox D none) where
 ty:=λ_ _ _ ⟨_,I⟩=>I.type
 it:=λ_ _ X _=>by
  obtain⟨cd,eP⟩:=uv.mp e.hc
  unfold Bg at eP
  split at eP
  ·rename_i ho
   intro A' Q' E' s' k q
   unfold isType loadHead
   exact wpAny_bind (wpAny_loadPart (k _ _ (X _ _ ho)) (wpAny_pure q))
  ·cases eP
 ne:=λh tp dd ag n sl X oT=>by
  obtain⟨cd,eP⟩:=uv.mp e.hc
  refine Bool.eq_false_iff.mpr λq=> ?_
  have z:D=tp:=Value.ref.inj (beq_iff_eq.mp q)
  subst z
  unfold Bg at eP
  split at eP
  ·rename_i ho
   have y:=(X _ _ ho).symm.trans oT
   cases y
  ·cases eP
 ca:=λ{_ _ _ _ _ s} X I k=>by
  obtain⟨ox,I⟩:=I
  obtain⟨cd,eP⟩:=uv.mp e.hc
  have hf:AI K D none "__class__"=some (.bind (.builtin "getset_descriptor.__get__") (.builtin "object.__class__")):=by
   unfold AI
   rw[eP,rZ,e.ha,rZ]
   simp[e.hn,e.htk]
  exact zhw X I e.ga e.noga e.be hf e.hm k
inductive TyX (K:rF) (H:Hp):V->Value->Prop where
 |of {x:V} {t:Value} (h:zaF K H x t):TyX K H x t
 |exc {e D:Addr} (h:H e=some (zmb e (.ref D))) (k:zcP K D):TyX K H (.ref e) (.ref D)
 |sqt {a:Addr} {xs:List V} (h:SqT K H a xs):TyX K H (.ref a) (.type "tuple")
 |sql {a:Addr} {xs:List V} (h:SqL K H a xs):TyX K H (.ref a) (.type "list")
theorem TyX.kit {pins:List (Addr×Obj)} {σ:St} {H:Hp} {s:Shared} {x:V} {u t:Value} (I:Inv X pins σ H s) (rx:yN x u) (ty:TyX X.K H x t):∃Hh,Ca X.K u t Hh/\Hh s.heap:=by
 cases ty with
 |of ty=>
  cases ty with
  |non=>cases (show u=Value.none from rx);exact⟨_,PySem.W.kitx_none,v9⟩
  |bl y=>cases (show u=Value.bool y from rx);exact⟨_,PySem.W.kitx_bool,v9⟩
  |int i=>obtain⟨t,q⟩:=(show ∃t,u=Value.int i t from rx);cases q;exact⟨_,PySem.W.kitx_int,v9⟩
  |str y=>obtain⟨t,q⟩:=(show ∃t,u=Value.str y t from rx);cases q;exact⟨_,PySem.W.kitx_str,v9⟩
  |flt y=>obtain⟨t,q⟩:=(show ∃t,u=Value.float y t from rx);cases q;exact⟨_,PySem.W.kitx_float,v9⟩
  | @lst a xs ea=>
   cases (show u=Value.ref a from rx)
   obtain⟨_,_,n,_,h1⟩:=(show wI X.prog X.w H s.heap a (.lst xs) from I.hok a _ ea)
   exact⟨_,Aj,⟨_,h1,rfl⟩⟩
  | @frz a ob xs ea=>
   cases (show u=Value.ref a from rx)
   obtain⟨_,_,_,n,_,h1⟩:=(show wI X.prog X.w H s.heap a (.frz ob (.lst xs)) from I.hok a _ ea)
   exact⟨_,Aj,⟨_,h1,rfl⟩⟩
  | @tup a xs ea=>
   cases (show u=Value.ref a from rx)
   obtain⟨_,_,_,p⟩:=(show wI X.prog X.w H s.heap a (.tup xs) from I.hok a _ ea)
   obtain⟨o,h1,h2,_⟩:=p
   exact⟨_,Bu,⟨o,h1,h2⟩⟩
  | @dK a cL ea=>
   cases (show u=Value.ref a from rx)
   obtain⟨_,_,vs,_,p⟩:=(show wI X.prog X.w H s.heap a (.dK cL) from I.hok a _ ea)
   obtain⟨o,es,ep,h1,h2,_⟩:=p
   exact⟨_,BF,⟨o,h1,h2.1⟩⟩
  | @dT a cL ea=>
   cases (show u=Value.ref a from rx)
   obtain⟨_,_,xs,_,o,es,ep,h1,h2,_⟩:=(show wI X.prog X.w H s.heap a (.dT cL) from I.hok a _ ea)
   exact⟨_,BF,⟨o,h1,h2.1⟩⟩
  | @ins a C dx fs ea cl ha hn htk hm=>
   cases (show u=Value.ref a from rx)
   obtain⟨mA,O,_⟩:=zaS I.hok ea
   obtain⟨od,J,_⟩:=O.look
   exact⟨_,PySem.W.kitx_own (cl.get _) cl.hd ha hn htk hm,J⟩
 | @sqt a xs h=>
  cases (show u=Value.ref a from rx)
  obtain⟨ag,_,⟨o,h1,h2,_⟩,_⟩:=I.tuple h
  exact⟨_,Bu,⟨o,h1,h2⟩⟩
 | @sql a xs h=>
  cases (show u=Value.ref a from rx)
  obtain⟨ag,_,⟨o,n,h1,h2,_⟩,_⟩:=I.list h
  exact⟨_,Aj,⟨o,h1,h2⟩⟩
 | @exc e D h k=>
  cases (show u=Value.ref e from rx)
  obtain⟨⟨ob,h1,h2,h3,vs,h4⟩,_⟩:=(show wI X.prog X.w H s.heap e (zmb e (.ref D)) from I.hok e _ h)
  refine⟨_,zix k,ob,h1,h2,?_,?_⟩
  ·unfold PySem.W.notCls
   rw[h4]
  ·rw[h3];trivial
noncomputable def znn:V->Option Value
 | .ref a=>some (.ref a)
 | .ty n=>some (.type n)
 |_=>none
theorem ziy {c:V} {cv u:Value} (h:znn c=some cv) (r:yN c u):u=cv:=by
 cases c with
 |ref a=>cases h;exact r
 |ty n=>cases h;exact r
 |_=>cases h
theorem yN.nb {x:V} {u:Value} (r:yN x u):u≠ .builtin "__main__.__loader__#opaque":=by
 cases x with
 |non=>rintro rfl;cases r
 |bl b=>rintro rfl;cases r
 |int i=>rintro rfl;obtain⟨_,q⟩:=r;cases q
 |str i=>rintro rfl;obtain⟨_,q⟩:=r;cases q
 |byt i=>rintro rfl;obtain⟨_,q⟩:=r;cases q
 |flt i=>rintro rfl;obtain⟨_,q⟩:=r;cases q
 |ref a=>rintro rfl;cases r
 |ty a=>rintro rfl;cases r
def zku (K:rF):List V->Hp->VK->Prop:=λxs H Q=>∃x c cv t b,xs=[x,c]/\znn c=some cv/\TyX K H x t/\sW K t cv=some b/\Q (.bl b) H
theorem ziz:Zw X (.builtin "isinstance") (zku X.K):=by
 intro pins s σ H xs us Q I r h
 obtain⟨x,c,cv,t,b,rfl,hc,ty,e,q⟩:=h
 obtain⟨u,w',rfl,ru,rw'⟩:=zh9 r
 obtain rfl:=ziy hc rw'
 obtain⟨Hh,Z,p⟩:=ty.kit I ru
 exact PySem.W.kia_one Z I.kIn p e ru.nb λtk=>⟨.bl b,H,I.tok tk,rfl,q⟩
end
theorem Vo {K:rF} {t:Value}:sW K t t=some true:=by unfold sW;rw[if_pos (by simp)]
theorem zdr {K:rF}:sW K (.type "bool") (.type "int")=some true:=by
 have h:(fastBuiltinMro "bool").map (·.contains (.type "int"))=some true:=by decide+kernel
 have hm:uj "int"=true:=by decide+kernel
 unfold sW B4
 rw[if_neg ∅]
 show (if uj "int"=true then Ad K (.type "bool") (.type "int") else none)=_
 rw[if_pos hm]
 exact h
theorem zds {K:rF}:sW K (.type "int") (.type "bool")=some false:=by
 have h:(fastBuiltinMro "int").map (·.contains (.type "bool"))=some false:=by decide+kernel
 have hm:uj "bool"=true:=by decide+kernel
 unfold sW B4
 rw[if_neg ∅]
 show (if uj "bool"=true then Ad K (.type "int") (.type "bool") else none)=_
 rw[if_pos hm]
 exact h
end L2
namespace L2
open PySem PySem.Spec PyProof.Rows
inductive D where
 |non|bl (b:Bool)|int (i:Int)|str (x:Str)|tup (l:List D)|lst (l:List D)|ins (C:Addr) (ns:List Str) (l:List D)
mutual
inductive Is (K:rF) (H:Hp):V->D->Prop where
 |non:Is K H .non .non
 |bl (b:Bool):Is K H (.bl b) (.bl b)
 |int (i:Int):Is K H (.int i) (.int i)
 |str (x:Str):Is K H (.str x) (.str x)
 |tup {a:Addr} {xs:List V} {ds:List D}:SqT K H a xs->IsL K H xs ds->Is K H (.ref a) (.tup ds)
 |lst {a:Addr} {xs:List V} {ds:List D}:SqL K H a xs->IsL K H xs ds->Is K H (.ref a) (.lst ds)
 |ins {a C dx:Addr} {ns:List Str} {xs:List V} {ds:List D}:H a=some (.ins C dx (ns.zip xs))->ns.length=xs.length->IsL K H xs ds->Is K H (.ref a) (.ins C ns ds)
inductive IsL (K:rF) (H:Hp):List V->List D->Prop where
 |nil:IsL K H [] []
 |cons {v:V} {d:D} {vs:List V} {ds:List D}:Is K H v d->IsL K H vs ds->IsL K H (v::vs) (d::ds)
end
theorem wv {H:Hp} {p:Addr} {o:HO} (h:H p=none):TX H (upd H p o):=λb u e=>by rw[yR (Zx e h)];exact e
theorem IsL.len {K:rF} {H:Hp}:∀{vs:List V} {ds:List D},IsL K H vs ds->vs.length=ds.length
 |_,_,.nil=>rfl
 |_,_,.cons _ l=>by rw[rP,rP,l.len]
theorem IsL.get {K:rF} {H:Hp}:∀{vs:List V} {ds:List D} {i:Nat} {d:D},IsL K H vs ds->ds[i]? =some d->∃v,vs[i]? =some v/\Is K H v d
 |_,_,_,_,.nil,e=>by simp at e
 |_,_,0,_,.cons h _,e=>by simp at e;subst e;exact⟨_,rfl,h⟩
 |_,_,i+1,d,.cons _ l,e=>by
  obtain⟨v,e1,e2⟩:=l.get (i:=i) (d:=d) (by simpa using e)
  exact⟨v,by simpa using e1,e2⟩
theorem Is.int_inv {K:rF} {H:Hp} {v:V} {i:Int} (h:Is K H v (.int i)):v= .int i:=by cases h;rfl
theorem Is.bl_inv {K:rF} {H:Hp} {v:V} {b:Bool} (h:Is K H v (.bl b)):v= .bl b:=by cases h;rfl
theorem Is.str_inv {K:rF} {H:Hp} {v:V} {b:Str} (h:Is K H v (.str b)):v= .str b:=by cases h;rfl
theorem Is.non_inv {K:rF} {H:Hp} {v:V} (h:Is K H v .non):v= .non:=by cases h;rfl
theorem Is.tup_inv {K:rF} {H:Hp} {v:V} {ds:List D} (h:Is K H v (.tup ds)):∃a xs,v= .ref a/\SqT K H a xs/\IsL K H xs ds:=by cases h with|tup a b=>exact⟨_,_,rfl,a,b⟩
theorem Is.lst_inv {K:rF} {H:Hp} {v:V} {ds:List D} (h:Is K H v (.lst ds)):∃a xs,v= .ref a/\SqL K H a xs/\IsL K H xs ds:=by cases h with|lst a b=>exact⟨_,_,rfl,a,b⟩
noncomputable abbrev dQ (a b:Int):D:= .tup [.int a,.int b]
section
variable {σ:St} {H:Hp} {Q:VK} {ta tb tc:TE} {D':TN} {v:V} {i:Nat}
end
local macro_rules | `(tactic| walk_at "rd") => `(tactic| repeat (first | refine mO ?_ | refine mZ ?_ | refine k9 ?_ | refine mL rfl ?_ | refine qC ?_ | refine oE ?_ | refine oG ?_ | refine qD ?_ | refine oB ?_ | refine mY ?_ | refine qF ?_ | refine qE ?_ | refine oF ?_ | refine mS ?_ | refine n4 ?_ | refine oC ?_ | refine kP ?_ | refine mR ?_ | refine kK ?_ | refine mX ?_ | refine kL ?_ | refine kM ?_ | refine mP ?_ | refine kI ?_ | refine mW ?_ | refine mU ?_ | refine kN ?_ | refine kO ?_ | refine oH ?_ | refine mM ?_ | refine mV ?_ | refine mQ ?_ | refine kJ ?_ | refine jZ ?_))
end L2
namespace L2
open PySem PySem.Spec PyProof.Rows
section
variable {σ:St} {H:Hp} {Q:VK} {D':TN} {E:XK}
end
theorem Fun.okE {P:Program} {w:World} {K:rF} {mg:Str->Option Value} {base:Heap} {x qual:Str} {st:Stmt} {f:Addr} {fd:FuncData} {N ps:List Str} {k:Nat} {sp:Sp} (F:Fun K x qual st f fd) (S:zY N ps (zC st)) (len:∀vs H Q E,sp vs H Q E->vs.length=ps.length)
  (gg:∀(aS:Value) (A:Around) (outer:List Env) (s:Shared) (H:Hp) (vs:List V) (Q:VK) (E:XK),ZQ k (A.deeper (envOfC qual (zC st) s.heap.objs.size f aS))->sp vs H Q E->
   ∃t,PSs (TW (CXE P w) P w K mg base N qual (zC st) f aS A outer s H E) (Xb st) t/\t {nx:=λ_ H'=>Q .non H',rt:=Q} (Vl N vs) H):yA P w K mg base (CXE P w) (k+1) f fd ps sp:=by
 obtain⟨oc,od,kV,doc,pm,an,aS,ct,fU,rfl,lk,eP⟩:=F.ex
 exact znj lk eP S len λA outer s H vs Q E hr h8=>gg aS A outer s H vs Q E hr h8
section
variable {σ:St} {H:Hp} {Q:VK} {D':TN} {E:XK} {EX:Value->Hp->Prop}
end
section
variable {X:Cx} {K:rF}
theorem zo (h:X.K=K:=by rfl):IxR X (zko K):=h ▸ zii
theorem XY (h:X.K=K:=by rfl):IxR X (zkn K):=h ▸ zgN
theorem yJ (h:X.K=K:=by rfl):Zw X (.builtin "isinstance") (zku K):=h ▸ ziz
theorem yh (h:X.K=K:=by rfl):Zw X (.builtin "len") (λxs H Q=>∃p ys,xs=[.ref p]/\(SqL K H p ys\/SqT K H p ys)/\Q (.int ys.length) H):=h ▸ zdn
theorem zfS (h:X.K=K:=by rfl):Zw X (.type "list") (λxs H Q=>∃p ys,xs=[.ref p]/\(SqL K H p ys\/SqT K H p ys)/\∀l,H l=none->Q (.ref l) (upd H l (.lst ys))):=h ▸ zdo
theorem we (h:X.K=K:=by rfl):Zw X (.type "tuple") (λxs H Q=>∃p ys,xs=[.ref p]/\((SqL K H p ys/\∀l,H l=none->Q (.ref l) (upd H l (.tup ys)))\/(SqT K H p ys/\Q (.ref p) H))):=h ▸ zch
theorem zcQ (h:X.K=K:=by rfl):OpR X (compareOp .NotIn) (rIn K true):=h ▸ zdm
theorem ziA (h:X.K=K:=by rfl):SlR X (zij K):=h ▸ zkp
variable {tg l:Expr} {tl:TE}
theorem Tc (hl:PE X l tl) (h:X.K=K:=by rfl):PI X tg l (zh5 K tl):=h ▸ zkc hl
theorem wY (hl:PE X l tl) (h:X.K=K:=by rfl):PI X tg l (zlV K tl):=h ▸ zlW hl
theorem zdt {es:List Expr} {k:Nat} {t:TGs} {n:Nat} {pos:Pos} (hc:X.calm=true) (h:PGs X es t) (hK:X.K=K:=by rfl)
  (hn:(assignEach es X.env).length=n:=by rfl) (g7:(assignEach es X.env).findIdx? (·.1)=none:=by rfl):PG X (.Tuple es k pos) (zlS K n t):=hK ▸ zlT hc h hn g7
theorem xA {sc:Scope}:Zb X sc [] []:=trivial
theorem xB {sc:Scope} {r:List (Option Nat)} {n:List Str} {x:Str} (h:Zb X sc r n):Zb X sc (none::r) (x::n):=h
theorem yY {sc:Scope} {r:List (Option Nat)} {n:List Str} {x:Str} {i:Nat} (h1:X.N[i]? =some x) (h2:sc.names.lookup x=some .free) (h:Zb X sc r n):Zb X sc (some i::r) (x::n):=⟨⟨h1,h2⟩,h⟩
end
noncomputable def zly (osc sc:Scope):Bool:=sc.names.all (λy=>y.2 != .cell)&&sc.kind== .function&&sc.names.all (λy=>y.2 != .local||sc.names.lookup y.1==some .local)&&
 sc.names.all (λy=>y.2 != .free||(osc.names.lookup y.1==some .cell||osc.names.lookup y.1==some .free))
theorem blk {X:Cx} {osc sc:Scope} (hs:X.env.scope=osc) (h:zly osc sc=true):ZI X sc:=by
 unfold zly at h
 simp only[tL,ub,bne_iff_ne,ne_eq,beq_iff_eq,Bool.or_eq_true] at h
 obtain⟨⟨⟨h1,h2⟩,h3⟩,h4⟩:=h
 refine⟨h1,h2,λy hy e=>(h3 y hy).resolve_left λz=>z e,λy hy e=> ?_⟩
 show X.env.scope.names.lookup y.1=_\/X.env.scope.names.lookup y.1=_
 rw[hs]
 exact (h4 y hy).resolve_left λz=>z e
section
variable {g:TG} {tb:TS} {σ:St} {H:Hp} {nx:St->Hp->Prop} {rt:VK}
end
mutual
noncomputable def D.depth:D->Nat
 | .tup l=>D.depths l+1
 | .lst l=>D.depths l+1
 | .ins _ _ _=>1000
 |_=>0
noncomputable def D.depths:List D->Nat
 |[]=>0
 |d::r=>max (D.depth d) (D.depths r)
end
section
variable {X:Cx} {pins:List (Addr×Obj)} {σ:St} {H:Hp} {s:Shared}
end
section
variable {σ:St} {H:Hp} {Q:VK} {D':TN} {cap:List (Option Nat)} {wi:TI} {g:TG} {tt:TT} {te:TE}
variable {acc:Addr} {H0:Hp} {Qh:Hp->Prop}
end
section
variable {X:Cx}
end
section
variable {X:Cx} {pins:List (Addr×Obj)} {σ:List (Option V)} {H H':Hp} {s:Shared} {h':Heap}
theorem Inv.turnedL {t':Nat} {fp:List Addr} (I:Inv X pins σ H s) (k:∀b o,b∉fp->s.heap.get? b=some o->h'.get? b=some o) (hf:∀b∈fp,za5 X pins H b):Inv X pins σ H {s with heap:=h',toks:=t'}:=by
 have jk:∀b u,H b=some u->b∉fp:=λb u e z=>by rw[(hf b z).1] at e;cases e
 refine I.step (g':=s.gens) (d':=s.drawn) (ch:=fp) (λb hb=> ?_) (λb o _ _ hc e _=>k b o hc e) (λb o _ _ hc e _=>⟨o.slots,k b o hc e⟩) (λ_ _ _ _ n=>n)
  (λb o hc e=>⟨o,k b o hc e⟩) (λ_ _ e=>e) (λ_ _ _ e=>e) (λb ps e=>⟨#[],by rw[e];simp⟩) (λm hm=> ?_) (λb u e=> ?_) I.bare
 ·obtain⟨f0,f1,f2,f3,f4,f5⟩:=hf b hb
  exact⟨f3,f1,f4,f5⟩
 ·obtain⟨o,es,ep,ho,r⟩:=hm
  exact⟨o,es,ep,k _ o (λz=>(hf _ z).2.1 rfl) ho,r⟩
 ·refine (I.hok b u e).stay (λc v hc q=>k c v ?_ q) (λ_ q=>q) λ_ _ q=>q
  rcases hc with z|z
  ·rw[z];exact jk b u e
  ·exact jk c _ z
theorem Inv.turnedT {t':Nat} {fp:List Addr} {ys:List V} {us:List Value} (I:Inv X pins σ H s) (hv:yt ys us) (hl:ys.length<=sizeLine) (k:∀b o,b∉fp->s.heap.get? b=some o->h'.get? b=some o)
  (hp:h'.get? s.heap.objs.size=some {cls:= .type "tuple",data:= .seq us.toArray}) (hf:∀b∈fp,za5 X pins H b) (hx:∀b∈fp,∃o,s.heap.get? b=some o):
  Inv X pins σ (upd H s.heap.objs.size (.tup ys)) {s with heap:=h',toks:=t'}/\H s.heap.objs.size=none/\∀b∈fp,upd H s.heap.objs.size (.tup ys) b=none:=by
 have fr:H s.heap.objs.size=none:=I.hok.fresh (rL _)
 have nb:∀b∈fp,b≠s.heap.objs.size:=λb hb z=>by
  obtain⟨o,e⟩:=hx b hb
  exact absurd (Heap.lt_size e) (by rw[z];exact tS _)
 have fb:∀b∈fp,upd H s.heap.objs.size (.tup ys) b=none:=λb hb=>by rw[yR (nb b hb)];exact (hf b hb).1
 have I0:Inv X pins σ (upd H s.heap.objs.size (.tup ys)) {s with heap:=s.heap.push {cls:= .type "tuple",data:= .seq us.toArray}}:=
  I.laid (t':=s.toks) (λb o e=>Heap.get?_push_of_some _ e) (rL _) ⟨hl,us,hv,IsTup.new _ _⟩
 refine⟨Inv.turnedL (s:={s with heap:=s.heap.push {cls:= .type "tuple",data:= .seq us.toArray}}) (t':=t') (fp:=fp) I0 (λb o hb e=> ?_) (λb hb=> ?_),fr,fb⟩
 ·by_cases z:b=s.heap.objs.size
  ·subst z
   rw[Heap.get?_push_size _ rfl] at e
   cases e
   exact hp
  ·refine k b o hb ?_
   rwa [Heap.get?_push_ne _ _ _ z] at e
 ·obtain⟨f0,f1,f2,f3,f4,f5⟩:=hf b hb
  exact⟨fb b hb,f1,f2,f3,f4,f5⟩
end
noncomputable def Ite (K:rF) (a:Addr):It:=
 ⟨λi H=>∃xs x,SqL K H a xs/\xs[i]? =some x,λi H x H'=>∃p y,x= .ref p/\H p=none/\H'=upd H p (.tup [.int i,y])/\∀xs,SqL K H a xs->xs[i]? =some y,λi H=>∃xs,SqL K H a xs/\xs.length<=i⟩
theorem zhx {P:Program} {w:World} {K:rF} {elts:List Expr} {k:Nat} {tp:Pos} (a e it:Addr) (ef:e≠it):
  zfB P w K (.Tuple elts k tp) (Ite K a) [e,it] e (λi h=>(∃old,IsEnum h e it i old)/\h.IsListIter it a i) where
 mem:=by simp
 obj:=λi h st b hb=>by
  obtain⟨⟨old,he⟩,o,e',c,d⟩:=st
  rcases (by simpa using hb:b=e\/b=it) with rfl|rfl
  ·exact⟨_,he,λv z=>by cases z⟩
  ·exact⟨o,e',λv z=>by rw[d] at z;cases z⟩
 keep:=λi h h' st k=>⟨let ⟨old,he⟩:=st.1;⟨old,k e (by simp) _ he⟩,st.2.at λo e=>k it (by simp) o e⟩
 item:=by
  intro X hP hw hK hc i pins s σ H E I hf st hg
  subst hP hw hK
  obtain⟨xs,x,hq,hx⟩:=hg
  obtain⟨ag,rv,p,hz⟩:=I.list hq
  obtain⟨u,hu,ru⟩:=rv.get hx
  obtain⟨⟨old,he⟩,hit⟩:=st
  refine wpAny_pyNext_enum_item he hit p.isList (x:=u) (by simpa using hu) ef λh1 gG g9 lr jn fk=> ?_
  refine⟨_,rfl,?_⟩
  refine wpAny_letOwnedTupleGo_enum (s:={s with heap:=h1,toks:=s.toks+1}) gG λh2 gP dZ=> ?_
  have dZ:Heap.SameBut e h1 h2:=dZ
  have kC:e<s.heap.objs.size:=Heap.lt_size he
  have vv:yt [V.int i,x] [.int i s.toks,u]:= .cons ⟨_,rfl⟩ (.cons ru .nil)
  have T:=Inv.turnedT (h':=h2) (t':=s.toks+1) (fp:=[e,it]) I vv (by show 2<=sizeLine;decide) (λb o hb eb=> ?_) ((dZ.2 _ (Bs kC)).trans lr) hf (λb hb=> ?_)
  ·obtain⟨I2,fr,fb⟩:=T
   exact⟨.ref s.heap.objs.size,_,I2,rfl,⟨_,x,rfl,fr,rfl,λys hy=>by rw[I.list_inj hy hq];exact hx⟩,⟨⟨_,gP⟩,g9.at λo eo=>(dZ.2 it ef.symm).trans eo⟩,fb⟩
  ·have hb:b≠e/\b≠it:=by simpa using hb
   exact (dZ.2 b hb.1).trans (fk b o hb.1 hb.2 eb)
  ·obtain⟨o,eo,_⟩:=hit
   rcases (by simpa using hb:b=e\/b=it) with rfl|rfl
   ·exact⟨_,he⟩
   ·exact⟨o,eo⟩
 done:=by
  intro X hP hw hK hc i pins s σ H E I hf st hg
  subst hP hw hK
  obtain⟨xs,hq,hx⟩:=hg
  obtain⟨ag,rv,p,hz⟩:=I.list hq
  have hl:=rv.length
  obtain⟨⟨old,he⟩,hit⟩:=st
  exact wpAny_pyNext_enum_end (I.ok.hd hc) he hit p.isList (by simp;omega) λh' eb=>⟨rfl,Inv.turnedL (t':=s.toks) (fp:=[e,it]) I (λb o hb eo=>eb b o (λz=>hb (by simp[z])) eo) hf⟩
 self:=λ_ _ _ _ _ st h=>let ⟨⟨_,he⟩,_⟩:=st;wpAny_pyIter_enum he h
section
variable {X:Cx}
end
structure ZA (z TI TO i1 i2:Addr):Prop where
 TIz:TI≠z
 TOz:TO≠z
 i1z:i1≠z
 i2z:i2≠z
 TITO:TI≠TO
 TIi1:TI≠i1
 TIi2:TI≠i2
 TOi1:TO≠i1
 TOi2:TO≠i2
 i12:i1≠i2
section
variable {X:Cx}
end
section
variable {σ:St} {H:Hp} {cap:List (Option Nat)} {g:TG} {tt:TT} {te:TE} {acc:Addr} {H0:Hp} {Qh:Hp->Prop}
structure zob (J:It) (n:Nat) (f:Nat->Option (V×V)) (ok:Hp->Prop):Prop where
 go:∀i H,ok H->i<n->J.go i H
 stop:∀H,ok H->J.stop n H
 yld:∀i H x H',ok H->i<n->J.yld i H x H'->∃p u v,x= .ref p/\H p=none/\H'=upd H p (.tup [u,v])/\f i=some (u,v)
end
section
variable {σ:St} {H:Hp} {Q:VK} {D':TN}
end
section
variable {σ:St} {H:Hp} {Q:VK}
end
open Classical in
noncomputable def frG (H H':Hp):Hp:=λb=>match H' b with
 |some (.lst xs)=>if H b=none then some (.lst xs) else none
 |o=>o
def Dom (H H':Hp):Prop:=∀b,H' b=none->H b=none
structure Acc (K:rF) (H0:Hp) (acc:Addr) (ys:List V) (ds:List D) (H:Hp):Prop where
 at_:H acc=some (.lst ys)
 new:IsL K (frG (upd H0 acc (.lst [])) H) ys ds
 same:TX H0 H
 dom:Dom (upd H0 acc (.lst [])) H
section
variable {X:Cx}
theorem TY (ns:List Int):∀k,preSum (λi=>ns.getD i 0) k=(ns.take k).sum
 |0=>by simp[preSum]
 |k+1=>by
  unfold preSum
  rw[TY ns k,BG,tO]
  cases h:ns[k]? <;>simp[sS,h]
def zno (K:rF):List V->Hp->VK->Prop:=λxs H Q=>∃(p:Addr) (ns:List Int),xs=[.ref p]/\SqL K H p (ns.map V.int)/\Q (.int ns.sum) H
theorem zcR {K:rF} (hc:X.calm=true) (hK:X.K=K:=by rfl):Zw X (.builtin "sum") (zno K):=by
 subst hK
 intro pins s σ H xs us Q I r h
 obtain⟨p,ns,rfl,hq,q⟩:=h
 obtain⟨u,rfl,ru⟩:=YC r
 cases ru
 obtain⟨ag,rv,pl,hz⟩:=I.list hq
 have lt:p<s.heap.objs.size:=by
  obtain⟨o,n,e,_⟩:=id pl
  exact Heap.lt_size e
 have hl:=rv.length
 rw[rJ] at hl
 refine call_sum_walkAnyS (wpAny_pyIter_list pl.isList ?_)
 have W:=(Walks.list (prog:=X.prog) (w:=X.w) (A:=X.A.in1) (I.ok.hd hc) s.heap.objs.size p (sA lt) ag.toArray).toS
 refine⟨s.heap.objs.size,_,_,_,_,_,_,λi=>ns.getD i 0,rfl,W,?_,?_,?_,?_⟩
 ·exact⟨⟨_,Heap.get?_push_size _ rfl,rfl,rfl⟩,Heap.IsList.push pl.isList _⟩
 ·intro b hb
  rw[Heap.size_push]
  rcases (by simpa using hb:b=s.heap.objs.size\/b=p) with rfl|rfl
  ·exact tU _
  ·exact Ai lt
 ·intro i v hv
  have hv:ag[i]? =some v:=by simpa using hv
  have hi:i<ns.length:=by rw[hl];exact (rH.1 hv).1
  obtain⟨u,hu,t,ru⟩:=rv.get (i:=i) (x:=V.int ns[i]) (by rw[rM,rG hi];rfl)
  rw[hu] at hv
  cases hv
  refine⟨t,?_⟩
  rw[ru]
  show Value.int ns[i] t=Value.int (ns.getD i 0) t
  rw[sS,rG hi,uc]
 ·intro s' t' m
  have I1:Inv X pins σ H {s with heap:=s'.heap,toks:=s'.toks}:=I.kept λb o e=>m.heap b o (λz=>by
   have z:b=s.heap.objs.size:=by simpa using z
   exact absurd (Heap.lt_size e) (by rw[z];exact tS _)) (Heap.get?_push_of_some _ e)
  have e:({s with heap:=s'.heap,toks:=s'.toks}:Shared)=s':=by
   have h1:=m.gens
   have h2:=m.drawn
   have h3:=m.os
   cases s'
   simp only at h1 h2 h3
   subst h1 h2 h3
   rfl
  rw[e] at I1
  refine⟨.int ns.sum,H,I1,⟨t',?_⟩,q⟩
  rw[TY]
  have:ag.toArray.size=ns.length:=by rw[rO,<-hl]
  rw[this,sE]
end
section
variable {σ:St} {H:Hp} {Q:VK}
end
section
variable {σ:St} {H:Hp} {v:V}
end
end L2
namespace L2
open PySem PySem.Spec PyProof.Rows PyProof
section
variable {X:Cx}
def ziB:V->List V->Hp->VK->Prop:=λx vs H Q=>∃(l:Addr) (xs:List V) (y:V) (j:Nat),x= .ref l/\vs=[y]/\H l=some (.lst xs)/\XW y=true/\xs.all XW=true/\(∃z,xs[j]? =some z/\eqV z y=true)/\(∀m z,m<j->xs[m]? =some z->eqV z y=false)/\Q (.int (j:Int)) H
theorem ziC:MtM X "list.index" ziB:=by
 intro pins s σ H x vs v us Q I rx rv h
 obtain⟨l,xs,y,j,rfl,rfl,hH,fy,fs,⟨z,jn,kQ⟩,lF,q⟩:=h
 cases rx
 obtain⟨u,rfl,ru⟩:=rv.one
 obtain⟨zl,ag,n,r,hl,e⟩:=I.lstM hH
 have hn:=Vk
 have hj:j<xs.length:=(rH.1 jn).1
 have fl:∀(m:Nat) (w:V),xs[m]? =some w->XW w=true:=λm w hw=>ub.1 fs w (rX hw)
 have at_:∀(m:Nat) (w:V) (hm:m<ag.toArray.size),xs[m]? =some w->eqU y ag.toArray[m]=eqV w y:=λm w hm hw=>by
  obtain⟨c,hc,rc⟩:=r.get hw
  have e1:ag.toArray[m]=c:=by
   have e2:ag[m]? =some ag[m]:=rG (by simpa using hm)
   rw[hc] at e2
   simpa using (sr e2).symm
  rw[e1]
  exact zfP rc (fl m w hw)
 refine call_meets F.slot_list_index ⟨_,e,rfl⟩ F.entry_list_index (F.args_list_index_2 _ _) (SeqAt.list_indexAt l ag.toArray n none #[] u (eqU y) j (by rw[rO];omega) ⋯ ?_ ?_) ⟨e,λc hc=>UZ ru fy r fs c (by simpa using hc),?_⟩
 ·rw[at_ j z (by rw[rO];omega) jn]
  exact kQ
 ·intro m hm iH
  have nD:m<xs.length:=by omega
  rw[at_ m xs[m] hm (rG nD)]
  exact lF m xs[m] iH (rG nD)
 ·exact⟨.int j,H,I.tok _,⟨_,rfl⟩,q⟩
def zkv:V->Option Int->Option Int->Hp->VK->Prop:=λx lo hi H Q=>∃z,x= .str z/\z.length<=sizeLine/\Q (.str (Txt.slice z lo hi)) H
theorem zfT:SlR X zkv:=by
 intro pins s σ H x v vl vu lo hi sl Q I rx hs pl pu h
 obtain⟨z,rfl,hz,q⟩:=h
 obtain⟨t,rfl⟩:=rx
 refine⟨"str",_,F.slot_str_getitem.lookup,typeIs_str _ _ _,?_⟩
 obtain⟨l,nE,g8⟩:∃l:Option (Int×Tok),vl=partValue l/\l.map (·.1)=lo:=by
  cases pl with
  |none=>exact⟨none,rfl,rfl⟩
  |int i t=>exact⟨some (i,t),rfl,rfl⟩
 obtain⟨u,oS,oR⟩:∃l:Option (Int×Tok),vu=partValue l/\l.map (·.1)=hi:=by
  cases pu with
  |none=>exact⟨none,rfl,rfl⟩
  |int i t=>exact⟨some (i,t),rfl,rfl⟩
 subst nE oS g8 oR
 exact wpAny_getItem_str_slice (l:=l) (u:=u) (st:=none) hs rfl (post_val_or_str ⟨si (Txt.slice_le z _ _) hz,λt' k=>⟨.str _,H,I.tok _,⟨_,rfl⟩,q⟩⟩)
theorem zmc {K:rF} {a b:String} (h1:(Value.type a==Value.type b)=false) (h:(fastBuiltinMro a).map (·.contains (.type b))=some false) (hm:uj b=true) (hs:Ad K (.type a) (.type b)=(fastBuiltinMro a).map (·.contains (.type b))):sW K (.type a) (.type b)=some false:=by
 unfold sW B4
 rw[if_neg (by rw[h1];decide)]
 show (if uj b=true then Ad K (.type a) (.type b) else none)=_
 rw[if_pos hm,hs,h]
end
end L2
namespace L2
open PySem PySem.Spec PyProof.Rows
open AutoSeq1 (wpAny_loadPart')
section
variable {prog:Program} {w:World} {A:Around} {E:Value->Shared->Prop} {s:Shared}
theorem zfU {h h':Heap} {a t:Addr} {i:Nat} (x:IsTupIter h a t i) (e:∀o,h.get? a=some o->h'.get? a=some o):IsTupIter h' a t i:=let ⟨o,ho,r⟩:=x;⟨o,e o ho,r⟩
theorem znp {it t:Addr} {i:Nat} {ag:Array Value} {x:Value} {Q:Value->Shared->Prop} (hit:IsTupIter s.heap it t i) (ht:IsTup s.heap t ag) (hx:ag[i]? =some x)
  (q:∀h',IsTupIter h' it t (i+1)->Heap.SameBut it s.heap h'->Q x {s with heap:=h'}):wpAny (model prog w) A (Builtin.SmallTypes.nextOf (.ref it)) Q E s:=by
 obtain⟨io,hV,ic,gL⟩:=id hit
 obtain⟨o7,lq,_,tn,ky⟩:=ht
 unfold Builtin.SmallTypes.nextOf
 refine wpAny_bind (wpAny_callSpecial?_slot (name:=Str.ofString "__next__") hit.typeIs slot_tupleiter_next (wpAny_call_entry slot_tupleiter_next hit.typeIs entry_tupleiter_next ?_ (args_tupleiter_next _)))
 refine wpAny_bind (m:=field (.ref it) 0) (wpAny_field hV gL (x:= .ref t) rfl ?_)
 show wpAny _ _ (if (Value.ref t==Value.none)=true then _ else _) _ _ s;rw[if_neg (show ¬((Value.ref t==Value.none)=true) from sy)]
 refine wpAny_bind (m:=field (.ref it) 1) (wpAny_field hV gL (x:= .int i 0) rfl ?_)
 refine wpAny_bind (m:=seqItems? (.ref t)) (wpAny_seqItems lq ky ?_)
 simp only[rQ,hx]
 refine wpAny_bind (wpAny_setField hV gL (by simp) (wpAny_pure ⟨x,rfl,wpAny_pure (q _ ⟨_,Heap.get?_update_self _ hV (Obj.isFreed_of_fields (Obj.data_mapFields gL _)),(Obj.cls_mapFields ..).trans ic,?_⟩ (Heap.SameBut.update ..))⟩))
 rw[Obj.data_mapFields gL]
 simp[rawInt]
theorem zcS {it t:Addr} {i:Nat} {ag:Array Value} {Q:Value->Shared->Prop} (hh:A.handled=none) (hit:IsTupIter s.heap it t i) (ht:IsTup s.heap t ag) (hx:ag[i]? =none)
  (q:∀h' e,Heap.ExtBut it s.heap h'->(∃o,h'.get? e=some o/\o.cls= .type "StopIteration")->E (.ref e) {s with heap:=h'}):wpAny (model prog w) A (Builtin.SmallTypes.nextOf (.ref it)) Q E s:=by
 obtain⟨io,hV,ic,gL⟩:=id hit
 obtain⟨o7,lq,_,tn,ky⟩:=ht
 unfold Builtin.SmallTypes.nextOf
 refine wpAny_bind (wpAny_callSpecial?_slot (name:=Str.ofString "__next__") hit.typeIs slot_tupleiter_next (wpAny_call_entry slot_tupleiter_next hit.typeIs entry_tupleiter_next ?_ (args_tupleiter_next _)))
 refine wpAny_bind (m:=field (.ref it) 0) (wpAny_field hV gL (x:= .ref t) rfl ?_)
 show wpAny _ _ (if (Value.ref t==Value.none)=true then _ else _) _ _ s;rw[if_neg (show ¬((Value.ref t==Value.none)=true) from sy)]
 refine wpAny_bind (m:=field (.ref it) 1) (wpAny_field hV gL (x:= .int i 0) rfl ?_)
 refine wpAny_bind (m:=seqItems? (.ref t)) (wpAny_seqItems lq ky ?_)
 simp only[rQ,hx]
 refine wpAny_bind (wpAny_rule (wpAny_bind (wpAny_setField hV gL (by simp) ?_)))
 refine wpAny_bind (m:=newExc (.type "StopIteration") []) ?_
 simp only[newExc,newTuple]
 refine wpAny_bind (wpAny_newObj_type ?_ (by size_fits));refine wpAny_bind (m:=firstArgMember _ _) (wpAny_of_eq (a:=Value.none) (by first|rfl|(simp only[firstArgMember];rfl)) ?_);refine wpAny_newObj_type ?_ (by size_fits)
 simp only[raiseNew]
 refine wpAny_bind (wpAny_handled ?_);(first|rw[show A.in1.handled=none from hh]|rw[hh])
 exact wpAny_bind (wpAny_pure (wpAny_throw (q _ _ (((Heap.SameBut.update ..).extBut.push _).push _) ⟨_,Heap.get?_push_size _ rfl,rfl⟩)))
theorem zmd (hh:A.handled=none) (it t:Addr) (ef:t≠it) (ag:Array Value):Draws prog w A it [it,t] ag.size (λi v=>ag[i]? =some v) (λi h=>IsTupIter h it t i/\IsTup h t ag) where
 live:=λ_ _ st=>let ⟨o,ho,_⟩:=st.1;⟨o,ho⟩
 frame:=λ_ _ _ st hk=>⟨zfU st.1 λo e=>hk it (by simp) o e,let ⟨o,ho,r⟩:=st.2;⟨o,hk t (by simp) o ho,r⟩⟩
 item:=λi s Q E hi st hQ=>znp st.1 st.2 (x:=ag[i]) (by simp[hi]) λh' iJ fR=>hQ _ h' s.toks (by simp[hi]) ⟨iJ,st.2.extBut fR.extBut ef⟩ fR
 done:=λs Q E st hE=>zcS hh st.1 st.2 (by simp) hE
theorem zeD (t:Addr) (ag:Array Value) (n:Nat) (dct:Option Addr) (sl:Array (Option Value)):
  Meets (Builtin.«enumerate.__new__» ⟨[.type "enumerate",.ref t],[]⟩) (λ_ R s=>s.heap.get? t=some {cls:= .type "tuple",dict:=dct,data:= .seq ag n,slots:=sl}/\
   R (.ok (.ret (.ref (s.heap.push {cls:= .type "tuple_iterator",data:= .fields #[.ref t,.int 0 0]}).objs.size)))
    {s with heap:=(s.heap.push {cls:= .type "tuple_iterator",data:= .fields #[.ref t,.int 0 0]}).push {cls:= .type "enumerate",data:= .fields #[.none,.bool false,.ref s.heap.objs.size,rawInt 0,.none,.none]}}):=
 .of_wp λprog w A R s h=>by
  obtain⟨hp,g,d,tk,os⟩:=s
  obtain⟨ht,h⟩:=h
  have oX:=sub_enumerate
  have hT:IsTup (Shared.heap ⟨hp,g,d,tk,os⟩) t ag:=⟨_,ht,rfl,n,rfl⟩
  wp_walk using wpAny_loadPart' ht
  refine wpAny_stack_any λst=>wpAny_pure ?_
  split
  ·rename_i c _ _ _ _ _
   cases (c==Value.type "enumerate")<;>(wp_walk using wpAny_loadPart' ht,iter_tuple hT;exact⟨_,rfl,h⟩)
  ·wp_walk using wpAny_loadPart' ht,iter_tuple hT
   exact⟨_,rfl,h⟩
theorem zbm {t:Addr} {ag:Array Value} {Q:Value->Shared->Prop} (hT:IsTup s.heap t ag)
  (h:∀h',IsEnum h' (s.heap.objs.size+1) s.heap.objs.size 0 .none->IsTupIter h' s.heap.objs.size t 0->h'.objs.size=s.heap.objs.size+2->(∀b o,s.heap.get? b=some o->h'.get? b=some o)->Q (.ref (s.heap.objs.size+1)) {s with heap:=h'}):
  wpAny (model prog w) A (call (.type "enumerate") [.ref t]) Q E s:=by
 obtain⟨⟨c,dct,dt,sl⟩,ht,hc,n,hd⟩:=hT
 replace hc:c= .type "tuple":=hc
 replace hd:dt= .seq ag n:=hd
 subst hc hd
 refine callType_new F.called_enumerate ∅ (F.typeCall_enumerate_1 _) (F.newCall_enumerate_1 _) (λobj=>F.args_object_init_2 obj _) F.entry_enumerate_new (zeD t ag n dct sl) ⟨ht,?_⟩
 have hz:(s.heap.push {cls:= .type "tuple_iterator",data:= .fields #[.ref t,.int 0 0]}).objs.size=s.heap.objs.size+1:=Heap.size_push ..
 have he:=Heap.get?_push_size (s.heap.push {cls:= .type "tuple_iterator",data:= .fields #[.ref t,.int 0 0]}) (o:={cls:= .type "enumerate",data:= .fields #[.none,.bool false,.ref s.heap.objs.size,rawInt 0,.none,.none]}) rfl
 show _/\_
 rw[hz] at he ⊢
 exact⟨⟨_,he,rfl⟩,h _ he ⟨_,Heap.get?_push_of_some _ (Heap.get?_push_size _ rfl),rfl,rfl⟩ (by rw[Heap.size_push,hz]) λb o x=>Heap.get?_push_of_some _ (Heap.get?_push_of_some _ x)⟩
end
noncomputable def zme (K:rF) (a:Addr):It:=
 ⟨λi H=>∃xs x,SqT K H a xs/\xs[i]? =some x,λi H x H'=>∃p y,x= .ref p/\H p=none/\H'=upd H p (.tup [.int i,y])/\∀xs,SqT K H a xs->xs[i]? =some y,λi H=>∃xs,SqT K H a xs/\xs.length<=i⟩
theorem zkw {X:Cx} {pins:List (Addr×Obj)} {σ:St} {H:Hp} {s:Shared} {a:Addr} {xs ys:List V} (I:Inv X pins σ H s) (h1:SqT X.K H a xs) (h2:SqT X.K H a ys):xs=ys:=I.tuple_inj h1 h2
theorem zbn {P:Program} {w:World} {K:rF} {elts:List Expr} {k:Nat} {tp:Pos} (a e it:Addr) (ef:e≠it):
  zfB P w K (.Tuple elts k tp) (zme K a) [e,it] e (λi h=>(∃old,IsEnum h e it i old)/\IsTupIter h it a i) where
 mem:=by simp
 obj:=λi h st b hb=>by
  obtain⟨⟨old,he⟩,o,e',c,d⟩:=st
  rcases (by simpa using hb:b=e\/b=it) with rfl|rfl
  ·exact⟨_,he,λv z=>by cases z⟩
  ·exact⟨o,e',λv z=>by rw[d] at z;cases z⟩
 keep:=λi h h' st k=>⟨let ⟨old,he⟩:=st.1;⟨old,k e (by simp) _ he⟩,zfU st.2 λo e=>k it (by simp) o e⟩
 item:=by
  intro X hP hw hK hc i pins s σ H E I hf st hg
  subst hP hw hK
  obtain⟨xs,x,hq,hx⟩:=hg
  obtain⟨ag,rv,p,hz⟩:=I.tuple hq
  obtain⟨u,hu,ru⟩:=rv.get hx
  obtain⟨⟨old,he⟩,hit⟩:=st
  obtain⟨oi,nq,ci,_⟩:=id hit
  obtain⟨ot,ki,ct,_⟩:=id p
  have oh:a≠it:=λz=>by subst z;rw[nq] at ki;cases ki;rw[ci] at ct;exact absurd ct ∅
  have oj:e≠a:=λz=>by subst z;rw[he] at ki;cases ki;exact absurd (show Value.type "enumerate"= .type "tuple" from ct) ∅
  have hi:i<ag.toArray.size:=by have:=(rH.1 hu).1;simpa using this
  refine wpAny_pyNext_enum_itemD (zmd (prog:=X.prog) (w:=X.w) (A:=X.A.in1) (I.ok.hd hc) it a oh ag.toArray) he ⟨hit,p⟩ hi ef (by simp[ef,oj]) λy h1 tk hP gG ls lr jn fk=> ?_
  have hy:y=u:=by
   have:ag.toArray[i]? =some u:=by simpa using hu
   rw[this] at hP
   exact (sr hP).symm
  subst hy
  refine⟨_,rfl,?_⟩
  refine wpAny_letOwnedTupleGo_enum (s:={s with heap:=h1,toks:=tk+1}) gG λh2 gP dZ=> ?_
  have dZ:Heap.SameBut e h1 h2:=dZ
  have kC:e<s.heap.objs.size:=Heap.lt_size he
  have vv:yt [V.int i,x] [.int i tk,y]:= .cons ⟨_,rfl⟩ (.cons ru .nil)
  have T:=Inv.turnedT (h':=h2) (t':=tk+1) (fp:=[e,it]) I vv (by show 2<=sizeLine;decide) (λb o hb eb=> ?_) ((dZ.2 _ (Bs kC)).trans lr) hf (λb hb=> ?_)
  ·obtain⟨I2,fr,fb⟩:=T
   exact⟨.ref s.heap.objs.size,_,I2,rfl,⟨_,x,rfl,fr,rfl,λys hy=>by rw[zkw I hy hq];exact hx⟩,⟨⟨_,gP⟩,zfU ls.1 λo eo=>(dZ.2 it ef.symm).trans eo⟩,fb⟩
  ·have hb:b≠e/\b≠it:=by simpa using hb
   exact (dZ.2 b hb.1).trans (fk b o hb.1 hb.2 eb)
  ·rcases (by simpa using hb:b=e\/b=it) with rfl|rfl
   ·exact⟨_,he⟩
   ·exact⟨oi,nq⟩
 done:=by
  intro X hP hw hK hc i pins s σ H E I hf st hg
  subst hP hw hK
  obtain⟨xs,hq,hx⟩:=hg
  obtain⟨ag,rv,p,hz⟩:=I.tuple hq
  have hl:=rv.length
  obtain⟨⟨old,he⟩,hit⟩:=st
  have hT:s.TypeIs (.ref e) "enumerate":=⟨_,he,rfl⟩
  unfold pyNext
  refine wpAny_bind (wpAny_attempt (wpAny_callSpecial?_slot (name:=Str.ofString "__next__") hT F.slot_enumerate_next (wpAny_call_entry F.slot_enumerate_next hT F.entry_enumerate_next ?_ (F.args_enumerate_next_1 _))))
  refine wpAny_bind (m:=field (.ref e) 2) (wpAny_field he rfl (x:= .ref it) rfl ?_)
  refine wpAny_bind (zcS (I.ok.hd hc) hit p (by simp;omega) λh' ex pW kT=> ?_)
  obtain⟨oe,pe,q8⟩:=kT
  refine wpAny_bind (wpAny_isInstance (T:="StopIteration") (b:=true) ⟨oe,pe,q8⟩ isSubtype_stop (wpAny_pure ?_))
  exact⟨rfl,Inv.turnedL (t':=s.toks) (fp:=[e,it]) I (λb o hb eo=>pW b o (λz=>hb (by simp[z])) eo) hf⟩
 self:=λ_ _ _ _ _ st h=>let ⟨⟨_,he⟩,_⟩:=st;wpAny_pyIter_enum he h
section
variable {X:Cx}
def ziD (K:rF) (ta:TA):TI:=λσ H R=>ta σ H λvs H1=>∃a,vs=[.ref a]/\(∃xs,SqT K H1 a xs)/\R (zme K a) H1
theorem ziE {K:rF} {elts:List Expr} {k:Nat} {tp:Pos} {l:Expr} {ta:TA} {p pos:Pos} (hg:Gl X "enumerate") (hm:X.mg "enumerate"=none) (ha:PA X [l] ta) (hK:X.K=K:=by rfl) (hs:starEach [l] X.env=[(false,eval l X.env)]:=by rfl):
  PI X (.Tuple elts k tp) (.Call (.Name "enumerate" p) [l] [] pos) (ziD K ta):=by
 subst hK
 intro pins s σ H R I h
 refine Call_ (YB I hg hm Boot.«enumerate» (sP (thn (ha pos pins s σ H _ I h) ?_) hs rfl))
 rintro us s1 ⟨vs,H1,I1,r1,q1⟩
 obtain⟨a,e,⟨xs,hq⟩,q⟩:=q1
 subst e
 obtain⟨u,rfl,ru⟩:=YC r1
 cases ru
 obtain⟨ag,rv,p,hz⟩:=I1.tuple hq
 refine zbm p λh' he hit eN hk=> ?_
 have I2:Inv X pins σ H1 {s1 with heap:=h'}:=I1.kept (t':=s1.toks) hk
 refine wpAny_pyIter_enum (s:={s1 with heap:=h'}) he ?_
 refine⟨s1.heap.objs.size+1,[s1.heap.objs.size+1,s1.heap.objs.size],_,_,H1,rfl,I2,zbn a (s1.heap.objs.size+1) s1.heap.objs.size (y6 _),⟨⟨_,he⟩,hit⟩,λb hb=> ?_,q⟩
 have hb:s1.heap.objs.size<=b:=by
  rcases (by simpa using hb:b=s1.heap.objs.size+1\/b=s1.heap.objs.size) with rfl|rfl
  ·exact t5 _
  ·exact rL _
 exact Inv.fpOk I1 hb (I1.hok.fresh hb)|>λ⟨f0,f1,f2,f3,f4,f5⟩=>⟨f0,f1,f2,f3,f4,f5⟩
end
end L2
namespace L2
open PySem PySem.Spec PyProof.Rows
section
variable {prog:Program} {w:World} {A:Around} {E:Value->Shared->Prop} {s:Shared}
noncomputable abbrev zT1 (h:Heap) (l1:Addr):Heap:=h.push {cls:= .type "tuple_iterator",data:= .fields #[.ref l1,.int 0 0]}
noncomputable abbrev zT2 (h:Heap) (l1 l2:Addr):Heap:=(zT1 h l1).push {cls:= .type "tuple_iterator",data:= .fields #[.ref l2,.int 0 0]}
noncomputable abbrev zT3 (h:Heap) (l1 l2:Addr):Heap:=(zT2 h l1 l2).push {cls:= .type "tuple",data:= .seq #[.ref h.objs.size,.ref (zT1 h l1).objs.size]}
noncomputable abbrev zT4 (h:Heap) (l1 l2:Addr):Heap:=(zT3 h l1 l2).push {cls:= .type "tuple",data:= .seq #[.none,.none]}
noncomputable abbrev zT5 (h:Heap) (l1 l2:Addr):Heap:=(zT4 h l1 l2).push {cls:= .type "zip",data:= .fields #[.none,.bool false,.bool false,.ref (zT2 h l1 l2).objs.size,.ref (zT3 h l1 l2).objs.size]}
end
section
variable {X:Cx}
end
mutual
def D.small (n:Nat):D->Prop
 | .int i=>i.natAbs<2^n
 | .tup l=>D.smalls n l
 | .lst l=>D.smalls n l
 | .non=>True
 | .bl _=>True
 | .str _=>False
 | .ins _ _ _=>False
def D.smalls (n:Nat):List D->Prop
 |[]=>True
 |d::r=>D.small n d/\D.smalls n r
end
mutual
noncomputable def D.wt (n:Nat):D->Nat
 | .tup l=>D.wts n l
 | .lst l=>D.wts n l
 | .int _=>n
 |_=>0
noncomputable def D.wts (n:Nat):List D->Nat
 |[]=>0
 |d::r=>D.wt n d+1+D.wts n r
end
section
variable {X:Cx} {pins:List (Addr×Obj)} {σ:St} {H:Hp} {s:Shared}
end
structure zn8 (n:Nat) (d:D):Prop where
 seq:∃l,d= .tup l\/d= .lst l
 small:D.small n d
 n0:8<=n
 n1:n<=1900
 deep:D.depth d<=40
 size:(n+3)*D.wt n d+n+1<=16777216
section
variable {X:Cx}
end
theorem ziF:mroOf (.type "reversed")=pure [.type "reversed",.type "object"]:=by rw[mroOf_type];kernel_rfl
theorem zmf:typeLookup (.type "reversed") "__new__"=pure (some (.builtin "reversed.__new__")):=by rw[typeLookup_type,builtinLookup_eq_fast];kernel_rfl
theorem zkx:Slot "reversed" "__init__" "object.__init__":= .of (owner:="object") (n:="__init__") (by rw[typeLookup_type,builtinLookup_eq_fast];kernel_rfl) (by decide+kernel) (by decide+kernel) (by decide+kernel) (by first|exact .inl (by decide+kernel)|exact .inr (by decide+kernel)) (by rw[isSubtype_type];kernel_rfl)
theorem zhy:TypeCalled "reversed" "reversed.__new__" "object.__init__":=⟨*...*, *...*,⟨_,_,ziF⟩,madeBy_type ziF zmf (by decide+kernel), *...*,by rw[isSubtype_type];kernel_rfl,zkx⟩
theorem zeE (a:Value):checkTypeCall "reversed" ⟨[a],[]⟩=pure ():=by kernel_rfl
theorem zfV (a:Value):checkBuiltinCall "reversed.__new__" ⟨[.type "reversed",a],[]⟩=pure ():=by kernel_rfl
theorem zeF:entryFor table "reversed.__new__"=some Builtin.«reversed.__new__» :=entryFor_of_tree (by kernel_rfl)
theorem zmg:isSubtype (.type "reversed") (.type "reversed")=pure true:=by rw[isSubtype_type];kernel_rfl
theorem zeG:Manifest.owners.lookup (String.ofList ['d','e','s','r','e','v','e','r'].reverse)=some Manifest.sig_reversed:=by kernel_rfl
theorem Td:Slot "reversed" "__next__" "reversed.__next__":= .of (owner:="reversed") (n:="__next__") (by rw[typeLookup_type,builtinLookup_eq_fast];kernel_rfl) (by decide+kernel) (by decide+kernel) (by decide+kernel) (by first|exact .inl (by decide+kernel)|exact .inr (by decide+kernel)) (by rw[isSubtype_type];kernel_rfl)
theorem Tf:entryFor table "reversed.__next__"=some Builtin.«reversed.__next__» :=entryFor_of_tree (by kernel_rfl)
theorem zay (a:Value):argsOk "reversed.__next__" ⟨[a],[]⟩:=by
 unfold argsOk;rw[signature?_of (id:="reversed.__next__") (n:=['_','_','t','x','e','n','_','_']) (o:=['d','e','s','r','e','v','e','r']) (by kernel_rfl) zeG];kernel_rfl
theorem zgS:Slot "reversed" "__iter__" "reversed.__iter__":= .of (owner:="reversed") (n:="__iter__") (by rw[typeLookup_type,builtinLookup_eq_fast];kernel_rfl) (by decide+kernel) (by decide+kernel) (by decide+kernel) (by first|exact .inl (by decide+kernel)|exact .inr (by decide+kernel)) (by rw[isSubtype_type];kernel_rfl)
theorem zeH (a:Value):argsOk "reversed.__iter__" ⟨[a],[]⟩:=by
 unfold argsOk;rw[signature?_of (id:="reversed.__iter__") (n:=['_','_','r','e','t','i','_','_']) (o:=['d','e','s','r','e','v','e','r']) (by kernel_rfl) zeG];kernel_rfl
theorem zdu:entryFor table "reversed.__iter__"=some Builtin.«dict_keyiterator.__iter__» :=entryFor_alias (id':="dict_keyiterator.__iter__") (by kernel_rfl) (by first|rfl|decide+kernel|(unfold String.splitOn;simp+decide [String.splitOnAux])) (by decide+kernel) (by kernel_rfl)
theorem zky:typeLookup (.type "tuple") "__reversed__"=pure none:=by rw[typeLookup_type,builtinLookup_eq_fast];kernel_rfl
noncomputable abbrev zeI (t:Addr) (i:Int):Obj:={cls:= .type "reversed",data:= .fields #[.ref t,rawInt i]}
noncomputable abbrev zfW (h:Heap) (a t:Addr) (i:Int):Prop:=h.get? a=some (zeI t i)
section
variable {prog:Program} {w:World} {A:Around} {E:Value->Shared->Prop} {s:Shared}
theorem zeJ (a:Value):Builtin.SmallTypes.newClass "reversed" ⟨[.type "reversed",a],[]⟩=pure (.type "reversed",[a]):=by
 unfold Builtin.SmallTypes.newClass
 simp only[isType,zmg,pure_bind,Bool.not_true,Bool.false_eq_true,if_false]
theorem ziG (t:Addr) (ag:Array Value) (hz:(ag.size:Int)<2^63):Meets (Builtin.«reversed.__new__» ⟨[.type "reversed",.ref t],[]⟩) (λ_ R s=>IsTup s.heap t ag/\∀tk,R (.ok (.ret (.ref s.heap.objs.size))) {s with heap:=s.heap.push (zeI t ((ag.size:Int)-1)),toks:=tk}):=
 .of_wp λprog w A R s h=>by
  obtain⟨hT,h⟩:=h
  unfold Builtin.«reversed.__new__»
  refine wpAny_bind (wpAny_of_eq (zeJ _) ?_)
  try dsimp only
  refine wpAny_bind (wpAny_of_eq (a:=()) (by first|rfl|kernel_rfl) ?_)
  refine wpAny_bind (wpAny_of_eq (a:=()) (by first|rfl|kernel_rfl) ?_)
  try dsimp only
  refine wpAny_bind (wpAny_specialOf hT.typeIs zky ?_)
  try dsimp only
  refine wpAny_bind ?_
  show wpAny _ _ (isInstance (.ref t) (.type "dict")>>=_) _ _ _
  refine wpAny_bind (wpAny_isInstance (T:="tuple") (b:=false) hT.typeIs (by rw[isSubtype_type];kernel_rfl) ?_)
  rw[if_neg ∅]
  show wpAny _ _ (specialOf (.ref t) "__getitem__">>=_) _ _ _
  refine wpAny_bind (wpAny_specialOf hT.typeIs slot_tuple_getitem.lookup ?_)
  dsimp only
  rw[if_pos ∅]
  refine wpAny_pure ?_
  rw[if_neg ∅]
  refine wpAny_bind (len_tuple hT hz ?_)
  refine wpAny_bind (wpAny_of_eq (a:=some (ag.size:Int)) rfl ?_)
  dsimp only
  refine wpAny_bind (m:=Builtin.SmallTypes.newRecord (.type "reversed") [.ref t,rawInt ((ag.size:Int)-1)]) ?_
  unfold Builtin.SmallTypes.newRecord
  first
  |exact wpAny_newObj_type (wpAny_pure ⟨_,rfl,h _⟩)
  |(wp_walk;exact⟨_,rfl,h _⟩)
theorem ziH {it t:Addr} {i:Nat} {ag:Array Value} {x:Value} {Q:Option Value->Shared->Prop} (hit:zfW s.heap it t (i:Int)) (ht:IsTup s.heap t ag) (hx:ag[i]? =some x) (hs:(i:Int)<2^63)
  (q:∀h' tk,zfW h' it t ((i:Int)-1)->Heap.SameBut it s.heap h'->Q (some x) {s with heap:=h',toks:=tk}):wpAny (model prog w) A (pyNext (.ref it)) Q E s:=by
 have hT:s.TypeIs (.ref it) "reversed":=⟨_,hit,rfl⟩
 unfold pyNext
 refine wpAny_bind (wpAny_attempt (wpAny_callSpecial?_slot (name:=Str.ofString "__next__") hT Td (wpAny_call_entry Td hT Tf ?_ (zay _))))
 unfold Builtin.«reversed.__next__»
 refine wpAny_bind (wpAny_of_eq (a:=(Value.ref it,[])) rfl ?_);(try dsimp only)
 refine wpAny_bind (wpAny_field hit rfl (x:= .ref t) rfl ?_)
 refine wpAny_bind (wpAny_field hit rfl (x:=rawInt (i:Int)) rfl ?_)
 show wpAny _ _ (if (i:Int)<0 then _ else _) _ _ s;rw[if_neg ⋯]
 refine wpAny_bind (wpAny_specialOf ht.typeIs slot_tuple_getitem.lookup ?_)
 rw[if_neg ∅]
 refine wpAny_bind (wpAny_mkInt ?_)
 have iH:i<ag.size:=(Ac.1 hx).1
 have pM:seqIndex? (i:Int) ag.size=some i:=by
  unfold seqIndex?
  simp only[show ¬((i:Int)<0) by omega,if_false]
  rw[if_pos (by simp;omega),rQ]
 refine wpAny_bind (wpAny_attempt (getItem_tuple (j:=i) ht ⋯ hs pM hx ?_));(try dsimp only)
 refine wpAny_bind (wpAny_field hit rfl (x:=rawInt (i:Int)) rfl ?_);(try dsimp only)
 refine wpAny_bind (wpAny_setField_rec hit (by simp) λh' iJ fR=> ?_)
 exact wpAny_pure ⟨_,rfl,wpAny_pure (q h' _ iJ fR)⟩
theorem zkz {it t:Addr} {Q:Option Value->Shared->Prop} (hh:A.handled=none) (hit:zfW s.heap it t (-1)) (q:∀h',Heap.ExtBut it s.heap h'->Q none {s with heap:=h'}):wpAny (model prog w) A (pyNext (.ref it)) Q E s:=by
 have hT:s.TypeIs (.ref it) "reversed":=⟨_,hit,rfl⟩
 unfold pyNext
 refine wpAny_bind (wpAny_attempt (wpAny_callSpecial?_slot (name:=Str.ofString "__next__") hT Td (wpAny_call_entry Td hT Tf ?_ (zay _))))
 unfold Builtin.«reversed.__next__»
 refine wpAny_bind (wpAny_of_eq (a:=(Value.ref it,[])) rfl ?_);(try dsimp only)
 refine wpAny_bind (wpAny_field hit rfl (x:= .ref t) rfl ?_)
 refine wpAny_bind (wpAny_field hit rfl (x:=rawInt (-1)) rfl ?_)
 show wpAny _ _ (if (-1:Int)<0 then _ else _) _ _ s;rw[if_pos ∅]
 refine wpAny_bind (wpAny_rule ?_)
 refine wpAny_bind ?_
 show wpAny _ _ (setField (.ref it) 1 (rawInt (-1))>>=_) _ _ s
 refine wpAny_bind (wpAny_setField_rec hit (by simp) λh1 g9 iY=> ?_)
 replace g9:zfW h1 it t (-1):=g9
 show wpAny _ _ (setField (.ref it) 0 .none) _ _ _
 refine wpAny_setField_rec g9 (by simp) λh2 pN dZ=> ?_
 first
 |refine wpAny_bind (m:=newExc (.type "StopIteration") []) ?_
 |(refine wpAny_bind ?_;refine wpAny_bind (m:=newExc (.type "StopIteration") []) ?_)
 simp only[newExc,newTuple]
 refine wpAny_bind (wpAny_newObj_type ?_ (by size_fits));refine wpAny_bind (m:=firstArgMember _ _) (wpAny_of_eq (a:=Value.none) (by first|rfl|(simp only[firstArgMember];rfl)) ?_);refine wpAny_newObj_type ?_ (by size_fits)
 simp only[raiseNew]
 refine wpAny_bind (wpAny_handled ?_);(first|rw[show A.in1.handled=none from hh]|rw[hh])
 refine wpAny_bind (wpAny_pure (wpAny_throw ?_))
 refine wpAny_bind (wpAny_isInstance (T:="StopIteration") (b:=true) ⟨_,Heap.get?_push_size _ rfl,rfl⟩ isSubtype_stop (wpAny_pure (q _ ?_)))
 exact λb o hb e=>Heap.get?_push_of_some _ (Heap.get?_push_of_some _ (dZ.extBut b o hb (iY.extBut b o hb e)))
theorem zeK {it t:Addr} {i:Int} {Q:Value->Shared->Prop} (hit:zfW s.heap it t i) (q:Q (.ref it) s):wpAny (model prog w) A (pyIter (.ref it)) Q E s:=by
 have hT:s.TypeIs (.ref it) "reversed":=⟨_,hit,rfl⟩
 refine wpAny_pyIter_slot hT zgS (wpAny_call_entry zgS hT zdu ?_ (zeH _))
 show wpAny _ _ (ret (Value.ref it)) _ _ _
 exact wpAny_pure ⟨_,rfl,"reversed",_,hT,Td.lookup,q⟩
theorem ziI {t:Addr} {ag:Array Value} {Q:Value->Shared->Prop} (hT:IsTup s.heap t ag) (hz:(ag.size:Int)<2^63)
  (h:∀tk,Q (.ref s.heap.objs.size) {s with heap:=s.heap.push (zeI t ((ag.size:Int)-1)),toks:=tk}):wpAny (model prog w) A (call (.type "reversed") [.ref t]) Q E s:=
 callType_new zhy ∅ (zeE _) (zfV _) (λobj=>F.args_object_init_2 obj _) zeF (ziG t ag hz) ⟨hT,λtk=>⟨⟨_,Heap.get?_push_size _ rfl,rfl⟩,h tk⟩⟩
end
noncomputable def ItR (K:rF) (a:Addr) (n:Nat):It:=
 ⟨λi H=>i<n/\∃xs,SqT K H a xs/\xs.length=n,λi H x H'=>H'=H/\∀xs,SqT K H a xs->xs[n-1-i]? =some x,λi H=>i=n⟩
theorem ziJ {P:Program} {w:World} {K:rF} {tg:Expr} (a it:Addr) (n:Nat):zfB P w K tg (ItR K a n) [it] it (λi h=>zfW h it a ((n:Int)-1-(i:Int))) where
 mem:=by simp
 obj:=λi h st b hb=>by
  have e:b=it:=by simpa using hb
  subst e
  exact⟨_,st,λv z=>by cases z⟩
 keep:=λi h h' st k=>k it (by simp) _ st
 item:=by
  intro X hP hw hK hc i pins s σ H E I hf st hg
  subst hP hw hK
  obtain⟨hi,xs,hq,hl⟩:=hg
  have hx:xs[n-1-i]? =some (xs[n-1-i]'⋯):=rG ⋯
  obtain⟨ag,rv,p,hz⟩:=I.tuple hq
  obtain⟨u,hu,ru⟩:=rv.get hx
  obtain⟨f0,f1,f2,f3,f4,f5⟩:=hf it (by simp)
  have hn:=Vk
  have e:(n:Int)-1-(i:Int)=((n-1-i:Nat):Int):=by omega
  rw[e] at st
  refine ziH st p (x:=u) (by simpa using hu) ⋯ λh' tk st' sb=> ?_
  have I1:Inv X pins σ H {s with heap:=h',toks:=tk}:=I.turned (t':=tk) (λb o hb e=>(sb.2 b hb).trans e) f0 f1 f3 f4 f5
  have e2:((n-1-i:Nat):Int)-1=(n:Int)-1-((i+1:Nat):Int):=by omega
  rw[e2] at st'
  exact⟨u,rfl,zgH (s:={s with heap:=h',toks:=tk}) (n:="reversed") st' rfl rfl ∅ ⟨_,H,I1,ru,⟨rfl,λys hy=>by rw[I.tuple_inj hy hq];exact hx⟩,st',λb hb=>(hf b hb).1⟩⟩
 done:=by
  intro X hP hw hK hc i pins s σ H E I hf st hg
  subst hP hw hK
  have hg:i=n:=hg
  obtain⟨f0,f1,f2,f3,f4,f5⟩:=hf it (by simp)
  have e:(n:Int)-1-(i:Int)= -1:=by omega
  rw[e] at st
  exact zkz (I.ok.hd hc) st λh' eb=>⟨rfl,I.turned (t':=s.toks) (λb o hb e=>eb b o hb e) f0 f1 f3 f4 f5⟩
 self:=λ_ _ _ _ _ st h=>zeK st h
section
variable {X:Cx} {tg:Expr}
def znq (K:rF) (ta:TA):TI:=λσ H R=>ta σ H λvs H1=>∃a xs,vs=[.ref a]/\SqT K H1 a xs/\R (ItR K a xs.length) H1
theorem zmh {K:rF} {l:Expr} {ta:TA} {p pos:Pos} (hg:Gl X "reversed") (hm:X.mg "reversed"=none) (ha:PA X [l] ta) (hK:X.K=K:=by rfl) (hs:starEach [l] X.env=[(false,eval l X.env)]:=by rfl):
  PI X tg (.Call (.Name "reversed" p) [l] [] pos) (znq K ta):=by
 subst hK
 intro pins s σ H R I h
 refine Call_ (YB I hg hm Boot.«reversed» (sP (thn (ha pos pins s σ H _ I h) ?_) hs rfl))
 rintro us s1 ⟨vs,H1,I1,r1,q1⟩
 obtain⟨a,xs,e,hq,q⟩:=q1
 subst e
 obtain⟨u,rfl,ru⟩:=YC r1
 cases ru
 obtain⟨ag,rv,p,hz⟩:=I1.tuple hq
 have hl:=rv.length
 have hn:=Vk
 refine ziI p (by rw[rO];omega) λtk=> ?_
 have I2:Inv X pins σ H1 {s1 with heap:=s1.heap.push (zeI a ((ag.toArray.size:Int)-1)),toks:=tk}:=I1.kept (t':=tk) λb o e=>Heap.get?_push_of_some _ e
 refine zeK (s:={s1 with heap:=s1.heap.push (zeI a ((ag.toArray.size:Int)-1)),toks:=tk}) (Heap.get?_push_size _ rfl) ?_
 refine⟨s1.heap.objs.size,[s1.heap.objs.size],_,_,H1,rfl,I2,ziJ a s1.heap.objs.size xs.length,?_,λb hb=> ?_,q⟩
 ·have e:((ag.toArray.size:Nat):Int)-1=(xs.length:Int)-1-((0:Nat):Int):=by rw[rO];omega
  show zfW _ _ _ _
  rw[<-e]
  exact Heap.get?_push_size _ rfl
 ·have e:b=s1.heap.objs.size:=by simpa using hb
  subst e
  exact Inv.fpOk I1 (rL _) (I1.hok.fresh (rL _))
def zlz (K:rF):R2:=λx y H Q=>∃a b xs ys,x= .ref a/\y= .ref b/\SqT K H a xs/\SqT K H b ys/\xs.length+ys.length<=sizeLine/\(xs=[]->Q (.ref b) H)/\(xs≠[]->ys=[]->Q (.ref a) H)/\(xs≠[]->ys≠[]->∀p,H p=none->Q (.ref p) (upd H p (.tup (xs++ys))))
theorem Wr {K:rF} (hK:X.K=K:=by rfl):OpR X (binaryOp .Add) (zlz K):=by
 subst hK
 intro pins s σ H x y v u Q I rx ry h
 obtain⟨a,b,xs,ys,e1,e2,ha,hb,hz,q1,q2,q3⟩:=h
 by_cases hx:xs=[]
 ·subst e1 e2
  cases rx
  cases ry
  obtain⟨ag,r1,p1,_⟩:=I.tuple ha
  obtain⟨bZ,r2,p2,_⟩:=I.tuple hb
  obtain⟨⟨cls,dd,data,sl⟩,ho,hc,n,hd⟩:=id p1
  obtain⟨⟨jR,i7,data2,gE⟩,gF,i6,n2,hd2⟩:=id p2
  simp only at hc hd i6 hd2
  subst hc hd i6 hd2
  exact concat_meets ⟨_,ho,rfl⟩ ⟨_,gF,rfl⟩ noFill_tuple_add seq_tuple_add x9 w6 (v3 _ _) (tuple_addW0 a b ag.toArray bZ.toArray n n2 dd i7 sl gE (by have:=r1.nil_iff.mpr hx;simp[this])) ⟨ho,gF,⟨.ref b,H,I,rfl,q1 hx⟩⟩
 ·exact zkl pins s σ H x y v u Q I rx ry ⟨a,b,xs,ys,e1,e2,ha,hb,hx,hz,q2 hx,q3 hx⟩
end
end L2
namespace L2
open PySem PySem.Spec PyProof.Rows PyProof
section
variable {X:Cx}
def zlA (K:rF):List V->Hp->VK->Prop:=λxs H Q=>∃(p:Addr) (ns:List Int),xs=[.ref p]/\SqT K H p (ns.map V.int)/\Q (.int ns.sum) H
theorem zbo {K:rF} (hc:X.calm=true) (hK:X.K=K:=by rfl):Zw X (.builtin "sum") (zlA K):=by
 subst hK
 intro pins s σ H xs us Q I r h
 obtain⟨p,ns,rfl,hq,q⟩:=h
 obtain⟨u,rfl,ru⟩:=YC r
 cases ru
 obtain⟨ag,rv,pl,hz⟩:=I.tuple hq
 have lt:p<s.heap.objs.size:=pl.lt
 have hl:=rv.length
 rw[rJ] at hl
 have pl':s.heap.IsTuple p ag.toArray:=pl
 refine call_sum_walkAnyS (wpAny_pyIter_tuple pl' ?_)
 have W:=(Walks.tuple (prog:=X.prog) (w:=X.w) (A:=X.A.in1) (I.ok.hd hc) s.heap.objs.size p (sA lt) ag.toArray).toS
 refine⟨s.heap.objs.size,_,_,_,_,_,_,λi=>ns.getD i 0,rfl,W,?_,?_,?_,?_⟩
 ·exact⟨⟨_,Heap.get?_push_size _ rfl,rfl,rfl⟩,IsTup.push pl _⟩
 ·intro b hb
  rw[Heap.size_push]
  rcases (by simpa using hb:b=s.heap.objs.size\/b=p) with rfl|rfl
  ·exact tU _
  ·exact Ai lt
 ·intro i v hv
  have hv:ag[i]? =some v:=by simpa using hv
  have hi:i<ns.length:=by rw[hl];exact (rH.1 hv).1
  obtain⟨u,hu,t,ru⟩:=rv.get (i:=i) (x:=V.int ns[i]) (by rw[rM,rG hi];rfl)
  rw[hu] at hv
  cases hv
  refine⟨t,?_⟩
  rw[ru]
  show Value.int ns[i] t=Value.int (ns.getD i 0) t
  rw[sS,rG hi,uc]
 ·intro s' t' m
  have I1:Inv X pins σ H {s with heap:=s'.heap,toks:=s'.toks}:=I.kept λb o e=>m.heap b o (λz=>by
   have z:b=s.heap.objs.size:=by simpa using z
   exact absurd (Heap.lt_size e) (by rw[z];exact tS _)) (Heap.get?_push_of_some _ e)
  have e:({s with heap:=s'.heap,toks:=s'.toks}:Shared)=s':=by
   have h1:=m.gens
   have h2:=m.drawn
   have h3:=m.os
   cases s'
   simp only at h1 h2 h3
   subst h1 h2 h3
   rfl
  rw[e] at I1
  refine⟨.int ns.sum,H,I1,⟨t',?_⟩,q⟩
  rw[TY]
  have:ag.toArray.size=ns.length:=by rw[rO,<-hl]
  rw[this,sE]
theorem zcT (a:Array Nat):∀m:Nat,(tH m).filterMap (λi=>a[i]?)=a.toList.take m
 |0=>rfl
 |m+1=>by
  rw[C0,List.filterMap_append,zcT a m,BG]
  rw[B3]
  cases h:a[m]? <;>simp[h]
end
end L2
namespace L2
open PySem PySem.Spec PyProof.Rows
section
variable {X:Cx}
def znr (K:rF):List V->Hp->VK->Prop:=λxs H Q=>∃(p:Addr) (bs:List Bool),xs=[.ref p]/\SqL K H p (bs.map V.bl)/\Q (.bl (bs.any id)) H
def zns (K:rF):List V->Hp->VK->Prop:=λxs H Q=>∃(p:Addr) (bs:List Bool),xs=[.ref p]/\SqL K H p (bs.map V.bl)/\Q (.bl (bs.all id)) H
theorem zhz:∀(bs:List Bool),(tH bs.length).any (λi=>bs.getD i false)=bs.any id:=λbs=>by
 rw[tY,Aq,Aq]
 constructor
 ·rintro⟨i,hi,h⟩
  have hi:=ur.1 hi
  rw[sS,rG hi,uc] at h
  exact⟨_,uN hi,h⟩
 ·rintro⟨b,hb,h⟩
  obtain⟨i,hi,e⟩:=Bc.1 hb
  refine⟨i,ur.2 hi,?_⟩
  rw[sS,rG hi,uc,e]
  exact h
theorem zhA:∀(bs:List Bool),(tH bs.length).all (λi=>bs.getD i false)=bs.all id:=λbs=>by
 rw[tY,ub,ub]
 constructor
 ·intro h b hb
  obtain⟨i,hi,e⟩:=Bc.1 hb
  have:=h i (ur.2 hi)
  rw[sS,rG hi,uc,e] at this
  exact this
 ·intro h i hi
  have hi:=ur.1 hi
  rw[sS,rG hi,uc]
  exact h _ (uN hi)
theorem zbp {pins:List (Addr×Obj)} {σ:St} {H:Hp} {s:Shared} {p:Addr} {bs:List Bool} (hc:X.calm=true) (I:Inv X pins σ H s) (hq:SqL X.K H p (bs.map V.bl)) {R:Value->Shared->Prop}
  (k:∀Ia fp wr G n P St tr (s₂:Shared),WalksS X.prog X.w X.A.in1 Ia fp wr G n P St->St 0 s₂->TruthOf X.prog X.w X.A.in1 P tr->n=bs.length->(tr=λi=>bs.getD i false)->(∀s',Moved wr G s₂ s'->Inv X pins σ H s')->R (.ref Ia) s₂):
  wpAny (model X.prog X.w) X.A.in1 (pyIter (.ref p)) R X.xe s:=by
 obtain⟨ag,rv,pl,hz⟩:=I.list hq
 have lt:p<s.heap.objs.size:=by
  obtain⟨o,n,e,_⟩:=id pl
  exact Heap.lt_size e
 have hl:=rv.length
 rw[rJ] at hl
 refine wpAny_pyIter_list pl.isList ?_
 have W:=(Walks.list (prog:=X.prog) (w:=X.w) (A:=X.A.in1) (I.ok.hd hc) s.heap.objs.size p (sA lt) ag.toArray).toS
 refine k s.heap.objs.size _ _ _ _ _ _ (λi=>bs.getD i false) _ W ?_ ?_ ?_ rfl ?_
 ·exact⟨⟨_,Heap.get?_push_size _ rfl,rfl,rfl⟩,Heap.IsList.push pl.isList _⟩
 ·intro i v s Q E hv hQ
  have hv:ag[i]? =some v:=by simpa using hv
  have hi:i<bs.length:=by rw[hl];exact (rH.1 hv).1
  obtain⟨u,hu,ru⟩:=rv.get (i:=i) (x:=V.bl bs[i]) (by rw[rM,rG hi];rfl)
  have e0:u=v:=by
   rw[hu] at hv
   exact sr hv
  have ru:u=Value.bool bs[i]:=ru
  rw[<-e0,ru]
  refine wpAny_truthy_bool ?_
  have e:bs.getD i false=bs[i]:=by rw[sS,rG hi,uc]
  rw[<-e]
  exact hQ
 ·rw[rO,<-hl]
 ·intro s' m
  have I1:Inv X pins σ H {s with heap:=s'.heap,toks:=s'.toks}:=I.kept λb o e=>m.heap b o (λz=>by
   have z:b=s.heap.objs.size:=by simpa using z
   exact absurd (Heap.lt_size e) (by rw[z];exact tS _)) (Heap.get?_push_of_some _ e)
  have e:({s with heap:=s'.heap,toks:=s'.toks}:Shared)=s':=by
   have h1:=m.gens
   have h2:=m.drawn
   have h3:=m.os
   cases s'
   simp only at h1 h2 h3
   subst h1 h2 h3
   rfl
  rw[e] at I1
  exact I1
theorem zhB {K:rF} (hc:X.calm=true) (hK:X.K=K:=by rfl):Zw X (.builtin "any") (znr K):=by
 subst hK
 intro pins s σ H xs us Q I r h
 obtain⟨p,bs,rfl,hq,q⟩:=h
 obtain⟨u,rfl,ru⟩:=YC r
 cases ru
 refine call_any_walkS (zbp hc I hq λIa fp wr G n P St tr s₂ W h0 ht hn ll hm=>⟨Ia,fp,wr,G,n,P,St,tr,rfl,W,h0,ht,λs' m=>⟨.bl _,H,hm s' m,rfl,?_⟩⟩)
 rw[hn,ll,zhz]
 exact q
theorem TZ {K:rF} (hc:X.calm=true) (hK:X.K=K:=by rfl):Zw X (.builtin "all") (zns K):=by
 subst hK
 intro pins s σ H xs us Q I r h
 obtain⟨p,bs,rfl,hq,q⟩:=h
 obtain⟨u,rfl,ru⟩:=YC r
 cases ru
 refine call_all_walkS (zbp hc I hq λIa fp wr G n P St tr s₂ W h0 ht hn ll hm=>⟨Ia,fp,wr,G,n,P,St,tr,rfl,W,h0,ht,λs' m=>⟨.bl _,H,hm s' m,rfl,?_⟩⟩)
 rw[hn,ll,zhA]
 exact q
theorem Inv.lstR {pins:List (Addr×Obj)} {σ:St} {H:Hp} {s:Shared} {l:Addr} {xs:List V} (I:Inv X pins σ H s) (hH:SqX X.K H l xs):xs.length<=sizeLine/\∃(ag:List Value) (n:Nat),yt xs ag/\xs.length=ag.length/\s.heap.get? l=some {cls:= .type "list",data:= .seq ag.toArray n}:=by
 rcases hH with hH|⟨ag,n,hk,hz,r⟩
 ·obtain⟨z,ag,n,r,e⟩:=hH.ok I.hok
  exact⟨z,ag,n,r,r.length,e⟩
 ·have hl:=r.length
  have g8:ag.toList.length=ag.size:=ux
  exact⟨⋯,ag.toList,n,r,r.length,I.kIn l _ hk⟩
def zlB (K:rF):R2:=λx y H Q=>∃l b xs zs,x= .ref l/\y= .ref b/\SqX K H l xs/\SqX K H b zs/\xs.length+zs.length<=sizeLine/\∀p,H p=none->Q (.ref p) (upd H p (.lst (xs++zs)))
theorem zkA {K:rF} (hK:X.K=K:=by rfl):OpR X (binaryOp .Add) (zlB K):=by
 subst hK
 intro pins s σ H x y v u Q I rx ry h
 obtain⟨l,b,xs,zs,rfl,rfl,hH,hB,hz,q⟩:=h
 cases rx
 cases ry
 obtain⟨z,ag,n,r,hl,e⟩:=I.lstR hH
 obtain⟨z2,bZ,n2,r2,g8,e2⟩:=I.lstR hB
 refine PySem.P.add_list e e2 ?_ (by rw[rO,rO];omega)
 have ea:ag.toArray++bZ.toArray=(ag++bZ).toArray:=by simp
 rw[ea]
 exact⟨.ref _,_,I.lnew (t':=s.toks) (r.append r2) (by rw[rV];omega),rfl,q _ I.fresh⟩
theorem zhC (l:Addr) (items:Array Value) (n:Nat) (b:Addr) (ob:Obj) (T:String) (bQ:Array Value) (n2:Nat) (hT:T="list"\/T="tuple") (lu:(!items.isEmpty&&Builtin.List.listTooLong (items.size+bQ.size))=false) (iY:items.size<=sizeLine) (dZ:items.size+bQ.size<=sizeLine):
  Meets (Builtin.«list.extend» ⟨[.ref l,.ref b],[]⟩) (λ_ R s=>s.heap.get? l=some {cls:= .type "list",dict:=none,data:= .seq items n,slots:= #[]}/\s.heap.get? b=some ob/\ob.cls= .type T/\ob.data= .seq bQ n2/\R (.ok (.ret Value.none)) {s with heap:=s.heap.update l (Obj.mapSeq λx=>x++bQ),toks:=s.toks}):=by
 intro prog w A R s h
 obtain⟨hl,hb,hc,hd,hR⟩:=h
 show wpAny _ _ (Builtin.List.listExtendWith (.ref l) (.ref b) .none) _ _ s
 unfold Builtin.List.listExtendWith
 refine wpAny_bind (wpAny_typeOf (T:=T) ⟨ob,hb,hc⟩ ?_)
 have jG:(Builtin.List.listSameRef (.ref l) (.ref b)||Value.type T==Value.type "list"||Value.type T==Value.type "tuple")=true:=by
  rcases hT with rfl|rfl<;>simp
 rw[if_pos jG]
 refine wpAny_bind ?_
 unfold Builtin.List.listItems
 refine wpAny_bind (wpAny_seqItems hb hd (wpAny_pure ?_))
 refine wpAny_bind ?_
 refine wpAny_bind (wpAny_seqItems hl rfl (wpAny_pure ?_))
 rw[if_neg (by rw[lu];exact sy)]
 have n5:(items++bQ).size<=sizeLine+1:=by rw[Array.size_append];omega
 refine wpAny_bind (m:=Builtin.List.listUpdate (.ref l) (· ++bQ)) ?_
 show wpAny _ _ (updateSeq l (λx=>x++bQ)) _ _ s
 refine wpAny_updateSeq hl rfl (hz:=iY) (_hz':=n5) ?_
 exact wpAny_pure hR
def zeL (K:rF):V->List V->Hp->VK->Prop:=λx vs H Q=>∃l b xs zs,x= .ref l/\vs=[.ref b]/\H l=some (.lst xs)/\(SqX K H b zs\/SqT K H b zs)/\xs.length+zs.length<=sizeLine/\Q .non (upd H l (.lst (xs++zs)))
theorem zbq {K:rF} (hK:X.K=K:=by rfl):MtR X "list.extend" (zeL K):=by
 subst hK
 intro pins s σ H x vs v us Q I rx rv h
 obtain⟨l,b,xs,zs,rfl,rfl,hH,hB,hz,q⟩:=h
 cases rx
 obtain⟨u,rfl,ru⟩:=rv.one
 cases ru
 obtain⟨z,ag,n,r,hl,e⟩:=I.lstM hH
 have key:∀{bZ:List Value} {ob:Obj} {T:String} {n2:Nat},yt zs bZ->(T="list"\/T="tuple")->s.heap.get? b=some ob->ob.cls= .type T->ob.data= .seq bZ.toArray n2->
   wpAny (model X.prog X.w) X.A (call (.builtin "list.extend") [.ref l,.ref b]) (EP X pins σ Q) X.xe s:=by
  intro bZ ob T n2 r2 hT hb hc hd
  have g8:=r2.length
  have eN:ag.toArray.size+bZ.toArray.size<=sizeLine:=by rw[rO,rO];omega
  refine call_meets F.slot_list_extend ⟨_,e,rfl⟩ F.entry_list_extend (F.args_list_extend_2 _ _)
   (zhC l ag.toArray n b ob T bZ.toArray n2 hT (by rw[zim eN,Bool.and_false]) (by rw[rO];omega) eN) ⟨e,hb,hc,hd,?_⟩
  refine⟨.non,_,I.lset (its':=ag++bZ) hH e (by simp) (r.append r2) ?_,rfl,q⟩
  rw[rV]
  omega
 rcases hB with hB|hB
 ·obtain⟨z2,bZ,n2,r2,g8,e2⟩:=I.lstR hB
  exact key r2 (.inl rfl) e2 rfl rfl
 ·obtain⟨bZ,r2,⟨ob,hb,hc,n2,hd⟩,_⟩:=I.tuple hB
  exact key r2 (.inr rfl) hb hc hd
end
theorem zhD:typeLookup (.type "list_reverseiterator") "__len__"=pure none:=by rw[typeLookup_type,builtinLookup_eq_fast];kernel_rfl
theorem ziK:typeLookup (.type "list_reverseiterator") "__length_hint__"=pure (some (.builtin "list_reverseiterator.__length_hint__")):=by rw[typeLookup_type,builtinLookup_eq_fast];kernel_rfl
section
variable {prog:Program} {w:World} {A:Around} {E:Value->Shared->Prop} {s:Shared}
theorem zfX {R:Result->Shared->Prop} (hh:A.handled=none) {it l:Addr} {items:Array Value} (hn:items.size<=sizeLine) (S:Addr) (res:Value) (c₀:Nat) (hS:s.heap.get? S=some {cls:= .type "list",data:= .seq #[] c₀})
  (hit:s.heap.IsRevIter it l ((items.size:Int)-1)) (hl:s.heap.IsList l items) (fB:l≠it) (nN:S≠it) (qh:S≠l)
  (hR:∀h' tk acc' c',(∀b o,b≠S->b≠it->s.heap.get? b=some o->h'.get? b=some o)->h'.get? S=some {cls:= .type "list",dict:=none,data:= .seq acc' c',slots:= #[]}->
   ItemsOf (λi v=>items[items.size-1-i]? =some v) acc' items.size->R (.ok (.ret res)) {s with heap:=h',toks:=tk}):
  wpAny (model prog w) A.in1 (Builtin.List.listExtendWith (.ref S) (.ref it) res)
   (λfin s'=>match fin with| .done f=>R (.ok f) s'| .again c'=>c'.quiet=true/\codeAny (model prog w) A c' R s') (λe s'=>R (.error e) s') s:=by
 have qi:S∉[it,l]:=λhm=>by
  rcases sq.mp hm with e|hm
  ·exact nN e
  ·exact qh (sD.mp hm)
 have W:=(Walks.listRev (prog:=prog) (w:=w) (A:=A.in1) hh it l fB items).toS
 have g7:0<=items.size/\s.heap.IsRevIter it l ((items.size:Int)-1-((0:Nat):Int))/\s.heap.IsList l items:=⟨tf _,by simpa using hit,hl⟩
 unfold Builtin.List.listExtendWith
 refine wpAny_bind (wpAny_typeOf (T:="list_reverseiterator") hit.typeIs ?_)
 have h1:Builtin.List.listSameRef (.ref S) (.ref it)=false:=by simp[Builtin.List.listSameRef,nN]
 rw[if_neg (by rw[h1];decide)]
 refine wpAny_bind (wpAny_pyIter_revIter hit ?_)
 refine wpAny_bind (wpAny_holding ?_)
 unfold Builtin.List.listLengthHint
 refine wpAny_bind (wpAny_specialOf hit.typeIs zhD ?_)
 show wpAny _ A.in1 (specialOf (Value.ref it) (Str.ofString "__length_hint__")>>=_) _ _ _
 refine wpAny_bind (wpAny_specialOf hit.typeIs ziK ?_)
 (generalize lP:("list_reverseiterator.__length_hint__":String)=mK;(fail_if_success (clear lP mK));wp_delta;rw[show splitId mK=some ("list_reverseiterator","__length_hint__") from by subst lP;decide+kernel];subst lP)
 refine wpAny_bind (wpAny_isInstance (b:=true) hit.typeIs (by rw[isSubtype_type];kernel_rfl) ?_)
 refine wpAny_pure ?_
 rw[if_neg ∅]
 refine wpAny_pure ⟨plainId_quiet F.plain_extend_loop _,codeAny_extend_loopS W hn _ qi _ items.size 0 _ _ _ rfl (tf _) g7 hS (ItemsOf.nil _) λs' acc' c' hm iP d5=> ?_⟩
 rw[Moved.eq_with hm]
 refine hR s'.heap s'.toks acc' c' (λb ob hb jJ e=>hm.heap b ob (λed=> ?_) e) iP d5
 rcases sq.mp ed with e'|ed
 ·exact hb e'
 ·exact jJ (sD.mp ed)
theorem zcm {Q:Value->Shared->Prop} (hh:A.handled=none) {it l:Addr} {items:Array Value} (hn:items.size<=sizeLine) (hit:s.heap.IsRevIter it l ((items.size:Int)-1)) (hl:s.heap.IsList l items) (fB:l≠it)
  (hQ:∀h' tk acc' c',(∀b o,b≠it->s.heap.get? b=some o->h'.get? b=some o)->
   h'.get? s.heap.objs.size=some {cls:= .type "list",dict:=none,data:= .seq acc' c',slots:= #[]}->ItemsOf (λi v=>items[items.size-1-i]? =some v) acc' items.size->Q (.ref s.heap.objs.size) {s with heap:=h',toks:=tk}):
  wpAny (model prog w) A (call (.type "list") [.ref it]) Q E s:=by
 refine callType_codes (Q₁:=λobj s₁=>obj= .ref s.heap.objs.size/\s₁={s with heap:=s.heap.push {cls:= .type "list",data:= .seq #[]}}) F.called_list (F.typeCall_list_1 _) F.entry_list_init
  (code_list_new _ ⟨rfl,rfl⟩) λobj s₁ h₁=> ?_
 obtain⟨rfl,rfl⟩:=h₁
 have hS:(s.heap.push {cls:= .type "list",data:= .seq #[]}).get? s.heap.objs.size=some {cls:= .type "list",data:= .seq #[]}:=Heap.get?_push_size _ rfl
 refine⟨⟨_,hS,rfl⟩,F.args_list_init_2 _ _,?_⟩
 show wpAny _ _ (do let old <-Builtin.List.listItems (.ref s.heap.objs.size);Builtin.List.listUpdate (.ref s.heap.objs.size) (λ_=> #[]);letGo old.toList.reverse;Builtin.List.listExtendWith (.ref s.heap.objs.size) (.ref it) .none) _ _ _
 refine wpAny_bind ?_
 unfold Builtin.List.listItems
 refine wpAny_bind (wpAny_seqItems hS rfl (wpAny_pure ?_))
 show wpAny _ _ (updateSeq s.heap.objs.size (λ_=> #[])>>=λ_=>letGo (#[]:Array Value).toList.reverse>>=λ_=>Builtin.List.listExtendWith (.ref s.heap.objs.size) (.ref it) .none) _ _ _
 refine wpAny_bind (wpAny_updateSeq hS rfl ?_)
 have qg:=Heap.get?_update_self (Obj.mapSeq (λ_=>(#[]:Array Value))) hS rfl
 have ltI:it<s.heap.objs.size:=let ⟨_,ho,_⟩:=hit;Heap.lt_size ho
 have oq:l<s.heap.objs.size:=let ⟨_,ho,_⟩:=hl;Heap.lt_size ho
 have o9:∀b o,b≠s.heap.objs.size->(s.heap.push {cls:= .type "list",data:= .seq #[]}).get? b=some o->((s.heap.push {cls:= .type "list",data:= .seq #[]}).update s.heap.objs.size (Obj.mapSeq (λ_=>(#[]:Array Value)))).get? b=some o:=
  λb o hb e=>(Heap.get?_update_other _ _ (uE hb)).trans e
 have old:∀b o,s.heap.get? b=some o->((s.heap.push {cls:= .type "list",data:= .seq #[]}).update s.heap.objs.size (Obj.mapSeq (λ_=>(#[]:Array Value)))).get? b=some o:=
  λb o e=>o9 b o (sA (Heap.lt_size e)) (Heap.get?_push_of_some _ e)
 refine wpAny_bind (wpAny_letGo ?_)
 refine zfX (A:=A.in1) (items:=items) hh hn s.heap.objs.size .none _ qg (hit.at λo e=>old _ o e) (hl.at λo e=>old _ o e) fB (uE (sA ltI)) (uE (sA oq)) λh' tk acc' c' hk iP d5=> ?_
 exact⟨rfl,hQ h' tk acc' c' (λb o hb e=>hk b o (sA (Heap.lt_size e)) hb (old b o e)) iP d5⟩
end
section
variable {X:Cx}
def zeM (K:rF) (te:TE):TE:=λσ H Q=>te σ H λx H1=>∃p ys,x= .ref p/\SqX K H1 p ys/\∀l,H1 l=none->Q (.ref l) (upd H1 l (.lst ys.reverse))
theorem zfY {K:rF} {e:Expr} {te:TE} {p p2 pos eG:Pos} (hc:X.calm=true) (hg:Gl X "list") (hm:X.mg "list"=none) (lR:Gl X "reversed") (lJ:X.mg "reversed"=none) (ha:PE X e te) (hK:X.K=K:=by rfl)
  (gP:starEach [e] X.env=[(false,eval e X.env)]:=by rfl) (he:starEach [.Call (.Name "reversed" p2) [e] [] eG] X.env=[(false,eval (.Call (.Name "reversed" p2) [e] [] eG) X.env)]:=by rfl):
  PE X (.Call (.Name "list" p) [.Call (.Name "reversed" p2) [e] [] eG] [] pos) (zeM K te):=by
 subst hK
 intro pins s σ H Q I h
 refine wpAny_Call_Name_kw (YB I hg hm boot_list ?_ ∅ ∅)
 refine sP ?_ he rfl
 rw[he]
 show wpAny _ _ (spliced ((false,eval (.Call (.Name "reversed" p2) [e] [] eG) X.env)::backTo pos [])) _ _ s
 refine Calls.spliced_cons ?_
 refine wpAny_Call_Name_kw (YB I lR lJ Boot.«reversed» ?_ ∅ ∅)
 refine sP ?_ gP rfl
 refine thn (za ha zg gP eG pins s σ H (λvs H1=>∃p ys,vs=[.ref p]/\SqX X.K H1 p ys/\∀l,H1 l=none->Q (.ref l) (upd H1 l (.lst ys.reverse))) I ?_) λus s1 ⟨vs,H1,I1,r1,q1⟩=> ?_
 ·have h:te σ H λx H1=>∃p ys,x= .ref p/\SqX X.K H1 p ys/\∀l,H1 l=none->Q (.ref l) (upd H1 l (.lst ys.reverse)):=h
  show te σ H λx H1=>∃p ys,[x]=[V.ref p]/\SqX X.K H1 p ys/\∀l,H1 l=none->Q (.ref l) (upd H1 l (.lst ys.reverse))
  have e:(λ(x:V) (H1:Hp)=>∃p ys,[x]=[V.ref p]/\SqX X.K H1 p ys/\∀l,H1 l=none->Q (.ref l) (upd H1 l (.lst ys.reverse)))=λx H1=>∃p ys,x= .ref p/\SqX X.K H1 p ys/\∀l,H1 l=none->Q (.ref l) (upd H1 l (.lst ys.reverse)):=by
   funext x H1
   simp
  rw[e]
  exact h
 obtain⟨p,ys,rfl,hq,q⟩:=q1
 obtain⟨u,rfl,ru⟩:=YC r1
 cases ru
 obtain⟨z,ag,n,r,hl,e1⟩:=I1.lstR hq
 have hL:s1.heap.IsList p ag.toArray:=⟨_,e1,rfl,n,rfl⟩
 have oo:p<s1.heap.objs.size:=Heap.lt_size e1
 refine call_reversed_list hL ?_
 refine Calls.spliced_nil ?_
 refine zcm (items:=ag.toArray) (I1.ok.hd hc) (by rw[rO];omega) ⟨_,Heap.get?_push_size _ rfl,rfl,rfl⟩ (hL.push _) (sA oo) λh' tk acc' c' hk iP d5=> ?_
 have kept:∀b o,s1.heap.get? b=some o->h'.get? b=some o:=λb o e=>hk b o (sA (Heap.lt_size e)) (Heap.get?_push_of_some _ e)
 have eN:s1.heap.objs.size<=(s1.heap.push (revObj p ((ag.toArray.size:Int)-1))).objs.size:=by rw[Heap.size_push];exact t5 _
 have ha:acc'.toList=ag.reverse:=by
  obtain⟨a1,a2⟩:=d5
  refine List.ext_getElem? λi=> ?_
  by_cases hi:i<ag.length
  ·have nG:i<acc'.size:=by rw[a1,rO];exact hi
   have e3:acc'.toList[i]? =some acc'[i]:=by simp[nG]
   have e4:=a2 i acc'[i] (by simp[nG])
   rw[e3,y7 hi,<-e4]
   simp
  ·rw[tJ (by simp[a1];omega),tJ (by simp;omega)]
 have hv:yt ys.reverse ag.reverse:=r.reverse
 refine⟨.ref _,_,I1.laid (o:= .lst ys.reverse) (t':=tk) kept eN ⟨by rw[uV];exact z,ag.reverse,c',hv,?_⟩,rfl,q _ (I1.hok.fresh eN)⟩
 rw[iP,<-ha]
end
end L2
namespace HT
open PySem PyProof.Rows
section
variable {prog:Program} {w:World} {A:Around} {E:Value->Shared->Prop} {s:Shared}
theorem Uo {t sl:Addr} {items:Array Value} {vl vu:Value} {lo hi:Option Int} {Q:Value->Shared->Prop} (ht:IsTup s.heap t items) (hs:s.heap.IsSliceOf sl vl vu .none) (pl:IsPart vl lo) (pu:IsPart vu hi)
  (hw:sIx items.size 0 lo=0/\sIx items.size items.size hi=items.size) (h:Q (.ref t) s):wpAny (model prog w) A (getItem (.ref t) (.ref sl)) Q E s:=by
 obtain⟨os,iD,ko,hZ⟩:=id hs
 have m5:s.TypeIs (.ref sl) "slice":=⟨os,iD,ko⟩
 unfold getItem
 try with_reducible refine wpAny_holding ?_
 first|refine wpAny_bind (wpAny_pure ?_)|skip
 refine wpAny_bind (wpAny_sequenceKey ht.typeIs ∅ ?_)
 refine wpAny_bind (wpAny_callSpecial?_slot (name:=Str.ofString "__getitem__") ht.typeIs t7
  (wpAny_call_entry t7 ht.typeIs entry_tuple_getitem ?_ (args_tuple_getitem _ _)))
 show wpAny _ _ (Builtin.Tuple.tupleItemsOf (.ref t)>>=_) _ _ s
 refine wpAny_bind (tupleItemsOf_ ht ?_)
 refine wpAny_bind (wpAny_typeOf m5 ?_)
 rw[if_pos ∅]
 refine wpAny_bind (XV hs pl pu ?_)
 have kR:((((sIx items.size 0 lo:Nat):Int)==0&&(1:Int)==1&&(sIx items.size items.size hi-sIx items.size 0 lo)==items.size)=true):=by
  rw[hw.1,hw.2]
  simp
 show wpAny _ _ (if (((sIx items.size 0 lo:Nat):Int)==0&&(1:Int)==1&&(sIx items.size items.size hi-sIx items.size 0 lo)==items.size)=true then _ else _) _ _ s
 rw[if_pos kR]
 refine wpAny_bind ?_
 unfold Builtin.Tuple.tupleIsExact
 refine wpAny_bind (wpAny_typeOf ht.typeIs ?_)
 refine wpAny_pure ?_
 rw[if_pos ∅]
 refine wpAny_bind (wpAny_rule ?_)
 exact wpAny_pure ⟨_,rfl,wpAny_pure h⟩
end
end HT
namespace L2
open PySem PySem.Spec PyProof.Rows
section
variable {X:Cx}
def zkB (K:rF):V->Option Int->Option Int->Hp->VK->Prop:=λx lo hi H Q=>∃a xs,x= .ref a/\SqT K H a xs/\
 (HT.sIx xs.length 0 lo=0/\HT.sIx xs.length xs.length hi=xs.length->Q (.ref a) H)/\(¬(HT.sIx xs.length 0 lo=0/\HT.sIx xs.length xs.length hi=xs.length)->∀p,H p=none->Q (.ref p) (upd H p (.tup (zcf xs lo hi))))
theorem Tg {K:rF} (hK:X.K=K:=by rfl):SlR X (zkB K):=by
 subst hK
 intro pins s σ H x v vl vu lo hi sl Q I rx hs pl pu h
 obtain⟨a,xs,rfl,hx,q1,q2⟩:=h
 by_cases hw:HT.sIx xs.length 0 lo=0/\HT.sIx xs.length xs.length hi=xs.length
 ·cases rx
  obtain⟨ag,r,ht,hz⟩:=I.tuple hx
  have hlen:ag.toArray.size=xs.length:=by rw[rO];exact r.length.symm
  refine⟨"tuple",_,t7.lookup,ht.typeIs,?_⟩
  exact HT.Uo ht hs pl pu (by rw[hlen];exact hw) ⟨.ref a,H,I,rfl,q1 hw⟩
 ·exact zl5 pins s σ H (.ref a) v vl vu lo hi sl Q I rx hs pl pu ⟨a,xs,rfl,hx,hw,q2 hw⟩
section
variable {X:Cx} {tg:Expr}
end
end
section
variable {env:Env} {r:List Expr}
theorem wL {a b c}:starEach (.Tuple a b c::r) env=(false,eval (.Tuple a b c) env)::starEach r env:=by rw[starEach];simp
theorem zq {a b c}:starEach (.Constant a b c::r) env=(false,eval (.Constant a b c) env)::starEach r env:=by rw[starEach];simp
theorem zf {a b}:starEach (.Name a b::r) env=(false,eval (.Name a b) env)::starEach r env:=by rw[starEach];simp
theorem zt {a b c}:starEach (.Subscript a b c::r) env=(false,eval (.Subscript a b c) env)::starEach r env:=by rw[starEach];simp
theorem yx {a b c d}:starEach (.BinOp a b c d::r) env=(false,eval (.BinOp a b c d) env)::starEach r env:=by rw[starEach];simp
theorem zfZ {a b c d}:starEach (.Compare a b c d::r) env=(false,eval (.Compare a b c d) env)::starEach r env:=by rw[starEach];simp
theorem yr {a b c d}:starEach (.Call a b c d::r) env=(false,eval (.Call a b c d) env)::starEach r env:=by rw[starEach];simp
theorem ziL {a b c d}:starEach (.IfExp a b c d::r) env=(false,eval (.IfExp a b c d) env)::starEach r env:=by rw[starEach];simp
theorem wZ {a b c}:starEach (.Attribute a b c::r) env=(false,eval (.Attribute a b c) env)::starEach r env:=by rw[starEach];simp
end
end L2
namespace L2
open PySem PySem.Spec PyProof.Rows PySem.Builtin
theorem zaa:fillsNumberSlot (.type "tuple") "mul"=pure false:=
 PySem.fillsNumberSlot_seq (id:="tuple.__mul__") (r:=some (.builtin "tuple.__rmul__")) F.slot_tuple_mul.lookup (by decide+kernel) F.slot_tuple_rmul.lookup (by decide+kernel)
theorem zdv:seqRepeat? (.type "tuple")=pure (some (.builtin "tuple.__mul__")):=by
 unfold seqRepeat?
 rw[BP (T:="tuple") (name:="__mul__") (id:="tuple.__mul__") F.slot_tuple_mul.lookup (by decide+kernel),BP (T:="tuple") (name:="__rmul__") (id:="tuple.__rmul__") F.slot_tuple_rmul.lookup (by decide+kernel)]
 rfl
theorem zbr (a:Int) (t:Tok) (l:Addr) (items:Array Value) (n:Nat) (dd:Option Addr) (sl:Array (Option Value)):
  Meets (Builtin.«int.__rmul__» ⟨[.int a t,.ref l],[]⟩) (λ_ R s=>s.heap.get? l=some {cls:= .type "tuple",dict:=dd,data:= .seq items n,slots:=sl}/\R (.ok (.ret Value.notImplemented)) s):=
 .of_wp λprog w A R s h=>by obtain⟨hp,g,d,tk,os⟩:=s;obtain⟨hl,h⟩:=h;wp_walk;exact⟨_,rfl,h⟩
theorem zf0 (l:Addr) (items:Array Value) (n:Nat) (dd:Option Addr) (sl:Array (Option Value)) (k:Int) (t:Tok) (hk:¬(decide (k< -(2^63))||decide (k≥2^63))=true) (hc:(items.isEmpty||k==1)=true):
  Meets (Builtin.«tuple.__mul__» ⟨[.ref l,.int k t],[]⟩) (λ_ R s=>s.heap.get? l=some {cls:= .type "tuple",dict:=dd,data:= .seq items n,slots:=sl}/\R (.ok (.ret (Value.ref l))) {s with heap:=s.heap,toks:=s.toks}):=
 .of_wp λprog w A R s h=>by obtain⟨hp,g,d,tk,os⟩:=s;obtain⟨hl,h⟩:=h;have f1:=AutoSeq1.idx_int;wp_walk using wpAny_loadPart' hl;refine wpAny_ite_false (decide_eq_false hk) ?_;wp_walk using wpAny_loadPart' hl;exact⟨_,rfl,h⟩
theorem zf1 (l:Addr) (items:Array Value) (n:Nat) (dd:Option Addr) (sl:Array (Option Value)) (k:Int) (t:Tok) (hk:¬(decide (k< -(2^63))||decide (k≥2^63))=true) (hc:¬(items.isEmpty||k==1)=true) (h0:(decide (k<=0)||items.isEmpty)=true):
  Meets (Builtin.«tuple.__mul__» ⟨[.ref l,.int k t],[]⟩) (λ_ R s=>s.heap.get? l=some {cls:= .type "tuple",dict:=dd,data:= .seq items n,slots:=sl}/\R (.ok (.ret (Value.ref s.heap.objs.size))) {s with heap:=s.heap.push {cls:=Value.type "tuple",data:=Data.seq #[]},toks:=s.toks}):=
 .of_wp λprog w A R s h=>by obtain⟨hp,g,d,tk,os⟩:=s;obtain⟨hl,h⟩:=h;have f1:=AutoSeq1.idx_int;wp_walk using wpAny_loadPart' hl;refine wpAny_ite_false (decide_eq_false hk) ?_;wp_walk using wpAny_loadPart' hl;exact⟨_,rfl,h⟩
theorem zf2 (l:Addr) (items:Array Value) (n:Nat) (dd:Option Addr) (sl:Array (Option Value)) (k:Int) (t:Tok) (hk:¬(decide (k< -(2^63))||decide (k≥2^63))=true) (hc:¬(items.isEmpty||k==1)=true) (h0:¬(decide (k<=0)||items.isEmpty)=true)
  (hm:¬(items.size:Int)*k>(2^63-1) / 8) (g8:¬Tuple.tupleTooMany ((items.size:Int)*k)=true) (eN:((rN k.toNat items).foldl (λx1 x2=>x1++x2) #[]).size<=sizeLine):
  Meets (Builtin.«tuple.__mul__» ⟨[.ref l,.int k t],[]⟩) (λ_ R s=>s.heap.get? l=some {cls:= .type "tuple",dict:=dd,data:= .seq items n,slots:=sl}/\R (.ok (.ret (Value.ref s.heap.objs.size))) {s with heap:=s.heap.push {cls:=Value.type "tuple",data:=Data.seq ((rN k.toNat items).foldl (· ++ ·) #[])},toks:=s.toks}):=
 .of_wp λprog w A R s h=>by obtain⟨hp,g,d,tk,os⟩:=s;obtain⟨hl,h⟩:=h;have f1:=AutoSeq1.idx_int;wp_walk using wpAny_loadPart' hl;refine wpAny_ite_false (decide_eq_false hk) ?_;wp_walk using wpAny_loadPart' hl;refine wpAny_ite_false (decide_eq_false hm) ?_;wp_walk using wpAny_loadPart' hl;exact⟨_,rfl,h⟩
section
variable {X:Cx}
def zlC (K:rF):R2:=λx y H Q=>∃a k xs,x= .ref a/\y= .int k/\SqT K H a xs/\ -(2^63)<=k/\k<2^63/\xs.length*k.toNat<=sizeLine/\
 ((xs=[]\/k=1)->Q (.ref a) H)/\(¬(xs=[]\/k=1)->∀p,H p=none->Q (.ref p) (upd H p (.tup (rN k.toNat xs).flatten)))
theorem zeN {K:rF} (hK:X.K=K:=by rfl):OpR X (binaryOp .Mult) (zlC K):=by
 subst hK
 intro pins s σ H x y v u Q I rx ry h
 obtain⟨a,k,xs,rfl,rfl,hH,h1,h2,hz,q1,q2⟩:=h
 cases rx
 obtain⟨t,rfl⟩:=ry
 obtain⟨ag,r,p1,_⟩:=I.tuple hH
 obtain⟨⟨cls,dd,data,sl⟩,ho,hc,n,hd⟩:=id p1
 simp only at hc hd
 subst hc hd
 have hl:=r.length
 have hk:¬(decide (k< -(2^63))||decide (k≥2^63))=true:=by
  intro h
  rcases Bj.1 h with h|h
  ·have:=of_decide_eq_true h;omega
  ·have:=of_decide_eq_true h;omega
 have jt:∀m:Nat,List.foldl (λx1 x2=>x1++x2) #[] (rN m ag.toArray)=(rN m ag).flatten.toArray:=λm=>by
  have:=zcL ag m []
  rw[z9] at this
  exact this
 refine wpAny_binaryOp_repeat_ref (T:="tuple") (U:="int") ∅ ⟨_,ho,rfl⟩ (λs'=>typeIs_int s' k t) zaa F.fills_int_mul F.slot_int_rmul zdv F.slot_int_index.lookup
  (call_meets F.slot_int_rmul (typeIs_int s k t) F.entry_int_rmul (F.args_int_rmul_2 _ _) (zbr k t a ag.toArray n dd sl) ⟨ho,rfl,⟨_,ho,rfl⟩,?_⟩)
 by_cases hc:xs=[]\/k=1
 ·refine call_meets F.slot_tuple_mul ⟨_,ho,rfl⟩ F.entry_tuple_mul (F.args_tuple_mul_2 _ _) (zf0 a ag.toArray n dd sl k t hk ?_) ⟨ho,⟨.ref a,H,I,rfl,q1 hc⟩⟩
  rcases hc with rfl|rfl
  ·have:ag=[]:=r.nil_iff.mpr rfl
   subst this
   rfl
  ·simp
 ·have ef:ag≠[]:=λz=>hc (.inl (r.nil_iff.mp z))
  have jH:¬(ag.toArray.isEmpty||k==1)=true:=by
   intro h
   rcases Bj.1 h with h|h
   ·exact ef (by simpa using h)
   ·exact hc (.inr (by simpa using h))
  by_cases h0:k<=0
  ·refine call_meets F.slot_tuple_mul ⟨_,ho,rfl⟩ F.entry_tuple_mul (F.args_tuple_mul_2 _ _) (zf1 a ag.toArray n dd sl k t hk jH (by simp[h0])) ⟨ho,?_⟩
   refine⟨.ref s.heap.objs.size,_,I.laid (t':=s.toks) (o:= .tup (rN k.toNat xs).flatten) (λb ob q=>Heap.get?_push_of_some _ q) (rL _) ?_,rfl,q2 hc _ (I.hok.fresh (rL _))⟩
   have e0:k.toNat=0:=by omega
   rw[e0]
   exact⟨by simp,_,.nil,IsTup.new _ _⟩
  ·have hm:((ag.toArray.size:Nat):Int)*k=((xs.length*k.toNat:Nat):Int):=by
    rw[rO,<-hl]
    have:k=(k.toNat:Int):=by omega
    rw[uk,<-this]
   have hs:xs.length*k.toNat<=2^24:=hz
   refine call_meets F.slot_tuple_mul ⟨_,ho,rfl⟩ F.entry_tuple_mul (F.args_tuple_mul_2 _ _) (zf2 a ag.toArray n dd sl k t hk jH (by simp[h0];exact ef) (by rw[hm];omega) (by
    rw[hm]
    unfold Tuple.tupleTooMany
    intro h
    have:=of_decide_eq_true h
    have n5:((xs.length*k.toNat:Nat):Int)<=(sizeLine:Int):=Int.ofNat_le.2 hz
    omega) (by rw[jt,rO,<-(r.rep k.toNat).length,zgP,Ar];exact hz)) ⟨ho,?_⟩
   rw[jt]
   refine⟨.ref s.heap.objs.size,_,I.laid (t':=s.toks) (o:= .tup (rN k.toNat xs).flatten) (λb ob q=>Heap.get?_push_of_some _ q) (rL _) ?_,rfl,q2 hc _ (I.hok.fresh (rL _))⟩
   exact⟨by rw[zgP,Ar];exact hz,_,r.rep k.toNat,IsTup.new _ _⟩
end
end L2
namespace L2
open PySem PySem.Spec PyProof.Rows PySem.Calls
section
variable {X:Cx}
end
section
variable {prog:Program} {w:World} {A:Around} {E:Value->Shared->Prop} {s:Shared} {T:String} {r d:Addr} {n:Nat} {P:Nat->Value->Prop} {OK:Heap->Prop} {Q:Value->Shared->Prop}
end
section
variable {X:Cx}
end
section
variable {prog:Program} {w:World} {A:Around} {E:Value->Shared->Prop} {s:Shared} {T:String} {r d:Addr} {n:Nat} {P:Nat->Value->Prop} {OK:Heap->Prop} {Q:Value->Shared->Prop}
end
section
variable {X:Cx}
def ziM (K:rF) (neg:Bool):R2:=λx y H Q=>∃a b xs,x= .ref a/\y= .ref b/\SqL K H a xs/\SqL K H b []/\Q (.bl (neg !=xs.isEmpty)) H
end
end L2
namespace L2
open PySem
inductive Xv where
 |non|bl (b:Bool)|int (i:Int)|str (x:Str)|tup (xs:List Xv)|ct (xs:List Xv)|ref (n:Nat)
inductive Ce where
 |lst (xs:List Xv)
 |frz (xs:List Xv)
 |dk (cL:List (Key×Xv))
 |dt (cL:List (List Key×Xv))
 |ins (nm:Str) (fs:List (Str×Xv))
 |fdk (cL:List (Key×Xv))
 |dn (cL:List (NK×Xv×Xv))
 |exc (nm:Str)
abbrev Sto:=List Ce
abbrev Rho:=List (Option Xv)
noncomputable def Ce.fz:Ce->Bool
 | .frz _=>true
 | .fdk _=>true
 | .exc _=>true
 |_=>false
noncomputable def HO.mu:HO->Bool
 | .lst _=>true
 | .dK _=>true
 | .dT _=>true
 | .dN _=>true
 | .ins _ _ _=>true
 | .set _ _=>true
 |_=>false
def YF (H H':Hp):Prop:=∀b u,H b=some u->u.mu=false->H' b=some u
theorem YF.refl (H:Hp):YF H H:=λ_ _ e _=>e
theorem YF.trans {H H1 H2:Hp} (a:YF H H1) (b:YF H1 H2):YF H H2:=λx u e m=>b x u (a x u e m) m
theorem YF.same {H H':Hp} (S:TX H H'):YF H H':=λb u e _=>S b u e
structure Ext (j:List Addr) (H:Hp) (j':List Addr) (H':Hp):Prop where
 pre:∀(n:Nat) a,j[n]? =some a->j'[n]? =some a
 imm:YF H H'
theorem Ext.refl {j:List Addr} {H:Hp}:Ext j H j H:=⟨λ_ _ e=>e,YF.refl _⟩
theorem Ext.trans {j j1 j2:List Addr} {H H1 H2:Hp} (a:Ext j H j1 H1) (b:Ext j1 H1 j2 H2):Ext j H j2 H2:=⟨λn x e=>b.pre n x (a.pre n x e),a.imm.trans b.imm⟩
theorem Ext.same {j:List Addr} {H H':Hp} (S:TX H H'):Ext j H j H':=⟨λ_ _ e=>e,YF.same S⟩
mutual
inductive Xis (K:rF) (j:List Addr) (H:Hp):Xv->V->Prop where
 |non:Xis K j H .non .non
 |bl (b:Bool):Xis K j H (.bl b) (.bl b)
 |int (i:Int):Xis K j H (.int i) (.int i)
 |str (x:Str):Xis K j H (.str x) (.str x)
 |tup {a:Addr} {vs:List V} {xs:List Xv}:H a=some (.tup vs)->yB K j H xs vs->Xis K j H (.tup xs) (.ref a)
 |ct {a:Addr} {vs:List V} {xs:List Xv}:(∀H,SqT K H a vs)->yB K j H xs vs->Xis K j H (.ct xs) (.ref a)
 |ref {n:Nat} {a:Addr}:j[n]? =some a->Xis K j H (.ref n) (.ref a)
inductive yB (K:rF) (j:List Addr) (H:Hp):List Xv->List V->Prop where
 |nil:yB K j H [] []
 |cons {x:Xv} {v:V} {xs:List Xv} {vs:List V}:Xis K j H x v->yB K j H xs vs->yB K j H (x::xs) (v::vs)
end
mutual
theorem Xis.mono {K:rF} {j j':List Addr} {H H':Hp} (S:Ext j H j' H'):∀{x:Xv} {v:V},Xis K j H x v->Xis K j' H' x v
 |_,_,.non=> .non
 |_,_,.bl b=> .bl b
 |_,_,.int i=> .int i
 |_,_,.str x=> .str x
 |_,_,.tup h l=> .tup (S.imm _ _ h rfl) (yB.mono S l)
 |_,_,.ct h l=> .ct h (yB.mono S l)
 |_,_,.ref h=> .ref (S.pre _ _ h)
theorem yB.mono {K:rF} {j j':List Addr} {H H':Hp} (S:Ext j H j' H'):∀{xs:List Xv} {vs:List V},yB K j H xs vs->yB K j' H' xs vs
 |_,_,.nil=> .nil
 |_,_,.cons h l=> .cons (Xis.mono S h) (yB.mono S l)
end
section
variable {K:rF} {j:List Addr} {H:Hp}
theorem yB.len:∀{xs:List Xv} {vs:List V},yB K j H xs vs->vs.length=xs.length
 |_,_,.nil=>rfl
 |_,_,.cons _ l=>by rw[rP,rP,l.len]
theorem yB.get:∀{xs:List Xv} {vs:List V} {i:Nat} {x:Xv},yB K j H xs vs->xs[i]? =some x->∃v,vs[i]? =some v/\Xis K j H x v
 |_,_,_,_,.nil,e=>by simp at e
 |_,_,0,_,.cons h _,e=>by simp at e;subst e;exact⟨_,rfl,h⟩
 |_,_,i+1,x,.cons _ l,e=>by
  obtain⟨v,e1,e2⟩:=l.get (i:=i) (x:=x) (by simpa using e)
  exact⟨v,by simpa using e1,e2⟩
theorem yB.append:∀{xs ys:List Xv} {vs ws:List V},yB K j H xs vs->yB K j H ys ws->yB K j H (xs++ys) (vs++ws)
 |_,_,_,_,.nil,h=>h
 |_,_,_,_,.cons h l,k=> .cons h (l.append k)
theorem yB.one {v:V} {x:Xv} (h:Xis K j H x v):yB K j H [x] [v]:= .cons h .nil
theorem yB.take:∀{xs:List Xv} {vs:List V} (n:Nat),yB K j H xs vs->yB K j H (xs.take n) (vs.take n)
 |_,_,0,_=> .nil
 |_,_,_+1,.nil=> .nil
 |_,_,n+1,.cons h l=> .cons h (l.take n)
theorem yB.drop:∀{xs:List Xv} {vs:List V} (n:Nat),yB K j H xs vs->yB K j H (xs.drop n) (vs.drop n)
 |_,_,0,h=>h
 |_,_,_+1,.nil=> .nil
 |_,_,n+1,.cons h l=>l.drop n
theorem yB.ints:∀ns:List Int,yB K j H (ns.map Xv.int) (ns.map V.int)
 |[]=> .nil
 |n::r=> .cons (.int n) (yB.ints r)
theorem yB.reverse:∀{xs:List Xv} {vs:List V},yB K j H xs vs->yB K j H xs.reverse vs.reverse
 |_,_,.nil=> .nil
 |_,_,.cons h l=>by
  rw[x8,x8]
  exact l.reverse.append (.one h)
theorem yB.set {v:V} {x:Xv} (hv:Xis K j H x v):∀{xs:List Xv} {vs:List V} (n:Nat),yB K j H xs vs->yB K j H (xs.set n x) (vs.set n v)
 |_,_,_,.nil=> .nil
 |_,_,0,.cons _ l=> .cons hv l
 |_,_,n+1,.cons h l=> .cons h (l.set hv n)
theorem yB.dropLast {xs:List Xv} {vs:List V} (h:yB K j H xs vs):yB K j H xs.dropLast vs.dropLast:=by
 rw[B5,B5,h.len]
 exact h.take _
theorem yB.at_ {xs:List Xv} {vs:List V} {i:Int} {x:Xv} (h:yB K j H xs vs) (e:atI xs i=some x):∃v,atI vs i=some v/\Xis K j H x v:=by
 unfold atI at e ⊢
 rw[h.len]
 cases e1:ixN xs.length i with
 |none=>rw[e1] at e;cases e
 |some m=>
  rw[e1] at e
  obtain⟨v,e3,e4⟩:=h.get (i:=m) e
  exact⟨v,e3,e4⟩
theorem Xis.int_inv {v:V} {i:Int} (h:Xis K j H (.int i) v):v= .int i:=by cases h;rfl
theorem Xis.bl_inv {v:V} {b:Bool} (h:Xis K j H (.bl b) v):v= .bl b:=by cases h;rfl
theorem Xis.str_inv {v:V} {b:Str} (h:Xis K j H (.str b) v):v= .str b:=by cases h;rfl
theorem Xis.non_inv {v:V} (h:Xis K j H .non v):v= .non:=by cases h;rfl
theorem Xis.ref_inv {v:V} {n:Nat} (h:Xis K j H (.ref n) v):∃a,v= .ref a/\j[n]? =some a:=by cases h with|ref e=>exact⟨_,rfl,e⟩
theorem Xis.tup_inv {v:V} {xs:List Xv} (h:Xis K j H (.tup xs) v):∃a vs,v= .ref a/\H a=some (.tup vs)/\yB K j H xs vs:=by cases h with|tup a b=>exact⟨_,_,rfl,a,b⟩
theorem yB.cons_inv {vs:List V} {x:Xv} {xs:List Xv} (h:yB K j H (x::xs) vs):∃v r,vs=v::r/\Xis K j H x v/\yB K j H xs r:=by cases h with|cons a b=>exact⟨_,_,rfl,a,b⟩
theorem yB.nil_inv {vs:List V} (h:yB K j H [] vs):vs=[]:=by cases h;rfl
theorem yB.d1 {vs:List V} {a:Xv} (h:yB K j H [a] vs):∃x,vs=[x]/\Xis K j H a x:=by
 obtain⟨x,r,rfl,hx,h⟩:=h.cons_inv
 obtain rfl:=h.nil_inv
 exact⟨x,rfl,hx⟩
theorem yB.d2 {vs:List V} {a b:Xv} (h:yB K j H [a,b] vs):∃x y,vs=[x,y]/\Xis K j H a x/\Xis K j H b y:=by
 obtain⟨x,r,rfl,hx,h⟩:=h.cons_inv
 obtain⟨y,rfl,hy⟩:=h.d1
 exact⟨x,y,rfl,hx,hy⟩
noncomputable def Xv.tupOf:Xv->Option (List Xv)
 | .tup xs=>some xs
 | .ct xs=>some xs
 |_=>none
theorem Xis.tupO {v:V} {x:Xv} {xs:List Xv} (h:Xis K j H x v) (e:x.tupOf=some xs):∃a vs,v= .ref a/\SqT K H a vs/\yB K j H xs vs:=by
 cases h with
 |tup h l=>simp[Xv.tupOf] at e;subst e;exact⟨_,_,rfl,SqT.of h,l⟩
 |ct h l=>simp[Xv.tupOf] at e;subst e;exact⟨_,_,rfl,h H,l⟩
 |_=>simp[Xv.tupOf] at e
end
inductive KX {κ:Type} (K:rF) (j:List Addr) (H:Hp):List (κ×Xv)->List (κ×V)->Prop where
 |nil:KX K j H [] []
 |cons {k:κ} {x:Xv} {v:V} {r:List (κ×Xv)} {rs:List (κ×V)}:Xis K j H x v->KX K j H r rs->KX K j H ((k,x)::r) ((k,v)::rs)
theorem KX.mono {κ:Type} {K:rF} {j j':List Addr} {H H':Hp} (S:Ext j H j' H'):∀{xs:List (κ×Xv)} {vs:List (κ×V)},KX K j H xs vs->KX K j' H' xs vs
 |_,_,.nil=> .nil
 |_,_,.cons h l=> .cons (h.mono S) (l.mono S)
mutual
noncomputable def znt:Xv->Option NK
 | .int i=>some (.int i)
 | .str x=>some (.str x)
 | .tup l=>(ziN l).map .tup
 | .ct l=>(ziN l).map .tup
 | .non=>none
 | .bl _=>none
 | .ref _=>none
noncomputable def ziN:List Xv->Option (List NK)
 |[]=>some []
 |x::r=>(znt x).bind λk=>(ziN r).map (k:: ·)
end
inductive NX (K:rF) (j:List Addr) (H:Hp):List (NK×Xv×Xv)->List (NK×Addr×V)->Prop where
 |nil:NX K j H [] []
 |cons {k:NK} {x y:Xv} {b:Addr} {v:V} {r:List (NK×Xv×Xv)} {rs:List (NK×Addr×V)}:znt x=some k/\zmX k<=8->Xis K j H x (.ref b)->Xis K j H y v->NX K j H r rs->NX K j H ((k,x,y)::r) ((k,b,v)::rs)
theorem NX.mono {K:rF} {j j':List Addr} {H H':Hp} (S:Ext j H j' H'):∀{xs:List (NK×Xv×Xv)} {vs:List (NK×Addr×V)},NX K j H xs vs->NX K j' H' xs vs
 |_,_,.nil=> .nil
 |_,_,.cons e h1 h2 l=> .cons e (h1.mono S) (h2.mono S) (l.mono S)
def zcn (K:rF) (j:List Addr) (H:Hp) (a:Addr):Ce->Prop
 | .lst xs=>∃vs,H a=some (.lst vs)/\yB K j H xs vs
 | .frz xs=>∃vs,((∃o,H a=some (.frz o (.lst vs)))\/∀H,SqX K H a vs)/\yB K j H xs vs
 | .dk cL=>∃ks:List (Key×V),H a=some (.dK ks)/\KX K j H cL ks
 | .dt cL=>∃ks:List (List Key×V),H a=some (.dT ks)/\KX K j H cL ks
 | .ins nm fs=>∃(C dx:Addr) (vs:List (Str×V)),se K mainGlobals nm=some (some (.ref C))/\H a=some (.ins C dx vs)/\KX K j H fs vs
 | .fdk cL=>∃(o:Obj) (ks:List (Key×V)),H a=some (.frz o (.dK ks))/\KX K j H cL ks
 | .dn cL=>∃ks:List (NK×Addr×V),H a=some (.dN ks)/\NX K j H cL ks
 | .exc nm=>∃C:Addr,se K mainGlobals nm=some (some (.ref C))/\H a=some (zmb a (.ref C))
theorem zcn.mu {K:rF} {j:List Addr} {H:Hp} {a:Addr}:∀{c:Ce},zcn K j H a c->c.fz=false->∃o,H a=some o/\o.mu=true
 | .lst _,⟨_,e,_⟩,_=>⟨_,e,rfl⟩
 | .frz _,_,z=>by cases z
 | .dk _,⟨_,e,_⟩,_=>⟨_,e,rfl⟩
 | .dt _,⟨_,e,_⟩,_=>⟨_,e,rfl⟩
 | .ins _ _,⟨_,_,_,_,e,_⟩,_=>⟨_,e,rfl⟩
 | .fdk _,_,z=>by cases z
 | .dn _,⟨_,e,_⟩,_=>⟨_,e,rfl⟩
 | .exc _,_,z=>by cases z
theorem zcn.mono {K:rF} {j j':List Addr} {H H':Hp} {a:Addr} (S:Ext j H j' H'):∀{c:Ce},(c.fz=false->H' a=H a)->zcn K j H a c->zcn K j' H' a c
 | .lst _,h,⟨_,e,l⟩=>⟨_,(h rfl).trans e,l.mono S⟩
 | .frz _,_,⟨_,.inl ⟨o,e⟩,l⟩=>⟨_,.inl ⟨o,S.imm _ _ e rfl⟩,l.mono S⟩
 | .frz _,_,⟨_,.inr e,l⟩=>⟨_,.inr e,l.mono S⟩
 | .dk _,h,⟨_,e,l⟩=>⟨_,(h rfl).trans e,l.mono S⟩
 | .dt _,h,⟨_,e,l⟩=>⟨_,(h rfl).trans e,l.mono S⟩
 | .ins _ _,h,⟨_,_,_,n,e,l⟩=>⟨_,_,_,n,(h rfl).trans e,l.mono S⟩
 | .fdk _,_,⟨_,_,e,l⟩=>⟨_,_,S.imm _ _ e rfl,l.mono S⟩
 | .dn _,h,⟨_,e,l⟩=>⟨_,(h rfl).trans e,l.mono S⟩
 | .exc _,_,⟨C,n,e⟩=>⟨C,n,S.imm _ _ e rfl⟩
structure Fm where
 H0:Hp
 j0:List Addr
 S0:Sto
structure En (K:rF) (F:Fm) (j:List Addr) (H:Hp) (σ:St) (ρ:Rho) (S:Sto):Prop where
 len:σ.length=ρ.length
 slot:∀(i:Nat) x,ρ[i]? =some (some x)->∃v,σ[i]? =some (some v)/\Xis K j H x v
 jl:j.length=S.length
 inj:∀(n m:Nat) a c d,j[n]? =some a->j[m]? =some a->S[n]? =some c->S[m]? =some d->c.fz=false->d.fz=false->n=m
 cel:∀(n:Nat) c a,S[n]? =some c->j[n]? =some a->zcn K j H a c
 ext:Ext F.j0 F.H0 j H
 old:∀(n:Nat) c,F.S0[n]? =some c->∃c',S[n]? =some c'/\(c'.fz=false->c.fz=false)/\(c.fz=true->c'=c)
 l0:F.j0.length=F.S0.length
 keep:∀b u,F.H0 b=some u->H b=some u\/∃(n:Nat) (c:Ce),F.j0[n]? =some b/\F.S0[n]? =some c/\c.fz=false
 fresh:∀(n:Nat) a,F.j0.length<=n->j[n]? =some a->F.H0 a=none
 dom:∀b,H b=none->F.H0 b=none
section
variable {K:rF} {F:Fm} {j j':List Addr} {H H':Hp} {σ σ':St} {ρ ρ':Rho} {S S':Sto} {v:V} {x:Xv} {a p:Addr} {o:HO} {i n:Nat} {c c':Ce}
theorem En.heap (E:En K F j H σ ρ S) (Sm:TX H H'):En K F j H' σ ρ S:=by
 have X:Ext j H j H':=Ext.same Sm
 refine⟨E.len,λi x e=> ?_,E.jl,E.inj,λn c a e1 e2=> ?_,E.ext.trans X,E.old,E.l0,λb u e=> ?_,E.fresh,λb e=>E.dom b ?_⟩
 ·obtain⟨v,e1,e2⟩:=E.slot i x e
  exact⟨v,e1,e2.mono X⟩
 ·have h:=E.cel n c a e1 e2
  refine h.mono X λz=> ?_
  obtain⟨o,e,_⟩:=h.mu z
  exact (Sm _ _ e).trans e.symm
 ·rcases E.keep b u e with h|h
  ·exact .inl (Sm _ _ h)
  ·exact .inr h
 ·cases e':H b with
  |none=>rfl
  |some u=>rw[Sm b u e'] at e;cases e
theorem En.new (E:En K F j H σ ρ S) (h:H p=none):En K F j (upd H p o) σ ρ S/\Ext j H j (upd H p o):=⟨E.heap (wv h),Ext.same (wv h)⟩
theorem En.cell (E:En K F j H σ ρ S) (h:H p=none) (hc:zcn K (j++[p]) (upd H p o) p c):En K F (j++[p]) (upd H p o) σ ρ (S++[c])/\Ext j H (j++[p]) (upd H p o):=by
 have X:Ext j H (j++[p]) (upd H p o):=⟨λn a e=>by rw[su (rH.1 e).1];exact e,YF.same (wv h)⟩
 have gZ:∀{n:Nat} {a:Addr},(j++[p])[n]? =some a->j[n]? =some a\/(n=j.length/\a=p):=λ{n a} e=>by
  by_cases hn:n<j.length
  ·rw[su hn] at e;exact .inl e
  ·rw[sL ⋯] at e
   cases hm:n-j.length with
   |zero=>rw[hm] at e;simp at e;exact .inr ⟨⋯,e.symm⟩
   |succ m=>rw[hm] at e;simp at e
 have sat:∀{n:Nat} {d:Ce},(S++[c])[n]? =some d->S[n]? =some d\/(n=S.length/\d=c):=λ{n d} e=>by
  by_cases hn:n<S.length
  ·rw[su hn] at e;exact .inl e
  ·rw[sL ⋯] at e
   cases hm:n-S.length with
   |zero=>rw[hm] at e;simp at e;exact .inr ⟨⋯,e.symm⟩
   |succ m=>rw[hm] at e;simp at e
 have lt:∀{n:Nat} {d:Ce},S[n]? =some d->n<S.length:=λe=>(rH.1 e).1
 have ix:∀{n:Nat} {a:Addr} {d:Ce},j[n]? =some a->S[n]? =some d->d.fz=false->a≠p:=λ{n a d} e1 e2 z q=>by
  subst q
  obtain⟨o',e,_⟩:=(E.cel n d a e2 e1).mu z
  rw[h] at e;cases e
 refine⟨⟨E.len,λi x e=> ?_,by simp[E.jl],λn m a c1 c2 e1 e2 e3 e4 z1 z2=> ?_,λn d a e1 e2=> ?_,E.ext.trans X,λn d e=> ?_,E.l0,λb u e=> ?_,λn a hn e=> ?_,λb e=> ?_⟩,X⟩
 ·obtain⟨v,e1,e2⟩:=E.slot i x e
  exact⟨v,e1,e2.mono X⟩
 ·rcases sat e3 with e3|⟨e3,_⟩
  ·have h1:j[n]? =some a:=by
    rcases gZ e1 with h1|⟨h1,_⟩
    ·exact h1
    ·have:=lt e3;rw[E.jl] at h1;omega
   rcases sat e4 with e4|⟨e4,_⟩
   ·have h2:j[m]? =some a:=by
     rcases gZ e2 with h2|⟨h2,_⟩
     ·exact h2
     ·have:=lt e4;rw[E.jl] at h2;omega
    exact E.inj n m a c1 c2 h1 h2 e3 e4 z1 z2
   ·have:a=p:=by
     rcases gZ e2 with h2|⟨_,h2⟩
     ·have:=(rH.1 h2).1;rw[E.jl] at this;omega
     ·exact h2
    exact absurd this (ix h1 e3 z1)
  ·have:a=p:=by
    rcases gZ e1 with h2|⟨_,h2⟩
    ·have:=(rH.1 h2).1;rw[E.jl] at this;omega
    ·exact h2
   rcases sat e4 with e4|⟨e4,_⟩
   ·have h2:j[m]? =some a:=by
     rcases gZ e2 with h2|⟨h2,_⟩
     ·exact h2
     ·have:=lt e4;rw[E.jl] at h2;omega
    exact absurd this (ix h2 e4 z2)
   ·rw[e3,e4]
 ·rcases sat e1 with e1|⟨e1,rfl⟩
  ·have h2:j[n]? =some a:=by
    rcases gZ e2 with h2|⟨h2,_⟩
    ·exact h2
    ·have:=lt e1;rw[E.jl] at h2;omega
   have hh:=E.cel n d a e1 h2
   exact hh.mono X λz=>yR (ix h2 e1 z)
  ·have:a=p:=by
    rcases gZ e2 with h2|⟨_,h2⟩
    ·have:=(rH.1 h2).1;rw[E.jl] at this;omega
    ·exact h2
   subst this
   exact hc
 ·obtain⟨d',e1,e2⟩:=E.old n d e
  exact⟨d',by rw[su (lt e1)];exact e1,e2⟩
 ·rcases E.keep b u e with h'|h'
  ·exact .inl (wv h _ _ h')
  ·exact .inr h'
 ·rcases gZ e with e|⟨_,rfl⟩
  ·exact E.fresh n a hn e
  ·exact E.dom _ h
 ·refine E.dom b ?_
  cases e':H b with
  |none=>rfl
  |some u=>rw[wv h b u e'] at e;cases e
theorem En.writeF (E:En K F j H σ ρ S) (hs:S[n]? =some c) (z:c.fz=false) (hj:j[n]? =some a) (hc:∀X:Ext j H j (upd H a o),zcn K j (upd H a o) a c'):En K F j (upd H a o) σ ρ (S.set n c')/\Ext j H j (upd H a o):=by
 obtain⟨o0,h0,m0⟩:=(E.cel n c a hs hj).mu z
 have X:Ext j H j (upd H a o):=⟨λ_ _ e=>e,λb u e m=>by
  have:b≠a:=λq=>by subst q;rw[h0] at e;cases e;rw[m] at m0;cases m0
  rw[yR this];exact e⟩
 have sat:∀{m:Nat} {d:Ce},(S.set n c')[m]? =some d->(m=n/\d=c')\/(m≠n/\S[m]? =some d):=λ{m d} e=>by
  rw[u5] at e
  split at e
  ·rename_i q
   split at e
   ·cases e;exact .inl ⟨q.symm,rfl⟩
   ·cases e
  ·rename_i q
   exact .inr ⟨λr=>q r.symm,e⟩
 have nS:∀{m:Nat} {d:Ce},(S.set n c')[m]? =some d->∃d',S[m]? =some d'/\(d.fz=false->d'.fz=false):=λ{m d} e=>by
  rcases sat e with⟨rfl,rfl⟩|⟨_,e⟩
  ·exact⟨c,hs,λ_=>z⟩
  ·exact⟨d,e,λy=>y⟩
 refine⟨⟨E.len,λi x e=> ?_,by simp[E.jl],λk m b c1 c2 e1 e2 e3 e4 z1 z2=> ?_,λm d b e1 e2=> ?_,E.ext.trans X,λm d e=> ?_,E.l0,λb u e=> ?_,E.fresh,λb e=> ?_⟩,X⟩
 ·obtain⟨v,e1,e2⟩:=E.slot i x e
  exact⟨v,e1,e2.mono X⟩
 ·obtain⟨d1,f1,g1⟩:=nS e3
  obtain⟨d2,f2,g2⟩:=nS e4
  exact E.inj k m b d1 d2 e1 e2 f1 f2 (g1 z1) (g2 z2)
 ·rcases sat e1 with⟨rfl,rfl⟩|⟨q,e1⟩
  ·rw[hj] at e2
   cases e2
   exact hc X
  ·refine (E.cel m d b e1 e2).mono X λzd=>yR λr=> ?_
   subst r
   exact q (E.inj m n b d c e2 hj e1 hs zd z)
 ·obtain⟨d',e1,e2,e3⟩:=E.old m d e
  by_cases q:m=n
  ·subst q
   rw[hs] at e1
   cases e1
   refine⟨c',by rw[u5,if_pos rfl,if_pos (rH.1 hs).1],λ_=>e2 z,λy=> ?_⟩
   rw[e2 z] at y
   cases y
  ·exact⟨d',by rw[u5,if_neg (λr=>q r.symm)];exact e1,e2,e3⟩
 ·by_cases q:b=a
  ·subst q
   by_cases hn:n<F.j0.length
   ·have pL:F.j0[n]? =some b:=by
     have e1:F.j0[n]? =some F.j0[n]:=rG hn
     have e2:=E.ext.pre n _ e1
     rw[hj] at e2
     cases e2
     exact e1
    have ec:n<F.S0.length:=by rw[<-E.l0];exact hn
    obtain⟨d',f1,f2,_⟩:=E.old n _ (rG ec)
    rw[hs] at f1
    cases f1
    exact .inr ⟨n,_,pL,rG ec,f2 z⟩
   ·rw[E.fresh n b ⋯ hj] at e
    cases e
  ·rcases E.keep b u e with h|h
   ·exact .inl (by rw[yR q];exact h)
   ·exact .inr h
 ·by_cases q:b=a
  ·subst q;rw[yW] at e;cases e
  ·rw[yR q] at e;exact E.dom b e
theorem En.write (E:En K F j H σ ρ S) (hs:S[n]? =some c) (z:c.fz=false) (hj:j[n]? =some a) (_:c'.fz=false) (hc:∀X:Ext j H j (upd H a o),zcn K j (upd H a o) a c'):En K F j (upd H a o) σ ρ (S.set n c')/\Ext j H j (upd H a o):=E.writeF hs z hj hc
theorem En.slots (E:En K F j H σ ρ S) (hl:σ'.length=ρ'.length) (h:∀(i:Nat) x,ρ'[i]? =some (some x)->∃v,σ'[i]? =some (some v)/\Xis K j H x v):En K F j H σ' ρ' S:=
 ⟨hl,h,E.jl,E.inj,E.cel,E.ext,E.old,E.l0,E.keep,E.fresh,E.dom⟩
theorem En.set (E:En K F j H σ ρ S) (h:Xis K j H x v):En K F j H (σ.set i (some v)) (ρ.set i (some x)) S:=E.slots (by simp[E.len]) λk y e=>by
 rw[u5] at e ⊢
 split at e
 ·rename_i q
  subst q
  split at e
  ·rename_i hl
   cases e
   rw[if_pos rfl,if_pos (by rw[E.len];exact hl)]
   exact⟨v,rfl,h⟩
  ·cases e
 ·rename_i q
  rw[if_neg q]
  exact E.slot k y e
theorem En.enter (E:En K F j H σ ρ S) (hl:σ'.length=ρ'.length) (h:∀(i:Nat) x,ρ'[i]? =some (some x)->∃v,σ'[i]? =some (some v)/\Xis K j H x v):En K ⟨H,j,S⟩ j H σ' ρ' S:=
 ⟨hl,h,E.jl,E.inj,E.cel,Ext.refl,λn c e=>⟨c,e,λz=>z,λ_=>rfl⟩,E.jl,λb u e=> .inl e,λn a hn e=>by have:=(rH.1 e).1;dsimp only at hn;omega,λb e=>e⟩
theorem En.leave (E:En K F j H σ ρ S) (X:En K ⟨H,j,S⟩ j' H' σ' ρ' S'):En K F j' H' σ ρ S'/\Ext j H j' H':=by
 have e:Ext j H j' H':=X.ext
 refine⟨⟨E.len,λi x h=> ?_,X.jl,X.inj,X.cel,E.ext.trans e,λn c h=> ?_,E.l0,λb u h=> ?_,λn a hn h=> ?_,λb h=>E.dom b (X.dom b h)⟩,e⟩
 ·obtain⟨v,e1,e2⟩:=E.slot i x h
  exact⟨v,e1,e2.mono e⟩
 ·obtain⟨c1,e1,e2,e3⟩:=E.old n c h
  obtain⟨c2,f1,f2,f3⟩:=X.old n c1 e1
  refine⟨c2,f1,λz=>e2 (f2 z),λz=> ?_⟩
  obtain rfl:=e3 z
  exact f3 z
 ·rcases E.keep b u h with h1|h1
  ·rcases X.keep b u h1 with h2|⟨n,c,h2,h3,h4⟩
   ·exact .inl h2
   ·by_cases hn:n<F.j0.length
    ·have e1:F.j0[n]? =some F.j0[n]:=rG hn
     have e2:=E.ext.pre n _ e1
     have ql:j[n]? =some b:=h2
     rw[ql] at e2
     cases e2
     have ec:n<F.S0.length:=by rw[<-E.l0];exact hn
     obtain⟨c1,f1,f2,_⟩:=E.old n _ (rG ec)
     have qk:S[n]? =some c:=h3
     rw[qk] at f1
     cases f1
     exact .inr ⟨n,_,e1,rG ec,f2 h4⟩
    ·have:=E.fresh n b ⋯ h2
     rw[this] at h;cases h
  ·exact .inr h1
 ·by_cases hm:n<j.length
  ·have e1:j[n]? =some j[n]:=rG hm
   have e2:=e.pre n _ e1
   rw[h] at e2
   cases e2
   exact E.fresh n _ hn e1
  ·exact E.dom a (X.fresh n a (by dsimp only;omega) h)
theorem En.grow {k:Nat} (E:En K F j H σ ρ S):En K F j H (σ++rN k none) (ρ++rN k none) S:=E.slots (by simp[E.len]) λi x e=>by
 by_cases hi:i<ρ.length
 ·rw[su hi] at e
  rw[su (by rw[E.len];exact hi)]
  exact E.slot i x e
 ·rw[sL ⋯,Ay] at e
  split at e
  ·cases e
  ·cases e
end
inductive Rs (α:Type) where
 |ok (a:α) (S:Sto)
 |ex (c:Str) (S:Sto)
abbrev TwE:=Rho->Sto->Option (Rs Xv)
abbrev TwT:=Rho->Sto->Option (Rs Bool)
abbrev TwL:=Rho->Sto->Option (Rs (List Xv))
abbrev TwO:=Rho->Sto->Option (Rs (Option Int))
abbrev TwG:=Xv->Rho->Sto->Option (Rs Rho)
abbrev zf3:=List Xv->Rho->Sto->Option (Rs Rho)
abbrev TwI:=Rho->Sto->Option (Rs (Sto->Option (List Xv)))
inductive Fl where
 |nx (ρ:Rho) (S:Sto)
 |bk (ρ:Rho) (S:Sto)
 |ct (ρ:Rho) (S:Sto)
 |rt (x:Xv) (S:Sto)
 |ex (c:Str) (S:Sto)
abbrev TwS:=Rho->Sto->Option Fl
noncomputable def rb {α β:Type} (m:Option (Rs α)) (f:α->Sto->Option (Rs β)):Option (Rs β):=match m with
 |some (.ok a S)=>f a S
 |some (.ex c S)=>some (.ex c S)
 |none=>none
noncomputable def sb {α:Type} (m:Option (Rs α)) (f:α->Sto->Option Fl):Option Fl:=match m with
 |some (.ok a S)=>f a S
 |some (.ex c S)=>some (.ex c S)
 |none=>none
theorem yg {α β:Type} {m:Option (Rs α)} {f:α->Sto->Option (Rs β)} {r:Rs β} (h:rb m f=some r):(∃a S,m=some (.ok a S)/\f a S=some r)\/∃c S,m=some (.ex c S)/\r= .ex c S:=by
 unfold rb at h
 split at h
 ·exact .inl ⟨_,_,rfl,h⟩
 ·cases h;exact .inr ⟨_,_,rfl,rfl⟩
 ·cases h
theorem wE {α:Type} {m:Option (Rs α)} {f:α->Sto->Option Fl} {r:Fl} (h:sb m f=some r):(∃a S,m=some (.ok a S)/\f a S=some r)\/∃c S,m=some (.ex c S)/\r= .ex c S:=by
 unfold sb at h
 split at h
 ·exact .inl ⟨_,_,rfl,h⟩
 ·cases h;exact .inr ⟨_,_,rfl,rfl⟩
 ·cases h
def PX (K:rF) (F:Fm) (j:List Addr) (H:Hp) (E:XK) (c:Str) (S':Sto):Prop:=
 ∀j' H' σ' ρ' C,Ext j H j' H'->En K F j' H' σ' ρ' S'->se K mainGlobals c=some (some (.ref C))->E (.ref C) none H'
theorem PX.mono {K:rF} {F:Fm} {j j1:List Addr} {H H1:Hp} {E:XK} {c:Str} {S':Sto} (h:PX K F j H E c S') (e:Ext j H j1 H1):PX K F j1 H1 E c S':=λj' H' σ' ρ' C x y z=>h j' H' σ' ρ' C (e.trans x) y z
def Po {α:Type} (K:rF) (F:Fm) (j:List Addr) (H:Hp) (σ:St) (ρ:Rho) (E:XK) (P:α->List Addr->Hp->Prop):Rs α->Prop
 | .ok a S'=>∀j' H',Ext j H j' H'->En K F j' H' σ ρ S'->P a j' H'
 | .ex c S'=>PX K F j H E c S'
theorem Po.step {α:Type} {K:rF} {F:Fm} {j j1:List Addr} {H H1:Hp} {σ:St} {ρ:Rho} {E:XK} {P:α->List Addr->Hp->Prop}:∀{r:Rs α},Po K F j H σ ρ E P r->Ext j H j1 H1->Po K F j1 H1 σ ρ E P r
 | .ok a S',h,e=>λj' H' x y=>h j' H' (e.trans x) y
 | .ex c S',h,e=>PX.mono h e
noncomputable abbrev PoV (K:rF) (Q:VK):Xv->List Addr->Hp->Prop:=λx j' H'=>∀v,Xis K j' H' x v->Q v H'
def RE (K:rF) (E:XK) (t:TE) (m:TwE):Prop:=∀{F:Fm} {j:List Addr} {σ:St} {H:Hp} {ρ:Rho} {S:Sto} {r:Rs Xv} {Q:VK},En K F j H σ ρ S->m ρ S=some r->Po K F j H σ ρ E (PoV K Q) r->t σ H Q
def RT (K:rF) (E:XK) (t:TT) (m:TwT):Prop:=∀{F:Fm} {j:List Addr} {σ:St} {H:Hp} {ρ:Rho} {S:Sto} {r:Rs Bool} {Q:Bool->Hp->Prop},En K F j H σ ρ S->m ρ S=some r->Po K F j H σ ρ E (λb _ H'=>Q b H') r->t σ H Q
def RL (K:rF) (E:XK) (t:TA) (m:TwL):Prop:=∀{F:Fm} {j:List Addr} {σ:St} {H:Hp} {ρ:Rho} {S:Sto} {r:Rs (List Xv)} {Q:List V->Hp->Prop},En K F j H σ ρ S->m ρ S=some r->Po K F j H σ ρ E (λxs j' H'=>∀vs,yB K j' H' xs vs->Q vs H') r->t σ H Q
def RO (K:rF) (E:XK) (t:TO) (m:TwO):Prop:=∀{F:Fm} {j:List Addr} {σ:St} {H:Hp} {ρ:Rho} {S:Sto} {r:Rs (Option Int)} {Q:Option Int->Hp->Prop},En K F j H σ ρ S->m ρ S=some r->Po K F j H σ ρ E (λo _ H'=>Q o H') r->t σ H Q
def PoG (K:rF) (F:Fm) (j:List Addr) (H:Hp) (E:XK) (R:St->Hp->Prop):Rs Rho->Prop
 | .ok ρ' S'=>∀σ' j' H',Ext j H j' H'->En K F j' H' σ' ρ' S'->R σ' H'
 | .ex c S'=>PX K F j H E c S'
theorem PoG.step {K:rF} {F:Fm} {j j1:List Addr} {H H1:Hp} {E:XK} {R:St->Hp->Prop}:∀{r:Rs Rho},PoG K F j H E R r->Ext j H j1 H1->PoG K F j1 H1 E R r
 | .ok a S',h,e=>λσ' j' H' x y=>h σ' j' H' (e.trans x) y
 | .ex c S',h,e=>PX.mono h e
def RG (K:rF) (E:XK) (t:TG) (g:TwG):Prop:=∀{F:Fm} {j:List Addr} {σ:St} {H:Hp} {ρ:Rho} {S:Sto} {r:Rs Rho} {x:Xv} {v:V} {R:St->Hp->Prop},En K F j H σ ρ S->Xis K j H x v->g x ρ S=some r->PoG K F j H E R r->t v σ H R
def RGs (K:rF) (E:XK) (t:TGs) (g:zf3):Prop:=∀{F:Fm} {j:List Addr} {σ:St} {H:Hp} {ρ:Rho} {S:Sto} {r:Rs Rho} {xs:List Xv} {vs:List V} {R:St->Hp->Prop},En K F j H σ ρ S->yB K j H xs vs->g xs ρ S=some r->PoG K F j H E R r->t vs σ H R
def zkC (K:rF) (F:Fm) (j:List Addr) (H:Hp) (E:XK) (D':TN):Fl->Prop
 | .nx ρ S=>∀σ j' H',Ext j H j' H'->En K F j' H' σ ρ S->D'.nx σ H'
 | .bk ρ S=>∀σ j' H',Ext j H j' H'->En K F j' H' σ ρ S->D'.bk σ H'
 | .ct ρ S=>∀σ j' H',Ext j H j' H'->En K F j' H' σ ρ S->D'.ct σ H'
 | .rt x S=>∀v σ ρ j' H',Ext j H j' H'->En K F j' H' σ ρ S->Xis K j' H' x v->D'.rt v H'
 | .ex c S=>PX K F j H E c S
theorem zkC.step {K:rF} {F:Fm} {j j1:List Addr} {H H1:Hp} {E:XK} {D':TN}:∀{fl:Fl},zkC K F j H E D' fl->Ext j H j1 H1->zkC K F j1 H1 E D' fl
 | .nx _ _,h,e=>λσ j' H' x y=>h σ j' H' (e.trans x) y
 | .bk _ _,h,e=>λσ j' H' x y=>h σ j' H' (e.trans x) y
 | .ct _ _,h,e=>λσ j' H' x y=>h σ j' H' (e.trans x) y
 | .rt _ _,h,e=>λv σ ρ j' H' x y z=>h v σ ρ j' H' (e.trans x) y z
 | .ex _ _,h,e=>PX.mono h e
def RS (K:rF) (E:XK) (t:TS) (m:TwS):Prop:=∀{F:Fm} {j:List Addr} {D':TN} {σ:St} {H:Hp} {ρ:Rho} {S:Sto} {fl:Fl},En K F j H σ ρ S->m ρ S=some fl->zkC K F j H E D' fl->t D' σ H
def znu (K:rF) (j:List Addr) (H:Hp) (J:It) (get:Sto->Option (List Xv)):Prop:=∀{F:Fm} {j':List Addr} {H':Hp} {σ:St} {ρ:Rho} {S:Sto} {xs:List Xv} (i:Nat),Ext j H j' H'->En K F j' H' σ ρ S->get S=some xs->
 (∀x,xs[i]? =some x->J.go i H'/\∀v H'',J.yld i H' v H''->TX H' H''/\Xis K j' H'' x v)/\(i=xs.length->J.stop i H')
def RI (K:rF) (E:XK) (t:TI) (m:TwI):Prop:=∀{F:Fm} {j:List Addr} {σ:St} {H:Hp} {ρ:Rho} {S:Sto} {r:Rs (Sto->Option (List Xv))} {R:It->Hp->Prop},En K F j H σ ρ S->m ρ S=some r->Po K F j H σ ρ E (λget j' H'=>∀J,znu K j' H' J get->R J H') r->t σ H R
abbrev Op2:=Xv->Xv->Sto->Option (Xv×Sto)
abbrev Opn:=List Xv->Sto->Option (Xv×Sto)
def Yr (K:rF) (r:R2) (f:Op2):Prop:=∀{F:Fm} {j:List Addr} {σ:St} {H:Hp} {ρ:Rho} {S S':Sto} {x y z:Xv} {u v:V} {Q:VK},En K F j H σ ρ S->Xis K j H x u->Xis K j H y v->f x y S=some (z,S')->(∀w j' H',Ext j H j' H'->En K F j' H' σ ρ S'->Xis K j' H' z w->Q w H')->r u v H Q
def znv (K:rF) (r:V->Hp->VK->Prop) (f:Xv->Sto->Option (Xv×Sto)):Prop:=∀{F:Fm} {j:List Addr} {σ:St} {H:Hp} {ρ:Rho} {S S':Sto} {x z:Xv} {u:V} {Q:VK},En K F j H σ ρ S->Xis K j H x u->f x S=some (z,S')->(∀w j' H',Ext j H j' H'->En K F j' H' σ ρ S'->Xis K j' H' z w->Q w H')->r u H Q
def Th (K:rF) (r:List V->Hp->VK->Prop) (f:Opn):Prop:=∀{F:Fm} {j:List Addr} {σ:St} {H:Hp} {ρ:Rho} {S S':Sto} {xs:List Xv} {z:Xv} {vs:List V} {Q:VK},En K F j H σ ρ S->yB K j H xs vs->f xs S=some (z,S')->(∀w j' H',Ext j H j' H'->En K F j' H' σ ρ S'->Xis K j' H' z w->Q w H')->r vs H Q
noncomputable def ze (i:Nat):TwE:=λρ S=>match ρ[i]? with
 |some (some x)=>some (.ok x S)
 |_=>none
noncomputable def eC (x:Xv):TwE:=λ_ S=>some (.ok x S)
noncomputable def okP (o:Option (Xv×Sto)):Option (Rs Xv):=o.map λp=> .ok p.1 p.2
theorem YG {o:Option (Xv×Sto)} {r:Rs Xv} (h:okP o=some r):∃z S,o=some (z,S)/\r= .ok z S:=by
 cases o with
 |none=>cases h
 |some p=>cases h;exact⟨_,_,rfl,rfl⟩
noncomputable def eOp (f:Op2) (a b:TwE):TwE:=λρ S=>rb (a ρ S) λx S1=>rb (b ρ S1) λy S2=>okP (f x y S2)
noncomputable def eUn (f:Xv->Sto->Option (Xv×Sto)) (a:TwE):TwE:=λρ S=>rb (a ρ S) λx S1=>okP (f x S1)
noncomputable def bE (m:TwE):TwT:=λρ S=>rb (m ρ S) λx S1=>match x with
 | .bl b=>some (.ok b S1)
 |_=>none
noncomputable def eB (m:TwT):TwE:=λρ S=>rb (m ρ S) λb S1=>some (.ok (.bl b) S1)
noncomputable def zab (a b:TwT):TwT:=λρ S=>rb (a ρ S) λx S1=>if x then b ρ S1 else some (.ok false S1)
noncomputable def bOr (a b:TwT):TwT:=λρ S=>rb (a ρ S) λx S1=>if x then some (.ok true S1) else b ρ S1
noncomputable def wM (a:TwT):TwT:=λρ S=>rb (a ρ S) λx S1=>some (.ok (!x) S1)
noncomputable def zco (a b:TwE):TwE:=λρ S=>rb (bE a ρ S) λx S1=>if x then b ρ S1 else some (.ok (.bl false) S1)
noncomputable def eIf (c:TwT) (a b:TwE):TwE:=λρ S=>rb (c ρ S) λx S1=>if x then a ρ S1 else b ρ S1
noncomputable def evL:List TwE->TwL
 |[]=>λ_ S=>some (.ok [] S)
 |m::r=>λρ S=>rb (m ρ S) λx S1=>rb (evL r ρ S1) λxs S2=>some (.ok (x::xs) S2)
noncomputable def yI (ms:List TwE):TwE:=λρ S=>rb (evL ms ρ S) λxs S1=>some (.ok (.tup xs) S1)
noncomputable def Wt (ms:List TwE):TwE:=λρ S=>rb (evL ms ρ S) λxs S1=>some (.ok (.ref S1.length) (S1++[.lst xs]))
noncomputable def eFn (f:Opn) (ms:List TwE):TwE:=λρ S=>rb (evL ms ρ S) λxs S1=>okP (f xs S1)
noncomputable def zmi (f:Xv->Xv->Option Xv):Op2:=λx y S=>(f x y).map λz=>(z,S)
noncomputable def znw (f:Xv->Option Xv):Xv->Sto->Option (Xv×Sto):=λx S=>(f x).map λz=>(z,S)
theorem ziO {o:Option Xv} {S S':Sto} {z:Xv} (h:(o.map λz=>(z,S))=some (z,S')):o=some z/\S'=S:=by
 cases o with
 |none=>cases h
 |some p=>cases h;exact⟨rfl,rfl⟩
section
variable {K:rF} {E:XK} {F:Fm} {j:List Addr} {H:Hp} {σ:St} {ρ:Rho} {S:Sto}
theorem Po.val {Q:VK} {x:Xv} {v:V} (k:Po K F j H σ ρ E (PoV K Q) (.ok x S)) (En0:En K F j H σ ρ S) (h:Xis K j H x v):Q v H:=k j H Ext.refl En0 v h
theorem zb (i:Nat):RE K E (zlO i) (ze i):=by
 intro F j σ H ρ S r Q En0 e k
 unfold ze at e
 split at e
 ·rename_i x ex
  cases e
  obtain⟨v,e1,e2⟩:=En0.slot i _ ex
  exact⟨v,e1,k.val En0 e2⟩
 ·cases e
theorem zhE {v:V} {x:Xv} (h:∀j H,Xis K j H x v):RE K E (tC v) (eC x):=λEn0 e k=>by
 cases e
 exact k.val En0 (h _ _)
theorem zi (i:Int):RE K E (tC (.int i)) (eC (.int i)):=zhE λ_ _=> .int i
theorem zL (x:Str):RE K E (tC (.str x)) (eC (.str x)):=zhE λ_ _=> .str x
theorem Vc (b:Bool):RE K E (tC (.bl b)) (eC (.bl b)):=zhE λ_ _=> .bl b
theorem zf4:RE K E (tC .non) (eC .non):=zhE λ_ _=> .non
theorem zm {r:R2} {f:Op2} {ta tb:TE} {a b:TwE} (ho:Yr K r f) (ha:RE K E ta a) (hb:RE K E tb b):RE K E (tOp r ta tb) (eOp f a b):=by
 intro F j σ H ρ S r Q En0 e k
 rcases yg e with⟨x,S1,e1,e⟩|⟨c,S1,e1,rfl⟩
 ·refine ha En0 e1 λj1 H1 X1 E1 u hu=> ?_
  rcases yg e with⟨y,S2,e2,e⟩|⟨c,S2,e2,rfl⟩
  ·obtain⟨z,S3,e3,rfl⟩:=YG e
   exact hb E1 e2 λj2 H2 X2 E2 v hv=>ho E2 (hu.mono X2) hv e3 λw j3 H3 X3 E3 hw=>k _ _ (X1.trans (X2.trans X3)) E3 _ hw
  ·exact hb E1 e2 (PX.mono k X1)
 ·exact ha En0 e1 k
theorem ziP {r:V->Hp->VK->Prop} {f:Xv->Sto->Option (Xv×Sto)} {ta:TE} {a:TwE} (ho:znv K r f) (ha:RE K E ta a):RE K E (tUn r ta) (eUn f a):=by
 intro F j σ H ρ S r Q En0 e k
 rcases yg e with⟨x,S1,e1,e⟩|⟨c,S1,e1,rfl⟩
 ·obtain⟨z,S3,e3,rfl⟩:=YG e
  exact ha En0 e1 λj1 H1 X1 E1 u hu=>ho E1 hu e3 λw j3 H3 X3 E3 hw=>k _ _ (X1.trans X3) E3 _ hw
 ·exact ha En0 e1 k
theorem yK {t:TE} {m:TwE} (h:RE K E t m):RT K E (tB t) (bE m):=by
 intro F j σ H ρ S r Q En0 e k
 rcases yg e with⟨x,S1,e1,e⟩|⟨c,S1,e1,rfl⟩
 ·split at e
  ·cases e
   exact h En0 e1 λj1 H1 X1 E1 u hu=>⟨_,hu.bl_inv,k _ _ X1 E1⟩
  ·cases e
 ·exact h En0 e1 k
theorem ya {t:TE} {m:TwE} (h:RE K E t m):RT K E (zlr t) (bE m):=yK h
theorem zac {t u:TT} {a b:TwT} (ha:RT K E t a) (hb:RT K E u b):RT K E (zm3 t u) (zab a b):=by
 intro F j σ H ρ S r Q En0 e k
 rcases yg e with⟨x,S1,e1,e⟩|⟨c,S1,e1,rfl⟩
 ·refine ha En0 e1 λj1 H1 X1 E1=> ?_
  cases x with
  |true=>exact hb E1 e (k.step X1)
  |false=>cases e;exact k _ _ X1 E1
 ·exact ha En0 e1 k
theorem Zc {t u:TT} {a b:TwT} (ha:RT K E t a) (hb:RT K E u b):RT K E (tOr t u) (bOr a b):=by
 intro F j σ H ρ S r Q En0 e k
 rcases yg e with⟨x,S1,e1,e⟩|⟨c,S1,e1,rfl⟩
 ·refine ha En0 e1 λj1 H1 X1 E1=> ?_
  cases x with
  |true=>cases e;exact k _ _ X1 E1
  |false=>exact hb E1 e (k.step X1)
 ·exact ha En0 e1 k
theorem wk {t:TT} {a:TwT} (ha:RT K E t a):RT K E (zm4 t) (wM a):=by
 intro F j σ H ρ S r Q En0 e k
 rcases yg e with⟨x,S1,e1,e⟩|⟨c,S1,e1,rfl⟩
 ·cases e
  exact ha En0 e1 λj1 H1 X1 E1=>k _ _ X1 E1
 ·exact ha En0 e1 k
theorem Vp {ta tb:TE} {a b:TwE} (ha:RE K E ta a) (hb:RE K E tb b):RE K E (zll ta tb) (zco a b):=by
 intro F j σ H ρ S r Q En0 e k
 rcases yg e with⟨x,S1,e1,e⟩|⟨c,S1,e1,rfl⟩
 ·rcases yg e1 with⟨y,S2,e2,e1⟩|⟨c,S2,e2,z⟩
  ·split at e1
   ·cases e1
    refine ha En0 e2 λj1 H1 X1 E1 u hu=>⟨_,hu.bl_inv,?_⟩
    cases x with
    |true=>exact hb E1 e (k.step X1)
    |false=>cases e;exact k _ _ X1 E1 _ (.bl false)
   ·cases e1
  ·cases z
 ·rcases yg e1 with⟨y,S2,e2,e1⟩|⟨c,S2,e2,z⟩
  ·split at e1<;>cases e1
  ·cases z;exact ha En0 e2 k
theorem zdw {ta:TE} {a:TwE} (ha:RE K E ta a):RE K E (zlm ta) (eB (wM (bE a))):=by
 intro F j σ H ρ S r Q En0 e k
 rcases yg e with⟨x,S1,e1,e⟩|⟨c,S1,e1,rfl⟩
 ·rcases yg e1 with⟨y,S2,e2,e1⟩|⟨c,S2,e2,z⟩
  ·rcases yg e2 with⟨z,S3,e3,e2⟩|⟨c,S3,e3,z⟩
   ·split at e2
    ·cases e2;cases e1;cases e
     exact ha En0 e3 λj1 H1 X1 E1 u hu=>⟨_,hu.bl_inv,k _ _ X1 E1 _ (.bl _)⟩
    ·cases e2
   ·cases z
  ·cases z
 ·rcases yg e1 with⟨y,S2,e2,e1⟩|⟨c,S2,e2,z⟩
  ·cases e1
  ·cases z
   rcases yg e2 with⟨z,S3,e3,e2⟩|⟨c,S3,e3,z⟩
   ·split at e2<;>cases e2
   ·cases z;exact ha En0 e3 k
theorem znx {t:TT} {c:TwT} {ta tb:TE} {a b:TwE} (hc:RT K E t c) (ha:RE K E ta a) (hb:RE K E tb b):RE K E (tIf t ta tb) (eIf c a b):=by
 intro F j σ H ρ S r Q En0 e k
 rcases yg e with⟨x,S1,e1,e⟩|⟨c,S1,e1,rfl⟩
 ·refine hc En0 e1 λj1 H1 X1 E1=> ?_
  cases x with
  |true=>exact ha E1 e (k.step X1)
  |false=>exact hb E1 e (k.step X1)
 ·exact hc En0 e1 k
noncomputable def Xv.isNon:Xv->Bool
 | .non=>true
 |_=>false
noncomputable def zhF:Xv->Sto->Option (Xv×Sto):=znw λx=>some (.bl x.isNon)
noncomputable def Tj:Xv->Sto->Option (Xv×Sto):=znw λx=>some (.bl (!x.isNon))
theorem zgT {x:Xv} {v:V} (h:Xis K j H x v):decide (v= .non)=x.isNon:=by cases h<;>simp[Xv.isNon]
theorem ziQ {ta:TE} {a:TwE} (ha:RE K E ta a):RE K E (zm2 ta) (eUn zhF a):=by
 intro F j σ H ρ S r Q En0 e k
 rcases yg e with⟨x,S1,e1,e⟩|⟨c,S1,e1,rfl⟩
 ·cases e
  exact ha En0 e1 λj1 H1 X1 E1 u hu=>k _ _ X1 E1 _ (by rw[zgT hu];exact .bl _)
 ·exact ha En0 e1 k
theorem zkD {ta:TE} {a:TwE} (ha:RE K E ta a):RE K E (zlk ta) (eUn Tj a):=by
 intro F j σ H ρ S r Q En0 e k
 rcases yg e with⟨x,S1,e1,e⟩|⟨c,S1,e1,rfl⟩
 ·cases e
  exact ha En0 e1 λj1 H1 X1 E1 u hu=>k _ _ X1 E1 _ (by rw[zgT hu];exact .bl _)
 ·exact ha En0 e1 k
theorem zk:RL K E zfJ (evL []):=λEn0 e k=>by
 cases e
 exact k _ _ Ext.refl En0 [] .nil
theorem zc {ta:TE} {tr:TA} {m:TwE} {ms:List TwE} (ha:RE K E ta m) (hr:RL K E tr (evL ms)):RL K E (zaw ta tr) (evL (m::ms)):=by
 intro F j σ H ρ S r Q En0 e k
 rcases yg e with⟨x,S1,e1,e⟩|⟨c,S1,e1,rfl⟩
 ·refine ha En0 e1 λj1 H1 X1 E1 u hu=> ?_
  rcases yg e with⟨xs,S2,e2,e⟩|⟨c,S2,e2,rfl⟩
  ·cases e
   exact hr E1 e2 λj2 H2 X2 E2 vs hv=>k _ _ (X1.trans X2) E2 (u::vs) (.cons (hu.mono X2) hv)
  ·exact hr E1 e2 (PX.mono k X1)
 ·exact ha En0 e1 k
theorem Wu:∀{ms:List TwE} {ρ:Rho} {S S':Sto} {xs:List Xv},evL ms ρ S=some (.ok xs S')->xs.length=ms.length
 |[],_,_,_,_,h=>by cases h;rfl
 |m::ms,ρ,S,S',xs,h=>by
  rcases yg h with⟨x,S1,e1,h⟩|⟨c,S1,e1,z⟩
  ·rcases yg h with⟨ys,S2,e2,h⟩|⟨c,S2,e2,z⟩
   ·cases h
    simp[Wu e2]
   ·cases z
  ·cases z
theorem yl {t:TA} {ms:List TwE} (h:RL K E t (evL ms)) (hl:ms.length<=1000:=by simp):RE K E (znh t) (yI ms):=by
 intro F j σ H ρ S r Q En0 e k
 rcases yg e with⟨xs,S1,e1,e⟩|⟨c,S1,e1,rfl⟩
 ·cases e
  refine h En0 e1 λj1 H1 X1 E1 vs hv=>⟨?_,λp hp=> ?_⟩
  ·rw[hv.len,Wu e1]
   exact si hl ∅
  ·obtain⟨E2,X2⟩:=E1.new (o:= .tup vs) hp
   exact k _ _ (X1.trans X2) E2 _ (.tup yW (hv.mono X2))
 ·exact h En0 e1 k
theorem En.lst {xs:List Xv} {vs:List V} {p:Addr} (En0:En K F j H σ ρ S) (hv:yB K j H xs vs) (hp:H p=none):En K F (j++[p]) (upd H p (.lst vs)) σ ρ (S++[.lst xs])/\Ext j H (j++[p]) (upd H p (.lst vs))/\Xis K (j++[p]) (upd H p (.lst vs)) (.ref S.length) (.ref p):=by
 have X:Ext j H (j++[p]) (upd H p (.lst vs)):=⟨λn a e=>by rw[su (rH.1 e).1];exact e,YF.same (wv hp)⟩
 obtain⟨E1,_⟩:=En0.cell (o:= .lst vs) (c:= .lst xs) hp ⟨vs,yW,hv.mono X⟩
 exact⟨E1,X,.ref (by rw[<-En0.jl];simp)⟩
theorem Zd {t:TA} {ms:List TwE} (h:RL K E t (evL ms)) (hl:ms.length<=1000:=by simp):RE K E (zni t) (Wt ms):=by
 intro F j σ H ρ S r Q En0 e k
 rcases yg e with⟨xs,S1,e1,e⟩|⟨c,S1,e1,rfl⟩
 ·cases e
  refine h En0 e1 λj1 H1 X1 E1 vs hv=>⟨?_,λp hp=> ?_⟩
  ·rw[hv.len,Wu e1]
   exact si hl ∅
  ·obtain⟨E2,X2,h2⟩:=E1.lst hv hp
   exact k _ _ (X1.trans X2) E2 _ h2
 ·exact h En0 e1 k
theorem yu {t:TA} {ms:List TwE} {r:List V->Hp->VK->Prop} {f:Opn} (hr:Th K r f) (h:RL K E t (evL ms)):RE K E (tCB r t) (eFn f ms):=by
 intro F j σ H ρ S r Q En0 e k
 rcases yg e with⟨xs,S1,e1,e⟩|⟨c,S1,e1,rfl⟩
 ·obtain⟨z,S3,e3,rfl⟩:=YG e
  exact h En0 e1 λj1 H1 X1 E1 vs hv=>hr E1 hv e3 λw j3 H3 X3 E3 hw=>k _ _ (X1.trans X3) E3 _ hw
 ·exact h En0 e1 k
end
noncomputable def yD (S:Sto):Xv->Option (List Xv)
 | .ref n=>match S[n]? with
  |some (.lst xs)=>some xs
  |some (.frz xs)=>some xs
  |_=>none
 |_=>none
noncomputable def wN (S:Sto) (x:Xv):Option (List Xv):=match x.tupOf with
 |some xs=>some xs
 |none=>yD S x
noncomputable def Tk (S:Sto):Xv->Option (Nat×List Xv)
 | .ref n=>match S[n]? with
  |some (.lst xs)=>some (n,xs)
  |_=>none
 |_=>none
section
variable {K:rF} {E:XK} {F:Fm} {j:List Addr} {H:Hp} {σ:St} {ρ:Rho} {S:Sto} {x:Xv} {v:V}
theorem En.lstAt {xs:List Xv} (E0:En K F j H σ ρ S) (hx:Xis K j H x v) (h:L2.yD S x=some xs):∃a vs,v= .ref a/\SqX K H a vs/\yB K j H xs vs:=by
 cases x<;>simp only[L2.yD,reduceCtorEq] at h
 obtain⟨a,rfl,hj⟩:=hx.ref_inv
 split at h
 ·cases h
  obtain⟨vs,e1,e2⟩:=E0.cel _ _ _ (by assumption) hj
  exact⟨a,vs,rfl,SqX.of e1,e2⟩
 ·cases h
  obtain⟨vs,e1,e2⟩:=E0.cel _ _ _ (by assumption) hj
  refine⟨a,vs,rfl,?_,e2⟩
  rcases e1 with⟨o,e1⟩|e1
  ·exact .inl (.inr ⟨o,e1⟩)
  ·exact e1 H
 ·cases h
theorem En.seqAt {xs:List Xv} (E0:En K F j H σ ρ S) (hx:Xis K j H x v) (h:L2.wN S x=some xs):∃a vs,v= .ref a/\(SqX K H a vs\/SqT K H a vs)/\yB K j H xs vs:=by
 unfold L2.wN at h
 split at h
 ·cases h
  obtain⟨a,vs,e1,e2,e3⟩:=hx.tupO (by assumption)
  exact⟨a,vs,e1,.inr e2,e3⟩
 ·obtain⟨a,vs,e1,e2,e3⟩:=E0.lstAt hx h
  exact⟨a,vs,e1,.inl e2,e3⟩
theorem zcU {n:Nat} {xs:List Xv} (h:Tk S x=some (n,xs)):x= .ref n/\S[n]? =some (.lst xs):=by
 cases x<;>simp only[Tk,reduceCtorEq] at h
 split at h
 ·cases h;exact⟨rfl,by assumption⟩
 ·cases h
theorem En.wl {n:Nat} {xs:List Xv} (E0:En K F j H σ ρ S) (hx:Xis K j H x v) (h:Tk S x=some (n,xs)):∃a vs,v= .ref a/\j[n]? =some a/\H a=some (.lst vs)/\yB K j H xs vs:=by
 obtain⟨rfl,hs⟩:=zcU h
 obtain⟨a,rfl,hj⟩:=hx.ref_inv
 obtain⟨vs,e1,e2⟩:=E0.cel _ _ _ hs hj
 exact⟨a,vs,rfl,hj,e1,e2⟩
theorem En.wr {n:Nat} {xs ys:List Xv} {ws:List V} {a:Addr} (E0:En K F j H σ ρ S) (h:Tk S x=some (n,xs)) (hj:j[n]? =some a) (hw:yB K j H ys ws):En K F j (upd H a (.lst ws)) σ ρ (S.set n (.lst ys))/\Ext j H j (upd H a (.lst ws)):=
 E0.write (zcU h).2 rfl hj rfl λX=>⟨ws,yW,hw.mono X⟩
theorem tyL {a:Addr} {vs:List V} (h:SqL K H a vs):tyV K "list" (.ref a) H:= .inl ⟨rfl,vs,h⟩
noncomputable def zy:Op2:=λx y S=>match x.tupOf,y with
 |some xs,.int i=>(atI xs i).map λz=>(z,S)
 |_,_=>none
noncomputable def zaI:Op2:=λx y S=>match yD S x,y with
 |some xs,.int i=>(atI xs i).map λz=>(z,S)
 |_,_=>none
noncomputable def zeO:Op2:=zmi λx y=>match x,y with
 | .str z,.int i=>if z.length<=sizeLine then (atI z.cps.toList i).map λc=> .str ⟨#[c]⟩ else none
 |_,_=>none
theorem zu:Yr K (zko K) zy:=by
 intro F j σ H ρ S S' x y z u v Q E0 hx hy h k
 unfold zy at h
 split at h
 ·rename_i xs i ex
  cases e:atI xs i with
  |none=>rw[e] at h;cases h
  |some z'=>
   rw[e] at h
   cases h
   obtain⟨a,vs,rfl,h1,h2⟩:=hx.tupO ex
   obtain⟨w,e1,e2⟩:=h2.at_ e
   exact⟨a,vs,_,w,rfl,hy.int_inv,h1,e1,k _ _ _ Ext.refl E0 e2⟩
 ·cases h
theorem zad:Yr K (zkn K) zaI:=by
 intro F j σ H ρ S S' x y z u v Q E0 hx hy h k
 unfold zaI at h
 split at h
 ·rename_i xs i ex
  cases e:atI xs i with
  |none=>rw[e] at h;cases h
  |some z'=>
   rw[e] at h
   cases h
   obtain⟨a,vs,rfl,h1,h2⟩:=E0.lstAt hx ex
   obtain⟨w,e1,e2⟩:=h2.at_ e
   exact⟨a,vs,_,w,rfl,hy.int_inv,h1.sql,e1,k _ _ _ Ext.refl E0 e2⟩
 ·cases h
theorem zf5:Yr K zl8 zeO:=by
 intro F j σ H ρ S S' x y z u v Q E0 hx hy h k
 obtain⟨h',rfl⟩:=ziO h
 dsimp only at h'
 split at h'
 ·split at h'
  ·rename_i zz i hz
   cases e:atI zz.cps.toList i with
   |none=>rw[e] at h';cases h'
   |some c=>
    rw[e] at h'
    cases h'
    exact⟨zz,i,c,hx.str_inv,hy.int_inv,hz,e,k _ _ _ Ext.refl E0 (.str _)⟩
  ·cases h'
 ·cases h'
noncomputable def zeP:Op2:=λx y S=>match wN S x,y with
 |some xs,.int i=>(atI xs i).map λz=>(z,S)
 |_,_=>none
theorem zdx:Yr K (rIx K) zeP:=by
 intro F j σ H ρ S S' x y z u v Q E0 hx hy h k
 unfold zeP at h
 split at h
 ·rename_i xs i ex
  cases e:atI xs i with
  |none=>rw[e] at h;cases h
  |some z'=>
   rw[e] at h
   cases h
   obtain⟨a,vs,rfl,h1,h2⟩:=E0.seqAt hx ex
   obtain⟨w,e1,e2⟩:=h2.at_ e
   rcases h1 with h1|h1
   ·exact .inl ⟨a,vs,_,w,rfl,hy.int_inv,h1.sql,e1,k _ _ _ Ext.refl E0 e2⟩
   ·exact .inr (.inl ⟨a,vs,_,w,rfl,hy.int_inv,h1,e1,k _ _ _ Ext.refl E0 e2⟩)
 ·cases h
noncomputable def oNo:TwO:=λ_ S=>some (.ok none S)
noncomputable def Yn (m:TwE):TwO:=λρ S=>rb (m ρ S) λx S1=>match x with
 | .int i=>some (.ok (some i) S1)
 |_=>none
theorem zaz:RO K E zgL oNo:=λE0 e k=>by
 cases e
 exact k _ _ Ext.refl E0
theorem ZJ {t:TE} {m:TwE} (h:RE K E t m):RO K E (zlv t) (Yn m):=by
 intro F j σ H ρ S r Q En0 e k
 rcases yg e with⟨x,S1,e1,e⟩|⟨c,S1,e1,rfl⟩
 ·split at e
  ·cases e
   exact h En0 e1 λj1 H1 X1 E1 u hu=>⟨_,hu.int_inv,k _ _ X1 E1⟩
  ·cases e
 ·exact h En0 e1 k
noncomputable def Wv {α:Type} (xs:List α) (lo hi:Option Int):List α:=(xs.drop (HT.sIx xs.length 0 lo)).take (HT.sIx xs.length xs.length hi-HT.sIx xs.length 0 lo)
theorem yB.cut {xs:List Xv} {vs:List V} (h:yB K j H xs vs) (lo hi:Option Int):yB K j H (Wv xs lo hi) (zcf vs lo hi):=by
 unfold zcf Wv
 rw[h.len]
 exact (h.drop _).take _
noncomputable def eSl (f:Xv->Option Int->Option Int->Sto->Option (Xv×Sto)) (m:TwE) (lo hi:TwO):TwE:=λρ S=>rb (m ρ S) λx S1=>rb (lo ρ S1) λy S2=>rb (hi ρ S2) λz S3=>okP (f x y z S3)
def zgU (K:rF) (r:V->Option Int->Option Int->Hp->VK->Prop) (f:Xv->Option Int->Option Int->Sto->Option (Xv×Sto)):Prop:=∀{F:Fm} {j:List Addr} {σ:St} {H:Hp} {ρ:Rho} {S S':Sto} {x z:Xv} {lo hi:Option Int} {u:V} {Q:VK},En K F j H σ ρ S->Xis K j H x u->f x lo hi S=some (z,S')->(∀w j' H',Ext j H j' H'->En K F j' H' σ ρ S'->Xis K j' H' z w->Q w H')->r u lo hi H Q
theorem ziR {r:V->Option Int->Option Int->Hp->VK->Prop} {f:Xv->Option Int->Option Int->Sto->Option (Xv×Sto)} {te:TE} {tl th:TO} {m:TwE} {lo hi:TwO} (ho:zgU K r f) (hm:RE K E te m) (hl:RO K E tl lo) (hh:RO K E th hi):RE K E (tSl r te tl th) (eSl f m lo hi):=by
 intro F j σ H ρ S r Q En0 e k
 rcases yg e with⟨x,S1,e1,e⟩|⟨c,S1,e1,rfl⟩
 ·refine hm En0 e1 λj1 H1 X1 E1 u hu=> ?_
  rcases yg e with⟨y,S2,e2,e⟩|⟨c,S2,e2,rfl⟩
  ·refine hl E1 e2 λj2 H2 X2 E2=> ?_
   rcases yg e with⟨z,S3,e3,e⟩|⟨c,S3,e3,rfl⟩
   ·obtain⟨w,S4,e4,rfl⟩:=YG e
    exact hh E2 e3 λj3 H3 X3 E3=>ho E3 (hu.mono (X2.trans X3)) e4 λw j4 H4 X4 E4 hw=>k _ _ (X1.trans (X2.trans (X3.trans X4))) E4 _ hw
   ·exact hh E2 e3 (PX.mono k (X1.trans X2))
  ·exact hl E1 e2 (PX.mono k X1)
 ·exact hm En0 e1 k
noncomputable def zf6:Xv->Option Int->Option Int->Sto->Option (Xv×Sto):=λx lo hi S=>(yD S x).map λxs=>(.ref S.length,S++[.lst (Wv xs lo hi)])
theorem zny:zgU K (zij K) zf6:=by
 intro F j σ H ρ S S' x z lo hi u Q E0 hx h k
 unfold zf6 at h
 cases e:yD S x with
 |none=>rw[e] at h;cases h
 |some xs=>
  rw[e] at h
  cases h
  obtain⟨a,vs,rfl,h1,h2⟩:=E0.lstAt hx e
  refine⟨a,vs,rfl,h1.sql,λp hp=> ?_⟩
  obtain⟨E1,X1,h3⟩:=E0.lst (h2.cut lo hi) hp
  exact k _ _ _ X1 E1 h3
noncomputable def zbs:Xv->Option Int->Option Int->Sto->Option (Xv×Sto):=λx lo hi S=>match x with
 | .str z=>if z.length<=sizeLine then some (.str (Txt.slice z lo hi),S) else none
 |_=>none
theorem znz:zgU K zkv zbs:=by
 intro F j σ H ρ S S' x z lo hi u Q E0 hx h k
 unfold zbs at h
 split at h
 ·split at h
  ·cases h
   exact⟨_,hx.str_inv,by assumption,k _ _ _ Ext.refl E0 (.str _)⟩
  ·cases h
 ·cases h
noncomputable def zaJ:Xv->Option Int->Option Int->Sto->Option (Xv×Sto):=λx lo hi S=>match x with
 | .tup xs=>some (.tup (Wv xs lo hi),S)
 |_=>none
theorem zhG {α:Type} {xs:List α} {lo hi:Option Int} (h:HT.sIx xs.length 0 lo=0/\HT.sIx xs.length xs.length hi=xs.length):Wv xs lo hi=xs:=by
 unfold Wv
 rw[h.1,h.2]
 simp
theorem znA:zgU K (zkB K) zaJ:=by
 intro F j σ H ρ S S' x z lo hi u Q E0 hx h k
 unfold zaJ at h
 split at h
 ·rename_i xs
  cases h
  obtain⟨a,vs,rfl,h1,h2⟩:=hx.tup_inv
  refine⟨a,vs,rfl,SqT.of h1,λhw=>k _ _ _ Ext.refl E0 ?_,λ_ p hp=> ?_⟩
  ·rw[h2.len] at hw
   rw[zhG hw]
   exact hx
  ·obtain⟨E1,X1⟩:=E0.new (o:= .tup (zcf vs lo hi)) hp
   exact k _ _ _ X1 E1 (.tup yW ((h2.cut lo hi).mono X1))
 ·cases h
theorem zmj {te:TE} {tl th:TO} {m:TwE} {lo hi:TwO} (hm:RE K E te m) (hl:RO K E tl lo) (hh:RO K E th hi):RE K E (tSl (zij K) te tl th) (eSl zf6 m lo hi):= @ziR K E (zij K) zf6 te tl th m lo hi (@zny K) hm hl hh
theorem zf7 {te:TE} {tl th:TO} {m:TwE} {lo hi:TwO} (hm:RE K E te m) (hl:RO K E tl lo) (hh:RO K E th hi):RE K E (tSl zkv te tl th) (eSl zbs m lo hi):= @ziR K E zkv zbs te tl th m lo hi (@znz K) hm hl hh
theorem zbt {te:TE} {tl th:TO} {m:TwE} {lo hi:TwO} (hm:RE K E te m) (hl:RO K E tl lo) (hh:RO K E th hi):RE K E (tSl (zkB K) te tl th) (eSl zaJ m lo hi):= @ziR K E (zkB K) zaJ te tl th m lo hi (@znA K) hm hl hh
abbrev OpM:=Xv->List Xv->Sto->Option (Xv×Sto)
def zhH (K:rF) (r:V->List V->Hp->VK->Prop) (f:OpM):Prop:=∀{F:Fm} {j:List Addr} {σ:St} {H:Hp} {ρ:Rho} {S S':Sto} {x z:Xv} {ys:List Xv} {u:V} {vs:List V} {Q:VK},En K F j H σ ρ S->Xis K j H x u->yB K j H ys vs->f x ys S=some (z,S')->(∀w j' H',Ext j H j' H'->En K F j' H' σ ρ S'->Xis K j' H' z w->Q w H')->r u vs H Q
noncomputable def eMt (f:OpM) (o:TwE) (ms:List TwE):TwE:=λρ S=>rb (o ρ S) λx S1=>(yD S1 x).bind λ_=>rb (evL ms ρ S1) λys S2=>okP (f x ys S2)
theorem Vd {r:V->List V->Hp->VK->Prop} {f:OpM} {to:TE} {t:TA} {o:TwE} {ms:List TwE} (hr:zhH K r f) (ho:RE K E to o) (ht:RL K E t (evL ms)):RE K E (tBM K "list" r to t) (eMt f o ms):=by
 intro F j σ H ρ S r Q En0 e k
 rcases yg e with⟨x,S1,e1,e⟩|⟨c,S1,e1,rfl⟩
 ·refine ho En0 e1 λj1 H1 X1 E1 u hu=> ?_
  cases el:L2.yD S1 x with
  |none=>rw[el] at e;cases e
  |some l=>
   rw[el] at e
   obtain⟨a,vs,rfl,h1,_⟩:=E1.lstAt hu el
   refine⟨tyL h1.sql,?_⟩
   rcases yg e with⟨ys,S2,e2,e⟩|⟨c,S2,e2,rfl⟩
   ·obtain⟨z,S3,e3,rfl⟩:=YG e
    exact ht E1 e2 λj2 H2 X2 E2 ws hw=>hr E2 (hu.mono X2) hw e3 λw j3 H3 X3 E3 hz=>k _ _ (X1.trans (X2.trans X3)) E3 _ hz
   ·exact ht E1 e2 (PX.mono k X1)
 ·exact ho En0 e1 k
theorem ziS {r:V->List V->Hp->VK->Prop} {f:OpM} {to:TE} {o:TwE} (hr:zhH K r f) (ho:RE K E to o):RE K E (znl K "list" r to) (eMt f o []):=by
 intro F j σ H ρ S r Q En0 e k
 exact Vd hr ho zk En0 e k
noncomputable def va:OpM:=λx ys S=>match Tk S x,ys with
 |some (n,xs),[y]=>if xs.length<sizeLine then some (.non,S.set n (.lst (xs++[y]))) else none
 |_,_=>none
theorem vN:zhH K zgO va:=by
 intro F j σ H ρ S S' x z ys u vs Q E0 hx hy h k
 unfold va at h
 split at h
 ·rename_i n xs y e
  split at h
  ·rename_i hl
   cases h
   obtain⟨a,ws,rfl,hj,h1,h2⟩:=E0.wl hx e
   obtain⟨w,rfl,hw⟩:=hy.d1
   obtain⟨E1,X1⟩:=E0.wr e hj (h2.append (.one hw))
   exact⟨a,ws,w,rfl,rfl,h1,by rw[h2.len];exact hl,k _ _ _ X1 E1 .non⟩
  ·cases h
 ·cases h
noncomputable def zdy:OpM:=λx ys S=>match Tk S x,ys with
 |some (n,xs),[]=>(xs[xs.length-1]?).map λy=>(y,S.set n (.lst xs.dropLast))
 |_,_=>none
theorem ziT:zhH K znm zdy:=by
 intro F j σ H ρ S S' x z ys u vs Q E0 hx hy h k
 unfold zdy at h
 split at h
 ·rename_i n xs e
  cases e1:xs[xs.length-1]? with
  |none=>rw[e1] at h;cases h
  |some y=>
   rw[e1] at h
   cases h
   obtain⟨a,ws,rfl,hj,h1,h2⟩:=E0.wl hx e
   obtain rfl:=hy.nil_inv
   obtain⟨w,f1,f2⟩:=h2.get e1
   obtain⟨E1,X1⟩:=E0.wr e hj h2.dropLast
   exact⟨a,ws,w,rfl,rfl,h1,by rw[h2.len];exact f1,k _ _ _ X1 E1 (f2.mono X1)⟩
 ·cases h
noncomputable def Ys:OpM:=λx ys S=>match Tk S x,ys with
 |some (n,xs),[y]=>(wN S y).bind λzs=>if xs.length+zs.length<=sizeLine then some (.non,S.set n (.lst (xs++zs))) else none
 |_,_=>none
theorem zcV:zhH K (zeL K) Ys:=by
 intro F j σ H ρ S S' x z ys u vs Q E0 hx hy h k
 unfold Ys at h
 split at h
 ·rename_i n xs y e
  cases e1:wN S y with
  |none=>rw[e1] at h;cases h
  |some zs=>
   rw[e1] at h
   dsimp only[A7] at h
   split at h
   ·rename_i hl
    cases h
    obtain⟨a,ws,rfl,hj,h1,h2⟩:=E0.wl hx e
    obtain⟨w,rfl,hw⟩:=hy.d1
    obtain⟨b,ts,rfl,g1,g2⟩:=E0.seqAt hw e1
    obtain⟨E1,X1⟩:=E0.wr e hj (h2.append g2)
    exact⟨a,b,ws,ts,rfl,rfl,h1,g1,by rw[h2.len,g2.len];exact hl,k _ _ _ X1 E1 .non⟩
   ·cases h
 ·cases h
noncomputable def zD (a b:TwS):TwS:=λρ S=>match a ρ S with
 |some (.nx ρ1 S1)=>b ρ1 S1
 |r=>r
noncomputable def zT:TwS:=λρ S=>some (.nx ρ S)
noncomputable def zf8:TwS:=λ_ _=>none
noncomputable def zO (m:TwE) (g:TwG):TwS:=λρ S=>sb (m ρ S) λx S1=>sb (g x ρ S1) λρ1 S2=>some (.nx ρ1 S2)
noncomputable def ZR (m:TwE):TwS:=λρ S=>sb (m ρ S) λ_ S1=>some (.nx ρ S1)
noncomputable def ye (m:TwE):TwS:=λρ S=>sb (m ρ S) λx S1=>some (.rt x S1)
noncomputable def sIf (c:TwT) (a b:TwS):TwS:=λρ S=>sb (c ρ S) λx S1=>if x then a ρ S1 else b ρ S1
noncomputable def turn (r:Option Fl) (go:Rho->Sto->Option Fl):Option Fl:=match r with
 |some (.nx ρ S)=>go ρ S
 |some (.ct ρ S)=>go ρ S
 |some (.bk ρ S)=>some (.nx ρ S)
 |r=>r
noncomputable def Uw (get:Sto->Option (List Xv)) (g:TwG) (b:TwS):Nat->Nat->Rho->Sto->Option Fl
 |0,_,_,_=>none
 |f+1,i,ρ,S=>(get S).bind λxs=>match xs[i]? with
  |none=>if i=xs.length then some (.nx ρ S) else none
  |some x=>sb (g x ρ S) λρ1 S1=>turn (b ρ1 S1) λρ2 S2=>Uw get g b f (i+1) ρ2 S2
noncomputable def YH (m:TwI) (g:TwG) (b:TwS):TwS:=λρ S=>sb (m ρ S) λget S1=>(get S1).bind λxs=>Uw get g b (xs.length+1) 0 ρ S1
noncomputable def Zu (c:TwT) (b:TwS):Nat->Rho->Sto->Option Fl
 |0,_,_=>none
 |n+1,ρ,S=>sb (c ρ S) λx S1=>if x then turn (b ρ S1) λρ2 S2=>Zu c b n ρ2 S2 else some (.nx ρ S1)
noncomputable def sWh (n:Nat) (c:TwT) (b:TwS):TwS:=λρ S=>Zu c b n ρ S
noncomputable def gN (i:Nat):TwG:=λx ρ S=>some (.ok (ρ.set i (some x)) S)
noncomputable def zeQ:zf3:=λxs ρ S=>match xs with
 |[]=>some (.ok ρ S)
 |_=>none
noncomputable def Vq (g:TwG) (gs:zf3):zf3:=λxs ρ S=>match xs with
 |x::r=>rb (g x ρ S) λρ1 S1=>gs r ρ1 S1
 |_=>none
noncomputable def gT (n:Nat) (gs:zf3):TwG:=λx ρ S=>x.tupOf.bind λl=>if l.length=n then gs l ρ S else none
noncomputable def zbu (o mi:TwE):TwG:=λd ρ S=>rb (o ρ S) λx S1=>rb (mi ρ S1) λy S2=>match Tk S2 x,y with
 |some (n,xs),.int i=>(ixN xs.length i).map λk=> .ok ρ (S2.set n (.lst (xs.set k d)))
 |_,_=>none
theorem zp {i:Nat}:RG K E (zgG i) (gN i):=λE0 hx e k=>by
 cases e
 exact k _ _ _ Ext.refl (E0.set hx)
theorem zdz:RGs K E zm9 zeQ:=by
 intro F j σ H ρ S r xs vs R E0 hv e k
 unfold zeQ at e
 split at e
 ·cases e
  obtain rfl:=hv.nil_inv
  exact⟨rfl,k _ _ _ Ext.refl E0⟩
 ·cases e
theorem XZ {t:TG} {u:TGs} {g:TwG} {gs:zf3} (h1:RG K E t g) (h2:RGs K E u gs):RGs K E (zlp t u) (Vq g gs):=by
 intro F j σ H ρ S r xs vs R E0 hv e k
 unfold Vq at e
 split at e
 ·obtain⟨w,ws,rfl,hw,dX⟩:=hv.cons_inv
  rcases yg e with⟨ρ1,S1,e1,e⟩|⟨c,S1,e1,rfl⟩
  ·exact⟨w,ws,rfl,h1 E0 hw e1 λσ1 j1 H1 X1 E1=>h2 E1 (dX.mono X1) e (k.step X1)⟩
  ·exact⟨w,ws,rfl,h1 E0 hw e1 k⟩
 ·cases e
theorem zf9 {n:Nat} {t:TGs} {gs:zf3} (h:RGs K E t gs):RG K E (zlS K n t) (gT n gs):=by
 intro F j σ H ρ S r x v R E0 hx e k
 unfold gT at e
 cases ex:x.tupOf with
 |none=>rw[ex] at e;cases e
 |some l=>
  rw[ex] at e
  dsimp only[A7] at e
  split at e
  ·rename_i hn
   obtain⟨a,vs,rfl,h1,h2⟩:=hx.tupO ex
   exact⟨a,vs,rfl,h1,by rw[h2.len];exact hn,h E0 h2 e k⟩
  ·cases e
theorem zbv {to ti:TE} {o mi:TwE} (ho:RE K E to o) (hi:RE K E ti mi):RG K E (zna to ti zlw) (zbu o mi):=by
 intro F j σ H ρ S r d vd R E0 hd e k
 rcases yg e with⟨x,S1,e1,e⟩|⟨c,S1,e1,rfl⟩
 ·refine ho E0 e1 λj1 H1 X1 E1 u hu=> ?_
  rcases yg e with⟨y,S2,e2,e⟩|⟨c,S2,e2,rfl⟩
  ·refine hi E1 e2 λj2 H2 X2 E2 w hw=> ?_
   split at e
   ·rename_i n xs i ex
    cases e3:ixN xs.length i with
    |none=>rw[e3] at e;cases e
    |some m=>
     rw[e3] at e
     cases e
     obtain⟨a,vs,rfl,hj,h1,h2⟩:=E2.wl (hu.mono X2) ex
     obtain⟨E3,X3⟩:=E2.wr ex hj (h2.set (hd.mono (X1.trans X2)) m)
     exact⟨a,vs,i,m,rfl,hw.int_inv,h1,by rw[h2.len];exact e3,k _ _ _ (X1.trans (X2.trans X3)) E3⟩
   ·cases e
  ·exact hi E1 e2 (PX.mono k X1)
 ·exact ho E0 e1 k
theorem zN:RS K E zln zT:=λE0 e k=>by
 cases e
 exact k _ _ _ Ext.refl E0
theorem zeR {t:TS}:RS K E t zf8:=λ_ e _=>by cases e
theorem zr {t u:TS} {a b:TwS} (ha:RS K E t a) (hb:RS K E u b):RS K E (zm5 t u) (zD a b):=by
 intro F j D' σ H ρ S fl E0 e k
 unfold zD at e
 split at e
 ·rename_i ρ1 S1 e1
  exact ha (D':={D' with nx:=u D'}) E0 e1 λσ1 j1 H1 X1 E1=>hb E1 e (k.step X1)
 ·rename_i hn
  refine ha (D':={D' with nx:=u D'}) E0 e ?_
  cases fl with
  |nx ρ1 S1=>exact absurd e (hn ρ1 S1)
  |bk ρ1 S1=>exact k
  |ct ρ1 S1=>exact k
  |rt x S1=>exact k
  |ex c S1=>exact k
theorem zA {te:TE} {g:TG} {m:TwE} {g':TwG} (h:RE K E te m) (hg:RG K E g g'):RS K E (zlU te g) (zO m g'):=by
 intro F j D' σ H ρ S fl E0 e k
 rcases wE e with⟨x,S1,e1,e⟩|⟨c,S1,e1,rfl⟩
 ·refine h E0 e1 λj1 H1 X1 E1 u hu=> ?_
  rcases wE e with⟨ρ1,S2,e2,e⟩|⟨c,S2,e2,rfl⟩
  ·cases e
   exact hg E1 hu e2 λσ2 j2 H2 X2 E2=>k _ _ _ (X1.trans X2) E2
  ·exact hg E1 hu e2 (PX.mono k X1)
 ·exact h E0 e1 k
theorem vz {te:TE} {m:TwE} (h:RE K E te m):RS K E (zlo te) (ZR m):=by
 intro F j D' σ H ρ S fl E0 e k
 rcases wE e with⟨x,S1,e1,e⟩|⟨c,S1,e1,rfl⟩
 ·cases e
  exact h E0 e1 λj1 H1 X1 E1 u hu=>k _ _ _ X1 E1
 ·exact h E0 e1 k
theorem zI {te:TE} {m:TwE} (h:RE K E te m):RS K E (zm6 te) (ye m):=by
 intro F j D' σ H ρ S fl E0 e k
 rcases wE e with⟨x,S1,e1,e⟩|⟨c,S1,e1,rfl⟩
 ·cases e
  exact h E0 e1 λj1 H1 X1 E1 u hu=>k _ _ _ _ _ X1 E1 hu
 ·exact h E0 e1 k
theorem yc {c:TT} {t u:TS} {m:TwT} {a b:TwS} (hc:RT K E c m) (ha:RS K E t a) (hb:RS K E u b):RS K E (zm7 c t u) (sIf m a b):=by
 intro F j D' σ H ρ S fl E0 e k
 rcases wE e with⟨x,S1,e1,e⟩|⟨c,S1,e1,rfl⟩
 ·refine hc E0 e1 λj1 H1 X1 E1=> ?_
  cases x with
  |true=>exact ha E1 e (k.step X1)
  |false=>exact hb E1 e (k.step X1)
 ·exact hc E0 e1 k
theorem zcW {r:Option Fl} {go:Rho->Sto->Option Fl} {fl:Fl} (h:turn r go=some fl):∃f,r=some f/\((∃ρ S,(f= .nx ρ S\/f= .ct ρ S)/\go ρ S=some fl)\/(∃ρ S,f= .bk ρ S/\fl= .nx ρ S)\/(f=fl/\((∃x S,fl= .rt x S)\/∃c S,fl= .ex c S))):=by
 unfold turn at h
 split at h
 ·exact⟨_,rfl,.inl ⟨_,_,.inl rfl,h⟩⟩
 ·exact⟨_,rfl,.inl ⟨_,_,.inr rfl,h⟩⟩
 ·cases h;exact⟨_,rfl,.inr (.inl ⟨_,_,rfl,rfl⟩)⟩
 ·rename_i n1 n2 n3
  refine⟨fl,h,.inr (.inr ⟨rfl,?_⟩)⟩
  cases fl with
  |nx ρ S=>exact absurd h (n1 ρ S)
  |ct ρ S=>exact absurd h (n2 ρ S)
  |bk ρ S=>exact absurd h (n3 ρ S)
  |rt x S=>exact .inl ⟨x,S,rfl⟩
  |ex c S=>exact .inr ⟨c,S,rfl⟩
theorem wO {wi:TI} {g:TG} {tb:TS} {m:TwI} {g':TwG} {b:TwS} (hi:RI K E wi m) (hg:RG K E g g') (hb:RS K E tb b):RS K E (znb wi g tb) (YH m g' b):=by
 intro F j D' σ H ρ S fl E0 e k
 rcases wE e with⟨get,S1,e1,e⟩|⟨c,S1,e1,rfl⟩
 ·refine hi E0 e1 λj1 H1 X1 E1 J ok=> ?_
  cases eg:get S1 with
  |none=>rw[eg] at e;cases e
  |some xs=>
   rw[eg] at e
   refine⟨λi n σ H=>∃j2 ρ2 S2,Ext j1 H1 j2 H/\En K F j2 H σ ρ2 S2/\Uw get g' b n i ρ2 S2=some fl,⟨xs.length+1,j1,ρ,S1,Ext.refl,E1,e⟩,?_⟩
   rintro i n σ2 H2 ⟨j2,ρ2,S2,X2,E2,e2⟩
   cases n with
   |zero=>cases e2
   |succ n=>
    unfold Uw at e2
    cases iQ:get S2 with
    |none=>rw[iQ] at e2;cases e2
    |some ys=>
     rw[iQ] at e2
     dsimp only[A7] at e2
     obtain⟨go,stop⟩:=ok i X2 E2 iQ
     split at e2
     ·split at e2
      ·rename_i hl
       cases e2
       exact .inl ⟨stop hl,k _ _ _ (X1.trans X2) E2⟩
      ·cases e2
     ·rename_i x ex
      obtain⟨g1,g2⟩:=go x ex
      refine .inr ⟨g1,λσ' H'=>∃j3 ρ3 S3,Ext j1 H1 j3 H'/\En K F j3 H' σ' ρ3 S3/\Uw get g' b n (i+1) ρ3 S3=some fl,λ_ _ z=>⟨n,tU _,z⟩,λv H3 hy=> ?_⟩
      obtain⟨Sm,hv⟩:=g2 v H3 hy
      have E3:=E2.heap Sm
      have X3:Ext j2 H2 j2 H3:=Ext.same Sm
      rcases wE e2 with⟨ρ4,S4,e4,e2⟩|⟨c,S4,e4,rfl⟩
      ·refine hg E3 hv e4 λσ4 j4 H4 X4 E4=> ?_
       obtain⟨f5,e5,h5⟩:=zcW e2
       refine hb E4 e5 ?_
       have X14:=X2.trans (X3.trans X4)
       rcases h5 with⟨ρ6,S6,h6,e6⟩|⟨ρ6,S6,rfl,rfl⟩|⟨rfl,h6⟩
       ·rcases h6 with rfl|rfl
        ·exact λσ5 j5 H5 X5 E5=>⟨j5,ρ6,S6,X14.trans X5,E5,e6⟩
        ·exact λσ5 j5 H5 X5 E5=>⟨j5,ρ6,S6,X14.trans X5,E5,e6⟩
       ·exact λσ5 j5 H5 X5 E5=>k _ _ _ (X1.trans (X14.trans X5)) E5
       ·rcases h6 with⟨x6,S6,rfl⟩|⟨c6,S6,rfl⟩
        ·exact λv σ5 ρ5 j5 H5 X5 E5 hv=>k v σ5 ρ5 _ _ (X1.trans (X14.trans X5)) E5 hv
        ·exact PX.mono k (X1.trans X14)
      ·exact hg E3 hv e4 (PX.mono k (X1.trans (X2.trans X3)))
 ·exact hi E0 e1 k
theorem Wa {c:TT} {tb:TS} {m:TwT} {b:TwS} {n:Nat} (hc:RT K E c m) (hb:RS K E tb b):RS K E (zh4 c tb) (sWh n m b):=by
 intro F j D' σ H ρ S fl E0 e k
 refine⟨λn σ2 H2=>∃j2 ρ2 S2,Ext j H j2 H2/\En K F j2 H2 σ2 ρ2 S2/\Zu m b n ρ2 S2=some fl,⟨n,j,ρ,S,Ext.refl,E0,e⟩,?_⟩
 rintro n σ2 H2 ⟨j2,ρ2,S2,X2,E2,e2⟩
 cases n with
 |zero=>cases e2
 |succ n=>
  unfold Zu at e2
  rcases wE e2 with⟨x,S3,e3,e2⟩|⟨c,S3,e3,rfl⟩
  ·refine hc E2 e3 λj3 H3 X3 E3=> ?_
   have X13:=X2.trans X3
   cases x with
   |false=>cases e2;exact k _ _ _ X13 E3
   |true=>
    obtain⟨f5,e5,h5⟩:=zcW e2
    refine⟨λσ' H'=>∃j3 ρ3 S3,Ext j H j3 H'/\En K F j3 H' σ' ρ3 S3/\Zu m b n ρ3 S3=some fl,λσ' H' z=>⟨n,tU _,z⟩,hb E3 e5 ?_⟩
    rcases h5 with⟨ρ6,S6,h6,e6⟩|⟨ρ6,S6,rfl,rfl⟩|⟨rfl,h6⟩
    ·rcases h6 with rfl|rfl
     ·exact λσ5 j5 H5 X5 E5=>⟨j5,ρ6,S6,X13.trans X5,E5,e6⟩
     ·exact λσ5 j5 H5 X5 E5=>⟨j5,ρ6,S6,X13.trans X5,E5,e6⟩
    ·exact λσ5 j5 H5 X5 E5=>k _ _ _ (X13.trans X5) E5
    ·rcases h6 with⟨x6,S6,rfl⟩|⟨c6,S6,rfl⟩
     ·exact λv σ5 ρ5 j5 H5 X5 E5 hv=>k v σ5 ρ5 _ _ (X13.trans X5) E5 hv
     ·exact PX.mono k X13
  ·exact hc E2 e3 (PX.mono k X2)
noncomputable def iL (m:TwE):TwI:=λρ S=>rb (m ρ S) λx S1=>(yD S1 x).map λ_=> .ok (λS=>yD S x) S1
noncomputable def iT (m:TwE):TwI:=λρ S=>rb (m ρ S) λx S1=>x.tupOf.map λl=> .ok (λ_=>some l) S1
theorem zaT {t:TE} {m:TwE} (h:RE K E t m):RI K E (zh5 K t) (iL m):=by
 intro F j σ H ρ S r R En0 e k
 rcases yg e with⟨x,S1,e1,e⟩|⟨c,S1,e1,rfl⟩
 ·cases el:yD S1 x with
  |none=>rw[el] at e;cases e
  |some l=>
   rw[el] at e
   cases e
   refine h En0 e1 λj1 H1 X1 E1 u hu=> ?_
   obtain⟨a,vs,rfl,h1,_⟩:=E1.lstAt hu el
   refine⟨a,rfl,⟨vs,h1.sql⟩,k _ _ X1 E1 _ ?_⟩
   intro F2 j2 H2 σ2 ρ2 S2 xs i X2 E2 e2
   obtain⟨a',ws,ea,g1,g2⟩:=E2.lstAt (hu.mono X2) e2
   cases ea
   refine⟨λy ey=> ?_,λhle=>⟨ws,g1.sql,by rw[g2.len];omega⟩⟩
   obtain⟨w,f1,f2⟩:=g2.get ey
   refine⟨⟨ws,w,g1.sql,f1⟩,?_⟩
   rintro v' H' ⟨rfl,hx⟩
   have:=hx ws g1.sql
   rw[f1] at this
   cases this
   exact⟨TX.refl _,f2⟩
 ·exact h En0 e1 k
theorem Zz {t:TE} {m:TwE} (h:RE K E t m):RI K E (zlV K t) (iT m):=by
 intro F j σ H ρ S r R En0 e k
 rcases yg e with⟨x,S1,e1,e⟩|⟨c,S1,e1,rfl⟩
 ·cases el:x.tupOf with
  |none=>rw[el] at e;cases e
  |some l=>
   rw[el] at e
   cases e
   refine h En0 e1 λj1 H1 X1 E1 u hu=> ?_
   obtain⟨a,vs,rfl,h1,_⟩:=hu.tupO el
   refine⟨a,rfl,⟨vs,h1⟩,k _ _ X1 E1 _ ?_⟩
   intro F2 j2 H2 σ2 ρ2 S2 xs i X2 E2 e2
   cases e2
   obtain⟨a',ws,ea,g1,g2⟩:=(hu.mono X2).tupO el
   cases ea
   refine⟨λy ey=> ?_,λhle=>⟨ws,g1,by rw[g2.len];omega⟩⟩
   obtain⟨w,f1,f2⟩:=g2.get ey
   refine⟨⟨ws,w,g1,f1⟩,?_⟩
   rintro v' H' ⟨rfl,hx⟩
   have:=hx ws g1
   rw[f1] at this
   cases this
   exact⟨TX.refl _,f2⟩
 ·exact h En0 e1 k
noncomputable def xO (lo:Int) (n:Nat):List Xv:=(tH n).map λ(k:Nat)=>Xv.int (lo+(k:Int))
noncomputable def iR1 (m:TwE):TwI:=λρ S=>rb (m ρ S) λx S1=>match x with
 | .int j=>if -(2^62)<=j/\j<2^62 then some (.ok (λ_=>some (xO 0 j.toNat)) S1) else none
 |_=>none
theorem ziU {lo:Int} {n:Nat}:znu K j H (Itr lo n) (λ_=>some (xO lo n)):=by
 intro F2 j2 H2 σ2 ρ2 S2 xs i X2 E2 e2
 cases e2
 refine⟨λd hd=> ?_,λhle=> ?_⟩
 ·unfold xO at hd
  rw[rM] at hd
  have hi:i<n:=by
   apply Al
   intro hn
   rw[tJ (by simp;omega)] at hd
   cases hd
  rw[uW hi] at hd
  cases hd
  refine⟨hi,?_⟩
  rintro x H' ⟨rfl,rfl⟩
  exact⟨TX.refl _,.int _⟩
 ·unfold xO at hle
  simp at hle
  show n<=i
  omega
theorem xf {t:TE} {m:TwE} (h:RE K E t m):RI K E (zlq (zaw t zfJ)) (iR1 m):=by
 intro F j σ H ρ S r R En0 e k
 rcases yg e with⟨x,S1,e1,e⟩|⟨c,S1,e1,rfl⟩
 ·split at e
  ·split at e
   ·rename_i hb
    cases e
    exact h En0 e1 λj1 H1 X1 E1 u hu=>⟨_,by rw[hu.int_inv],hb.1,hb.2,k _ _ X1 E1 _ ziU⟩
   ·cases e
  ·cases e
 ·exact h En0 e1 k
end
noncomputable def rn {α β:Type} (m:Option (Rs α)) (f:α->Sto->Option β):Option β:=match m with
 |some (.ok a S)=>f a S
 |_=>none
theorem zdA {α β:Type} {m:Option (Rs α)} {f:α->Sto->Option β} {r:β} (h:rn m f=some r):∃a S,m=some (.ok a S)/\f a S=some r:=by
 unfold rn at h
 split at h
 ·exact⟨_,_,rfl,h⟩
 ·cases h
noncomputable def ZS (cap:List (Option Nat)) (ρ:Rho):Rho:=cap.map λo=>o.bind λi=>(ρ[i]?).join
noncomputable def Ze (get:Sto->Option (List Xv)) (g:TwG) (c:TwT) (e:TwE) (ρc:Rho):Nat->Nat->List Xv->Sto->Option (Rs Xv)
 |0,_,_,_=>none
 |f+1,i,es,S=>(get S).bind λxs=>match xs[i]? with
  |none=>if i=xs.length then some (.ok (.ref S.length) (S++[.lst es])) else none
  |some x=>rn (g x ρc S) λρ1 S1=>rn (c ρ1 S1) λb S2=>if b then rn (e ρ1 S2) λy S3=>if es.length<sizeLine then Ze get g c e ρc f (i+1) (es++[y]) S3 else none
    else Ze get g c e ρc f (i+1) es S2
noncomputable def vf (cap:List (Option Nat)) (m:TwI) (g:TwG) (c:TwT) (e:TwE):TwE:=λρ S=>rb (m ρ S) λget S1=>(get S1).bind λxs=>Ze get g c e (ZS cap ρ) (xs.length+1) 0 [] S1
noncomputable def vO:TwT:=λ_ S=>some (.ok true S)
section
variable {K:rF} {E:XK} {F:Fm} {j j':List Addr} {H H':Hp} {σ σ':St} {ρ ρ':Rho} {S S':Sto} {x:Xv} {v:V} {a:Addr} {o:HO}
theorem xU:RT K E (λ_ H Q=>Q true H) vO:=λE1 e k=>by
 cases e
 exact k _ _ Ext.refl E1
def zaA (j:List Addr) (S:Sto) (a:Addr):Prop:=∀(n:Nat) c,j[n]? =some a->S[n]? =some c->c.fz=true
theorem En.notIn (E1:En K F j H σ ρ S) (h:H a=none):zaA j S a:=λn c e1 e2=>by
 cases z:c.fz with
 |true=>rfl
 |false=>
  obtain⟨o,e,_⟩:=(E1.cel n c a e2 e1).mu z
  rw[h] at e;cases e
theorem En.outside (E1:En K F j H σ ρ S) (h:zaA j S a) {o0:HO} (h0:H a=some o0) (m0:o0.mu=true) (hf:F.H0 a=none):En K F j (upd H a o) σ ρ S/\Ext j H j (upd H a o):=by
 have X:Ext j H j (upd H a o):=⟨λ_ _ e=>e,λb u e m=>by
  have:b≠a:=λq=>by subst q;rw[h0] at e;cases e;rw[m] at m0;cases m0
  rw[yR this];exact e⟩
 refine⟨⟨E1.len,λi x e=> ?_,E1.jl,E1.inj,λn c b e1 e2=> ?_,E1.ext.trans X,E1.old,E1.l0,λb u e=> ?_,E1.fresh,λb e=> ?_⟩,X⟩
 ·obtain⟨v,e1,e2⟩:=E1.slot i x e
  exact⟨v,e1,e2.mono X⟩
 ·refine (E1.cel n c b e1 e2).mono X λz=>yR λq=> ?_
  subst q
  rw[h n c e2 e1] at z;cases z
 ·have hb:b≠a:=λq=>by subst q;rw[hf] at e;cases e
  rcases E1.keep b u e with h|h
  ·exact .inl (by rw[yR hb];exact h)
  ·exact .inr h
 ·have hb:b≠a:=λq=>by subst q;rw[yW] at e;cases e
  rw[yR hb] at e
  exact E1.dom b e
theorem En.adopt {c:Ce} (E1:En K F j H σ ρ S) (h:zaA j S a) (hf:F.H0 a=none) (hc:zcn K (j++[a]) H a c):En K F (j++[a]) H σ ρ (S++[c])/\Ext j H (j++[a]) H:=by
 have X:Ext j H (j++[a]) H:=⟨λn b e=>by rw[su (rH.1 e).1];exact e,YF.refl _⟩
 have lt:∀{n:Nat} {d:Ce},S[n]? =some d->n<S.length:=λe=>(rH.1 e).1
 have at_:∀{n:Nat} {b:Addr} {d:Ce},(j++[a])[n]? =some b->(S++[c])[n]? =some d->(j[n]? =some b/\S[n]? =some d)\/(n=S.length/\b=a/\d=c):=λ{n b d} e1 e2=>by
  by_cases hn:n<S.length
  ·rw[su hn] at e2
   rw[su (by rw[E1.jl];exact hn)] at e1
   exact .inl ⟨e1,e2⟩
  ·rw[sL ⋯] at e2
   rw[sL (by rw[E1.jl];omega),E1.jl] at e1
   cases hm:n-S.length with
   |zero=>rw[hm] at e1 e2;simp at e1 e2;exact .inr ⟨⋯,e1.symm,e2.symm⟩
   |succ m=>rw[hm] at e1;simp at e1
 refine⟨⟨E1.len,λi x e=> ?_,by simp[E1.jl],λn m b c1 c2 e1 e2 e3 e4 z1 z2=> ?_,λn d b e1 e2=> ?_,E1.ext.trans X,λn d e=> ?_,E1.l0,E1.keep,λn b hn e=> ?_,E1.dom⟩,X⟩
 ·obtain⟨v,e1,e2⟩:=E1.slot i x e
  exact⟨v,e1,e2.mono X⟩
 ·rcases at_ e1 e3 with⟨f1,f2⟩|⟨f1,f2,f3⟩
  ·rcases at_ e2 e4 with⟨g1,g2⟩|⟨g1,g2,g3⟩
   ·exact E1.inj n m b c1 c2 f1 g1 f2 g2 z1 z2
   ·subst g2
    rw[h n c1 f1 f2] at z1;cases z1
  ·rcases at_ e2 e4 with⟨g1,g2⟩|⟨g1,g2,g3⟩
   ·subst f2
    rw[h m c2 g1 g2] at z2;cases z2
   ·rw[f1,g1]
 ·rcases at_ e2 e1 with⟨f1,f2⟩|⟨f1,rfl,rfl⟩
  ·exact (E1.cel n d b f2 f1).mono X λ_=>rfl
  ·exact hc
 ·obtain⟨d',e1,e2⟩:=E1.old n d e
  exact⟨d',by rw[su (lt e1)];exact e1,e2⟩
 ·by_cases hm:n<j.length
  ·rw[su hm] at e
   exact E1.fresh n b hn e
  ·rw[sL ⋯] at e
   cases hk:n-j.length with
   |zero=>rw[hk] at e;simp at e;subst e;exact hf
   |succ m=>rw[hk] at e;simp at e
theorem zhI {cap:List (Option Nat)} (E1:En K F j H σ ρ S):(YE cap σ).length=(ZS cap ρ).length/\∀(i:Nat) x,(ZS cap ρ)[i]? =some (some x)->∃v,(YE cap σ)[i]? =some (some v)/\Xis K j H x v:=by
 refine⟨by simp[YE,ZS],λi x h=> ?_⟩
 unfold ZS at h
 unfold YE
 rw[rM] at h ⊢
 cases e:cap[i]? with
 |none=>rw[e] at h;cases h
 |some o=>
  rw[e] at h
  cases o with
  |none=>simp at h
  |some k=>
   simp only[z7,rZ,tm] at h ⊢
   cases q:ρ[k]? with
   |none=>rw[q] at h;simp at h
   |some z=>
    rw[q] at h
    simp at h
    subst h
    obtain⟨v,e1,e2⟩:=E1.slot k x q
    exact⟨v,by rw[e1];rfl,e2⟩
theorem xC {cap:List (Option Nat)} {wi:TI} {g:TG} {tt:TT} {te:TE} {m:TwI} {g':TwG} {c:TwT} {e:TwE} (hi:RI K E wi m) (hg:RG K E0 g g') (hc:RT K E0 tt c) (he:RE K E0 te e):RE K E (zis cap wi g tt te) (vf cap m g' c e):=by
 intro F j σ H ρ S r Q En0 h k
 rcases yg h with⟨get,S1,e1,h⟩|⟨c1,S1,e1,rfl⟩
 ·refine hi En0 e1 λj1 H1 X1 E1 J ok acc d5=> ?_
  cases eg:get S1 with
  |none=>rw[eg] at h;cases h
  |some xs=>
   rw[eg] at h
   have hf:F.H0 acc=none:=E1.dom acc d5
   obtain⟨Ea,Xa⟩:=E1.new (o:= .lst []) d5
   refine⟨λi n ys H2=>∃j2 S2 es,Ext j1 H1 j2 H2/\En K F j2 H2 σ ρ S2/\H2 acc=some (.lst ys)/\yB K j2 H2 es ys/\zaA j2 S2 acc/\Ze get g' c e (ZS cap ρ) n i es S2=some r,
    ⟨xs.length+1,j1,S1,[],Xa,Ea,yW,.nil,E1.notIn d5,h⟩,?_⟩
   rintro i n ys H2 ⟨j2,S2,es,X2,E2,h2,iK,nin,e2⟩
   cases n with
   |zero=>cases e2
   |succ n=>
    unfold Ze at e2
    cases iQ:get S2 with
    |none=>rw[iQ] at e2;cases e2
    |some zs=>
     rw[iQ] at e2
     dsimp only[A7] at e2
     obtain⟨go,stop⟩:=ok i X2 E2 iQ
     split at e2
     ·split at e2
      ·rename_i hl
       cases e2
       obtain⟨E3,X3⟩:=E2.adopt (c:= .lst es) nin hf ⟨ys,h2,iK.mono ⟨λn b e=>by rw[su (rH.1 e).1];exact e,YF.refl _⟩⟩
       exact .inl ⟨stop hl,k _ _ (X1.trans (X2.trans X3)) E3 _ (.ref (by rw[<-E2.jl];simp))⟩
      ·cases e2
     ·rename_i x ex
      obtain⟨g1,g2⟩:=go x ex
      refine .inr ⟨g1,λv H3 hy=> ?_⟩
      obtain⟨Sm,hv⟩:=g2 v H3 hy
      have E3:=E2.heap Sm
      have X3:Ext j2 H2 j2 H3:=Ext.same Sm
      have h3:H3 acc=some (.lst ys):=Sm _ _ h2
      obtain⟨cl,cs⟩:=zhI (cap:=cap) E3
      have I0:=E3.enter cl cs
      obtain⟨ρ4,S4,e4,e2⟩:=zdA e2
      obtain⟨b,S5,e5,e2⟩:=zdA e2
      have behind:∀{j6:List Addr} {H6:Hp} {σ6:St} {ρ6:Rho} {S6:Sto},En K ⟨H3,j2,S2⟩ j6 H6 σ6 ρ6 S6->En K F j6 H6 σ ρ S6/\Ext j2 H2 j6 H6/\H6 acc=some (.lst ys)/\zaA j6 S6 acc:=λ{j6 H6 σ6 ρ6 S6} X=>by
       obtain⟨E6,X6⟩:=E3.leave X
       refine⟨E6,X3.trans X6,?_,λn d q1 q2=> ?_⟩
       ·rcases X.keep acc _ h3 with q|⟨n,d,q1,q2,q3⟩
        ·exact q
        ·rw[nin n d q1 q2] at q3;cases q3
       ·by_cases hn:n<j2.length
        ·have p1:j2[n]? =some j2[n]:=rG hn
         have p2:=X6.pre n _ p1
         rw[q1] at p2
         cases p2
         have ec:n<S2.length:=by rw[<-E2.jl];exact hn
         obtain⟨d',f1,_,f3⟩:=X.old n _ (rG ec)
         rw[q2] at f1
         cases f1
         have hz:=nin n _ p1 (rG ec)
         rw[f3 hz]
         exact hz
        ·have q:=X.fresh n acc (by dsimp only;omega) q1
         have q:H3 acc=none:=q
         rw[h3] at q;cases q
      refine hg I0 hv e4 λσ4 j4 H4 X4 I4=>hc I4 e5 λj5 H5 X5 I5=> ?_
      cases b with
      |true=>
       rw[if_pos rfl]
       rw[if_pos rfl] at e2
       obtain⟨y,S6,e6,e2⟩:=zdA e2
       split at e2
       ·rename_i eN
        refine he I5 e6 λj6 H6 X6 I6 w hw=> ?_
        obtain⟨E6,X26,h6,gK⟩:=behind I6
        obtain⟨E7,X7⟩:=E6.outside (o:= .lst (ys++[w])) gK h6 rfl hf
        refine⟨h6,by rw[iK.len];exact eN,n,tU _,j6,S6,es++[y],X2.trans (X26.trans X7),E7,yW,((iK.mono X26).append (.one hw)).mono X7,gK,e2⟩
       ·cases e2
      |false=>
       rw[if_neg (by simp)]
       rw[if_neg (by simp)] at e2
       obtain⟨E6,X26,h6,gK⟩:=behind I5
       exact⟨n,tU _,j5,S5,es,X2.trans X26,E6,h6,iK.mono X26,gK,e2⟩
 ·exact hi En0 e1 k
theorem zbw {i:Nat} {cap:List (Option Nat)} {wi:TI} {g:TG} {tt:TT} {te:TE} {m:TwE} (h:RE K E (zis cap wi g tt te) m):RS K E (zey i cap wi g tt te) (zO m (gN i)):=by
 intro F j D' σ H ρ S fl E1 e k
 rcases wE e with⟨x,S1,e1,e⟩|⟨c,S1,e1,rfl⟩
 ·cases e
  exact h (Q:=λv H2=>D'.nx (σ.set i (some v)) H2) E1 e1 λj1 H1 X1 E1 u hu=>k _ _ _ X1 (E1.set hu)
 ·exact h (Q:=λv H2=>D'.nx (σ.set i (some v)) H2) E1 e1 k
abbrev TwF:=List Xv->Sto->Option (Rs Xv)
noncomputable def ym (n k:Nat) (b:TwS):TwF:=λxs S=>if xs.length=n then match b (xs.map some++rN k none) S with
  |some (.rt x S')=>some (.ok x S')
  |some (.nx _ S')=>some (.ok .non S')
  |some (.ex c S')=>some (.ex c S')
  |_=>none
 else none
def znB (K:rF) (F:Fm) (Q:VK) (E:XK):Rs Xv->Prop
 | .ok x S'=>∀v j' H' σ ρ,En K F j' H' σ ρ S'->Xis K j' H' x v->Q v H'
 | .ex c S'=>∀j' H' σ ρ C,En K F j' H' σ ρ S'->se K mainGlobals c=some (some (.ref C))->E (.ref C) none H'
def sTw (K:rF) (n:Nat) (tw:TwF):Sp:=λvs H Q E=>vs.length=n/\∃(j:List Addr) (S:Sto) (xs:List Xv) (r:Rs Xv),En K ⟨H,j,S⟩ j H (vs.map some) (xs.map some) S/\tw xs S=some r/\znB K ⟨H,j,S⟩ Q E r
theorem yy {n k:Nat} {N:List Str} {t:TS} {b:TwS} {vs:List V} {Q:VK} (hN:N.length=n+k) (h:RS K E t b) (hs:sTw K n (ym n k b) vs H Q E):t {nx:=λ_ H'=>Q .non H',rt:=Q} (Vl N vs) H:=by
 obtain⟨hn,j,S,xs,r,E1,e,ret⟩:=hs
 have es:Vl N vs=vs.map some++rN k none:=by
  unfold Vl
  rw[hN,hn,Nat.add_sub_cancel_left]
 rw[es]
 unfold ym at e
 split at e
 ·split at e
  ·rename_i x S' e1
   cases e
   exact h E1.grow e1 λv σ ρ j' H' X E' hv=>ret _ _ _ _ _ E' hv
  ·rename_i ρ' S' e1
   cases e
   exact h E1.grow e1 λσ j' H' X E'=>ret _ _ _ _ _ E' .non
  ·rename_i c S' e1
   cases e
   exact h E1.grow e1 λj' H' σ' ρ' C X E' hC=>ret _ _ _ _ _ E' hC
  ·cases e
 ·cases e
theorem ZK {P:Program} {w:World} {mg:Str->Option Value} {base:Heap} {CX:CXT} {k n:Nat} {f:Addr} {fd:FuncData} {ps:List Str} (hl:ps.length=n:=by rfl):yA P w K mg base CX k f fd ps (sTw K n λ_ _=>none):=
 ⟨λvs H Q E h=>h.1.trans hl.symm,λA outer s H args us vs Q E hr he hb hv hs=>by
  obtain⟨_,_,_,_,_,_,z,_⟩:=hs
  cases z⟩
noncomputable def zE (tw:TwF) (ms:List TwE):TwE:=λρ S=>rb (evL ms ρ S) λxs S1=>tw xs S1
theorem zga {xs:List Xv} {vs:List V} (hv:yB K j H xs vs):(vs.map some).length=(xs.map some).length/\∀(i:Nat) x,(xs.map some)[i]? =some (some x)->∃v,(vs.map some)[i]? =some (some v)/\Xis K j H x v:=by
 refine⟨by simp[hv.len],λi x h=> ?_⟩
 rw[rM] at h ⊢
 cases e:xs[i]? with
 |none=>rw[e] at h;cases h
 |some y=>
  rw[e] at h
  simp at h
  subst h
  obtain⟨v,e1,e2⟩:=hv.get e
  exact⟨v,by rw[e1];rfl,e2⟩
theorem zae {n:Nat} {tw:TwF} {xs:List Xv} {vs:List V} {r:Rs Xv} {Q:VK} {E':XK} (E1:En K F j H σ ρ S) (hv:yB K j H xs vs) (hn:vs.length=n) (et:tw xs S=some r) (k:Po K F j H σ ρ E' (PoV K Q) r):sTw K n tw vs H Q E':=by
 obtain⟨l,s⟩:=zga hv
 refine⟨hn,j,S,xs,r,E1.enter l s,et,?_⟩
 cases r with
 |ok x S'=>
  intro v j' H' σ' ρ' X hx
  obtain⟨E2,X2⟩:=E1.leave X
  exact k j' H' X2 E2 v hx
 |ex c S'=>
  intro j' H' σ' ρ' C X hC
  obtain⟨E2,X2⟩:=E1.leave X
  exact k j' H' σ ρ C X2 E2 hC
theorem zw {n:Nat} {tw:TwF} {ms:List TwE} {t:TA} (h:RL K E t (evL ms)) (hn:ms.length=n:=by rfl):RE K E (zls (sTw K n tw) [] E t) (zE tw ms):=by
 intro F j σ H ρ S r Q En0 e k
 rcases yg e with⟨xs,S1,e1,e⟩|⟨c,S1,e1,rfl⟩
 ·refine h En0 e1 λj1 H1 X1 E1 vs hv=> ?_
  rw[sI]
  exact zae E1 hv (by rw[hv.len,Wu e1,hn]) e (k.step X1)
 ·exact h En0 e1 k
end
def zbx (K:rF):Sp:=λvs H Q _=>∃(a:Addr) (ns:List Int),vs=[V.ref a]/\zkq H/\SqX K H a (ns.map V.int)/\ns.length<=63/\∀H',Q (.bl true) H'
theorem zmk {P:Program} {w:World} {K:rF} {mg:Str->Option Value} {base:Heap} {CX:CXT} {k:Nat} {f:Addr} {fd:FuncData} {ps:List Str} {tw:TwF} (Fn:yA P w K mg base CX k f fd ps (sTw K 1 tw))
  (h:∀ns:List Int,ns.length<=63->∃S,tw [.ref 0] [.frz (ns.map Xv.int)]=some (.ok (.bl true) S)):yA P w K mg base CX k f fd ps (zbx K):=by
 refine Fn.imp ?_
 rintro vs H Q E ⟨a,ns,rfl,hO,hS,hl,q⟩
 obtain⟨S',e⟩:=h ns hl
 refine⟨rfl,[a],[.frz (ns.map Xv.int)],[.ref 0],_,?_,e,λv j' H' σ ρ E' hv=> ?_⟩
 ·refine⟨rfl,λi x e=> ?_,rfl,λn m b c d _ _ e3 _ z _=> ?_,λn c b e1 e2=> ?_,Ext.refl,λn c e=>⟨c,e,λz=>z,λ_=>rfl⟩,rfl,λb u e=> .inl e,λn b hn e=> ?_,λb e=>e⟩
  ·cases i with
   |zero=>simp at e;subst e;exact⟨_,rfl,.ref rfl⟩
   |succ i=>simp at e
  ·cases n with
   |zero=>simp at e3;subst e3;cases z
   |succ n=>simp at e3
  ·cases n with
   |zero=>
    simp at e1 e2
    subst e1 e2
    refine⟨ns.map V.int,?_,yB.ints ns⟩
    rcases hS with (hS|⟨o,hS⟩)|hS
    ·rcases hO a with z|⟨o,xs,z⟩
     ·rw[z] at hS;cases hS
     ·rw[z] at hS;cases hS
    ·exact .inl ⟨o,hS⟩
    ·exact .inr λH=> .inr hS
   |succ n=>simp at e1
  ·dsimp only at hn
   have:=(rH.1 e).1
   omega
 ·rw[hv.bl_inv]
  exact q H'
end L2
namespace L2
open PySem PySem.Spec PyProof.Rows
open PySem.Builtin.Int (intBits)
noncomputable def xI (g:Int->Int->Xv):Op2:=λx y S=>match x,y with
 | .int a,.int b=>some (g a b,S)
 |_,_=>none
noncomputable def xIC (c:Int->Int->Bool) (g:Int->Int->Xv):Op2:=λx y S=>match x,y with
 | .int a,.int b=>if c a b then some (g a b,S) else none
 |_,_=>none
noncomputable def xZ:Op2:=xI λi j=> .int (i+j)
noncomputable def zdB:Op2:=xI λi j=> .int (i-j)
noncomputable def zkE:Op2:=xIC (λi j=>decide ((-(2^64)<i/\i<2^64)\/(-(2^64)<j/\j<2^64))) λi j=> .int (i*j)
noncomputable def wF:Op2:=xIC (λi j=>decide (intBits i+intBits j<=134217728)) λi j=> .int (i*j)
noncomputable def YI:Op2:=xIC (λ_ j=>decide (0<j)) λi j=> .int (i % j)
noncomputable def Tl:Op2:=xIC (λ_ j=>decide (0<j/\j<1073741824)) λi j=> .int (i / j)
noncomputable def Ww:Op2:=xIC (λ_ j=>decide (j≠0/\intBits j<=9000)) λi j=> .int (i.fdiv j)
noncomputable def zgb:Op2:=xIC (λi j=>decide (0<=j/\j<=1000000/\i.natAbs<2^64)) λi j=> .int (i^j.toNat)
noncomputable def dLt:Op2:=xI λi j=> .bl (decide (i<j))
noncomputable def dLe:Op2:=xI λi j=> .bl (decide (i<=j))
noncomputable def dGt:Op2:=xI λi j=> .bl (decide (j<i))
noncomputable def dGe:Op2:=xI λi j=> .bl (decide (j<=i))
noncomputable def ZT:Op2:=xI λi j=> .bl (decide (i=j))
noncomputable def Tm:Op2:=xI λi j=> .bl (!decide (i=j))
noncomputable def zgc:Xv->Sto->Option (Xv×Sto):=λx S=>match x with
 | .int i=>some (.int (-i),S)
 |_=>none
section
variable {K:rF} {E:XK} {F:Fm} {j j':List Addr} {H H':Hp} {σ σ':St} {ρ ρ':Rho} {S S':Sto} {x:Xv} {v:V} {ta tb:TE} {a b:TwE}
theorem ziV {g:Int->Int->V} {g':Int->Int->Xv} (hg:∀i k j H,Xis K j H (g' i k) (g i k)):Yr K (rI0 g) (xI g'):=by
 intro F j σ H ρ S S' x y z u v Q E1 hx hy h k
 unfold xI at h
 split at h
 ·cases h
  exact⟨_,_,hx.int_inv,hy.int_inv,k _ _ _ Ext.refl E1 (hg _ _ _ _)⟩
 ·cases h
theorem zhJ {C:Int->Int->Prop} {c:Int->Int->Bool} {g:Int->Int->V} {g':Int->Int->Xv} (hc:∀i j,c i j=true->C i j) (hg:∀i k j H,Xis K j H (g' i k) (g i k)):Yr K (rI C g) (xIC c g'):=by
 intro F j σ H ρ S S' x y z u v Q E1 hx hy h k
 unfold xIC at h
 split at h
 ·split at h
  ·cases h
   exact⟨_,_,hx.int_inv,hy.int_inv,hc _ _ (by assumption),k _ _ _ Ext.refl E1 (hg _ _ _ _)⟩
  ·cases h
 ·cases h
theorem zaf {p:Int->Int->Bool} (ha:RE K E ta a) (hb:RE K E tb b):RE K E (zeo p ta tb) (eOp (xI λi j=> .bl (p i j)) a b):=
 zm (r:=rI0 λi j=> .bl (p i j)) (ziV λi k _ _=> .bl _) ha hb
theorem xb:Yr K (rI0 λi j=> .int (i+j)) xZ:=ziV λ_ _ _ _=> .int _
theorem zag:Yr K (rI0 λi j=> .int (i-j)) zdB:=ziV λ_ _ _ _=> .int _
theorem zml:Yr K (rI zh8 λi j=> .int (i*j)) zkE:=zhJ (λi j h=>by simpa [zh8] using h) λ_ _ _ _=> .int _
theorem wm:Yr K (rI zlx λi j=> .int (i*j)) wF:=zhJ (λi j h=>⟨intBits i,intBits j,rL _,rL _,by simpa using h⟩) λ_ _ _ _=> .int _
theorem vH:Yr K (rI (λ_ j=>0<j) λi j=> .int (i % j)) YI:=zhJ (λi j h=>by simpa using h) λ_ _ _ _=> .int _
theorem zaU:Yr K (rI zlY λi j=> .int (i / j)) Tl:=zhJ (λi j h=>by simpa [zlY] using h) λ_ _ _ _=> .int _
theorem Wb:Yr K (rI ziw λi j=> .int (i.fdiv j)) Ww:=zhJ (λi j h=>by simpa [ziw] using h) λ_ _ _ _=> .int _
theorem zdC:Yr K (rI zlZ λi j=> .int (i^j.toNat)) zgb:=zhJ (λi j h=>by simpa [zlZ] using h) λ_ _ _ _=> .int _
theorem Tn (ha:RE K E ta a) (hb:RE K E tb b):RE K E (tLt ta tb) (eOp dLt a b):=zaf ha hb
theorem znC (ha:RE K E ta a) (hb:RE K E tb b):RE K E (tLe ta tb) (eOp dLe a b):=zaf ha hb
theorem Ve (ha:RE K E ta a) (hb:RE K E tb b):RE K E (tGt ta tb) (eOp dGt a b):=zaf ha hb
theorem znD (ha:RE K E ta a) (hb:RE K E tb b):RE K E (tGe ta tb) (eOp dGe a b):=zaf ha hb
theorem xP (ha:RE K E ta a) (hb:RE K E tb b):RE K E (zmY ta tb) (eOp ZT a b):=zaf ha hb
theorem Vr (ha:RE K E ta a) (hb:RE K E tb b):RE K E (zmZ ta tb) (eOp Tm a b):=zaf ha hb
theorem zgd:znv K (rU λi=> .int (-i)) zgc:=by
 intro F j σ H ρ S S' x z u Q E1 hx h k
 unfold zgc at h
 split at h
 ·cases h
  exact⟨_,hx.int_inv,k _ _ _ Ext.refl E1 (.int _)⟩
 ·cases h
noncomputable def To:Op2:=λx y S=>match x,y with
 | .str a,.str b=>if a.length+b.length<=sizeLine then some (.str (a++b),S) else none
 |_,_=>none
theorem zdD:Yr K (λx y H Q=>∃i j,x= .str i/\y= .str j/\i.length+j.length<=sizeLine/\Q (.str (i++j)) H) To:=by
 intro F j σ H ρ S S' x y z u v Q E1 hx hy h k
 unfold To at h
 split at h
 ·split at h
  ·cases h
   exact⟨_,_,hx.str_inv,hy.str_inv,by assumption,k _ _ _ Ext.refl E1 (.str _)⟩
  ·cases h
 ·cases h
noncomputable def Zf:Op2:=λx y S=>match x,y with
 | .tup a,.tup b=>if a.length+b.length<=sizeLine then some (.tup (a++b),S) else none
 |_,_=>none
theorem Wx:Yr K (zlz K) Zf:=by
 intro F j σ H ρ S S' x y z u v Q E1 hx hy h k
 unfold Zf at h
 split at h
 ·split at h
  ·rename_i hz
   cases h
   obtain⟨p,xs,rfl,h1,h2⟩:=hx.tup_inv
   obtain⟨q,ys,rfl,g1,g2⟩:=hy.tup_inv
   refine⟨p,q,xs,ys,rfl,rfl,SqT.of h1,SqT.of g1,by rw[h2.len,g2.len];exact hz,λe=> ?_,λ_ e=> ?_,λ_ _ l hl=> ?_⟩
   ·subst e
    obtain rfl:=uy.1 h2.len.symm
    exact k _ _ _ Ext.refl E1 hy
   ·subst e
    obtain rfl:=uy.1 g2.len.symm
    refine k _ _ _ Ext.refl E1 ?_
    rw[sI]
    exact hx
   ·obtain⟨E2,X2⟩:=E1.new (o:= .tup (xs++ys)) hl
    exact k _ _ _ X2 E2 (.tup yW ((h2.append g2).mono X2))
  ·cases h
 ·cases h
noncomputable def zeS:Op2:=λx y S=>match yD S x,yD S y with
 |some a,some b=>if a.length+b.length<=sizeLine then some (.ref S.length,S++[.lst (a++b)]) else none
 |_,_=>none
theorem zkF:Yr K (zlB K) zeS:=by
 intro F j σ H ρ S S' x y z u v Q E1 hx hy h k
 unfold zeS at h
 split at h
 ·rename_i l1 l2 e1 e2
  split at h
  ·rename_i hz
   cases h
   obtain⟨p,xs,rfl,h1,h2⟩:=E1.lstAt hx e1
   obtain⟨q,ys,rfl,g1,g2⟩:=E1.lstAt hy e2
   refine⟨p,q,xs,ys,rfl,rfl,h1,g1,by rw[h2.len,g2.len];exact hz,λl hl=> ?_⟩
   obtain⟨E2,X2,h3⟩:=E1.lst (h2.append g2) hl
   exact k _ _ _ X2 E2 h3
  ·cases h
 ·cases h
noncomputable def ziW (g:Int->Xv):Opn:=λxs S=>match xs with
 |[.int i]=>some (g i,S)
 |_=>none
theorem zkG {g:Int->V} {g':Int->Xv} (hg:∀i j H,Xis K j H (g' i) (g i)):Th K (λxs H Q=>∃i,xs=[V.int i]/\Q (g i) H) (ziW g'):=by
 intro F j σ H ρ S S' xs z vs Q E1 hv h k
 unfold ziW at h
 split at h
 ·cases h
  obtain⟨x,rfl,hx⟩:=hv.d1
  exact⟨_,by rw[hx.int_inv],k _ _ _ Ext.refl E1 (hg _ _ _)⟩
 ·cases h
noncomputable def zgV (g:Int->Int->Xv):Opn:=λxs S=>match xs with
 |[.int i,.int j]=>some (g i j,S)
 |_=>none
theorem zgW {g:Int->Int->V} {g':Int->Int->Xv} (hg:∀i k j H,Xis K j H (g' i k) (g i k)):Th K (λxs H Q=>∃i j,xs=[V.int i,V.int j]/\Q (g i j) H) (zgV g'):=by
 intro F j σ H ρ S S' xs z vs Q E1 hv h k
 unfold zgV at h
 split at h
 ·cases h
  obtain⟨x,y,rfl,hx,hy⟩:=hv.d2
  exact⟨_,_,by rw[hx.int_inv,hy.int_inv],k _ _ _ Ext.refl E1 (hg _ _ _ _)⟩
 ·cases h
noncomputable def zhK:Opn:=ziW λi=> .int (if i<0 then -i else i)
noncomputable def ziX:Opn:=zgV λi j=> .int (if j<i then j else i)
noncomputable def zhL:Opn:=zgV λi j=> .int (if j>i then j else i)
theorem zge:Th K (λxs H Q=>∃i,xs=[V.int i]/\Q (.int (if i<0 then -i else i)) H) zhK:=zkG λ_ _ _=> .int _
theorem ziY:Th K (λxs H Q=>∃i j,xs=[V.int i,V.int j]/\Q (.int (if j<i then j else i)) H) ziX:=zgW λ_ _ _ _=> .int _
theorem zdE:Th K (λxs H Q=>∃i j,xs=[V.int i,V.int j]/\Q (.int (if j>i then j else i)) H) zhL:=zgW λ_ _ _ _=> .int _
noncomputable def yX:Opn:=λxs S=>match xs with
 |[x]=>(wN S x).map λl=>(.int l.length,S)
 |_=>none
theorem yO:Th K (λxs H Q=>∃p ys,xs=[V.ref p]/\(SqL K H p ys\/SqT K H p ys)/\Q (.int ys.length) H) yX:=by
 intro F j σ H ρ S S' xs z vs Q E1 hv h k
 unfold yX at h
 split at h
 ·rename_i x
  cases e:wN S x with
  |none=>rw[e] at h;cases h
  |some l=>
   rw[e] at h
   cases h
   obtain⟨w,rfl,hx⟩:=hv.d1
   obtain⟨a,ws,rfl,h1,h2⟩:=E1.seqAt hx e
   refine⟨a,ws,rfl,?_,k _ _ _ Ext.refl E1 (by rw[h2.len];exact .int _)⟩
   rcases h1 with h1|h1
   ·exact .inl h1.sql
   ·exact .inr h1
 ·cases h
noncomputable def zeT:Opn:=λxs S=>match xs with
 |[x]=>(wN S x).map λl=>(.ref S.length,S++[.lst l])
 |_=>none
theorem zkH:Th K (λxs H Q=>∃p ys,xs=[V.ref p]/\(SqL K H p ys\/SqT K H p ys)/\∀l,H l=none->Q (.ref l) (upd H l (.lst ys))) zeT:=by
 intro F j σ H ρ S S' xs z vs Q E1 hv h k
 unfold zeT at h
 split at h
 ·rename_i x
  cases e:wN S x with
  |none=>rw[e] at h;cases h
  |some l=>
   rw[e] at h
   cases h
   obtain⟨w,rfl,hx⟩:=hv.d1
   obtain⟨a,ws,rfl,h1,h2⟩:=E1.seqAt hx e
   refine⟨a,ws,rfl,?_,λp hp=> ?_⟩
   ·rcases h1 with h1|h1
    ·exact .inl h1.sql
    ·exact .inr h1
   ·obtain⟨E2,X2,h3⟩:=E1.lst h2 hp
    exact k _ _ _ X2 E2 h3
 ·cases h
noncomputable def Yf:Opn:=λxs S=>match xs with
 |[.tup l]=>some (.tup l,S)
 |[x]=>(yD S x).map λl=>(.tup l,S)
 |_=>none
theorem ZU:Th K (λxs H Q=>∃p ys,xs=[V.ref p]/\((SqL K H p ys/\∀l,H l=none->Q (.ref l) (upd H l (.tup ys)))\/(SqT K H p ys/\Q (.ref p) H))) Yf:=by
 intro F j σ H ρ S S' xs z vs Q E1 hv h k
 unfold Yf at h
 split at h
 ·cases h
  obtain⟨w,rfl,hx⟩:=hv.d1
  obtain⟨a,ws,rfl,h1,h2⟩:=hx.tup_inv
  exact⟨a,ws,rfl,.inr ⟨SqT.of h1,k _ _ _ Ext.refl E1 hx⟩⟩
 ·rename_i x _
  cases e:yD S x with
  |none=>rw[e] at h;cases h
  |some l=>
   rw[e] at h
   cases h
   obtain⟨w,rfl,hx⟩:=hv.d1
   obtain⟨a,ws,rfl,h1,h2⟩:=E1.lstAt hx e
   refine⟨a,ws,rfl,.inl ⟨h1.sql,λp hp=> ?_⟩⟩
   obtain⟨E2,X2⟩:=E1.new (o:= .tup ws) hp
   exact k _ _ _ X2 E2 (.tup yW (h2.mono X2))
 ·cases h
noncomputable def ZV:List Xv->Option (List Int)
 |[]=>some []
 | .int i::r=>(ZV r).map (i:: ·)
 |_::_=>none
theorem Tp:∀{xs:List Xv} {ns:List Int} {vs:List V},ZV xs=some ns->yB K j H xs vs->vs=ns.map V.int
 |[],ns,vs,e,h=>by cases e;exact h.nil_inv
 |x::r,ns,vs,e,h=>by
  obtain⟨v,ws,rfl,h1,h2⟩:=h.cons_inv
  cases x<;>simp only[ZV,reduceCtorEq] at e
  cases e2:ZV r with
  |none=>rw[e2] at e;cases e
  |some ms=>
   rw[e2] at e
   cases e
   rw[h1.int_inv,Tp e2 h2]
   rfl
theorem ZB (ns:List Int):ZV (ns.map Xv.int)=some ns:=by
 induction ns with
 |nil=>rfl
 |cons n r ih=>simp[ZV,ih]
noncomputable def YJ:List Xv->Option (List Bool)
 |[]=>some []
 | .bl i::r=>(YJ r).map (i:: ·)
 |_::_=>none
theorem zby:∀{xs:List Xv} {ns:List Bool} {vs:List V},YJ xs=some ns->yB K j H xs vs->vs=ns.map V.bl
 |[],ns,vs,e,h=>by cases e;exact h.nil_inv
 |x::r,ns,vs,e,h=>by
  obtain⟨v,ws,rfl,h1,h2⟩:=h.cons_inv
  cases x<;>simp only[YJ,reduceCtorEq] at e
  cases e2:YJ r with
  |none=>rw[e2] at e;cases e
  |some ms=>
   rw[e2] at e
   cases e
   rw[h1.bl_inv,zby e2 h2]
   rfl
theorem zhM (ns:List Bool):YJ (ns.map Xv.bl)=some ns:=by
 induction ns with
 |nil=>rfl
 |cons n r ih=>simp[YJ,ih]
noncomputable def zeU:Opn:=λxs S=>match xs with
 |[x]=>((yD S x).bind ZV).map λns=>(.int ns.sum,S)
 |_=>none
theorem ziZ:Th K (zno K) zeU:=by
 intro F j σ H ρ S S' xs z vs Q E1 hv h k
 unfold zeU at h
 split at h
 ·rename_i x
  cases e:yD S x with
  |none=>rw[e] at h;cases h
  |some l=>
   rw[e] at h
   cases e2:ZV l with
   |none=>simp[e2] at h
   |some ns=>
    simp[e2] at h
    obtain⟨rfl,rfl⟩:=h
    obtain⟨w,rfl,hx⟩:=hv.d1
    obtain⟨p,ws,rfl,h1,h2⟩:=E1.lstAt hx e
    refine⟨p,ns,rfl,?_,k _ _ _ Ext.refl E1 (.int _)⟩
    rw[<-Tp e2 h2]
    exact h1.sql
 ·cases h
noncomputable def zbz:Opn:=λxs S=>match xs with
 |[x]=>(x.tupOf.bind ZV).map λns=>(.int ns.sum,S)
 |_=>none
theorem zgX:Th K (zlA K) zbz:=by
 intro F j σ H ρ S S' xs z vs Q E1 hv h k
 unfold zbz at h
 split at h
 ·rename_i x
  cases e:x.tupOf with
  |none=>rw[e] at h;cases h
  |some l=>
   rw[e] at h
   cases e2:ZV l with
   |none=>simp[e2] at h
   |some ns=>
    simp[e2] at h
    obtain⟨rfl,rfl⟩:=h
    obtain⟨w,rfl,hx⟩:=hv.d1
    obtain⟨p,ws,rfl,h1,h2⟩:=hx.tupO e
    refine⟨p,ns,rfl,?_,k _ _ _ Ext.refl E1 (.int _)⟩
    rw[<-Tp e2 h2]
    exact h1
 ·cases h
noncomputable def zi0:Opn:=λxs S=>match xs with
 |[x]=>((yD S x).bind YJ).map λns=>(.bl (ns.any id),S)
 |_=>none
noncomputable def zdF:Opn:=λxs S=>match xs with
 |[x]=>((yD S x).bind YJ).map λns=>(.bl (ns.all id),S)
 |_=>none
theorem zmm:Th K (znr K) zi0:=by
 intro F j σ H ρ S S' xs z vs Q E1 hv h k
 unfold zi0 at h
 split at h
 ·rename_i x
  cases e:yD S x with
  |none=>rw[e] at h;cases h
  |some l=>
   rw[e] at h
   cases e2:YJ l with
   |none=>simp[e2] at h
   |some ns=>
    simp only[rZ,e2,z7,tm,Bh] at h
    obtain⟨rfl,rfl⟩:=h
    obtain⟨w,rfl,hx⟩:=hv.d1
    obtain⟨p,ws,rfl,h1,h2⟩:=E1.lstAt hx e
    refine⟨p,ns,rfl,?_,k _ _ _ Ext.refl E1 (.bl _)⟩
    rw[<-zby e2 h2]
    exact h1.sql
 ·cases h
theorem zgf:Th K (zns K) zdF:=by
 intro F j σ H ρ S S' xs z vs Q E1 hv h k
 unfold zdF at h
 split at h
 ·rename_i x
  cases e:yD S x with
  |none=>rw[e] at h;cases h
  |some l=>
   rw[e] at h
   cases e2:YJ l with
   |none=>simp[e2] at h
   |some ns=>
    simp only[rZ,e2,z7,tm,Bh] at h
    obtain⟨rfl,rfl⟩:=h
    obtain⟨w,rfl,hx⟩:=hv.d1
    obtain⟨p,ws,rfl,h1,h2⟩:=E1.lstAt hx e
    refine⟨p,ns,rfl,?_,k _ _ _ Ext.refl E1 (.bl _)⟩
    rw[<-zby e2 h2]
    exact h1.sql
 ·cases h
noncomputable def yn (neg:Bool):Op2:=λx y S=>match x,y with
 | .int a,.int b=>some (.bl (neg !=decide (a=b)),S)
 | .str a,.str b=>some (.bl (neg !=decide (a=b)),S)
 | .bl a,.bl b=>some (.bl (neg !=decide (a=b)),S)
 | .non,.non=>some (.bl (neg !=true),S)
 | .int _,.str _=>some (.bl (neg !=false),S)
 | .str _,.int _=>some (.bl (neg !=false),S)
 |_,_=>none
theorem yi:Yr K rEq (yn false):=by
 intro F j σ H ρ S S' x y z u v Q E1 hx hy h k
 cases hx<;>cases hy<;>simp only[yn,reduceCtorEq,tm,Bh,B6] at h<;>obtain⟨rfl,rfl⟩:=h<;>refine⟨rfl,k _ _ _ Ext.refl E1 ?_⟩<;>simp<;>exact .bl _
noncomputable def YK:Xv->Bool
 | .non=>true
 | .bl _=>true
 | .int _=>true
 | .str _=>true
 |_=>false
noncomputable def zcp:Xv->Xv->Bool
 | .non,.non=>true
 | .bl a,.bl b=>a==b
 | .bl a,.int b=>(if a then 1 else 0)==b
 | .int a,.bl b=>a==(if b then 1 else 0)
 | .int a,.int b=>a==b
 | .str a,.str b=>a==b
 |_,_=>false
noncomputable def dIn (neg:Bool):Op2:=λx y S=>(wN S y).bind λl=>if YK x&&l.all YK then some (.bl (neg !=l.any λz=>zcp z x),S) else none
theorem zbA {v:V} {x:Xv} (h:Xis K j H x v):XW v=YK x:=by cases h<;>rfl
theorem zgg {v w:V} {x y:Xv} (h:Xis K j H x v) (g:Xis K j H y w) (fx:YK x=true) (fy:YK y=true):eqV v w=zcp x y:=by cases h<;>cases g<;>first|rfl|cases fx|cases fy
theorem zdG:∀{xs:List Xv} {vs:List V},yB K j H xs vs->vs.all XW=xs.all YK
 |_,_,.nil=>rfl
 |_,_,.cons h l=>by rw[uR,uR,zbA h,zdG l]
theorem zgY {v:V} {x:Xv} (hx:Xis K j H x v) (fx:YK x=true):∀{xs:List Xv} {vs:List V},yB K j H xs vs->xs.all YK=true->inV v vs=xs.any λz=>zcp z x
 |_,_,.nil,_=>rfl
 |_,_,.cons h l,f=>by
  rw[uR,tL] at f
  have:=zgY hx fx l f.2
  unfold inV at this ⊢
  rw[Ab,Ab,zgg h hx f.1 fx,this]
theorem zlD {neg:Bool}:Yr K (rIn K neg) (dIn neg):=by
 intro F j σ H ρ S S' x y z u v Q E1 hx hy h k
 unfold dIn at h
 cases e:wN S y with
 |none=>rw[e] at h;cases h
 |some l=>
  rw[e] at h
  dsimp only[A7] at h
  split at h
  ·rename_i hf
   have hf:=Bd.1 hf
   cases h
   obtain⟨p,ws,rfl,h1,h2⟩:=E1.seqAt hy e
   refine⟨p,ws,rfl,?_,by rw[zbA hx];exact hf.1,by rw[zdG h2];exact hf.2,k _ _ _ Ext.refl E1 ?_⟩
   ·rcases h1 with h1|h1
    ·exact .inl h1.sql
    ·exact .inr h1
   ·rw[zgY hx hf.1 h2 hf.2]
    cases neg<;>simp<;>exact .bl _
  ·cases h
noncomputable def Ux (f:Xv->Option D):List Xv->Option (List D)
 |[]=>some []
 |x::r=>(f x).bind λd=>(Ux f r).map (d:: ·)
noncomputable def Wy (S:Sto):Nat->Xv->Option D
 |0,x=>match x with
  | .non=>some .non
  | .bl b=>some (.bl b)
  | .int i=>some (.int i)
  | .str s=>some (.str s)
  |_=>none
 |n+1,x=>match x with
  | .non=>some .non
  | .bl b=>some (.bl b)
  | .int i=>some (.int i)
  | .str s=>some (.str s)
  | .tup l=>(Ux (Wy S n) l).map .tup
  | .ct l=>(Ux (Wy S n) l).map .tup
  | .ref m=>(yD S (.ref m)).bind λl=>(Ux (Wy S n) l).map .lst
theorem Tq {f:Xv->Option D} {n:Nat} (hf:∀x v d,Xis K j H x v->f x=some d->Is K H v d/\D.depth d<=n):∀{xs:List Xv} {vs:List V} {ds:List D},yB K j H xs vs->Ux f xs=some ds->IsL K H vs ds/\D.depths ds<=n
 |_,_,_,.nil,e=>by cases e;exact⟨.nil,by simp[D.depths]⟩
 |x::r,_,ds,.cons h l,e=>by
  unfold Ux at e
  cases e1:f x with
  |none=>rw[e1] at e;cases e
  |some d=>
   rw[e1] at e
   cases e2:Ux f r with
   |none=>simp[e2] at e
   |some es=>
    simp[e2] at e
    subst e
    obtain⟨a1,a2⟩:=hf _ _ _ h e1
    obtain⟨b1,b2⟩:=Tq hf l e2
    exact⟨.cons a1 b1,by unfold D.depths;omega⟩
theorem zdH (E1:En K F j H σ ρ S):∀(n:Nat) (x:Xv) (v:V) (d:D),Xis K j H x v->Wy S n x=some d->Is K H v d/\D.depth d<=n
 |0,x,v,d,h,e=>by
  cases h<;>simp only[Wy,tm,reduceCtorEq] at e<;>subst e<;>refine⟨by constructor,by simp[D.depth]⟩
 |n+1,x,v,d,h,e=>by
  have ih:=zdH E1 n
  cases h with
  |non=>simp only[Wy,tm] at e;subst e;exact⟨.non,by simp[D.depth]⟩
  |bl b=>simp only[Wy,tm] at e;subst e;exact⟨.bl b,by simp[D.depth]⟩
  |int b=>simp only[Wy,tm] at e;subst e;exact⟨.int b,by simp[D.depth]⟩
  |str b=>simp only[Wy,tm] at e;subst e;exact⟨.str b,by simp[D.depth]⟩
  | @tup a vs l h1 h2=>
   simp only[Wy] at e
   cases e2:Ux (Wy S n) l with
   |none=>rw[e2] at e;cases e
   |some ds=>
    rw[e2] at e
    cases e
    obtain⟨a1,a2⟩:=Tq ih h2 e2
    exact⟨.tup (SqT.of h1) a1,by unfold D.depth;omega⟩
  | @ct a vs l h1 h2=>
   simp only[Wy] at e
   cases e2:Ux (Wy S n) l with
   |none=>rw[e2] at e;cases e
   |some ds=>
    rw[e2] at e
    cases e
    obtain⟨a1,a2⟩:=Tq ih h2 e2
    exact⟨.tup (h1 H) a1,by unfold D.depth;omega⟩
  | @ref m a h1=>
   simp only[Wy] at e
   cases e1:yD S (.ref m) with
   |none=>rw[e1] at e;cases e
   |some l=>
    rw[e1] at e
    cases e2:Ux (Wy S n) l with
    |none=>simp[e2] at e
    |some ds=>
     simp[e2] at e
     subst e
     obtain⟨a',vs,ea,g1,g2⟩:=E1.lstAt (.ref h1) e1
     cases ea
     obtain⟨a1,a2⟩:=Tq ih g2 e2
     exact⟨.lst g1.sql a1,by unfold D.depth;omega⟩
noncomputable def D.many:D->Bool
 | .tup _=>true
 | .lst _=>true
 |_=>false
noncomputable def zbB (c:String) (S:Sto):Xv->Option Bool
 | .non=>some false
 | .int _=>some (c=="int")
 | .bl _=>some (c=="bool"||c=="int")
 | .str _=>some (c=="str")
 | .tup _=>some (c=="tuple")
 | .ct _=>some (c=="tuple")
 | .ref n=>(yD S (.ref n)).map λ_=>c=="list"
structure zbC (c:String):Prop where
 non:∀K,sW K (.type "NoneType") (.type c)=some false
 bl:∀K,sW K (.type "bool") (.type c)=some (c=="bool"||c=="int")
 int:∀K,sW K (.type "int") (.type c)=some (c=="int")
 str:∀K,sW K (.type "str") (.type c)=some (c=="str")
 tup:∀K,sW K (.type "tuple") (.type c)=some (c=="tuple")
 lst:∀K,sW K (.type "list") (.type c)=some (c=="list")
theorem YL (a b:String) (K:rF) (h1:(Value.type a==Value.type b)=false) (h:(fastBuiltinMro a).map (·.contains (.type b))=some false) (hm:uj b=true):sW K (.type a) (.type b)=some false:=zmc h1 h hm rfl
theorem zdI:zbC "int":=⟨λK=>YL _ _ K ∅ (by decide+kernel) (by decide+kernel),λK=>zdr,λK=>Vo,λK=>YL _ _ K ∅ (by decide+kernel) (by decide+kernel),λK=>YL _ _ K ∅ (by decide+kernel) (by decide+kernel),λK=>YL _ _ K ∅ (by decide+kernel) (by decide+kernel)⟩
theorem zbD:zbC "bool":=⟨λK=>YL _ _ K ∅ (by decide+kernel) (by decide+kernel),λK=>Vo,λK=>zds,λK=>YL _ _ K ∅ (by decide+kernel) (by decide+kernel),λK=>YL _ _ K ∅ (by decide+kernel) (by decide+kernel),λK=>YL _ _ K ∅ (by decide+kernel) (by decide+kernel)⟩
theorem zdJ:zbC "str":=⟨λK=>YL _ _ K ∅ (by decide+kernel) (by decide+kernel),λK=>YL _ _ K ∅ (by decide+kernel) (by decide+kernel),λK=>YL _ _ K ∅ (by decide+kernel) (by decide+kernel),λK=>Vo,λK=>YL _ _ K ∅ (by decide+kernel) (by decide+kernel),λK=>YL _ _ K ∅ (by decide+kernel) (by decide+kernel)⟩
theorem vP:zbC "tuple":=⟨λK=>YL _ _ K ∅ (by decide+kernel) (by decide+kernel),λK=>YL _ _ K ∅ (by decide+kernel) (by decide+kernel),λK=>YL _ _ K ∅ (by decide+kernel) (by decide+kernel),λK=>YL _ _ K ∅ (by decide+kernel) (by decide+kernel),λK=>Vo,λK=>YL _ _ K ∅ (by decide+kernel) (by decide+kernel)⟩
theorem Vs:zbC "list":=⟨λK=>YL _ _ K ∅ (by decide+kernel) (by decide+kernel),λK=>YL _ _ K ∅ (by decide+kernel) (by decide+kernel),λK=>YL _ _ K ∅ (by decide+kernel) (by decide+kernel),λK=>YL _ _ K ∅ (by decide+kernel) (by decide+kernel),λK=>YL _ _ K ∅ (by decide+kernel) (by decide+kernel),λK=>Vo⟩
noncomputable def Zv (c:String):Xv->Sto->Option (Xv×Sto):=λx S=>(zbB c S x).map λb=>(.bl b,S)
theorem zkI {c:String} (ok:zbC c) (E1:En K F j H σ ρ S) {b:Bool} {Q:VK} (h:Xis K j H x v) (e:zbB c S x=some b) (k:Q (.bl b) H):zku K [v,.ty c] H Q:=by
 cases h with
 |non=>cases e;exact⟨_,_,_,_,_,rfl,rfl,.of .non,ok.non K,k⟩
 |bl b=>cases e;exact⟨_,_,_,_,_,rfl,rfl,.of (.bl b),ok.bl K,k⟩
 |int i=>cases e;exact⟨_,_,_,_,_,rfl,rfl,.of (.int i),ok.int K,k⟩
 |str z=>cases e;exact⟨_,_,_,_,_,rfl,rfl,.of (.str z),ok.str K,k⟩
 |tup h l=>cases e;exact⟨_,_,_,_,_,rfl,rfl,.sqt (SqT.of h),ok.tup K,k⟩
 |ct h l=>cases e;exact⟨_,_,_,_,_,rfl,rfl,.sqt (h H),ok.tup K,k⟩
 | @ref n a h=>
  simp only[zbB] at e
  cases e1:yD S (.ref n) with
  |none=>rw[e1] at e;cases e
  |some l=>
   rw[e1] at e
   cases e
   obtain⟨a',vs,ea,g1,g2⟩:=E1.lstAt (.ref h) e1
   cases ea
   exact⟨_,_,_,_,_,rfl,rfl,.sql g1.sql,ok.lst K,k⟩
theorem wa {c:String} {t:TE} {m:TwE} (ok:zbC c) (h:RE K E t m):RE K E (tCB (zku K) (zaw t (zaw (tC (.ty c)) zfJ))) (eUn (Zv c) m):=by
 intro F j σ H ρ S r Q En0 e k
 rcases yg e with⟨x,S1,e1,e⟩|⟨c,S1,e1,rfl⟩
 ·obtain⟨z,S3,e3,rfl⟩:=YG e
  unfold Zv at e3
  cases e4:zbB c S1 x with
  |none=>rw[e4] at e3;cases e3
  |some b=>
   rw[e4] at e3
   cases e3
   exact h En0 e1 λj1 H1 X1 E1 u hu=>zkI ok E1 hu e4 (k _ _ X1 E1 _ (.bl _))
 ·exact h En0 e1 k
noncomputable def Vt:Xv->Sto->Option (Xv×Sto):=λx S=>(yD S x).map λl=>(.ref S.length,S++[.lst l.reverse])
theorem zgh {t:TE} {m:TwE} (h:RE K E t m):RE K E (zeM K t) (eUn Vt m):=by
 intro F j σ H ρ S r Q En0 e k
 rcases yg e with⟨x,S1,e1,e⟩|⟨c,S1,e1,rfl⟩
 ·obtain⟨z,S3,e3,rfl⟩:=YG e
  unfold Vt at e3
  cases e4:yD S1 x with
  |none=>rw[e4] at e3;cases e3
  |some l=>
   rw[e4] at e3
   cases e3
   refine h En0 e1 λj1 H1 X1 E1 u hu=> ?_
   obtain⟨p,ys,rfl,h1,h2⟩:=E1.lstAt hu e4
   refine⟨p,ys,rfl,h1,λl hl=> ?_⟩
   obtain⟨E2,X2,h3⟩:=E1.lst h2.reverse hl
   exact k _ _ (X1.trans X2) E2 _ h3
 ·exact h En0 e1 k
noncomputable def Tr (xs:List Xv):List Xv:=xs.zipIdx.map λp=> .tup [.int (p.2:Int),p.1]
theorem Wc {xs:List Xv} {i:Nat} {y:Xv} (h:(Tr xs)[i]? =some y):∃x,xs[i]? =some x/\y= .tup [.int (i:Int),x]:=by
 unfold Tr at h
 rw[rM,List.getElem?_zipIdx] at h
 cases e:xs[i]? with
 |none=>rw[e] at h;cases h
 |some x=>
  rw[e] at h
  simp at h
  exact⟨x,rfl,h.symm⟩
theorem YA (xs:List Xv):(Tr xs).length=xs.length:=by simp[Tr]
theorem zmn {p:Addr} {H':Hp} {i:Int} {y:Xv} {w:V} (Sm:TX H H') (hp:H' p=some (.tup [.int i,w])) (h:Xis K j H y w):Xis K j H' (.tup [.int i,y]) (.ref p):=
 .tup hp (.cons (.int i) (.one (h.mono (Ext.same Sm))))
noncomputable def znE (m:TwE):TwI:=λρ S=>rb (m ρ S) λx S1=>x.tupOf.map λl=> .ok (λ_=>some (Tr l)) S1
theorem zi1 {t:TE} {m:TwE} (h:RE K E t m):RI K E (ziD K (zaw t zfJ)) (znE m):=by
 intro F j σ H ρ S r R En0 e k
 rcases yg e with⟨x,S1,e1,e⟩|⟨c,S1,e1,rfl⟩
 ·cases el:x.tupOf with
  |none=>rw[el] at e;cases e
  |some l=>
   rw[el] at e
   cases e
   refine h En0 e1 λj1 H1 X1 E1 u hu=> ?_
   obtain⟨a,vs,rfl,h1,_⟩:=hu.tupO el
   refine⟨a,rfl,⟨vs,h1⟩,k _ _ X1 E1 _ ?_⟩
   intro F2 j2 H2 σ2 ρ2 S2 xs i X2 E2 e2
   cases e2
   obtain⟨a',ws,ea,g1,g2⟩:=(hu.mono X2).tupO el
   cases ea
   refine⟨λy ey=> ?_,λhle=>⟨ws,g1,by rw[g2.len];rw[YA] at hle;omega⟩⟩
   obtain⟨y',ey',rfl⟩:=Wc ey
   obtain⟨w,f1,f2⟩:=g2.get ey'
   refine⟨⟨ws,w,g1,f1⟩,?_⟩
   rintro v' H' ⟨p,w',rfl,hp,rfl,hx⟩
   have:=hx ws g1
   rw[f1] at this
   cases this
   exact⟨wv hp,zmn (wv hp) yW f2⟩
 ·exact h En0 e1 k
end
end L2
namespace L2
open PySem PySem.Spec PyProof.Rows
section
variable {K:rF} {E:XK} {F:Fm} {j:List Addr} {H:Hp} {σ:St} {ρ:Rho} {S:Sto} {x:Xv} {v:V} {κ:Type}
noncomputable def zbE (neg:Bool):Op2:=λx y S=>match yD S x,yD S y with
 |some xs,some []=>some (.bl (neg !=xs.isEmpty),S)
 |_,_=>none
theorem zi2 {neg:Bool}:Yr K (ziM K neg) (zbE neg):=by
 intro F j σ H ρ S S' x y z u v Q E1 hx hy h k
 unfold zbE at h
 split at h
 ·rename_i xs e1 e2
  cases h
  obtain⟨a,vs,rfl,h1,h2⟩:=E1.lstAt hx e1
  obtain⟨b,ws,rfl,g1,g2⟩:=E1.lstAt hy e2
  cases g2
  refine⟨a,b,vs,rfl,rfl,h1.sql,g1.sql,k _ _ _ Ext.refl E1 ?_⟩
  have:vs.isEmpty=xs.isEmpty:=by cases h2<;>rfl
  rw[this]
  exact .bl _
 ·cases h
end
open PySem.Builtin.Int (intBits)
def W {α:Type} (r:Option (Rs α)) (P:α->Sto->Prop):Prop:=∃a S,r=some (.ok a S)/\P a S
def WO (r:Option (Xv×Sto)) (P:Xv->Sto->Prop):Prop:=∃a S,r=some (a,S)/\P a S
def WS (r:Option Fl) (N:Rho->Sto->Prop) (R:Xv->Sto->Prop):Prop:=(∃ρ S,r=some (.nx ρ S)/\N ρ S)\/∃x S,r=some (.rt x S)/\R x S
section
variable {ρ:Rho} {S S':Sto} {d x y:Xv} {a b m o:TwE} {c:TwT} {s t:TwS} {i k:Nat} {P:Xv->Sto->Prop} {PB:Bool->Sto->Prop} {PL:List Xv->Sto->Prop} {PO:Option Int->Sto->Prop} {N:Rho->Sto->Prop} {R:Xv->Sto->Prop}
theorem W.of {α:Type} {r:Option (Rs α)} {a:α} {P:α->Sto->Prop} (e:r=some (.ok a S)) (h:P a S):W r P:=⟨a,S,e,h⟩
theorem WO.of {r:Option (Xv×Sto)} (e:r=some (x,S)) (h:P x S):WO r P:=⟨x,S,e,h⟩
theorem W.imp {α:Type} {r:Option (Rs α)} {P Q:α->Sto->Prop} (h:W r P) (k:∀a S,P a S->Q a S):W r Q:=by
 obtain⟨a,S,e,h⟩:=h
 exact⟨a,S,e,k _ _ h⟩
theorem WS.nx {r:Option Fl} (e:r=some (.nx ρ S)) (h:N ρ S):WS r N R:= .inl ⟨ρ,S,e,h⟩
theorem WS.rt {r:Option Fl} (e:r=some (.rt x S)) (h:R x S):WS r N R:= .inr ⟨x,S,e,h⟩
theorem W.bind {α β:Type} {r:Option (Rs α)} {f:α->Sto->Option (Rs β)} {P:β->Sto->Prop} (h:W r λa S=>W (f a S) P):W (rb r f) P:=by
 obtain⟨a,S,rfl,h⟩:=h
 exact h
theorem WS.bind {α:Type} {r:Option (Rs α)} {f:α->Sto->Option Fl} (h:W r λa S=>WS (f a S) N R):WS (sb r f) N R:=by
 obtain⟨a,S,rfl,h⟩:=h
 exact h
theorem W.okP {r:Option (Xv×Sto)} (h:WO r P):W (okP r) P:=by
 obtain⟨a,S,rfl,h⟩:=h
 exact⟨a,S,rfl,h⟩
theorem vI (h:ρ[i]? =some (some d)) (k:P d S):W (ze i ρ S) P:= .of (by unfold ze;rw[h]) k
theorem zeV (k:P d S):W (eC d ρ S) P:= .of rfl k
theorem ZW {f:Op2} (h:W (a ρ S) λx S1=>W (b ρ S1) λy S2=>WO (f x y S2) P):W (eOp f a b ρ S) P:=W.bind (h.imp λ_ _ h=>W.bind (h.imp λ_ _ h=>W.okP h))
theorem znF {f:Xv->Sto->Option (Xv×Sto)} (h:W (a ρ S) λx S1=>WO (f x S1) P):W (eUn f a ρ S) P:=W.bind (h.imp λ_ _ h=>W.okP h)
theorem zbF (h:W (a ρ S) λx S1=>∃v,x= .bl v/\PB v S1):W (bE a ρ S) PB:=W.bind (h.imp λx S1 h=>by obtain⟨v,rfl,k⟩:=h;exact .of rfl k)
theorem znG (h:W (c ρ S) λv S1=>P (.bl v) S1):W (eB c ρ S) P:=W.bind (h.imp λ_ _ k=> .of rfl k)
theorem zmo (h:W (c ρ S) λv S1=>PB (!v) S1):W (wM c ρ S) PB:=W.bind (h.imp λ_ _ k=> .of rfl k)
theorem Yg {c2:TwT} (h:W (c ρ S) λv S1=>(v=true->W (c2 ρ S1) PB)/\(v=false->PB false S1)):W (zab c c2 ρ S) PB:=W.bind (h.imp λv S1 k=>by
 cases v with
 |true=>rw[if_pos rfl];exact k.1 rfl
 |false=>exact .of rfl (k.2 rfl))
theorem ww {c2:TwT} (h:W (c ρ S) λv S1=>(v=true->PB true S1)/\(v=false->W (c2 ρ S1) PB)):W (bOr c c2 ρ S) PB:=W.bind (h.imp λv S1 k=>by
 cases v with
 |true=>exact .of rfl (k.1 rfl)
 |false=>rw[if_neg (by simp)];exact k.2 rfl)
theorem Wz (h:W (a ρ S) λx S1=>∃v,x= .bl v/\(v=true->W (b ρ S1) P)/\(v=false->P (.bl false) S1)):W (zco a b ρ S) P:=W.bind ((zbF h).imp λv S1 k=>by
 cases v with
 |true=>rw[if_pos rfl];exact k.1 rfl
 |false=>exact .of rfl (k.2 rfl))
theorem zmp (h:W (c ρ S) λv S1=>(v=true->W (a ρ S1) P)/\(v=false->W (b ρ S1) P)):W (eIf c a b ρ S) P:=W.bind (h.imp λv S1 k=>by
 cases v with
 |true=>rw[if_pos rfl];exact k.1 rfl
 |false=>rw[if_neg (by simp)];exact k.2 rfl)
theorem Vu (k:PL [] S):W (evL [] ρ S) PL:= .of rfl k
theorem xV {ms:List TwE} (h:W (m ρ S) λd S1=>W (evL ms ρ S1) λds S2=>PL (d::ds) S2):W (evL (m::ms) ρ S) PL:=W.bind (h.imp λ_ _ h=>W.bind (h.imp λ_ _ k=> .of rfl k))
theorem zdK {ms:List TwE} (h:W (evL ms ρ S) λds S1=>P (.tup ds) S1):W (yI ms ρ S) P:=W.bind (h.imp λ_ _ k=> .of rfl k)
theorem zi3 {ms:List TwE} (h:W (evL ms ρ S) λds S1=>P (.ref S1.length) (S1++[.lst ds])):W (Wt ms ρ S) P:=W.bind (h.imp λ_ _ k=> .of rfl k)
theorem Vv {f:Opn} {ms:List TwE} (h:W (evL ms ρ S) λds S1=>WO (f ds S1) P):W (eFn f ms ρ S) P:=W.bind (h.imp λ_ _ h=>W.okP h)
theorem zaV {tw:TwF} {ms:List TwE} (h:W (evL ms ρ S) λds S1=>W (tw ds S1) P):W (zE tw ms ρ S) P:=W.bind h
theorem zmq (k:PO none S):W (oNo ρ S) PO:= .of rfl k
theorem zi4 (h:W (m ρ S) λx S1=>∃k,x= .int k/\PO (some k) S1):W (Yn m ρ S) PO:=W.bind (h.imp λx S1 h=>by obtain⟨v,rfl,k⟩:=h;exact .of rfl k)
theorem znH {f:Xv->Option Int->Option Int->Sto->Option (Xv×Sto)} {lo hi:TwO} (h:W (m ρ S) λx S1=>W (lo ρ S1) λu S2=>W (hi ρ S2) λv S3=>WO (f x u v S3) P):W (eSl f m lo hi ρ S) P:=
 W.bind (h.imp λ_ _ h=>W.bind (h.imp λ_ _ h=>W.bind (h.imp λ_ _ h=>W.okP h)))
theorem Wd {f:OpM} {ms:List TwE} (h:W (o ρ S) λx S1=>(∃l,yD S1 x=some l)/\W (evL ms ρ S1) λys S2=>WO (f x ys S2) P):W (eMt f o ms ρ S) P:=W.bind (h.imp λx S1 h=>by
 obtain⟨⟨l,e⟩,h⟩:=h
 rw[e,rZ]
 exact W.bind (h.imp λ_ _ h=>W.okP h))
theorem zG (h:WS (s ρ S) (λρ1 S1=>WS (t ρ1 S1) N R) R):WS (zD s t ρ S) N R:=by
 unfold zD
 rcases h with⟨ρ1,S1,e,h⟩|⟨x,S1,e,h⟩
 ·rw[e];exact h
 ·rw[e];exact .rt rfl h
theorem zF (h:N ρ S):WS (zT ρ S) N R:= .nx rfl h
theorem zmr {g:TwG} (h:W (m ρ S) λd S1=>W (g d ρ S1) N):WS (zO m g ρ S) N R:=WS.bind (h.imp λ_ _ h=>WS.bind (h.imp λ_ _ k=> .nx rfl k))
theorem yv (h:W (m ρ S) λd S1=>N (ρ.set i (some d)) S1):WS (zO m (gN i) ρ S) N R:=WS.bind (h.imp λ_ _ k=> .nx rfl k)
theorem zbG (h:W (m ρ S) λd S1=>W (a ρ S1) λx S2=>W (b ρ S2) λy S3=>∃n l q j,Tk S3 x=some (n,l)/\y= .int q/\ixN l.length q=some j/\N ρ (S3.set n (.lst (l.set j d)))):WS (zO m (zbu a b) ρ S) N R:=
 WS.bind (h.imp λd S1 h=>WS.bind (W.bind (h.imp λx S2 h=>W.bind (h.imp λy S3 h=>by
  obtain⟨n,l,q,j,e1,rfl,e2,k⟩:=h
  rw[e1]
  dsimp only
  rw[e2]
  exact .of rfl (.nx rfl k)))))
theorem zaW (h:W (m ρ S) λ_ S1=>N ρ S1):WS (ZR m ρ S) N R:=WS.bind (h.imp λ_ _ k=> .nx rfl k)
theorem xm (h:W (m ρ S) λd S1=>R d S1):WS (ye m ρ S) N R:=WS.bind (h.imp λ_ _ k=> .rt rfl k)
theorem zS (h:W (c ρ S) λv S1=>(v=true->WS (s ρ S1) N R)/\(v=false->WS (t ρ S1) N R)):WS (sIf c s t ρ S) N R:=WS.bind (h.imp λv S1 k=>by
 cases v with
 |true=>rw[if_pos rfl];exact k.1 rfl
 |false=>rw[if_neg (by simp)];exact k.2 rfl)
theorem Vw {r:Option Fl} (I:Rho->Sto->Prop) (h:WS r I R) (k:∀ρ S,I ρ S->N ρ S):WS r N R:=by
 rcases h with⟨ρ,S,e,h⟩|h
 ·exact .inl ⟨ρ,S,e,k ρ S h⟩
 ·exact .inr h
theorem zcX {n:Nat} (h:WS (Zu c s n ρ S) N R):WS (sWh n c s ρ S) N R:=h
theorem Xd {n:Nat} (h:W (c ρ S) λv S1=>(v=true->WS (s ρ S1) (λρ2 S2=>WS (Zu c s n ρ2 S2) N R) R)/\(v=false->N ρ S1)):WS (Zu c s (n+1) ρ S) N R:=by
 unfold Zu
 refine WS.bind (h.imp λv S1 k=> ?_)
 cases v with
 |true=>
  rw[if_pos rfl]
  rcases k.1 rfl with⟨ρ2,S2,e2,h⟩|⟨x,S2,e2,h⟩
  ·rw[e2];exact h
  ·rw[e2];exact .rt rfl h
 |false=>exact .nx rfl (k.2 rfl)
theorem wB {n:TwI} {g:TwG} (h:W (n ρ S) λget S1=>∃xs,get S1=some xs/\WS (Uw get g s (xs.length+1) 0 ρ S1) N R):WS (YH n g s ρ S) N R:=WS.bind (h.imp λget S1 h=>by
 obtain⟨xs,e,h⟩:=h
 rw[e,rZ]
 exact h)
theorem xt {get:Sto->Option (List Xv)} {g:TwG} {xs:List Xv} (J:Nat->Rho->Sto->Prop) (hg:∀i ρ S,i<=xs.length->J i ρ S->get S=some xs)
  (h:∀(i:Nat) (x:Xv) ρ S,xs[i]? =some x->J i ρ S->W (g x ρ S) λρ1 S1=>WS (s ρ1 S1) (λρ2 S2=>J (i+1) ρ2 S2) R) (h0:J 0 ρ S) (k:∀ρ S,J xs.length ρ S->N ρ S):WS (Uw get g s (xs.length+1) 0 ρ S) N R:=by
 have aux:∀(n i:Nat) (ρ:Rho) (S:Sto),i+n=xs.length->J i ρ S->WS (Uw get g s (n+1) i ρ S) N R:=by
  intro n
  induction n with
  |zero=>
   intro i ρ S e hj
   unfold Uw
   rw[hg i ρ S ⋯ hj,rZ,tJ ⋯]
   dsimp only
   rw[if_pos ⋯]
   exact .nx rfl (k ρ S (by rw[show xs.length=i by omega];exact hj))
  |succ n ih=>
   intro i ρ S e hj
   unfold Uw
   have hi:i<xs.length:=by omega
   rw[hg i ρ S ⋯ hj,rZ,rG hi]
   refine WS.bind ((h i _ ρ S (rG hi) hj).imp λρ1 S1 h1=> ?_)
   rcases h1 with⟨ρ2,S2,e2,h2⟩|⟨x,S2,e2,h2⟩
   ·rw[e2];exact ih (i+1) ρ2 S2 ⋯ h2
   ·rw[e2];exact .rt rfl h2
 exact aux xs.length 0 ρ S ⋯ h0
theorem zgZ (h:W (m ρ S) λx S1=>∃l,yD S1 x=some l/\Q' (λS=>yD S x) S1):W (iL m ρ S) Q':=W.bind (h.imp λx S1 h=>by
 obtain⟨l,e,k⟩:=h
 rw[e]
 exact .of rfl k)
theorem We {Q':(Sto->Option (List Xv))->Sto->Prop} (h:W (m ρ S) λx S1=>∃l,x.tupOf=some l/\Q' (λ_=>some l) S1):W (iT m ρ S) Q':=W.bind (h.imp λx S1 h=>by
 obtain⟨l,e,k⟩:=h
 rw[e]
 exact .of rfl k)
theorem ZC {Q':(Sto->Option (List Xv))->Sto->Prop} (h:W (m ρ S) λx S1=>∃k:Int,x= .int k/\(-(2^62)<=k/\k<2^62)/\Q' (λ_=>some (xO 0 k.toNat)) S1):W (iR1 m ρ S) Q':=W.bind (h.imp λx S1 h=>by
 obtain⟨k,rfl,hk,q⟩:=h
 dsimp only
 rw[if_pos hk]
 exact .of rfl q)
theorem vQ {lo:Int} {n i:Nat} {x:Xv} (h:(xO lo n)[i]? =some x):i<n/\x= .int (lo+i):=by
 unfold xO at h
 rw[rM] at h
 have hi:i<n:=by
  apply Al
  intro hn
  rw[tJ (by simp;omega)] at h
  cases h
 rw[uW hi] at h
 cases h
 exact⟨hi,rfl⟩
theorem yz {lo:Int} {n:Nat}:(xO lo n).length=n:=by simp[xO]
theorem xW {cap:List (Option Nat)} {n:TwI} {g:TwG} (h:W (n ρ S) λget S1=>∃xs,get S1=some xs/\W (Ze get g c m (ZS cap ρ) (xs.length+1) 0 [] S1) P):W (vf cap n g c m ρ S) P:=W.bind (h.imp λget S1 h=>by
 obtain⟨xs,e,h⟩:=h
 rw[e,rZ]
 exact h)
theorem xF {get:Sto->Option (List Xv)} {g:TwG} {ρc:Rho} {xs:List Xv} (hl:xs.length<=sizeLine) (J:Nat->List Xv->Sto->Prop) (hg:∀i es S,i<=xs.length->J i es S->get S=some xs)
  (h:∀(i:Nat) (x:Xv) es S,xs[i]? =some x->es.length=i->J i es S->W (g x ρc S) λρ1 S1=>W (c ρ1 S1) λb S2=>b=true/\W (m ρ1 S2) λy S3=>J (i+1) (es++[y]) S3) (h0:J 0 [] S)
  (k:∀es S,es.length=xs.length->J xs.length es S->P (.ref S.length) (S++[.lst es])):W (Ze get g c m ρc (xs.length+1) 0 [] S) P:=by
 have aux:∀(n i:Nat) (es:List Xv) (S:Sto),i+n=xs.length->es.length=i->J i es S->W (Ze get g c m ρc (n+1) i es S) P:=by
  intro n
  induction n with
  |zero=>
   intro i es S e el hj
   unfold Ze
   rw[hg i es S ⋯ hj,rZ,tJ ⋯]
   dsimp only
   rw[if_pos ⋯]
   exact .of rfl (k es S ⋯ (by rw[show xs.length=i by omega];exact hj))
  |succ n ih=>
   intro i es S e el hj
   unfold Ze
   have hi:i<xs.length:=by omega
   rw[hg i es S ⋯ hj,rZ,rG hi]
   obtain⟨ρ1,S1,e1,b,S2,e2,rfl,y,S3,e3,q⟩:=h i _ es S (rG hi) el hj
   dsimp only[rn]
   rw[e1]
   dsimp only[rn]
   rw[e2]
   dsimp only[rn]
   rw[if_pos rfl,e3]
   dsimp only[rn]
   rw[if_pos ⋯]
   exact ih (i+1) (es++[y]) S3 ⋯ (by simp[el]) q
 exact aux xs.length 0 [] S ⋯ rfl h0
theorem zkJ (k:PB true S):W (vO ρ S) PB:= .of rfl k
theorem zms {n k:Nat} {xs:List Xv} {ρ0:Rho} (hn:xs.length=n) (h0:xs.map some++rN k none=ρ0) (h:WS (s ρ0 S) (λ_ S1=>P .non S1) P):W (ym n k s xs S) P:=by
 unfold ym
 rw[if_pos hn,h0]
 rcases h with⟨ρ,S1,e,h⟩|⟨x,S1,e,h⟩
 ·rw[e];exact .of rfl h
 ·rw[e];exact .of rfl h
variable {p q:Int}
theorem Vx (k:P (.int (p+q)) S):WO (xZ (.int p) (.int q) S) P:= .of rfl k
theorem zi5 (k:P (.int (p-q)) S):WO (zdB (.int p) (.int q) S) P:= .of rfl k
theorem zmt (k:P (.int (-p)) S):WO (zgc (.int p) S) P:= .of rfl k
theorem znI (k:P (.bl (decide (p<q))) S):WO (dLt (.int p) (.int q) S) P:= .of rfl k
theorem znJ (k:P (.bl (decide (p<=q))) S):WO (dLe (.int p) (.int q) S) P:= .of rfl k
theorem znK (k:P (.bl (decide (q<p))) S):WO (dGt (.int p) (.int q) S) P:= .of rfl k
theorem znL (k:P (.bl (decide (q<=p))) S):WO (dGe (.int p) (.int q) S) P:= .of rfl k
theorem zmu (k:P (.bl (decide (p=q))) S):WO (ZT (.int p) (.int q) S) P:= .of rfl k
theorem zmv (k:P (.bl (!decide (p=q))) S):WO (Tm (.int p) (.int q) S) P:= .of rfl k
theorem vJ (h:0<q) (k:P (.int (p % q)) S):WO (YI (.int p) (.int q) S) P:= .of (by unfold YI xIC;exact if_pos (by simpa using h)) k
theorem wo (h:intBits p+intBits q<=134217728) (k:P (.int (p*q)) S):WO (wF (.int p) (.int q) S) P:= .of (by unfold wF xIC;exact if_pos (by simpa using h)) k
theorem zmw (h:(-(2^64)<p/\p<2^64)\/(-(2^64)<q/\q<2^64)) (k:P (.int (p*q)) S):WO (zkE (.int p) (.int q) S) P:= .of (by unfold zkE xIC;exact if_pos (decide_eq_true h)) k
theorem zmx (h:0<=q/\q<=1000000/\p.natAbs<2^64) (k:P (.int (p^q.toNat)) S):WO (zgb (.int p) (.int q) S) P:= .of (by unfold zgb xIC;exact if_pos (decide_eq_true h)) k
theorem zaX (h:0<q/\q<1073741824) (k:P (.int (p / q)) S):WO (Tl (.int p) (.int q) S) P:= .of (by unfold Tl xIC;exact if_pos (decide_eq_true h)) k
theorem Wf (h:q≠0/\intBits q<=9000) (k:P (.int (p.fdiv q)) S):WO (Ww (.int p) (.int q) S) P:= .of (by unfold Ww xIC;exact if_pos (decide_eq_true h)) k
theorem zmy (k:P (.int (if q<p then q else p)) S):WO (ziX [.int p,.int q] S) P:= .of rfl k
theorem zi6 (k:P (.int (if q>p then q else p)) S):WO (zhL [.int p,.int q] S) P:= .of rfl k
theorem UE {l:List Xv} (h:yD S x=some l) (k:P (.int l.length) S):WO (yX [x] S) P:= .of (by
 unfold yX wN
 dsimp only
 have:x.tupOf=none:=by cases x<;>first|rfl|cases h
 rw[this]
 dsimp only
 rw[h]
 rfl) k
theorem zah {l:List Xv} {z:Xv} (h:yD S x=some l) (e:atI l p=some z) (k:P z S):WO (zaI x (.int p) S) P:= .of (by unfold zaI;rw[h];dsimp only;rw[e];rfl) k
theorem zP {l:List Xv} {z:Xv} (h:x.tupOf=some l) (e:atI l p=some z) (k:P z S):WO (zy x (.int p) S) P:= .of (by unfold zy;rw[h];dsimp only;rw[e];rfl) k
theorem ZX {β:Type} {x:β} {l:List β}:atI (x::l) 0=some x:=by
 unfold atI ixN
 rw[if_pos (show (0:Int)<=0 by decide),if_pos (by simp only[rP];omega)]
 rfl
theorem Yo {β:Type} {x y:β} {l:List β}:atI (x::y::l) 1=some y:=by
 unfold atI ixN
 rw[if_pos (show (0:Int)<=1 by decide),if_pos (by simp only[rP];omega)]
 rfl
theorem zi7 {l:List Xv} (k:P x S):WO (zy (.tup (x::l)) (.int 0) S) P:=zP rfl ZX k
theorem zi8 {l:List Xv} (k:P y S):WO (zy (.tup (x::y::l)) (.int 1) S) P:=zP rfl Yo k
theorem wP {β:Type} {l:List β} {k:Int} {z:β} (h0:0<=k) (h:l[k.toNat]? =some z):atI l k=some z:=by
 have hk:=(rH.1 h).1
 unfold atI ixN
 rw[if_pos h0,if_pos ⋯]
 exact h
theorem vR {n:Nat} {l:List Xv} (h:Tk S x=some (n,l)) (hz:l.length<sizeLine) (k:P .non (S.set n (.lst (l++[y])))):WO (va x [y] S) P:= .of (by unfold va;rw[h];dsimp only;rw[if_pos hz]) k
theorem zmz {l:List Xv} {lo hi:Option Int} (h:yD S x=some l) (k:P (.ref S.length) (S++[.lst (Wv l lo hi)])):WO (zf6 x lo hi S) P:= .of (by unfold zf6;rw[h];rfl) k
theorem zi9 {neg:Bool} {l:List Xv} (h:yD S x=some l) (h2:yD S y=some []) (k:P (.bl (neg !=l.isEmpty)) S):WO (zbE neg x y S) P:= .of (by unfold zbE;rw[h,h2]) k
theorem zlE {neg:Bool} {l:List Xv} (h:wN S y=some l) (hf:(YK x&&l.all YK)=true) (k:P (.bl (neg !=l.any λz=>zcp z x)) S):WO (dIn neg x y S) P:= .of (by unfold dIn;rw[h,rZ,if_pos hf]) k
theorem xh {c:String} {v:Bool} (h:zbB c S x=some v) (k:P (.bl v) S):WO (Zv c x S) P:= .of (by unfold Zv;rw[h];rfl) k
end
theorem Wg {S:Sto} {l:List Xv}:yD (S++[.lst l]) (.ref S.length)=some l:=by simp[yD]
theorem xX {S:Sto} {n:Nat} {l:List Xv} (h:S[n]? =some (.lst l)):Tk S (.ref n)=some (n,l):=by simp[Tk,h]
theorem zR {S:Sto} {n:Nat} {l:List Xv} (h:S[n]? =some (.lst l)):yD S (.ref n)=some l:=by simp[yD,h]
end L2
namespace L2
open PySem PySem.Spec PyProof.Rows PySem.Calls
section
variable {X:Cx}
theorem zja {k:Nat} {K:rF} (hr:ZQ k X.A) (hK:X.K=K:=by rfl):OpR X (compareOp .NotEq) (ziM K true):=by
 subst hK
 intro pins s σ H x y v u Q I rx ry h
 obtain⟨a,b,xs,rfl,rfl,h1,h2,q⟩:=h
 cases rx;cases ry
 have hu:X.A.units+41<cLine:=tu ⋯ hr.units
 obtain⟨ag,r1,p1,_⟩:=I.list h1
 obtain⟨bZ,r2,p2,_⟩:=I.list h2
 cases r2
 cases r1 with
 |nil=>
  refine SeqAt.RcNeAt.lists (e:=λ_=>true) p1.isList p2.isList rfl ⋯ (λi y1 _=>absurd y1 (Nat.not_lt_zero i)) _ _ _ _ ?_
  exact⟨.bl false,H,I,rfl,q⟩
 |cons c t=>
  refine SeqAt.RcNeAt.lists_lengths p1.isList p2.isList (by simp) ⋯ _ _ _ _ ?_
  exact⟨.bl true,H,I,rfl,q⟩
end
section
variable {K:rF} {E:XK}
end
section
variable {K:rF} {E:XK}
end
noncomputable def zaK (f:D->D->Option Bool):List D->List D->Option Bool
 |a::l,b::m=>(f a b).bind λx=>(zaK f l m).map (x&& ·)
 |_,_=>some true
theorem Ug {f:D->D->Option Bool}:∀{l m:List D} {b:Bool},zaK f l m=some b->∃e:Nat->Bool,(∀(j:Nat) a c,l[j]? =some a->m[j]? =some c->f a c=some (e j))/\b=(tH (min l.length m.length)).all e
 |[],m,b,h=>by
  unfold zaK at h
  cases h
  exact⟨λ_=>true,λj a c ha=>by simp at ha,by simp⟩
 |a::l,[],b,h=>by
  unfold zaK at h
  cases h
  exact⟨λ_=>true,λj a c ha hc=>by simp at hc,by simp⟩
 |a::l,c::m,b,h=>by
  unfold zaK at h
  cases e1:f a c with
  |none=>rw[e1] at h;cases h
  |some x=>
   rw[e1,rZ] at h
   cases e2:zaK f l m with
   |none=>rw[e2] at h;cases h
   |some y=>
    rw[e2] at h
    cases h
    obtain⟨e,k,rfl⟩:=Ug e2
    refine⟨λj=>match j with
     |0=>x
     |j+1=>e j,λj p q hp hq=> ?_,?_⟩
    ·cases j with
     |zero=>simp at hp hq;subst hp hq;exact e1
     |succ j=>exact k j p q (by simpa using hp) (by simpa using hq)
    ·rw[rP,rP,Nat.succ_min_succ,List.range_succ_eq_map,uR,List.all_map]
     rfl
noncomputable def eqG:Nat->D->D->Option Bool
 |0,d,e=>match d,e with
  | .non,.non=>some true
  | .bl a,.bl b=>some (a==b)
  | .int a,.int b=>some (a==b)
  | .str a,.str b=>some (a==b)
  |_,_=>none
 |n+1,d,e=>match d,e with
  | .non,.non=>some true
  | .bl a,.bl b=>some (a==b)
  | .int a,.int b=>some (a==b)
  | .str a,.str b=>some (a==b)
  | .tup l,.tup m=>(zaK (eqG n) l m).map (· &&(l.length==m.length))
  | .lst l,.lst m=>if l.length=m.length then zaK (eqG n) l m else some false
  |_,_=>none
section
variable {X:Cx} {pins:List (Addr×Obj)} {σ:St} {H:Hp} {s:Shared}
theorem zhN {n:Nat} {e:Nat->Bool} (h:∀j,j<n->e j=true):(tH n).all e=true:=ub.2 λj hj=>h j (ur.1 hj)
theorem zjb (I:Inv X pins σ H s):∀(n:Nat) {d e:D} {x:V} {b:Bool},eqG n d e=some b->Is X.K H x d->Is X.K H x e->b=true:=by
 intro n
 induction n with
 |zero=>
  intro d e x b h hx hy
  unfold eqG at h
  split at h
  ·cases h;rfl
  ·rw[hx.bl_inv] at hy;cases hy;cases h;simp
  ·rw[hx.int_inv] at hy;cases hy;cases h;simp
  ·rw[hx.str_inv] at hy;cases hy;cases h;simp
  ·cases h
 |succ n ih=>
  intro d e x b h hx hy
  unfold eqG at h
  have items:∀{xs:List V} {l m:List D} {b:Bool},zaK (eqG n) l m=some b->IsL X.K H xs l->IsL X.K H xs m->b=true:=λ{xs l m b} ha hl hm=>by
   obtain⟨e,k,rfl⟩:=Ug ha
   refine zhN λj hj=> ?_
   have h1:j<l.length:=by omega
   have h2:j<m.length:=by omega
   obtain⟨x,iW,iA⟩:=hl.get (rG h1)
   obtain⟨y,kc,kS⟩:=hm.get (rG h2)
   rw[iW] at kc
   cases kc
   exact ih (k j _ _ (rG h1) (rG h2)) iA kS
  split at h
  ·cases h;rfl
  ·rw[hx.bl_inv] at hy;cases hy;cases h;simp
  ·rw[hx.int_inv] at hy;cases hy;cases h;simp
  ·rw[hx.str_inv] at hy;cases hy;cases h;simp
  ·rename_i l m
   cases ha:zaK (eqG n) l m with
   |none=>rw[ha] at h;cases h
   |some b'=>
    rw[ha] at h
    cases h
    obtain⟨a,xs,rfl,h1,h2⟩:=hx.tup_inv
    obtain⟨a',ys,e,g1,g2⟩:=hy.tup_inv
    cases e
    obtain rfl:=I.tuple_inj h1 g1
    rw[items ha h2 g2]
    have e3:=h2.len;have e4:=g2.len
    simp;omega
  ·rename_i l m
   obtain⟨a,xs,rfl,h1,h2⟩:=hx.lst_inv
   obtain⟨a',ys,e,g1,g2⟩:=hy.lst_inv
   cases e
   obtain rfl:=I.list_inj h1 g1
   have e3:=h2.len;have e4:=g2.len
   rw[if_pos ⋯] at h
   exact items h h2 g2
  ·cases h
theorem Uh {A:Around} {xs ys:List V} {ag bZ:List Value} {l m:List D} {e:Nat->Bool} (rx:yt xs ag) (ry:yt ys bZ) (hx:IsL X.K H xs l) (hy:IsL X.K H ys m)
  (k:∀{x y:V} {u v:Value} {d d':D} {j:Nat},l[j]? =some d->m[j]? =some d'->Is X.K H x d->Is X.K H y d'->yN x u->yN y v->SeqAt.EqAt A.in1 s u v (e j)):
  ∀j (h1:j<ag.toArray.size) (h2:j<bZ.toArray.size),SeqAt.EqAt A.in1 s ag.toArray[j] bZ.toArray[j] (e j):=by
 intro j h1 h2
 have e1:j<xs.length:=by rw[rx.length];simpa using h1
 have e2:j<ys.length:=by rw[ry.length];simpa using h2
 have el:j<l.length:=by rw[<-hx.len];exact e1
 have em:j<m.length:=by rw[<-hy.len];exact e2
 obtain⟨x,iW,iA⟩:=hx.get (i:=j) (d:=l[j]) (rG el)
 obtain⟨y,kc,kS⟩:=hy.get (i:=j) (d:=m[j]) (rG em)
 obtain⟨u,hu,ru⟩:=rx.get iW
 obtain⟨v,hv,rv⟩:=ry.get kc
 have g1:ag.toArray[j]=u:=by
  have:ag[j]? =some ag[j]:=rG (by simpa using h1)
  rw[hu] at this
  simpa using (sr this).symm
 have g2:bZ.toArray[j]=v:=by
  have:bZ[j]? =some bZ[j]:=rG (by simpa using h2)
  rw[hv] at this
  simpa using (sr this).symm
 rw[g1,g2]
 exact k (rG el) (rG em) iA kS ru rv
theorem zeW (I:Inv X pins σ H s):∀(n:Nat) {A:Around} {d d':D} {x y:V} {u v:Value} {b:Bool},eqG n d d'=some b->A.units+n<cLine->Is X.K H x d->Is X.K H y d'->yN x u->yN y v->SeqAt.EqAt A s u v b:=by
 intro n
 induction n with
 |zero=>
  intro A d d' x y u v b h hu hx hy ru rv
  unfold eqG at h
  split at h
  ·cases h;rw[hx.non_inv] at ru;rw[hy.non_inv] at rv;cases ru;cases rv;exact SeqAt.EqAt.same _
  ·cases h;rw[hx.bl_inv] at ru;rw[hy.bl_inv] at rv;cases ru;cases rv;exact SeqAt.EqAt.bool_bool _ _
  ·cases h;rw[hx.int_inv] at ru;rw[hy.int_inv] at rv;obtain⟨t,rfl⟩:=ru;obtain⟨t',rfl⟩:=rv;exact SeqAt.EqAt.int_int _ _ _ _
  ·cases h;rw[hx.str_inv] at ru;rw[hy.str_inv] at rv;obtain⟨t,rfl⟩:=ru;obtain⟨t',rfl⟩:=rv;exact SeqAt.EqAt.str_str _ _ _ _
  ·cases h
 |succ n ih=>
  intro A d d' x y u v b h hu hx hy ru rv
  have hG:=λ(e:x=y)=>zjb I (n+1) h hx (e ▸ hy)
  unfold eqG at h
  split at h
  ·cases h;rw[hx.non_inv] at ru;rw[hy.non_inv] at rv;cases ru;cases rv;exact SeqAt.EqAt.same _
  ·cases h;rw[hx.bl_inv] at ru;rw[hy.bl_inv] at rv;cases ru;cases rv;exact SeqAt.EqAt.bool_bool _ _
  ·cases h;rw[hx.int_inv] at ru;rw[hy.int_inv] at rv;obtain⟨t,rfl⟩:=ru;obtain⟨t',rfl⟩:=rv;exact SeqAt.EqAt.int_int _ _ _ _
  ·cases h;rw[hx.str_inv] at ru;rw[hy.str_inv] at rv;obtain⟨t,rfl⟩:=ru;obtain⟨t',rfl⟩:=rv;exact SeqAt.EqAt.str_str _ _ _ _
  ·rename_i l m
   cases ha:zaK (eqG n) l m with
   |none=>rw[ha] at h;cases h
   |some b'=>
    rw[ha] at h
    cases h
    obtain⟨e,k,rfl⟩:=Ug ha
    obtain⟨a,xs,rfl,h1,h2⟩:=hx.tup_inv
    obtain⟨a',ys,rfl,g1,g2⟩:=hy.tup_inv
    cases ru;cases rv
    by_cases fT:a=a'
    ·subst fT;rw[hG rfl];exact SeqAt.EqAt.same _
    ·obtain⟨ag,r1,p1,_⟩:=I.tuple h1
     obtain⟨bZ,r2,p2,_⟩:=I.tuple g1
     refine SeqAt.EqAt.of_refs fT ?_
     have:=SeqAt.RcAt.tuples (A:=A) (e:=e) p1 p2 ⋯ (Uh r1 r2 h2 g2 λhi hj hx hy ru rv=>ih (A:=A.in1) (k _ _ _ hi hj) (by show A.units+1+n<cLine;omega) hx hy ru rv)
     have s1:ag.toArray.size=l.length:=by have e1:=r1.length;have e3:=h2.len;simp;omega
     have s2:bZ.toArray.size=m.length:=by have e1:=r2.length;have e3:=g2.len;simp;omega
     rwa [s1,s2] at this
  ·rename_i l m
   obtain⟨a,xs,rfl,h1,h2⟩:=hx.lst_inv
   obtain⟨a',ys,rfl,g1,g2⟩:=hy.lst_inv
   cases ru;cases rv
   by_cases fT:a=a'
   ·subst fT;rw[hG rfl];exact SeqAt.EqAt.same _
   ·obtain⟨ag,r1,p1,_⟩:=I.list h1
    obtain⟨bZ,r2,p2,_⟩:=I.list g1
    have s1:ag.toArray.size=l.length:=by have e1:=r1.length;have e3:=h2.len;simp;omega
    have s2:bZ.toArray.size=m.length:=by have e1:=r2.length;have e3:=g2.len;simp;omega
    refine SeqAt.EqAt.of_refs fT ?_
    split at h
    ·rename_i fj
     obtain⟨e,k,rfl⟩:=Ug h
     have:=SeqAt.RcAt.lists (A:=A) (e:=e) p1.isList p2.isList ⋯ ⋯ (Uh r1 r2 h2 g2 λhi hj hx hy ru rv=>ih (A:=A.in1) (k _ _ _ hi hj) (by show A.units+1+n<cLine;omega) hx hy ru rv)
     rw[s1] at this
     rwa [show min l.length m.length=l.length by omega]
    ·rename_i fj
     cases h
     exact SeqAt.RcAt.lists_lengths p1.isList p2.isList (by rw[s1,s2];simpa using fj) ⋯
  ·cases h
def znM (K:rF) (neg:Bool):R2:=λx y H Q=>∃(d e:D) (b:Bool),(∃l m,(d= .tup l/\e= .tup m)\/(d= .lst l/\e= .lst m))/\Is K H x d/\Is K H y e/\eqG 40 d e=some b/\Q (.bl (neg !=b)) H
theorem zmA {k:Nat} {K:rF} (hr:ZQ k X.A) (hK:X.K=K:=by rfl):OpR X (compareOp .Eq) (znM K false):=by
 subst hK
 intro pins s σ H x y v u Q I rx ry h
 obtain⟨d,e,b,⟨l,m,hd⟩,hx,hy,hb,q⟩:=h
 have hu:X.A.units+41<cLine:=tu ⋯ hr.units
 rw[show (false !=b)=b by cases b<;>rfl] at q
 unfold eqG at hb
 rcases hd with⟨rfl,rfl⟩|⟨rfl,rfl⟩
 ·dsimp only at hb
  cases ha:zaK (eqG 39) l m with
  |none=>rw[ha] at hb;cases hb
  |some b'=>
   rw[ha] at hb
   cases hb
   obtain⟨e,k,rfl⟩:=Ug ha
   obtain⟨a,xs,rfl,h1,h2⟩:=hx.tup_inv
   obtain⟨a',ys,rfl,g1,g2⟩:=hy.tup_inv
   cases rx;cases ry
   obtain⟨ag,r1,p1,_⟩:=I.tuple h1
   obtain⟨bZ,r2,p2,_⟩:=I.tuple g1
   have s1:ag.toArray.size=l.length:=by have e1:=r1.length;have e3:=h2.len;simp;omega
   have s2:bZ.toArray.size=m.length:=by have e1:=r2.length;have e3:=g2.len;simp;omega
   refine SeqAt.eq_tupleAt (e:=e) p1 p2 ⋯ (Uh r1 r2 h2 g2 λhi hj hx hy ru rv=>zeW I 39 (A:=X.A.in1) (k _ _ _ hi hj) (by show X.A.units+1+39<cLine;omega) hx hy ru rv) ?_
   rw[s1,s2]
   exact⟨.bl _,H,I,rfl,q⟩
 ·dsimp only at hb
  obtain⟨a,xs,rfl,h1,h2⟩:=hx.lst_inv
  obtain⟨a',ys,rfl,g1,g2⟩:=hy.lst_inv
  cases rx;cases ry
  obtain⟨ag,r1,p1,_⟩:=I.list h1
  obtain⟨bZ,r2,p2,_⟩:=I.list g1
  have s1:ag.toArray.size=l.length:=by have e1:=r1.length;have e3:=h2.len;simp;omega
  have s2:bZ.toArray.size=m.length:=by have e1:=r2.length;have e3:=g2.len;simp;omega
  split at hb
  ·rename_i fj
   obtain⟨e,k,rfl⟩:=Ug hb
   refine SeqAt.eq_listAt (e:=e) p1.isList p2.isList ⋯ ⋯ (Uh r1 r2 h2 g2 λhi hj hx hy ru rv=>zeW I 39 (A:=X.A.in1) (k _ _ _ hi hj) (by show X.A.units+1+39<cLine;omega) hx hy ru rv) ?_
   rw[show min l.length m.length=l.length by omega] at q
   rw[s1]
   exact⟨.bl _,H,I,rfl,q⟩
  ·rename_i fj
   cases hb
   refine SeqAt.eq_list_lengthsAt p1.isList p2.isList (by rw[s1,s2];simpa using fj) ⋯ ?_
   exact⟨.bl false,H,I,rfl,q⟩
end
end L2
namespace L2
open PySem PySem.Spec PyProof.Rows PySem.Calls PySem.W
section
variable {cmp:Nat->Nat->(Bool->Shared->Prop)->Shared->Prop} {r:Nat->Int} {n:Nat} {s:Shared}
end
section
variable {prog:Program} {w:World} {A:Around} {E:Value->Shared->Prop} {s:Shared}
end
open PySem.AutoSeq1 (wpAny_loadPart')
open PySem.MeetsSeq PySem.MeetsSeq2 PySem.MeetsSeq3
section
variable {prog:Program} {w:World} {A:Around} {E:Value->Shared->Prop} {s:Shared}
end
section
variable {X:Cx}
end
end L2
namespace L2
open PySem PySem.Spec PyProof.Rows PySem.Calls PySem.W
section
variable {X:Cx} {pins:List (Addr×Obj)} {σ:St} {H:Hp} {s:Shared} {a:Addr} {d:V} {u r:Value} {A:Around} {E:Value->Shared->Prop} {cL:List (Key×V)} {k:Key}
end
section
variable {X:Cx} {o e f:Expr} {apos cC:Pos} {td ty tx:TE}
end
open PySem.AutoSeq1 (wpAny_loadPart')
section
variable {prog:Program} {w:World} {A:Around} {E:Value->Shared->Prop} {s:Shared}
end
section
variable {X:Cx}
end
end L2
namespace L2
open PySem PySem.Spec PyProof.Rows PySem.Calls PySem.W
section
variable {prog:Program} {w:World} {A:Around} {E:Value->Shared->Prop} {s:Shared}
end
section
variable {X:Cx}
end
open PySem.AutoSeq1 (wpAny_loadPart')
section
variable {prog:Program} {w:World} {A:Around} {E:Value->Shared->Prop} {s:Shared}
end
section
variable {X:Cx}
end
end L2
namespace L2
open PySem PySem.Spec PyProof.Rows PySem.Calls
mutual
inductive zkK (h:Heap):NK->Value->Prop where
 |int (i:Int) (t:Tok):zkK h (.int i) (.int i t)
 |str (x:Str) (t:Tok):zkK h (.str x) (.str x t)
 |tup {a:Addr} {o:Obj} {items:Array Value} {n:Nat} {l:List NK}:h.get? a=some o->o.cls= .type "tuple"->o.data= .seq items n->zg0 h l items.toList->zkK h (.tup l) (.ref a)
inductive zg0 (h:Heap):List NK->List Value->Prop where
 |nil:zg0 h [] []
 |cons {k:NK} {v:Value} {ks:List NK} {vs:List Value}:zkK h k v->zg0 h ks vs->zg0 h (k::ks) (v::vs)
end
section
variable {h h':Heap}
end
section
variable {prog:Program} {w:World} {E:Value->Shared->Prop}
end
mutual
inductive NIs (K:rF) (H:Hp):V->NK->Prop where
 |int (i:Int):NIs K H (.int i) (.int i)
 |str (x:Str):NIs K H (.str x) (.str x)
 |tup {a:Addr} {vs:List V} {l:List NK}:SqT K H a vs->zkL K H vs l->NIs K H (.ref a) (.tup l)
inductive zkL (K:rF) (H:Hp):List V->List NK->Prop where
 |nil:zkL K H [] []
 |cons {v:V} {k:NK} {vs:List V} {ks:List NK}:NIs K H v k->zkL K H vs ks->zkL K H (v::vs) (k::ks)
end
section
variable {X:Cx} {pins:List (Addr×Obj)} {σ:St} {H:Hp} {s:Shared}
end
noncomputable abbrev PN:List (NK×Addr×V)->List (NK×Addr×Value)->Prop:=Paired λ(p:NK×Addr×V) (q:NK×Addr×Value)=>p.1=q.1/\p.2.1=q.2.1/\yN p.2.2 q.2.2
section
variable {X:Cx} {pins:List (Addr×Obj)} {σ:St} {H:Hp} {s:Shared} {a:Addr}
end
section
variable {X:Cx} {pins:List (Addr×Obj)} {σ:St} {H:Hp} {s:Shared} {a:Addr} {y v d:V} {u r:Value} {o:Option V} {A:Around} {E:Value->Shared->Prop}
end
section
variable {X:Cx} {o i e f value:Expr} {pos pos' i9 apos cC:Pos} {td ty tv tx:TE} {K:rF} {r:Nat}
end
end L2
namespace L2
open PySem PySem.Spec PyProof.Rows PySem.Calls PySem.W
section
variable {prog:Program} {w:World} {A:Around} {E:Value->Shared->Prop} {s:Shared} {d it:Addr} {es:Array DictEntry} {ep i:Nat}
end
noncomputable def ltL:List Int->List Int->Bool
 |[],[]=>false
 |[],_::_=>true
 |_::_,[]=>false
 |a::x,b::y=>if a=b then ltL x y else decide (a<b)
section
variable {prog:Program} {w:World} {A:Around} {E:Value->Shared->Prop} {s:Shared}
end
section
variable {prog:Program} {w:World} {A:Around} {E:Value->Shared->Prop} {s:Shared} {T:String} {r d:Addr} {n:Nat} {P:Nat->Value->Prop} {OK:Heap->Prop} {Q:Value->Shared->Prop}
end
section
variable {X:Cx}
end
end L2
namespace L2
open PySem PySem.Spec PyProof.Rows PySem.Calls
open AutoSeq1 (wpAny_loadPart')
section
variable {prog:Program} {w:World} {A:Around} {E:Value->Shared->Prop} {s:Shared} {it t:Addr} {ag:Array Value}
end
section
variable {X:Cx}
end
end L2
namespace L2
open PySem PySem.Spec PyProof.Rows
section
variable {X:Cx}
end
end L2
namespace L2
open PySem PySem.Spec PyProof.Rows PySem.Calls PySem.W
section
variable {cmp:Nat->Nat->(Bool->Shared->Prop)->Shared->Prop} {r:Nat->Int} {n:Nat} {s:Shared}
end
section
variable {prog:Program} {w:World} {A:Around} {E:Value->Shared->Prop} {κ:SortKind} {it:Array Keyed} {s:Shared}
end
section
variable {X:Cx} {pins:List (Addr×Obj)} {σ:St} {H:Hp} {s:Shared} {h':Heap}
end
def znN (is:List (List Int)):Prop:=(2<=is.length->∀l∈is,l≠[])/\∀i j,i<j->j<is.length->ltL (is.getD j []) (is.getD i [])=true
section
variable {X:Cx} {k:Nat} {f:Addr} {fd:FuncData} {ps:List Str} {sp:Sp} {pins:List (Addr×Obj)} {σ:St} {H:Hp} {s:Shared}
end
section
variable {X:Cx}
def zjc (K:rF) (ta:TA):TI:=λσ H R=>ta σ H λvs H1=>∃a,vs=[.ref a]/\((∃xs,SqL K H1 a xs)/\R (Ite K a) H1\/(∃xs,SqT K H1 a xs)/\R (zme K a) H1)
theorem zjd {K:rF} {elts:List Expr} {k:Nat} {tp:Pos} {l:Expr} {ta:TA} {p pos:Pos} (hg:Gl X "enumerate") (hm:X.mg "enumerate"=none) (ha:PA X [l] ta) (hK:X.K=K:=by rfl) (hs:starEach [l] X.env=[(false,eval l X.env)]:=by rfl):
  PI X (.Tuple elts k tp) (.Call (.Name "enumerate" p) [l] [] pos) (zjc K ta):=by
 subst hK
 intro pins s σ H R I h
 refine Call_ (YB I hg hm Boot.«enumerate» (sP (thn (ha pos pins s σ H _ I h) ?_) hs rfl))
 rintro us s1 ⟨vs,H1,I1,r1,q1⟩
 obtain⟨a,e,q1⟩:=q1
 subst e
 obtain⟨u,rfl,ru⟩:=YC r1
 cases ru
 have nV:∀b∈[s1.heap.objs.size+1,s1.heap.objs.size],za5 X pins H1 b:=λb hb=>by
  have hb:s1.heap.objs.size<=b:=by
   rcases (by simpa using hb:b=s1.heap.objs.size+1\/b=s1.heap.objs.size) with rfl|rfl
   ·exact t5 _
   ·exact rL _
  exact Inv.fpOk I1 hb (I1.hok.fresh hb)|>λ⟨f0,f1,f2,f3,f4,f5⟩=>⟨f0,f1,f2,f3,f4,f5⟩
 rcases q1 with⟨⟨xs,hq⟩,q⟩|⟨⟨xs,hq⟩,q⟩
 ·obtain⟨ag,rv,p,hz⟩:=I1.list hq
  refine call_enumerate_list p.isList λh' he hit eN hk=> ?_
  have I2:Inv X pins σ H1 {s1 with heap:=h'}:=I1.kept (t':=s1.toks) hk
  refine wpAny_pyIter_enum (s:={s1 with heap:=h'}) he ?_
  exact⟨s1.heap.objs.size+1,[s1.heap.objs.size+1,s1.heap.objs.size],_,_,H1,rfl,I2,zhx a (s1.heap.objs.size+1) s1.heap.objs.size (y6 _),⟨⟨_,he⟩,hit⟩,nV,q⟩
 ·obtain⟨ag,rv,p,hz⟩:=I1.tuple hq
  refine zbm p λh' he hit eN hk=> ?_
  have I2:Inv X pins σ H1 {s1 with heap:=h'}:=I1.kept (t':=s1.toks) hk
  refine wpAny_pyIter_enum (s:={s1 with heap:=h'}) he ?_
  exact⟨s1.heap.objs.size+1,[s1.heap.objs.size+1,s1.heap.objs.size],_,_,H1,rfl,I2,zbn a (s1.heap.objs.size+1) s1.heap.objs.size (y6 _),⟨⟨_,he⟩,hit⟩,nV,q⟩
end
theorem zg1:∀{xs:List V} {us:List Value},xs.length=us.length->(∀(i:Nat) x u,xs[i]? =some x->us[i]? =some u->yN x u)->yt xs us
 |[],[],_,_=> .nil
 |[],_::_,h,_=>by simp at h
 |_::_,[],h,_=>by simp at h
 |x::xs,u::us,h,k=> .cons (k 0 x u rfl rfl) (zg1 (by simpa using h) λi a b ha hb=>k (i+1) a b ha hb)
section
variable {X:Cx}
noncomputable def zbH (n:Nat):List V:=(tH n).map λ(i:Nat)=>V.int (i:Int)
theorem zg2:∀(x y:List Int),HT.YD x y=ltL x y
 |[],[]=>rfl
 |[],_::_=>rfl
 |_::_,[]=>rfl
 |a::x,b::y=>by
  rw[HT.zba,ltL,zg2 x y]
theorem zkM {K:rF} {k:Nat} (hr:ZQ k X.A) (hK:X.K=K:=by rfl):OpR X (compareOp .Lt) (zl6 K):=hK ▸ zl7 (tu ⋯ hr.un)
def zje (te:TE):TE:=λσ H Q=>te σ H λx H1=>∃n:Int,x= .int n/\0<=n/\n<=1000000/\∀l,H1 l=none->Q (.ref l) (upd H1 l (.lst (zbH n.toNat)))
theorem zjf {e:Expr} {te:TE} {p p2 pos eG:Pos} (hc:X.calm=true) (hg:Gl X "list") (hm:X.mg "list"=none) (lR:Gl X "range") (lJ:X.mg "range"=none) (ha:PE X e te)
  (gP:starEach [e] X.env=[(false,eval e X.env)]:=by rfl) (he:starEach [.Call (.Name "range" p2) [e] [] eG] X.env=[(false,eval (.Call (.Name "range" p2) [e] [] eG) X.env)]:=by rfl):
  PE X (.Call (.Name "list" p) [.Call (.Name "range" p2) [e] [] eG] [] pos) (zje te):=by
 intro pins s σ H Q I h
 refine wpAny_Call_Name_kw (YB I hg hm boot_list ?_ ∅ ∅)
 refine sP ?_ he rfl
 rw[he]
 show wpAny _ _ (spliced ((false,eval (.Call (.Name "range" p2) [e] [] eG) X.env)::backTo pos [])) _ _ s
 refine Calls.spliced_cons ?_
 refine wpAny_Call_Name_kw (YB I lR lJ boot_range ?_ ∅ ∅)
 refine sP ?_ gP rfl
 refine thn (za ha zg gP eG pins s σ H (λvs H1=>∃n:Int,vs=[.int n]/\0<=n/\n<=1000000/\∀l,H1 l=none->Q (.ref l) (upd H1 l (.lst (zbH n.toNat)))) I ?_) λus s1 ⟨vs,H1,I1,r1,q1⟩=> ?_
 ·have e:(λ(x:V) (H1:Hp)=>∃n:Int,[x]=[V.int n]/\0<=n/\n<=1000000/\∀l,H1 l=none->Q (.ref l) (upd H1 l (.lst (zbH n.toNat))))=λx H1=>∃n:Int,x= .int n/\0<=n/\n<=1000000/\∀l,H1 l=none->Q (.ref l) (upd H1 l (.lst (zbH n.toNat))):=by
   funext x H1
   simp
  show te σ H λx H1=>∃n:Int,[x]=[V.int n]/\0<=n/\n<=1000000/\∀l,H1 l=none->Q (.ref l) (upd H1 l (.lst (zbH n.toNat)))
  rw[e]
  exact h
 obtain⟨n,rfl,h0,h1,q⟩:=q1
 obtain⟨u,rfl,t,rfl⟩:=YC r1
 refine call_range_1 ?_
 refine Calls.spliced_nil ?_
 have hn:Builtin.Range.rangeSize 0 n 1=n.toNat:=by rw[rangeSize_one];split<;>omega
 refine call_list_range (n:=n.toNat) (I1.ok.hd hc) (IsRange.new ..) (small_one ∅ ∅ ⋯ ⋯) hn (si ⋯ (show 1000000<=2^24 by decide)) λh' tk acc' c' hk iP d5=> ?_
 have kept:∀b o,s1.heap.get? b=some o->h'.get? b=some o:=λb o e=>hk b o (Heap.get?_push_of_some _ e)
 have eN:s1.heap.objs.size<=(s1.heap.push {cls:= .type "range",data:= .fields #[.int 0 s1.toks,.int n t,.int 1 (s1.toks+1)]}).objs.size:=by rw[Heap.size_push];exact t5 _
 obtain⟨a1,a2⟩:=d5
 have hv:yt (zbH n.toNat) acc'.toList:=by
  refine zg1 (by simp[zbH,a1]) λi v u ei eu=> ?_
  unfold zbH at ei
  rw[rM] at ei
  have hi:i<n.toNat:=by
   have:=(rH.1 eu).1
   simpa [a1] using this
  rw[uW hi] at ei
  cases ei
  obtain⟨t,rfl⟩:=a2 i u (by simpa using eu)
  exact⟨t,by simp⟩
 refine⟨.ref _,_,I1.laid (o:= .lst (zbH n.toNat)) (t':=tk) kept eN ⟨by
  unfold zbH
  rw[rJ,BH]
  exact si ⋯ (show 1000000<=sizeLine by decide),acc'.toList,c',hv,by rw[iP]⟩,rfl,q _ (I1.hok.fresh eN)⟩
end
end L2
namespace L2
open PySem PySem.Spec PyProof.Rows PySem.Calls
section
variable {K:rF} {E:XK}
noncomputable def zaY:D->D->Bool
 | .tup _,.tup _=>true
 | .lst _,.lst _=>true
 |_,_=>false
noncomputable def zjg (neg:Bool):Op2:=λx y S=>match Wy S 40 x,Wy S 40 y with
 |some d,some e=>if zaY d e then (eqG 40 d e).map λb=>(.bl (neg !=b),S) else none
 |_,_=>none
theorem zgi {d e:D} (h:zaY d e=true):∃l m,(d= .tup l/\e= .tup m)\/(d= .lst l/\e= .lst m):=by
 unfold zaY at h
 split at h
 ·exact⟨_,_,.inl ⟨rfl,rfl⟩⟩
 ·exact⟨_,_,.inr ⟨rfl,rfl⟩⟩
 ·cases h
theorem zmB {neg:Bool}:Yr K (znM K neg) (zjg neg):=by
 intro F j σ H ρ S S' x y z u v Q E1 hx hy h k
 unfold zjg at h
 split at h
 ·rename_i d e e1 e2
  split at h
  ·rename_i hb
   cases hg:eqG 40 d e with
   |none=>rw[hg] at h;cases h
   |some b=>
    rw[hg] at h
    cases h
    exact⟨d,e,b,zgi hb,(zdH E1 40 _ _ _ hx e1).1,(zdH E1 40 _ _ _ hy e2).1,hg,k _ _ _ Ext.refl E1 (.bl _)⟩
  ·cases h
 ·cases h
end
section
variable {S:Sto} {x y:Xv} {P:Xv->Sto->Prop} {p q:Int}
theorem zmC {neg b:Bool} {d e:D} (h1:Wy S 40 x=some d) (h2:Wy S 40 y=some e) (hs:zaY d e=true) (hb:eqG 40 d e=some b) (k:P (.bl (neg !=b)) S):WO (zjg neg x y S) P:= .of (by unfold zjg;rw[h1,h2];dsimp only;rw[if_pos hs,hb];rfl) k
theorem zeX {ρc:Rho} {get:Sto->Option (List Xv)} {g:TwG} {c:TwT} {m:TwE} {xs:List Xv} (hl:xs.length<=sizeLine) (J:Nat->List Xv->Sto->Prop) (hg:∀i es S,i<=xs.length->J i es S->get S=some xs)
  (h:∀(i:Nat) (x:Xv) es S,xs[i]? =some x->es.length<=i->J i es S->W (g x ρc S) λρ1 S1=>W (c ρ1 S1) λb S2=>(b=true->W (m ρ1 S2) λy S3=>J (i+1) (es++[y]) S3)/\(b=false->J (i+1) es S2)) (h0:J 0 [] S)
  (k:∀es S,es.length<=xs.length->J xs.length es S->P (.ref S.length) (S++[.lst es])):W (Ze get g c m ρc (xs.length+1) 0 [] S) P:=by
 have aux:∀(n i:Nat) (es:List Xv) (S:Sto),i+n=xs.length->es.length<=i->J i es S->W (Ze get g c m ρc (n+1) i es S) P:=by
  intro n
  induction n with
  |zero=>
   intro i es S e el hj
   unfold Ze
   rw[hg i es S ⋯ hj,rZ,tJ ⋯]
   dsimp only
   rw[if_pos ⋯]
   exact .of rfl (k es S ⋯ (by rw[show xs.length=i by omega];exact hj))
  |succ n ih=>
   intro i es S e el hj
   unfold Ze
   have hi:i<xs.length:=by omega
   rw[hg i es S ⋯ hj,rZ,rG hi]
   obtain⟨ρ1,S1,e1,b,S2,e2,t,f⟩:=h i _ es S (rG hi) el hj
   dsimp only[rn]
   rw[e1]
   dsimp only[rn]
   rw[e2]
   dsimp only[rn]
   cases b with
   |true=>
    obtain⟨y,S3,e3,q⟩:=t rfl
    rw[if_pos rfl,e3]
    dsimp only[rn]
    rw[if_pos ⋯]
    exact ih (i+1) (es++[y]) S3 ⋯ (by simp;omega) q
   |false=>
    rw[if_neg (by simp)]
    exact ih (i+1) es S2 ⋯ ⋯ (f rfl)
 exact aux xs.length 0 [] S ⋯ (by simp) h0
end
section
variable {K:rF} {E:XK}
end
section
variable {K:rF} {E:XK}
end
section
variable {K:rF} {E:XK}
end
section
variable {K:rF} {E:XK} {F:Fm} {j:List Addr} {H:Hp} {σ:St} {ρ:Rho} {S:Sto} {x y z:Xv} {u v w:V}
end
section
variable {K:rF} {j:List Addr} {H:Hp}
end
section
variable {ρ:Rho} {S:Sto} {P:Xv->Sto->Prop} {N:Rho->Sto->Prop} {R:Xv->Sto->Prop} {a b m z:TwE} {x y:Xv}
end
noncomputable def zcq (S:Sto) (x:Xv) (nm:Str):Option (Nat×List (Str×Xv)):=match x with
 | .ref n=>match S[n]? with
  |some (.ins nm' fs)=>if nm'=nm then some (n,fs) else none
  |_=>none
 |_=>none
theorem zai {S:Sto} {x:Xv} {nm:Str} {n:Nat} {fs:List (Str×Xv)} (h:zcq S x nm=some (n,fs)):x= .ref n/\S[n]? =some (.ins nm fs):=by
 unfold zcq at h
 split at h
 ·split at h
  ·split at h
   ·rename_i e1 e2
    cases h
    subst e2
    exact⟨rfl,e1⟩
   ·cases h
  ·cases h
 ·cases h
theorem Ts {S:Sto} {nm:Str} {n:Nat} {fs:List (Str×Xv)} (h:S[n]? =some (.ins nm fs)):zcq S (.ref n) nm=some (n,fs):=by
 unfold zcq
 dsimp only
 rw[h]
 dsimp only
 rw[if_pos rfl]
noncomputable def WA (f:Str) (v:Xv):List (Str×Xv)->List (Str×Xv)
 |[]=>[(f,v)]
 |(g,x)::r=>if g=f then (g,v)::r else (g,x)::WA f v r
section
variable {K:rF} {E:XK} {F:Fm} {j:List Addr} {H:Hp} {σ:St} {ρ:Rho} {S:Sto} {x:Xv} {v:V} {nm f m:Str} {C:Addr}
theorem KX.look:∀{fs:List (Str×Xv)} {vs:List (Str×V)},KX K j H fs vs->(∀y,fs.lookup f=some y->∃w,vs.lookup f=some w/\Xis K j H y w)/\(fs.lookup f=none->vs.lookup f=none)
 |_,_,.nil=>⟨(λ_ e=>by cases e),λ_=>rfl⟩
 |(g,y1)::r,(_,w1)::rs,.cons h l=>by
  obtain⟨i1,i2⟩:=KX.look l
  rw[tj,tj]
  cases hb:(f==g) with
  |true=>exact⟨(λy e=>by cases e;exact⟨w1,rfl,h⟩),(λe=>by cases e)⟩
  |false=>exact⟨i1,i2⟩
theorem KX.putF (hx:Xis K j H x v):∀{fs:List (Str×Xv)} {vs:List (Str×V)},KX K j H fs vs->KX K j H (WA f x fs) (Xt f v vs)
 |_,_,.nil=> .cons hx .nil
 |(g,y1)::r,(_,w1)::rs,.cons h l=>by
  unfold WA L2.Xt
  by_cases e:g=f
  ·rw[if_pos e,if_pos e];exact .cons hx l
  ·rw[if_neg e,if_neg e];exact .cons h (KX.putF hx l)
theorem En.ins {n:Nat} {fs:List (Str×Xv)} (eL:se K mainGlobals nm=some (some (.ref C))) (E1:En K F j H σ ρ S) (hx:Xis K j H x v) (h:zcq S x nm=some (n,fs)):∃a dx vs,v= .ref a/\j[n]? =some a/\H a=some (.ins C dx vs)/\KX K j H fs vs:=by
 obtain⟨rfl,hs⟩:=zai h
 obtain⟨a,rfl,hj⟩:=hx.ref_inv
 obtain⟨C',dx,vs,e0,e1,e2⟩:=E1.cel _ _ _ hs hj
 rw[eL] at e0
 cases e0
 exact⟨a,dx,vs,rfl,hj,e1,e2⟩
noncomputable def vo (nm f:Str) (o:TwE):TwE:=λρ S=>rb (o ρ S) λx S1=>(zcq S1 x nm).bind λp=>(p.2.lookup f).map λy=> .ok y S1
theorem WB {to:TE} {o:TwE} (eL:se K mainGlobals nm=some (some (.ref C))) (hc:Cls K C) (hn:Ye K C f) (h:RE K E to o):RE K E (znd K to f) (vo nm f o):=by
 intro F j σ H ρ S r Q En0 e k
 rcases yg e with⟨x,S1,e1,e⟩|⟨c,S1,e1,rfl⟩
 ·refine h En0 e1 λj1 H1 X1 E1 u hu=> ?_
  rw[u9] at e
  obtain⟨⟨n,fs⟩,e2,e⟩:=e
  rw[AV] at e
  obtain⟨y,e3,rfl⟩:=e
  obtain⟨a,dx,vs,rfl,hj,f1,f2⟩:=E1.ins eL hu e2
  obtain⟨w,g1,g2⟩:=f2.look.1 y e3
  exact⟨a,C,dx,vs,w,rfl,f1,hc,hn,g1,k _ _ X1 E1 _ g2⟩
 ·exact h En0 e1 k
noncomputable def zg3 (nm f:Str) (o m:TwE):TwS:=λρ S=>sb (m ρ S) λy S1=>sb (o ρ S1) λx S2=>(zcq S2 x nm).bind λp=>if p.2.length<1000 then some (.nx ρ (S2.set p.1 (.ins nm (WA f y p.2)))) else none
theorem KX.len2:∀{fs:List (Str×Xv)} {vs:List (Str×V)},KX K j H fs vs->vs.length=fs.length
 |_,_,.nil=>rfl
 |_,_,.cons _ l=>by simp[l.len2]
theorem zg4 {to tv:TE} {o m:TwE} (eL:se K mainGlobals nm=some (some (.ref C))) (hc:Cls K C) (hn:Ye K C f) (ho:RE K E to o) (hv:RE K E tv m):RS K E (zne K to tv f) (zg3 nm f o m):=by
 intro F j D' σ H ρ S fl E0 e kk
 rcases wE e with⟨y,S1,e1,e⟩|⟨c,S1,e1,rfl⟩
 ·refine hv E0 e1 λj1 H1 X1 E1 wy kU=> ?_
  rcases wE e with⟨x,S2,e2,e⟩|⟨c,S2,e2,rfl⟩
  ·refine ho E1 e2 λj2 H2 X2 E2 u hu=> ?_
   rw[u9] at e
   obtain⟨⟨n,fs⟩,e3,e⟩:=e
   dsimp only at e
   split at e
   ·rename_i hl
    cases e
    obtain⟨a,dx,vs,rfl,hj,f1,f2⟩:=E2.ins eL hu e3
    obtain⟨E4,X4⟩:=E2.write (o:= .ins C dx (L2.Xt f wy vs)) (c':= .ins nm (WA f y fs)) (zai e3).2 rfl hj rfl λX=>⟨C,dx,_,eL,yW,(KX.putF (kU.mono X2) f2).mono X⟩
    exact⟨a,C,dx,vs,rfl,f1,hc,hn,by rw[f2.len2];exact hl,kk _ _ _ (X1.trans (X2.trans X4)) E4⟩
   ·cases e
  ·exact ho E1 e2 (PX.mono kk X1)
 ·exact hv E0 e1 kk
noncomputable def vj (nm m:Str) (tw:TwF) (o:TwE) (ms:List TwE):TwE:=λρ S=>rb (o ρ S) λx S1=>(zcq S1 x nm).bind λp=>if p.2.lookup m=none then rb (evL ms ρ S1) λxs S2=>tw (x::xs) S2 else none
theorem YM {n:Nat} {tw:TwF} {o:TwE} {to:TE} {ms:List TwE} {t:TA} (eL:se K mainGlobals nm=some (some (.ref C))) (ho:RE K E to o) (h:RL K E t (evL ms)) (hn:ms.length+1=n:=by rfl):RE K E (zlt C m (sTw K n tw) [] E to t) (vj nm m tw o ms):=by
 intro F j σ H ρ S r Q En0 e k
 rcases yg e with⟨x,S1,e1,e⟩|⟨c,S1,e1,rfl⟩
 ·refine ho En0 e1 λj1 H1 X1 E1 u hu=> ?_
  rw[u9] at e
  obtain⟨⟨q,fs⟩,e2,e⟩:=e
  dsimp only at e
  split at e
  ·rename_i pz
   obtain⟨a,dx,o6,rfl,hj,f1,f2⟩:=E1.ins eL hu e2
   refine⟨a,dx,o6,rfl,f1,f2.look.2 pz,?_⟩
   rcases yg e with⟨xs,S2,e3,e⟩|⟨c,S2,e3,rfl⟩
   ·refine h E1 e3 λj2 H2 X2 E2 vs hv=> ?_
    rw[sI]
    exact zae E2 (.cons (hu.mono X2) hv) (by rw[rP,hv.len,Wu e3,hn]) e (k.step (X1.trans X2))
   ·exact h E1 e3 (k.step X1)
  ·cases e
 ·exact ho En0 e1 k
noncomputable def zgj (nm:Str) (tw:TwF) (ms:List TwE):TwE:=λρ S=>rb (evL ms ρ S) λxs S1=>match tw (.ref S1.length::xs) (S1++[.ins nm []]) with
 |some (.ok .non S2)=>some (.ok (.ref S1.length) S2)
 |_=>none
theorem zjh {n:Nat} {tw:TwF} {ms:List TwE} {t:TA} (eL:se K mainGlobals nm=some (some (.ref C))) (h:RL K E t (evL ms)) (hn:ms.length+1=n:=by rfl):RE K E (zlu C (sTw K n tw) [] E t) (zgj nm tw ms):=by
 intro F j σ H ρ S r Q En0 e k
 rcases yg e with⟨xs,S1,e1,e⟩|⟨c,S1,e1,rfl⟩
 ·refine h En0 e1 λj1 H1 X1 E1 vs hv=> ?_
  intro x dx hx pX ef
  rw[sI]
  split at e
  ·rename_i S2 e2
   cases e
   have kT:upd H1 dx (.own x) x=none:=by rw[yR (λz=>ef z.symm)];exact hx
   obtain⟨E2,X2⟩:=E1.new (p:=dx) (o:= .own x) pX
   obtain⟨E3,X3⟩:=E2.cell (p:=x) (o:= .ins C dx []) (c:= .ins nm []) kT ⟨C,dx,[],eL,yW,.nil⟩
   have X23:=X2.trans X3
   have hr:Xis K (j1++[x]) (upd (upd H1 dx (.own x)) x (.ins C dx [])) (.ref S1.length) (.ref x):= .ref (by rw[<-E1.jl];simp)
   refine zae E3 (.cons hr (hv.mono X23)) (by rw[rP,hv.len,Wu e1,hn]) e2 λj' H' X E4 v hw=> ?_
   exact⟨hw.non_inv,k _ _ (X1.trans (X23.trans X)) E4 _ (hr.mono X)⟩
  ·cases e
 ·exact h En0 e1 k
end
section
variable {ρ:Rho} {S:Sto} {P:Xv->Sto->Prop} {N:Rho->Sto->Prop} {R:Xv->Sto->Prop} {o m:TwE} {ms:List TwE} {nm f:Str}
theorem UF (h:W (o ρ S) λx S1=>∃n fs y,x= .ref n/\S1[n]? =some (.ins nm fs)/\fs.lookup f=some y/\P y S1):W (vo nm f o ρ S) P:=
 W.bind (h.imp λ_ _ h=>by obtain⟨n,fs,y,rfl,e1,e2,q⟩:=h;rw[Ts e1,rZ,e2];exact .of rfl q)
theorem zg5 (h:W (m ρ S) λy S1=>W (o ρ S1) λx S2=>∃n fs,x= .ref n/\S2[n]? =some (.ins nm fs)/\fs.length<1000/\N ρ (S2.set n (.ins nm (WA f y fs)))):WS (zg3 nm f o m ρ S) N R:=
 WS.bind (h.imp λ_ _ h=>WS.bind (h.imp λ_ _ h=>by obtain⟨n,fs,rfl,e1,e2,q⟩:=h;rw[Ts e1,rZ,if_pos e2];exact .nx rfl q))
theorem WC {tw:TwF} (h:W (o ρ S) λx S1=>∃n fs,x= .ref n/\S1[n]? =some (.ins nm fs)/\fs.lookup f=none/\W (evL ms ρ S1) λxs S2=>W (tw (x::xs) S2) P):W (vj nm f tw o ms ρ S) P:=
 W.bind (h.imp λ_ _ h=>by obtain⟨n,fs,rfl,e1,e2,q⟩:=h;rw[Ts e1,rZ,if_pos e2];exact W.bind (q.imp λ_ _ h=>h))
theorem zkN {tw:TwF} (h:W (evL ms ρ S) λxs S1=>W (tw (.ref S1.length::xs) (S1++[.ins nm []])) λv S2=>v= .non/\P (.ref S1.length) S2):W (zgj nm tw ms ρ S) P:=
 W.bind (h.imp λxs S1 h=>by
  obtain⟨v,S2,e,rfl,q⟩:=h
  rw[e]
  exact .of rfl q)
end
theorem zaZ {K:rF} {X:Cx} (h:X.K=K:=by rfl):IxR X (rIx K):=h ▸ zl9
section
variable {K:rF} {E:XK} {j:List Addr} {H:Hp}
end
noncomputable def zgk (c:Str) (ms:List TwE):TwS:=λρ S=>sb (evL ms ρ S) λ_ S1=>some (.ex c S1)
section
variable {K:rF} {E:XK} {F:Fm} {j:List Addr} {H:Hp} {σ:St} {ρ:Rho} {S:Sto} {x:Xv} {v:V} {c:Str} {C:Addr}
theorem zeY {ms:List TwE} {t:TA} (eL:se K mainGlobals c=some (some (.ref C))) (h:RL K E t (evL ms)) (hl:ms.length<=10:=by decide):RS K E (ziu C E t) (zgk c ms):=by
 intro F j D' σ H ρ S fl E0 e kk
 rcases wE e with⟨xs,S1,e1,e⟩|⟨c',S1,e1,rfl⟩
 ·cases e
  refine h E0 e1 λj1 H1 X1 E1 vs hv=>⟨?_,kk _ _ _ _ C X1 E1 eL⟩
  rw[hv.len,Wu e1]
  exact si hl ∅
 ·exact h E0 e1 kk
end
end L2
namespace L2
open PySem
section
variable {ρ:Rho} {S S':Sto} {x y:Xv} {a b m o:TwE} {c:TwT} {s t:TwS} {i k:Nat} {P:Xv->Sto->Prop} {PL:List Xv->Sto->Prop} {N:Rho->Sto->Prop} {R:Xv->Sto->Prop} {X:Str->Sto->Prop}
end
end L2
namespace L2
open PySem PySem.Spec PyProof.Rows PySem.Calls
section
variable {K:rF} {E:XK} {F:Fm} {j:List Addr} {H:Hp} {σ:St} {ρ:Rho} {S:Sto} {x:Xv} {v:V} {nm f:Str} {C:Addr}
noncomputable def zbI:OpM:=λx ys S=>match Tk S x,ys with
 |some (_,l),[y]=>if YK y&&l.all YK then (l.findIdx? λz=>zcp z y).map λ(k:Nat)=>(Xv.int (k:Int),S) else none
 |_,_=>none
theorem zji:zhH K ziB zbI:=by
 intro F j σ H ρ S S' x z ys u vs Q E0 hx hy h k
 unfold zbI at h
 split at h
 ·rename_i n l y e
  split at h
  ·rename_i hf
   have hf:=Bd.1 hf
   rw[AV] at h
   obtain⟨q,e3,h⟩:=h
   cases h
   obtain⟨a,ws,rfl,hj,h1,h2⟩:=E0.wl hx e
   obtain⟨w0,rfl,hw⟩:=hy.d1
   obtain⟨iH,pK,pJ⟩:=y3.1 e3
   obtain⟨w,w1,w2⟩:=h2.get (rG iH)
   have fl:∀(m:Nat) (hm:m<l.length),YK l[m]=true:=λm hm=>ub.1 hf.2 _ (uN hm)
   refine⟨a,ws,w0,q,rfl,rfl,h1,?_,?_,⟨w,w1,?_⟩,λm z hm hz=> ?_,k _ _ _ Ext.refl E0 (.int _)⟩
   ·rw[zbA hw];exact hf.1
   ·rw[zdG h2];exact hf.2
   ·rw[zgg w2 hw (fl _ iH) hf.1];exact pK
   ·have nC:m<l.length:=by omega
    obtain⟨y',y1,y2⟩:=h2.get (rG nC)
    rw[hz] at y1
    cases y1
    rw[zgg y2 hw (fl _ nC) hf.1]
    have:=pJ m hm
    simpa using this
  ·cases h
 ·cases h
theorem zjj {P:Xv->Sto->Prop} {n k:Nat} {l:List Xv} {y:Xv} (h:Tk S x=some (n,l)) (hf:(YK y&&l.all YK)=true) (e:(l.findIdx? λz=>zcp z y)=some k) (q:P (.int (k:Int)) S):WO (zbI x [y] S) P:= .of (by unfold zbI;rw[h];dsimp only;rw[if_pos hf,e];rfl) q
noncomputable def zmD (m:TwE):TwI:=λρ S=>rb (m ρ S) λx S1=>x.tupOf.map λl=> .ok (λ_=>some l.reverse) S1
theorem zkO {t:TE} {m:TwE} (h:RE K E t m):RI K E (znq K (zaw t zfJ)) (zmD m):=by
 intro F j σ H ρ S r R En0 e k
 rcases yg e with⟨x,S1,e1,e⟩|⟨c,S1,e1,rfl⟩
 ·cases el:x.tupOf with
  |none=>rw[el] at e;cases e
  |some l=>
   rw[el] at e
   cases e
   refine h En0 e1 λj1 H1 X1 E1 u hu=> ?_
   obtain⟨a,vs,rfl,h1,oN⟩:=hu.tupO el
   refine⟨a,vs,rfl,h1,k _ _ X1 E1 _ ?_⟩
   intro F2 j2 H2 σ2 ρ2 S2 xs i X2 E2 e2
   cases e2
   obtain⟨a',ws,ea,g1,g2⟩:=(hu.mono X2).tupO el
   cases ea
   have n1:=oN.len
   have n2:=g2.len
   refine⟨λy ey=> ?_,λhle=> ?_⟩
   ·have hi:i<l.length:=by
     have:=(rH.1 ey).1
     simpa using this
    rw[y7 hi] at ey
    obtain⟨w,f1,f2⟩:=g2.get ey
    refine⟨⟨⋯,ws,g1,⋯⟩,?_⟩
    rintro v' H' ⟨rfl,hx⟩
    have:=hx ws g1
    rw[show vs.length-1-i=l.length-1-i by omega,f1] at this
    cases this
    exact⟨TX.refl _,f2⟩
   ·show i=vs.length
    simp at hle
    omega
 ·exact h En0 e1 k
theorem zkP {Q':(Sto->Option (List Xv))->Sto->Prop} {m:TwE} (h:W (m ρ S) λx S1=>∃l,x.tupOf=some l/\Q' (λ_=>some l.reverse) S1):W (zmD m ρ S) Q':=W.bind (h.imp λx S1 h=>by
 obtain⟨l,e,k⟩:=h
 rw[e]
 exact .of rfl k)
noncomputable def zjk (nm f:Str) (o m:TwE):TwS:=λρ S=>sb (o ρ S) λx S1=>(zcq S1 x nm).bind λp=>match p.2.lookup f with
 |some (.int u)=>sb (m ρ S1) λy S2=>match y with
  | .int w=>(zcq S2 x nm).bind λq=>if q.2.length<1000 then some (.nx ρ (S2.set q.1 (.ins nm (WA f (.int (u+w)) q.2)))) else none
  |_=>none
 |_=>none
theorem zkQ {to tv:TE} {o m:TwE} (eL:se K mainGlobals nm=some (some (.ref C))) (hc:Cls K C) (hn:Ye K C f) (ho:RE K E to o) (hv:RE K E tv m):RS K E (zgI K to tv zng f) (zjk nm f o m):=by
 intro F j D' σ H ρ S fl E0 e kk
 rcases wE e with⟨x,S1,e1,e⟩|⟨c,S1,e1,rfl⟩
 ·refine ho E0 e1 λj1 H1 X1 E1 u hu=> ?_
  rw[u9] at e
  obtain⟨⟨n,fs⟩,e2,e⟩:=e
  dsimp only at e
  split at e
  ·rename_i iu el
   obtain⟨a,dx,vs,rfl,hj,f1,f2⟩:=E1.ins eL hu e2
   obtain⟨w,g1,g2⟩:=f2.look.1 _ el
   have ew:=g2.int_inv
   subst ew
   refine⟨a,C,dx,vs,_,rfl,f1,hc,hn,g1,?_⟩
   rcases wE e with⟨y,S2,e3,e⟩|⟨c,S2,e3,rfl⟩
   ·refine hv E1 e3 λj2 H2 X2 E2 wy kU=> ?_
    split at e
    ·rename_i iw
     have:=kU.int_inv
     subst this
     rw[u9] at e
     obtain⟨⟨n2,jc⟩,e4,e⟩:=e
     dsimp only at e
     split at e
     ·rename_i hl
      cases e
      refine⟨iu,iw,rfl,rfl,?_⟩
      obtain⟨a',dx',vs',ea,lO,h1,h2⟩:=E2.ins eL (hu.mono X2) e4
      cases ea
      obtain⟨E4,X4⟩:=E2.write (o:= .ins C dx' (L2.Xt f (.int (iu+iw)) vs')) (c':= .ins nm (WA f (.int (iu+iw)) jc)) (zai e4).2 rfl lO rfl λX=>⟨C,dx',_,eL,yW,(KX.putF (.int _) h2).mono X⟩
      exact⟨dx',vs',h1,by rw[h2.len2];exact hl,kk _ _ _ (X1.trans (X2.trans X4)) E4⟩
     ·cases e
    ·cases e
   ·exact hv E1 e3 (PX.mono kk X1)
  ·cases e
 ·exact ho E0 e1 kk
theorem zkR {N:Rho->Sto->Prop} {R:Xv->Sto->Prop} {o m:TwE} (h:W (o ρ S) λx S1=>∃n fs u,x= .ref n/\S1[n]? =some (.ins nm fs)/\fs.lookup f=some (.int u)/\W (m ρ S1) λy S2=>∃w jc,y= .int w/\S2[n]? =some (.ins nm jc)/\jc.length<1000/\N ρ (S2.set n (.ins nm (WA f (.int (u+w)) jc)))):WS (zjk nm f o m ρ S) N R:=
 WS.bind (h.imp λ_ _ h=>by
  obtain⟨n,fs,u,rfl,e1,e2,h⟩:=h
  rw[Ts e1,rZ]
  dsimp only
  rw[e2]
  refine WS.bind (h.imp λ_ _ h=> ?_)
  obtain⟨w,jc,rfl,e3,e4,q⟩:=h
  dsimp only
  rw[Ts e3,rZ,if_pos e4]
  exact .nx rfl q)
noncomputable def zcY:Op2:=λx y S=>match x,y with
 | .tup u,.int k=>if -(2^63)<=k/\k<2^63/\u.length*k.toNat<=sizeLine then some (.tup (rN k.toNat u).flatten,S) else none
 |_,_=>none
theorem zeZ {xs:List Xv} {vs:List V} (h:yB K j H xs vs):∀n:Nat,yB K j H (rN n xs).flatten (rN n vs).flatten
 |0=> .nil
 |n+1=>by
  rw[sJ,sJ,sY,sY]
  exact h.append (zeZ h n)
theorem zg6:Yr K (zlC K) zcY:=by
 intro F j σ H ρ S S' x y z u v Q E1 hx hy h k
 unfold zcY at h
 split at h
 ·rename_i ds q
  split at h
  ·rename_i hz
   cases h
   obtain⟨p,xs,rfl,h1,h2⟩:=hx.tup_inv
   refine⟨p,_,xs,rfl,hy.int_inv,SqT.of h1,hz.1,hz.2.1,by rw[h2.len];exact hz.2.2,λhc=> ?_,λhc l hl=> ?_⟩
   ·have e:(rN q.toNat ds).flatten=ds:=by
     rcases hc with hc|hc
     ·subst hc
      obtain rfl:=uy.1 h2.len.symm
      simp
     ·subst hc
      simp
    rw[e] at k
    exact k _ _ _ Ext.refl E1 hx
   ·obtain⟨E2,X2⟩:=E1.new (o:= .tup (rN q.toNat xs).flatten) hl
    exact k _ _ _ X2 E2 (.tup yW ((zeZ h2 _).mono X2))
  ·cases h
 ·cases h
theorem zg7 {P:Xv->Sto->Prop} {u:List Xv} {p:Int} (h:0<=p/\p<=1000000/\u.length*p.toNat<=sizeLine) (k:P (.tup (rN p.toNat u).flatten) S):WO (zcY (.tup u) (.int p) S) P:= .of (by unfold zcY;exact if_pos ⟨⋯,⋯,h.2.2⟩) k
end
structure zoc (tw:TwF) (S:Sto) (l:List Xv) (is:List (List Int)):Prop where
 len:is.length=l.length
 key:∀(i:Nat) x,l[i]? =some x->∃k,tw [x] S=some (.ok k S)/\k.tupOf=some ((is.getD i []).map Xv.int)
 fall:znN is
section
variable {K:rF} {E:XK} {j:List Addr} {H:Hp}
noncomputable def zmE (m:TwE):TwI:=λρ S=>rb (m ρ S) λx S1=>match x.tupOf with
 |some l=>some (.ok (λ_=>some (Tr l)) S1)
 |none=>(yD S1 x).map λ_=> .ok (λS=>(yD S x).map Tr) S1
theorem zjl {t:TE} {m:TwE} (h:RE K E t m):RI K E (zjc K (zaw t zfJ)) (zmE m):=by
 intro F j σ H ρ S r R En0 e k
 rcases yg e with⟨x,S1,e1,e⟩|⟨c,S1,e1,rfl⟩
 ·split at e
  ·rename_i l el
   cases e
   refine h En0 e1 λj1 H1 X1 E1 u hu=> ?_
   obtain⟨a,vs,rfl,h1,_⟩:=hu.tupO el
   refine⟨a,rfl,.inr ⟨⟨vs,h1⟩,k _ _ X1 E1 _ ?_⟩⟩
   intro F2 j2 H2 σ2 ρ2 S2 xs i X2 E2 e2
   cases e2
   obtain⟨a',ws,ea,g1,g2⟩:=(hu.mono X2).tupO el
   cases ea
   refine⟨λy ey=> ?_,λhle=>⟨ws,g1,by rw[g2.len];rw[YA] at hle;omega⟩⟩
   obtain⟨y',ey',rfl⟩:=Wc ey
   obtain⟨w,f1,f2⟩:=g2.get ey'
   refine⟨⟨ws,w,g1,f1⟩,?_⟩
   rintro v' H' ⟨p,w',rfl,hp,rfl,hx⟩
   have:=hx ws g1
   rw[f1] at this
   cases this
   exact⟨wv hp,zmn (wv hp) yW f2⟩
  ·cases el:yD S1 x with
   |none=>rw[el] at e;cases e
   |some l=>
    rw[el] at e
    cases e
    refine h En0 e1 λj1 H1 X1 E1 u hu=> ?_
    obtain⟨a,vs,rfl,h1,_⟩:=E1.lstAt hu el
    refine⟨a,rfl,.inl ⟨⟨vs,h1.sql⟩,k _ _ X1 E1 _ ?_⟩⟩
    intro F2 j2 H2 σ2 ρ2 S2 xs i X2 E2 e2
    dsimp only at e2
    cases mm:yD S2 x with
    |none=>rw[mm] at e2;cases e2
    |some l2=>
     rw[mm] at e2
     cases e2
     obtain⟨a',ws,ea,g1,g2⟩:=E2.lstAt (hu.mono X2) mm
     cases ea
     refine⟨λy ey=> ?_,λhle=>⟨ws,g1.sql,by rw[g2.len];rw[YA] at hle;omega⟩⟩
     obtain⟨y',ey',rfl⟩:=Wc ey
     obtain⟨w,f1,f2⟩:=g2.get ey'
     refine⟨⟨ws,w,g1.sql,f1⟩,?_⟩
     rintro v' H' ⟨p,w',rfl,hp,rfl,hx⟩
     have:=hx ws g1.sql
     rw[f1] at this
     cases this
     exact⟨wv hp,zmn (wv hp) yW f2⟩
 ·exact h En0 e1 k
theorem zg8 {m:TwE} {ρ:Rho} {S:Sto} {Q':(Sto->Option (List Xv))->Sto->Prop} (h:W (m ρ S) λx S1=>(∃l,x.tupOf=some l/\Q' (λ_=>some (Tr l)) S1)\/∃l,x.tupOf=none/\yD S1 x=some l/\Q' (λS=>(yD S x).map Tr) S1):W (zmE m ρ S) Q':=W.bind (h.imp λx S1 h=>by
 rcases h with⟨l,e,k⟩|⟨l,e,e2,k⟩
 ·rw[e]
  exact .of rfl k
 ·rw[e,e2]
  exact .of rfl k)
end
section
variable {K:rF} {E:XK} {F:Fm} {j:List Addr} {H:Hp} {σ:St} {ρ:Rho} {S:Sto}
noncomputable def zbJ (x:Xv):Option (List Int):=x.tupOf.bind ZV
noncomputable def zjm:Op2:=λx y S=>match zbJ x,zbJ y with
 |some ns,some ms=>some (.bl (ltL ns ms),S)
 |_,_=>none
theorem ze0 {x:Xv} {v:V} {ns:List Int} (h:Xis K j H x v) (e:zbJ x=some ns):∃a,v= .ref a/\SqT K H a (ns.map V.int):=by
 unfold zbJ at e
 cases et:x.tupOf with
 |none=>rw[et] at e;cases e
 |some l=>
  rw[et,rZ] at e
  obtain⟨a,vs,rfl,h1,h2⟩:=h.tupO et
  rw[Tp e h2] at h1
  exact⟨a,rfl,h1⟩
theorem zmF:Yr K (zl6 K) zjm:=by
 intro F j σ H ρ S S' x y z u v Q E1 hx hy h k
 unfold zjm at h
 split at h
 ·rename_i ns ms e1 e2
  cases h
  obtain⟨a,rfl,h1⟩:=ze0 hx e1
  obtain⟨b,rfl,h2⟩:=ze0 hy e2
  exact⟨a,b,ns,ms,rfl,rfl,h1,h2,by rw[zg2];exact k _ _ _ Ext.refl E1 (.bl _)⟩
 ·cases h
noncomputable def zbK:Opn:=λxs S=>match xs with
 |[.bl b]=>some (.int (if b then 1 else 0),S)
 |[.int i]=>some (.int i,S)
 |_=>none
theorem zkS:Th K (λxs H Q=>(∃i,xs=[.int i]/\Q (.int i) H)\/∃k,xs=[.bl k]/\Q (.int (if k then 1 else 0)) H) zbK:=by
 intro F j σ H ρ S S' xs z vs Q E1 hv h k
 unfold zbK at h
 split at h
 ·cases h
  obtain⟨w,rfl,hx⟩:=hv.d1
  exact .inr ⟨_,by rw[hx.bl_inv],k _ _ _ Ext.refl E1 (.int _)⟩
 ·cases h
  obtain⟨w,rfl,hx⟩:=hv.d1
  exact .inl ⟨_,by rw[hx.int_inv],k _ _ _ Ext.refl E1 (.int _)⟩
 ·cases h
noncomputable def zgl (m:TwE):TwE:=λρ S=>rb (m ρ S) λx S1=>match x with
 | .int n=>if 0<=n/\n<=1000000 then some (.ok (.ref S1.length) (S1++[.lst (xO 0 n.toNat)])) else none
 |_=>none
theorem zmG:∀n:Nat,yB K j H (xO 0 n) (zbH n):=λn=>by
 have key:∀l:List Nat,yB K j H (l.map λ(i:Nat)=>Xv.int (0+(i:Int))) (l.map λ(i:Nat)=>V.int (i:Int)):=λl=>by
  induction l with
  |nil=>exact .nil
  |cons a r ih=>
   refine .cons ?_ ih
   show Xis K j H (.int (0+(a:Int))) (.int (a:Int))
   rw[tM]
   exact .int _
 exact key (tH n)
theorem zjn {t:TE} {m:TwE} (h:RE K E t m):RE K E (zje t) (zgl m):=by
 intro F j σ H ρ S r Q En0 e k
 rcases yg e with⟨x,S1,e1,e⟩|⟨c,S1,e1,rfl⟩
 ·refine h En0 e1 λj1 H1 X1 E1 u hu=> ?_
  split at e
  ·rename_i n
   split at e
   ·rename_i hn
    cases e
    refine⟨n,hu.int_inv,hn.1,hn.2,λq hq=> ?_⟩
    obtain⟨E3,X3,h3⟩:=E1.lst (zmG n.toNat) hq
    exact k _ _ (X1.trans X3) E3 _ h3
   ·cases e
  ·cases e
 ·exact h En0 e1 k
end
theorem zjo {m:TwE} {ρ:Rho} {S:Sto} {P:Xv->Sto->Prop} (h:W (m ρ S) λx S1=>∃n:Int,x= .int n/\(0<=n/\n<=1000000)/\P (.ref S1.length) (S1++[.lst (xO 0 n.toNat)])):W (zgl m ρ S) P:=W.bind (h.imp λx S1 h=>by
 obtain⟨n,rfl,hn,p⟩:=h
 dsimp only
 rw[if_pos hn]
 exact .of rfl p)
theorem zmH {S:Sto} {x y:Xv} {P:Xv->Sto->Prop} {ns ms:List Int} (hx:zbJ x=some ns) (hy:zbJ y=some ms) (k:P (.bl (ltL ns ms)) S):WO (zjm x y S) P:= .of (by unfold zjm;rw[hx,hy]) k
theorem zcZ (ns:List Int):zbJ (.tup (ns.map Xv.int))=some ns:=by
 show ZV (ns.map Xv.int)=some ns
 exact ZB ns
end L2
namespace Mth
open PySem.Builtin.Int (intBits)
end Mth
namespace Prf
open PySem PySem.Spec PyProof.Rows L2
open PySem.Builtin.Int (intBits)
set_option maxHeartbeats 4000000
local macro_rules | `(tactic| walk_at "sc") => `(tactic| exact ⟨rfl, rfl, rfl, by decide +kernel, rfl, by decide +kernel, by decide +kernel⟩)
structure Fi (K:rF) (mg:Str->Option Value) (nm:Str) (st:Stmt) (ps:List Str) where
 a:Addr
 fd:FuncData
 F:Fun K nm nm st a fd
 m:mg nm=some (.ref a)
 b:Ut K fd ps []
structure Mi (K:rF) (g:Addr) (nm qn:Str) (st:Stmt) (ps:List Str) where
 a:Addr
 fd:FuncData
 F:Fun K nm qn st a fd
 b:Ut K fd ps []
 mt:zl2 K g nm a
def LoN (K:rF) (x qual:Str) (st:Stmt) (f:Addr):Prop:=∃fd,Fun K x qual st f fd
def FL (K:rF) (nm:Str) (st:Stmt):Prop:=∃f,se K mainGlobals nm=some (some (.ref f))/\LoN K nm nm st f
def ML (K:rF) (g:Addr) (nm qn:Str) (st:Stmt):Prop:=∃f,sf K (.ref g) nm=some (some (.ref f))/\z3 K (.ref f)=true/\LoN K nm qn st f
theorem znO {K:rF} {x:Str} {st:Stmt} {f:Addr} {oc:Value} {od an:Option Addr} {fU:Array (Option Value)} {kV doc pm aS ct:Value} (a:se K mainGlobals x=some (some (.ref f)))
  (l:K.lookup f=some ⟨oc,od,.func (uh x x (Wp st) (Xb st) (zC st) .none kV doc pm an aS ct),fU⟩) (c:w5 K aS x=true) (k:ua K (.ref f)=true):FL K x st:=⟨f,a,_,ziq l c k⟩
theorem znP {K:rF} {g:Addr} {x qn:Str} {st:Stmt} {f:Addr} {oc:Value} {od an:Option Addr} {fU:Array (Option Value)} {kV doc pm aS ct:Value} (a:sf K (.ref g) x=some (some (.ref f))) (i:z3 K (.ref f)=true)
  (l:K.lookup f=some ⟨oc,od,.func (uh x qn (Wp st) (Xb st) (zC st) .none kV doc pm an aS ct),fU⟩) (c:w5 K aS qn=true) (k:ua K (.ref f)=true):ML K g x qn st:=⟨f,a,i,_,ziq l c k⟩
def BA (x qual:Str) (st:Stmt) (ps:List Str):Prop:=∀(kV doc pm:Value) (an:Option Addr) (aS ct:Value) (us:List Value),us.length=ps.length->bindArgs (uh x qual (Wp st) (Xb st) (zC st) .none kV doc pm an aS ct) ⟨us,[]⟩=pure (ps.zip us)
noncomputable def FL.to {K:rF} {h:Heap} {mg:Str->Option Value} {x:Str} {st:Stmt} {ps:List Str} (H:FL K x st) (X:K.In h) (G:h.Ns mainGlobals mg) (B:BA x x st ps):Fi K mg x st ps:=
 ⟨H.choose,H.choose_spec.2.choose,H.choose_spec.2.choose_spec,tq X G H.choose_spec.1,H.choose_spec.2.choose_spec.binds B⟩
noncomputable def ML.to {K:rF} {g:Addr} {x qn:Str} {st:Stmt} {ps:List Str} (H:ML K g x qn st) (B:BA x qn st ps):Mi K g x qn st ps:=
 ⟨H.choose,H.choose_spec.2.2.choose,H.choose_spec.2.2.choose_spec,H.choose_spec.2.2.choose_spec.binds B,⟨H.choose_spec.1,H.choose_spec.2.1,H.choose_spec.2.2.choose_spec.kp⟩⟩
theorem at0 {P:List Value->Prop} (h:P []):∀us:List Value,us.length=0->P us
 |[],_=>h
theorem at_ {P:List Value->Prop} {n:Nat} (h:∀(a:Value) (us:List Value),us.length=n->P (a::us)):∀us:List Value,us.length=n+1->P us
 |a::us,e=>h a us (Nat.succ.inj e)
theorem zmI {K:rF} {mg:Str->Option Value} {st:Stmt} {x:Str} {fa:Addr} (f:Fi K mg "law" st [x]) (hK:∀s:Shared,K.In s.heap->True) (h:mg "law"=some (.ref fa)):fa=f.a:=by
 have e:=h.symm.trans f.m
 injection e with e
 injection e
section
variable {P:Program} {w:World} {K:rF} {mg:Str->Option Value} {base:Heap} {fu:Nat}
noncomputable def top (i:Nat):Stmt:=PySem.Challenge.pw_lots_k31_whole_runs_walked.main.body.getD i (.Pass ⟨0,0,0,0⟩)
noncomputable abbrev UG:Stmt:=top 7
noncomputable abbrev Xw:Stmt:=top 8
noncomputable abbrev zbL:Stmt:=top 9
noncomputable abbrev UH:Stmt:=top 10
noncomputable abbrev zdL:Stmt:=top 11
noncomputable abbrev WD:Stmt:=top 13
noncomputable abbrev zdM:Stmt:=top 14
noncomputable abbrev UI:Stmt:=top 15
noncomputable abbrev zdN:Stmt:=top 16
noncomputable abbrev UJ:Stmt:=top 17
noncomputable abbrev zdO:Stmt:=top 18
noncomputable abbrev Vy:Stmt:=top 20
noncomputable abbrev YN:Stmt:=top 21
noncomputable abbrev Xe:Stmt:=top 22
noncomputable abbrev WE:Stmt:=top 23
noncomputable abbrev zaj:Stmt:=top 26
noncomputable abbrev UK:Stmt:=top 27
noncomputable abbrev Zg:Stmt:=Ta (top 28) 0
noncomputable abbrev ZD:Stmt:=Ta (top 28) 1
noncomputable abbrev vK:Stmt:=Ta (top 28) 2
noncomputable abbrev vk:Stmt:=Ta (top 28) 3
noncomputable abbrev vm:Stmt:=Ta (top 28) 4
noncomputable abbrev zak:Stmt:=top 30
noncomputable abbrev UL:Stmt:=top 31
noncomputable abbrev WF:Stmt:=top 32
noncomputable abbrev Vz:Stmt:=top 34
noncomputable abbrev VA:Stmt:=top 35
noncomputable abbrev vb:Stmt:=top 36
noncomputable abbrev WG:Stmt:=top 37
noncomputable abbrev Yt:Stmt:=top 38
noncomputable abbrev YO:Stmt:=top 39
noncomputable abbrev VB:Stmt:=top 40
noncomputable abbrev ZE:Stmt:=top 41
noncomputable abbrev Zh:Stmt:=top 42
noncomputable abbrev Xx:Stmt:=top 43
noncomputable abbrev ZL:Stmt:=top 44
noncomputable abbrev Yu:Stmt:=top 45
noncomputable abbrev Xf:Stmt:=top 46
noncomputable abbrev vq:Stmt:=top 47
noncomputable abbrev Xg:Stmt:=top 48
noncomputable abbrev YQ:Stmt:=top 49
noncomputable abbrev WH:Stmt:=top 50
noncomputable abbrev WI:Stmt:=top 51
noncomputable abbrev UM:Stmt:=top 52
noncomputable abbrev UN:Stmt:=top 53
noncomputable abbrev UO:Stmt:=top 54
noncomputable abbrev WJ:Stmt:=top 55
noncomputable abbrev ZY:Stmt:=top 56
noncomputable abbrev ZM:Stmt:=top 57
noncomputable abbrev Xy:Stmt:=top 58
noncomputable abbrev VC:Stmt:=top 59
noncomputable abbrev VD:Stmt:=top 60
noncomputable abbrev WK:Stmt:=top 61
noncomputable abbrev Yv:Stmt:=top 62
noncomputable abbrev zjp:Stmt:=top 63
theorem ze1:zY ["thing"] ["thing"] (zC UG):=by walk_at "sc"
theorem wb:zY ["one","other","rest"] ["one","other"] (zC Xw):=by walk_at "sc"
theorem zal:zY ["top","bottom","part"] ["top","bottom"] (zC zbL):=by walk_at "sc"
theorem ze2:zY ["top","bottom"] ["top","bottom"] (zC UH):=by walk_at "sc"
theorem zjq:zY ["one","other"] ["one","other"] (zC zdL):=by walk_at "sc"
theorem ze3:zY ["boxes","name"] ["boxes","name"] (zC WD):=by walk_at "sc"
theorem zjr:zY ["boxes","state","operand"] ["boxes","state","operand"] (zC zdM):=by walk_at "sc"
theorem VE:zY ["boxes","state","reckoning","one","other"] ["boxes","state","reckoning"] (zC UI):=by walk_at "sc"
theorem zbM:zY ["boxes","state","test","one","other"] ["boxes","state","test"] (zC zdN):=by walk_at "sc"
theorem VF:zY ["boxes","state","name","number","place","size"] ["boxes","state","name","number"] (zC UJ):=by walk_at "sc"
theorem VG:zY ["boxes","state","name","weights","whole","ways","number","weight"] ["boxes","state","name","weights"] (zC zdO):=by walk_at "sc"
theorem zdP:zY ["deed"] ["deed"] (zC Vy):=by walk_at "sc"
theorem vA:zY ["block","deeds","deed","inner"] ["block"] (zC YN):=by walk_at "sc"
theorem zdQ:zY ["block","kind"] ["block","kind"] (zC Xe):=by walk_at "sc"
theorem zcr:zY ["block"] ["block"] (zC WE):=by walk_at "sc"
theorem zgm:zY ["program","state"] ["program","state"] (zC zaj):=by walk_at "sc"
theorem VH:zY ["block","later","deed"] ["block","later"] (zC UK):=by walk_at "sc"
theorem UP:zY ["self","boxes"] ["self","boxes"] (zC Zg):=by walk_at "sc"
theorem Tt:zY ["self","leaf"] ["self","leaf"] (zC ZD):=by walk_at "sc"
theorem yG:zY ["self","later","state","gain","deed","turn"] ["self","later","state","gain"] (zC vK):=by walk_at "sc"
theorem xG:zY ["self","ways","later","gain","parts","share","state"] ["self","ways","later","gain"] (zC vk):=by walk_at "sc"
theorem wQ:zY ["self","blocks","later","state","gain","trees","block"] ["self","blocks","later","state","gain"] (zC vm):=by walk_at "sc"
theorem zbN:zY ["tree","runs"] ["tree"] (zC zak):=by walk_at "sc"
theorem VI:zY ["runs","marks","share","tree","place","part"] ["runs","marks","share","tree"] (zC UL):=by walk_at "sc"
theorem ze4:zY ["tree"] ["tree"] (zC WF):=by walk_at "sc"
theorem zdR:zY ["_law_left","_law_many"] ["_law_left","_law_many"] (zC Vz):=by walk_at "sc"
theorem Zi:zY ["_law_number","_law_size","_law_word_here","_law_k"] ["_law_number","_law_size"] (zC VA):=by walk_at "sc"
theorem xx:zY ["_law_left","_law_many","_law_way","_law_some","_law_turn","_law_word_here","_law_cell","_law_size","_law_at"] ["_law_left","_law_many"] (zC vb):=by walk_at "sc"
theorem yS:zY ["_law_left","_law_most","_law_many","_law_boxes_here","_law_states","_law_name","_law_size"] ["_law_left","_law_most"] (zC WG):=by walk_at "sc"
theorem zcs:zY ["_law_left","_law_boxes_here"] ["_law_left","_law_boxes_here"] (zC Yt):=by walk_at "sc"
theorem Vf:zY ["_law_left","_law_boxes_here","_law_way"] ["_law_left","_law_boxes_here"] (zC YO):=by walk_at "sc"
theorem WL:zY ["_law_left","_law_boxes_here","_law_one","_law_sign"] ["_law_left","_law_boxes_here"] (zC VB):=by walk_at "sc"
theorem Zj:zY ["_law_left","_law_boxes_here","_law_name","_law_way","_law_one"] ["_law_left","_law_boxes_here","_law_name"] (zC ZE):=by walk_at "sc"
theorem wx:zY ["_law_left","_law_size","_law_most","_law_some","_law_at"] ["_law_left","_law_size"] (zC Zh):=by walk_at "sc"
theorem VJ:zY ["_law_left","_law_boxes_here","_law_kind","_law_box"] ["_law_left","_law_boxes_here","_law_kind"] (zC Xx):=by walk_at "sc"
theorem xi:zY ["_law_block_here","_law_many","_law_deed_here"] ["_law_block_here"] (zC ZL):=by walk_at "sc"
theorem zct:zY ["_law_left","_law_boxes_here","_law_kinds_here","_law_depth"] ["_law_left","_law_boxes_here","_law_kinds_here","_law_depth"] (zC Yu):=by walk_at "sc"
theorem xH:zY ["_law_left","_law_boxes_here","_law_kinds_here","_law_depth","_law_kind","_law_block_here","_law_number","_law_other","_law_many","_law_blocks"] ["_law_left","_law_boxes_here","_law_kinds_here","_law_depth"] (zC Xf):=by walk_at "sc"
theorem yE:zY ["_law_block_here","_law_most","_law_deed_here","_law_turns","_law_here","_law_turn"] ["_law_block_here"] (zC vq):=by walk_at "sc"
theorem Zk:zY ["_law_left","_law_boxes_here","_law_many","_law_box","_law_weights_here","_law_draws"] ["_law_left","_law_boxes_here"] (zC Xg):=by walk_at "sc"
theorem vB:zY ["_law_left","_law_boxes_here","_law_kinds_here","_law_most","_law_block_here","_law_more"] ["_law_left","_law_boxes_here","_law_kinds_here","_law_most"] (zC YQ):=by walk_at "sc"
theorem Uy:zY ["_law_boxes_here","_law_state_here","_law_operand_here","_law_k"] ["_law_boxes_here","_law_state_here","_law_operand_here"] (zC WH):=by walk_at "sc"
theorem Xz:zY ["_law_boxes_here","_law_state_here","_law_test_here","_law_one","_law_other"] ["_law_boxes_here","_law_state_here","_law_test_here"] (zC WI):=by walk_at "sc"
theorem VL:zY ["_law_boxes_here","_law_state_here","_law_name","_law_number","_law_after","_law_k"] ["_law_boxes_here","_law_state_here","_law_name","_law_number"] (zC UM):=by walk_at "sc"
theorem vS:zY ["_law_boxes_here","_law_state_here","_law_deed_here","_law_number","_law_other"] ["_law_boxes_here","_law_state_here","_law_deed_here"] (zC UN):=by walk_at "sc"
theorem vT:zY ["_law_top","_law_bottom","_law_one","_law_other","_law_kept"] ["_law_top","_law_bottom"] (zC UO):=by walk_at "sc"
theorem zcu:zY ["_law_found"] ["_law_found"] (zC WJ):=by walk_at "sc"
theorem zdS:zY ["_law_found","_law_due"] ["_law_found","_law_due"] (zC ZY):=by walk_at "sc"
theorem zbO:zY ["_law_deed_here"] ["_law_deed_here"] (zC ZM):=by walk_at "sc"
theorem zbP:zY ["_law_boxes_here","_law_deed_here","_law_state_here"] ["_law_boxes_here","_law_deed_here","_law_state_here"] (zC Xy):=by walk_at "sc"
theorem yj:zY ["_law_boxes_here","_law_block_here","_law_state_here","_law_marks_here","_law_gain","_law_share","_law_weight","_law_at","_law_deed_here","_law_places_here","_law_place","_law_whole_here"] ["_law_boxes_here","_law_block_here","_law_state_here","_law_marks_here"] (zC VC):=by walk_at "sc"
theorem zdT:zY ["_law_share"] ["_law_share"] (zC VD):=by walk_at "sc"
theorem ZN:zY ["_law_tree","_law_some","_law_told","_law_part"] ["_law_tree"] (zC WK):=by walk_at "sc"
theorem zcv:zY ["_law_run"] ["_law_run"] (zC Yv):=by walk_at "sc"
theorem vL:zY ["_law_script","_law_left","_law_boxes_here","_law_state_here","_law_kinds_here","_law_block_here","_law_tree","_law_found","_law_whole_here","_law_marks_here","_law_run","_law_gone_here","_law_weight","_law_top"] ["_law_script"] (zC zjp):=by walk_at "sc"
set_option genInjectivity false in
set_option genSizeOf false in
structure Tx (K:rF) (mg:Str->Option Value) where
 bB:Fi K mg "is_whole" UG ["thing"]
 bC:Fi K mg "common_part" Xw ["one","other"]
 c4:Fi K mg "lowest" zbL ["top","bottom"]
 cf:Fi K mg "fraction" UH ["top","bottom"]
 cS:Fi K mg "times" zdL ["one","other"]
 bA:Fi K mg "place_of" WD ["boxes","name"]
 aZ:Fi K mg "worth" zdM ["boxes","state","operand"]
 c7:Fi K mg "reckoned" UI ["boxes","state","reckoning"]
 cy:Fi K mg "holds" zdN ["boxes","state","test"]
 bz:Fi K mg "put_into" UJ ["boxes","state","name","number"]
 cT:Fi K mg "drawn" zdO ["boxes","state","name","weights"]
 bS:Fi K mg "blocks_of" Vy ["deed"]
 av:Fi K mg "deeds_within" YN ["block"]
 bR:Fi K mg "stands_in" Xe ["block","kind"]
 bK:Fi K mg "is_bounded" WE ["block"]
 ck:Fi K mg "tree_of" zaj ["program","state"]
 aB:Fi K mg "ahead_of" UK ["block","later"]
 cm:Fi K mg "runs_of" zak ["tree"]
 aW:Fi K mg "add_runs" UL ["runs","marks","share","tree"]
 c9:Fi K mg "parts_of" WF ["tree"]
 ae:Fi K mg "_law_take" Vz ["_law_left","_law_many"]
 b7:Fi K mg "_law_word" VA ["_law_number","_law_size"]
 bM:Fi K mg "_law_names" vb ["_law_left","_law_many"]
 bP:Fi K mg "_law_boxes" WG ["_law_left","_law_most"]
 bL:Fi K mg "_law_state" Yt ["_law_left","_law_boxes_here"]
 ai:Fi K mg "_law_operand" YO ["_law_left","_law_boxes_here"]
 aI:Fi K mg "_law_test" VB ["_law_left","_law_boxes_here"]
 aQ:Fi K mg "_law_reckoning" ZE ["_law_left","_law_boxes_here","_law_name"]
 bh:Fi K mg "_law_weights" Zh ["_law_left","_law_size"]
 bG:Fi K mg "_law_simple" Xx ["_law_left","_law_boxes_here","_law_kind"]
 af:Fi K mg "_law_length" ZL ["_law_block_here"]
 aA:Fi K mg "_law_block" Yu ["_law_left","_law_boxes_here","_law_kinds_here","_law_depth"]
 aO:Fi K mg "_law_deed" Xf ["_law_left","_law_boxes_here","_law_kinds_here","_law_depth"]
 ah:Fi K mg "_law_leaves" vq ["_law_block_here"]
 bU:Fi K mg "_law_long" Xg ["_law_left","_law_boxes_here"]
 bj:Fi K mg "_law_bounded" YQ ["_law_left","_law_boxes_here","_law_kinds_here","_law_most"]
 ao:Fi K mg "_law_worth" WH ["_law_boxes_here","_law_state_here","_law_operand_here"]
 aR:Fi K mg "_law_holds" WI ["_law_boxes_here","_law_state_here","_law_test_here"]
 bH:Fi K mg "_law_put" UM ["_law_boxes_here","_law_state_here","_law_name","_law_number"]
 cg:Fi K mg "_law_set" UN ["_law_boxes_here","_law_state_here","_law_deed_here"]
 aC:Fi K mg "_law_low" UO ["_law_top","_law_bottom"]
 aq:Fi K mg "_law_whole" WJ ["_law_found"]
 ay:Fi K mg "_law_same" ZY ["_law_found","_law_due"]
 bI:Fi K mg "_law_places" ZM ["_law_deed_here"]
 bF:Fi K mg "_law_turned" Xy ["_law_boxes_here","_law_deed_here","_law_state_here"]
 bV:Fi K mg "_law_gone" VC ["_law_boxes_here","_law_block_here","_law_state_here","_law_marks_here"]
 bT:Fi K mg "_law_pair" VD ["_law_share"]
 bO:Fi K mg "_law_kinds" WK ["_law_tree"]
 bN:Fi K mg "_law_marks" Yv ["_law_run"]
 dY:Fi K mg "law" zjp ["_law_script"]
 fH:mg "abs"=none
 fG:mg "all"=none
 gX:mg "any"=none
 eT:mg "bool"=none
 d4:mg "enumerate"=none
 fc:mg "int"=none
 aj:mg "isinstance"=none
 aT:mg "len"=none
 di:mg "list"=none
 f9:mg "max"=none
 g4:mg "min"=none
 bw:mg "range"=none
 dh:mg "reversed"=none
 fF:mg "str"=none
 f7:mg "sum"=none
 bu:mg "tuple"=none
 aD:Addr
 fe:mg "LotsError"=some (.ref aD)
 cz:UD K mg "LotsError" aD [.type "ValueError",.type "Exception",.type "BaseException",.type "object"] "ValueError.__new__"
 fh:zcP K aD
 cB:tW K (.ref aD)=some (.type "type")
 cj:rS K aD (.type "BaseException")=some true
 cA:rS K aD (.type "ValueError")=some true
 aK:Addr
 fq:mg "NoNumber"=some (.ref aK)
 cI:UD K mg "NoNumber" aK [.type "ValueError",.type "Exception",.type "BaseException",.type "object"] "ValueError.__new__"
 ft:zcP K aK
 cK:tW K (.ref aK)=some (.type "type")
 cq:rS K aK (.type "BaseException")=some true
 cJ:rS K aK (.type "ValueError")=some true
 ax:Addr
 fN:mg "NoBound"=some (.ref ax)
 cF:UD K mg "NoBound" ax [.type "ValueError",.type "Exception",.type "BaseException",.type "object"] "ValueError.__new__"
 fQ:zcP K ax
 cQ:tW K (.ref ax)=some (.type "type")
 cH:rS K ax (.type "BaseException")=some true
 cO:rS K ax (.type "ValueError")=some true
 aw:Addr
 fM:mg "TooMany"=some (.ref aw)
 cE:UD K mg "TooMany" aw [.type "ValueError",.type "Exception",.type "BaseException",.type "object"] "ValueError.__new__"
 fP:zcP K aw
 cP:tW K (.ref aw)=some (.type "type")
 cG:rS K aw (.type "BaseException")=some true
 cN:rS K aw (.type "ValueError")=some true
 aU:Addr
 fg:mg "Grower"=some (.ref aU)
 aE:Cls K aU
 az:se K mainGlobals "Grower"=some (some (.ref aU))
 au:Ye K aU "boxes"
 aN:Ye K aU "leaves"
 aV:Mi K aU "__init__" "Grower.__init__" Zg ["self","boxes"]
 eQ:Mk K aU aV.a
 aJ:Mi K aU "counted" "Grower.counted" ZD ["self","leaf"]
 ak:Mi K aU "tree_from" "Grower.tree_from" vK ["self","later","state","gain"]
 aM:Mi K aU "parts_from" "Grower.parts_from" vk ["self","ways","later","gain"]
 aL:Mi K aU "trees_from" "Grower.trees_from" vm ["self","blocks","later","state","gain"]
 eJ:se K mainGlobals "NoBound"=some (some (.ref ax))
 aY:rS K ax (.ref aD)=some true
 bf:rS K ax (.ref aK)=some false
 bt:rS K ax (.ref ax)=some true
 bq:rS K ax (.ref aw)=some false
 eI:se K mainGlobals "TooMany"=some (some (.ref aw))
 aX:rS K aw (.ref aD)=some true
 bb:rS K aw (.ref aK)=some false
 bp:rS K aw (.ref ax)=some false
 bo:rS K aw (.ref aw)=some true
 dA:Addr
 g5:mg "ONE"=some (.ref dA)
 gk:∀H,SqT K H dA [.int 1,.int 1]
 dc:∃t,mg "MOST_LEAVES"=some (.int 400 t)
local macro_rules | `(tactic| walk_at "q1") => `(tactic| first | exact .inl rfl | exact .inr rfl | assumption)
noncomputable def VM (fu:Nat):TwS:=(ye (zco (eUn (Zv "int") (ze 0)) (eB (wM (bE (eUn (Zv "bool") (ze 0)))))))
noncomputable def Xh (fu:Nat):TwF:=ym 1 0 (VM fu)
theorem zaB (T:Tx K mg):yA P w K mg base (CXE P w) 1 T.bB.a T.bB.fd ["thing"] (sTw K 1 (Xh fu)):=
 T.bB.F.okE ze1 (λvs H Q E h=>h.1) (λaS A outer s H vs Q E hr h=>⟨_,(@zn _ _ _ (@zH _ _ _ _ (Vj (zK (yJ (K:=K)) rfl T.aj boot_isinstance (za (pv 0) (za (xk (v:= .ty "int") rfl T.fc boot_int rfl) zg))) (za4 (zdf (zK (yJ (K:=K)) rfl T.aj boot_isinstance (za (pv 0) (za (xk (v:= .ty "bool") rfl T.eT boot_bool rfl) zg)))))))),yy (n:=1) (k:=0) (b:=VM fu) rfl (zI (Vp (wa zdI (zb 0)) (zdw (wa zbD (zb 0))))) h⟩)
noncomputable def YR (fu:Nat):TwS:=(zD (zO (eFn zhK [(ze 0)]) (gN 0)) (zD (zO (eFn zhK [(ze 1)]) (gN 1)) (zD (sWh fu (bE (eOp Tm (ze 1) (eC (.int 0)))) (zD (zO (eOp YI (ze 0) (ze 1)) (gN 2)) (zD (zO (ze 1) (gN 0)) (zO (ze 2) (gN 1))))) (ye (ze 0)))))
noncomputable def VN (fu:Nat):TwF:=ym 2 1 (YR fu)
theorem zbQ (T:Tx K mg):yA P w K mg base (CXE P w) 1 T.bC.a T.bC.fd ["one","other"] (sTw K 2 (VN fu)):=
 T.bC.F.okE wb (λvs H Q E h=>h.1) (λaS A outer s H vs Q E hr h=>⟨_,(@zh _ _ _ _ _ (@zB _ _ 0 _ _ _ _ wb.nd rfl (rK rfl) (zK za7 rfl T.fH boot_abs (@za _ _ _ _ _ (pv 0) zg zf)) (by rfl) (by walk_at "q1")) (@zh _ _ _ _ _ (@zB _ _ 1 _ _ _ _ wb.nd rfl (rK rfl) (zK za7 rfl T.fH boot_abs (@za _ _ _ _ _ (pv 1) zg zf)) (by rfl) (by walk_at "q1")) (@zh _ _ _ _ _ (XU PassesOwn.leaving (yq (Vh (pv 1) zj)) (@zh _ _ _ _ _ (@zB _ _ 2 _ _ _ _ wb.nd rfl (rK rfl) (yd vF (pv 0) (pv 1)) (by rfl) (by walk_at "q1")) (@zh _ _ _ _ _ (@zB _ _ 0 _ _ _ _ wb.nd rfl (rK rfl) (pv 1) (by rfl) (by walk_at "q1")) (@zn _ _ _ (@zB _ _ 1 _ _ _ _ wb.nd rfl (rK rfl) (pv 2) (by rfl) (by walk_at "q1")))))) (@zn _ _ _ (@zH _ _ _ _ (pv 0)))))),yy (n:=2) (k:=1) (b:=YR fu) rfl (zr (zA (yu zge (zc (zb 0) zk)) zp) (zr (zA (yu zge (zc (zb 1) zk)) zp) (zr (Wa (yK (Vr (zb 1) (zi _))) (zr (zA (zm vH (zb 0) (zb 1)) zp) (zr (zA (zb 1) zp) (zA (zb 2) zp)))) (zI (zb 0))))) h⟩)
noncomputable def zam (fu:Nat):TwS:=(zD (zO (zE (VN fu) [(ze 0),(ze 1)]) (gN 2)) (zD (sIf (bE (eOp dLt (ze 1) (eC (.int 0)))) (zO (eUn zgc (ze 2)) (gN 2)) zT) (ye (yI [(eOp Ww (ze 0) (ze 2)),(eOp Ww (ze 1) (ze 2))]))))
noncomputable def Ui (fu:Nat):TwF:=ym 2 1 (zam fu)
theorem zc0 (T:Tx K mg):yA P w K mg base (CXE P w) 2 T.c4.a T.c4.fd ["top","bottom"] (sTw K 2 (Ui fu)):=
 T.c4.F.okE zal (λvs H Q E h=>h.1) (λaS A outer s H vs Q E hr h=>⟨_,(@zh _ _ _ _ _ (@zB _ _ 2 _ _ _ _ zal.nd rfl (rK rfl) (zv (zbQ (fu:=fu) T) (hr.mono ∅) rfl T.bC.m T.bC.F.kp T.bC.b .nil zQ (@za _ _ _ _ _ (pv 0) (@za _ _ _ _ _ (pv 1) zg zf) zf)) (by rfl) (by walk_at "q1")) (@zh _ _ _ _ _ (yb (yq (UW (pv 1) zj)) (@zn _ _ _ (@zB _ _ 2 _ _ _ _ zal.nd rfl (rK rfl) (zh7 zfE (pv 2)) (by rfl) (by walk_at "q1"))) zM) (@zn _ _ _ (@zH _ _ _ _ (@yk _ _ _ _ _ (@za _ _ _ _ _ (yd XX (pv 0) (pv 2)) (@za _ _ _ _ _ (yd XX (pv 1) (pv 2)) zg yx) yx)))))),yy (n:=2) (k:=1) (b:=zam fu) rfl (zr (zA (zw (zc (zb 0) (zc (zb 1) zk))) zp) (zr (yc (yK (Tn (zb 1) (zi _))) (zA (ziP zgd (zb 2)) zp) zN) (zI (yl (zc (zm Wb (zb 0) (zb 2)) (zc (zm Wb (zb 1) (zb 2)) zk)))))) h⟩)
noncomputable def VO (fu:Nat):TwS:=(zD (sIf (bOr (wM (bE (zE (Xh fu) [(ze 0)]))) (wM (bE (zE (Xh fu) [(ze 1)])))) zf8 zT) (zD (sIf (bE (eOp ZT (ze 1) (eC (.int 0)))) zf8 zT) (ye (zE (Ui fu) [(ze 0),(ze 1)]))))
noncomputable def VP (fu:Nat):TwF:=ym 2 0 (VO fu)
theorem ze5 (T:Tx K mg):yA P w K mg base (CXE P w) 3 T.cf.a T.cf.fd ["top","bottom"] (sTw K 2 (VP fu)):=
 T.cf.F.okE ze2 (λvs H Q E h=>h.1) (λaS A outer s H vs Q E hr h=>⟨_,(@zh _ _ _ _ _ (yb (PW.pt (vY (wg (xr (zv (zaB (fu:=fu) T) (hr.mono ∅) rfl T.bB.m T.bB.F.kp T.bB.b .nil zQ (@za _ _ _ _ _ (pv 0) zg zf)))) (vE (wg (xr (zv (zaB (fu:=fu) T) (hr.mono ∅) rfl T.bB.m T.bB.F.kp T.bB.b .nil zQ (@za _ _ _ _ _ (pv 1) zg zf))))))) (@zn _ _ _ zep) zM) (@zh _ _ _ _ _ (yb (yq (xN (pv 1) zj)) (@zn _ _ _ zep) zM) (@zn _ _ _ (@zH _ _ _ _ (zv (zc0 (fu:=fu) T) (hr.mono ∅) rfl T.c4.m T.c4.F.kp T.c4.b .nil zQ (@za _ _ _ _ _ (pv 0) (@za _ _ _ _ _ (pv 1) zg zf) zf)))))),yy (n:=2) (k:=0) (b:=VO fu) rfl (zr (yc (Zc (wk (yK (zw (zc (zb 0) zk)))) (wk (yK (zw (zc (zb 1) zk))))) zeR zN) (zr (yc (yK (xP (zb 1) (zi _))) zeR zN) (zI (zw (zc (zb 0) (zc (zb 1) zk)))))) h⟩)
noncomputable def zbR (fu:Nat):TwS:=(ye (zE (Ui fu) [(eOp wF (eOp zy (ze 0) (eC (.int 0))) (eOp zy (ze 1) (eC (.int 0)))),(eOp wF (eOp zy (ze 0) (eC (.int 1))) (eOp zy (ze 1) (eC (.int 1))))]))
noncomputable def Tu (fu:Nat):TwF:=ym 2 0 (zbR fu)
theorem zjs (T:Tx K mg):yA P w K mg base (CXE P w) 3 T.cS.a T.cS.fd ["one","other"] (sTw K 2 (Tu fu)):=
 T.cS.F.okE zjq (λvs H Q E h=>h.1) (λaS A outer s H vs Q E hr h=>⟨_,(@zn _ _ _ (@zH _ _ _ _ (zv (zc0 (fu:=fu) T) (hr.mono ∅) rfl T.c4.m T.c4.F.kp T.c4.b .nil zQ (@za _ _ _ _ _ (yd wj (@zx _ _ _ _ _ _ _ (zo (K:=K)) (pv 0) zj (λ_ _=>rfl)) (@zx _ _ _ _ _ _ _ (zo (K:=K)) (pv 1) zj (λ_ _=>rfl))) (@za _ _ _ _ _ (yd wj (@zx _ _ _ _ _ _ _ (zo (K:=K)) (pv 0) zj (λ_ _=>rfl)) (@zx _ _ _ _ _ _ _ (zo (K:=K)) (pv 1) zj (λ_ _=>rfl))) zg yx) yx)))),yy (n:=2) (k:=0) (b:=zbR fu) rfl (zI (zw (zc (zm wm (zm zu (zb 0) (zi _)) (zm zu (zb 1) (zi _))) (zc (zm wm (zm zu (zb 0) (zi _)) (zm zu (zb 1) (zi _))) zk)))) h⟩)
noncomputable def VQ (fu:Nat):TwS:=(ye (eMt zbI (vf [none] (iT (ze 0)) (gN 0) vO (eOp zy (ze 0) (eC (.int 0)))) [(ze 1)]))
noncomputable def Xi (fu:Nat):TwF:=ym 2 0 (VQ fu)
theorem zaC (T:Tx K mg):yA P w K mg base (CXE P w) 1 T.bA.a T.bA.fd ["boxes","name"] (sTw K 2 (Xi fu)):=
 T.bA.F.okE ze3 (λvs H Q E h=>h.1) (λaS A outer s H vs Q E hr h=>⟨_,(@zn _ _ _ (@zH _ _ _ _ (Vm sF PySem.F.slot_list_index PySem.F.type_list_index ziC (xT (N':=["box"]) rfl (blk (osc:=zC WD) rfl (by decide+kernel)) (xB xA) (wY (K:=K) (pv 0)) (yQ rfl) (λC s₀ H₀ fp=>yp (i:=0) (show (["box"]:List Str).Nodup from by decide+kernel) rfl (rK rfl)) (λC s₀ H₀ fp=>xS) (λC s₀ H₀ fp=>(@zx _ _ _ _ _ _ _ (zo (K:=K)) (pv 0) zj (λ_ _=>rfl)))) (@za _ _ _ _ _ (pv 1) zg zf)))),yy (n:=2) (k:=0) (b:=VQ fu) rfl (zI (Vd zji (xC (cap:=[none]) (Zz (zb 0)) zp xU (zm zu (zb 0) (zi _))) (zc (zb 1) zk))) h⟩)
noncomputable def zbS (fu:Nat):TwS:=(zD (sIf (bE (eUn (Zv "str") (ze 2))) (ye (eOp zy (ze 1) (zE (Xi fu) [(ze 0),(ze 2)]))) zT) (ye (ze 2)))
noncomputable def Zl (fu:Nat):TwF:=ym 3 0 (zbS fu)
theorem VR (T:Tx K mg):yA P w K mg base (CXE P w) 2 T.aZ.a T.aZ.fd ["boxes","state","operand"] (sTw K 3 (Zl fu)):=
 T.aZ.F.okE zjr (λvs H Q E h=>h.1) (λaS A outer s H vs Q E hr h=>⟨_,(@zh _ _ _ _ _ (yb (xr (zK (yJ (K:=K)) rfl T.aj boot_isinstance (za (pv 2) (za (xk (v:= .ty "str") rfl T.fF boot_str rfl) zg)))) (@zn _ _ _ (@zH _ _ _ _ (@zx _ _ _ _ _ _ _ (zo (K:=K)) (pv 1) (zv (zaC (fu:=fu) T) (hr.mono ∅) rfl T.bA.m T.bA.F.kp T.bA.b .nil zQ (@za _ _ _ _ _ (pv 0) (@za _ _ _ _ _ (pv 2) zg zf) zf)) (λ_ _=>rfl)))) zM) (@zn _ _ _ (@zH _ _ _ _ (pv 2)))),yy (n:=3) (k:=0) (b:=zbS fu) rfl (zr (yc (yK (wa zdJ (zb 2))) (zI (zm zu (zb 1) (zw (zc (zb 0) (zc (zb 2) zk))))) zN) (zI (zb 2))) h⟩)
noncomputable def Xj (fu:Nat):TwS:=(zD (zO (zE (Zl fu) [(ze 0),(ze 1),(eOp zy (ze 2) (eC (.int 0)))]) (gN 3)) (zD (sIf (bE (eOp ZT (eFn yX [(ze 2)]) (eC (.int 1)))) (ye (ze 3)) zT) (zD (zO (zE (Zl fu) [(ze 0),(ze 1),(eOp zy (ze 2) (eC (.int 2)))]) (gN 4)) (zD (sIf (bE (eOp (yn false) (eOp zy (ze 2) (eC (.int 1))) (eC (.str "+")))) (ye (eOp xZ (ze 3) (ze 4))) zT) (zD (sIf (bE (eOp (yn false) (eOp zy (ze 2) (eC (.int 1))) (eC (.str "-")))) (ye (eOp zdB (ze 3) (ze 4))) zT) (ye (eOp wF (ze 3) (ze 4))))))))
noncomputable def vU (fu:Nat):TwF:=ym 3 2 (Xj fu)
theorem ze6 (T:Tx K mg):yA P w K mg base (CXE P w) 3 T.c7.a T.c7.fd ["boxes","state","reckoning"] (sTw K 3 (vU fu)):=
 T.c7.F.okE VE (λvs H Q E h=>h.1) (λaS A outer s H vs Q E hr h=>⟨_,(@zh _ _ _ _ _ (@zB _ _ 3 _ _ _ _ VE.nd rfl (rK rfl) (zv (VR (fu:=fu) T) (hr.mono ∅) rfl T.aZ.m T.aZ.F.kp T.aZ.b .nil zQ (@za _ _ _ _ _ (pv 0) (@za _ _ _ _ _ (pv 1) (@za _ _ _ _ _ (@zx _ _ _ _ _ _ _ (zo (K:=K)) (pv 2) zj (λ_ _=>rfl)) zg zt) zf) zf)) (by rfl) (by walk_at "q1")) (@zh _ _ _ _ _ (yb (yq (xN (zK (yh (K:=K)) rfl T.aT boot_len (@za _ _ _ _ _ (pv 2) zg zf)) zj)) (@zn _ _ _ (@zH _ _ _ _ (pv 3))) zM) (@zh _ _ _ _ _ (@zB _ _ 4 _ _ _ _ VE.nd rfl (rK rfl) (zv (VR (fu:=fu) T) (hr.mono ∅) rfl T.aZ.m T.aZ.F.kp T.aZ.b .nil zQ (@za _ _ _ _ _ (pv 0) (@za _ _ _ _ _ (pv 1) (@za _ _ _ _ _ (@zx _ _ _ _ _ _ _ (zo (K:=K)) (pv 2) zj (λ_ _=>rfl)) zg zt) zf) zf)) (by rfl) (by walk_at "q1")) (@zh _ _ _ _ _ (yb (zZ yw (@zx _ _ _ _ _ _ _ (zo (K:=K)) (pv 2) zj (λ_ _=>rfl)) zJ (by rfl)) (@zn _ _ _ (@zH _ _ _ _ (yd xa (pv 3) (pv 4)))) zM) (@zh _ _ _ _ _ (yb (zZ yw (@zx _ _ _ _ _ _ _ (zo (K:=K)) (pv 2) zj (λ_ _=>rfl)) zJ (by rfl)) (@zn _ _ _ (@zH _ _ _ _ (yd TU (pv 3) (pv 4)))) zM) (@zn _ _ _ (@zH _ _ _ _ (yd wj (pv 3) (pv 4))))))))),yy (n:=3) (k:=2) (b:=Xj fu) rfl (zr (zA (zw (zc (zb 0) (zc (zb 1) (zc (zm zu (zb 2) (zi _)) zk)))) zp) (zr (yc (yK (xP (yu yO (zc (zb 2) zk)) (zi _))) (zI (zb 3)) zN) (zr (zA (zw (zc (zb 0) (zc (zb 1) (zc (zm zu (zb 2) (zi _)) zk)))) zp) (zr (yc (ya (zm yi (zm zu (zb 2) (zi _)) (zL _))) (zI (zm xb (zb 3) (zb 4))) zN) (zr (yc (ya (zm yi (zm zu (zb 2) (zi _)) (zL _))) (zI (zm zag (zb 3) (zb 4))) zN) (zI (zm wm (zb 3) (zb 4)))))))) h⟩)
noncomputable def zbT (fu:Nat):TwS:=(zD (zO (zE (Zl fu) [(ze 0),(ze 1),(eOp zy (ze 2) (eC (.int 0)))]) (gN 3)) (zD (zO (zE (Zl fu) [(ze 0),(ze 1),(eOp zy (ze 2) (eC (.int 2)))]) (gN 4)) (zD (sIf (bE (eOp (yn false) (eOp zy (ze 2) (eC (.int 1))) (eC (.str "=")))) (ye (eOp ZT (ze 3) (ze 4))) zT) (zD (sIf (bE (eOp (yn false) (eOp zy (ze 2) (eC (.int 1))) (eC (.str "<")))) (ye (eOp dLt (ze 3) (ze 4))) zT) (ye (eOp Tm (ze 3) (ze 4)))))))
noncomputable def ZZ (fu:Nat):TwF:=ym 3 2 (zbT fu)
theorem ze7 (T:Tx K mg):yA P w K mg base (CXE P w) 3 T.cy.a T.cy.fd ["boxes","state","test"] (sTw K 3 (ZZ fu)):=
 T.cy.F.okE zbM (λvs H Q E h=>h.1) (λaS A outer s H vs Q E hr h=>⟨_,(@zh _ _ _ _ _ (@zB _ _ 3 _ _ _ _ zbM.nd rfl (rK rfl) (zv (VR (fu:=fu) T) (hr.mono ∅) rfl T.aZ.m T.aZ.F.kp T.aZ.b .nil zQ (@za _ _ _ _ _ (pv 0) (@za _ _ _ _ _ (pv 1) (@za _ _ _ _ _ (@zx _ _ _ _ _ _ _ (zo (K:=K)) (pv 2) zj (λ_ _=>rfl)) zg zt) zf) zf)) (by rfl) (by walk_at "q1")) (@zh _ _ _ _ _ (@zB _ _ 4 _ _ _ _ zbM.nd rfl (rK rfl) (zv (VR (fu:=fu) T) (hr.mono ∅) rfl T.aZ.m T.aZ.F.kp T.aZ.b .nil zQ (@za _ _ _ _ _ (pv 0) (@za _ _ _ _ _ (pv 1) (@za _ _ _ _ _ (@zx _ _ _ _ _ _ _ (zo (K:=K)) (pv 2) zj (λ_ _=>rfl)) zg zt) zf) zf)) (by rfl) (by walk_at "q1")) (@zh _ _ _ _ _ (yb (zZ yw (@zx _ _ _ _ _ _ _ (zo (K:=K)) (pv 2) zj (λ_ _=>rfl)) zJ (by rfl)) (@zn _ _ _ (@zH _ _ _ _ (Vi (xN (pv 3) (pv 4))))) zM) (@zh _ _ _ _ _ (yb (zZ yw (@zx _ _ _ _ _ _ _ (zo (K:=K)) (pv 2) zj (λ_ _=>rfl)) zJ (by rfl)) (@zn _ _ _ (@zH _ _ _ _ (Vi (UW (pv 3) (pv 4))))) zM) (@zn _ _ _ (@zH _ _ _ _ (Vi (Vh (pv 3) (pv 4))))))))),yy (n:=3) (k:=2) (b:=zbT fu) rfl (zr (zA (zw (zc (zb 0) (zc (zb 1) (zc (zm zu (zb 2) (zi _)) zk)))) zp) (zr (zA (zw (zc (zb 0) (zc (zb 1) (zc (zm zu (zb 2) (zi _)) zk)))) zp) (zr (yc (ya (zm yi (zm zu (zb 2) (zi _)) (zL _))) (zI (xP (zb 3) (zb 4))) zN) (zr (yc (ya (zm yi (zm zu (zb 2) (zi _)) (zL _))) (zI (Tn (zb 3) (zb 4))) zN) (zI (Vr (zb 3) (zb 4))))))) h⟩)
noncomputable def VS (fu:Nat):TwS:=(zD (zO (zE (Xi fu) [(ze 0),(ze 2)]) (gN 4)) (zD (zO (eOp zy (eOp zy (ze 0) (ze 4)) (eC (.int 1))) (gN 5)) (ye (eOp Zf (eOp Zf (eSl zaJ (ze 1) oNo (Yn (ze 4))) (yI [(eOp YI (ze 3) (ze 5))])) (eSl zaJ (ze 1) (Yn (eOp xZ (ze 4) (eC (.int 1)))) oNo)))))
noncomputable def vV (fu:Nat):TwF:=ym 4 2 (VS fu)
theorem zaD (T:Tx K mg):yA P w K mg base (CXE P w) 2 T.bz.a T.bz.fd ["boxes","state","name","number"] (sTw K 4 (vV fu)):=
 T.bz.F.okE VF (λvs H Q E h=>h.1) (λaS A outer s H vs Q E hr h=>⟨_,(@zh _ _ _ _ _ (@zB _ _ 4 _ _ _ _ VF.nd rfl (rK rfl) (zv (zaC (fu:=fu) T) (hr.mono ∅) rfl T.bA.m T.bA.F.kp T.bA.b .nil zQ (@za _ _ _ _ _ (pv 0) (@za _ _ _ _ _ (pv 2) zg zf) zf)) (by rfl) (by walk_at "q1")) (@zh _ _ _ _ _ (@zB _ _ 5 _ _ _ _ VF.nd rfl (rK rfl) (@zx _ _ _ _ _ _ _ (zo (K:=K)) (@zx _ _ _ _ _ _ _ (zo (K:=K)) (pv 0) (pv 4) (λ_ _=>rfl)) zj (λ_ _=>rfl)) (by rfl) (by walk_at "q1")) (@zn _ _ _ (@zH _ _ _ _ (yd (Wr (K:=K)) (yd (Wr (K:=K)) (Za (Tg (K:=K)) (pv 1) YZ (ZH (pv 4))) (@yk _ _ _ _ _ (@za _ _ _ _ _ (yd vF (pv 3) (pv 5)) zg yx))) (Za (Tg (K:=K)) (pv 1) (ZH (yd xa (pv 4) zj)) YZ)))))),yy (n:=4) (k:=2) (b:=VS fu) rfl (zr (zA (zw (zc (zb 0) (zc (zb 2) zk))) zp) (zr (zA (zm zu (zm zu (zb 0) (zb 4)) (zi _)) zp) (zI (zm Wx (zm Wx (zbt (zb 1) zaz (ZJ (zb 4))) (yl (zc (zm vH (zb 3) (zb 5)) zk))) (zbt (zb 1) (ZJ (zm xb (zb 4) (zi _))) zaz))))) h⟩)
noncomputable def zbU (fu:Nat):TwS:=(zD (zO (eFn zbz [(ze 3)]) (gN 4)) (zD (zO (Wt []) (gN 5)) (zD (YH (znE (ze 3)) (gT 2 (Vq (gN 6) (Vq (gN 7) zeQ))) (sIf (bE (eOp dGt (ze 7) (eC (.int 0)))) (ZR (eMt va (ze 5) [(yI [(zE (VP fu) [(ze 7),(ze 4)]),(zE (vV fu) [(ze 0),(ze 1),(ze 2),(ze 6)])])])) zT)) (ye (ze 5)))))
noncomputable def VT (fu:Nat):TwF:=ym 4 4 (zbU fu)
theorem zjt (T:Tx K mg):yA P w K mg base (CXE P w) 4 T.cT.a T.cT.fd ["boxes","state","name","weights"] (sTw K 4 (VT fu)):=
 T.cT.F.okE VG (λvs H Q E h=>h.1) (λaS A outer s H vs Q E hr h=>⟨_,(@zh _ _ _ _ _ (@zB _ _ 4 _ _ _ _ VG.nd rfl (rK rfl) (zK (zbo (K:=K) rfl) rfl T.f7 PyProof.Rows.Boot.«sum» (@za _ _ _ _ _ (pv 3) zg zf)) (by rfl) (by walk_at "q1")) (@zh _ _ _ _ _ (@zB _ _ 5 _ _ _ _ VG.nd rfl (rK rfl) (@vZ _ _ _ _ zg) (by rfl) (by walk_at "q1")) (@zh _ _ _ _ _ (wJ PassesOwn.leaving rfl (ziE (K:=K) rfl T.d4 (@za _ _ _ _ _ (pv 3) zg zf)) (zdt (K:=K) (n:=2) rfl (XT (yp (i:=6) VG.nd rfl (rK rfl)) (XT (yp (i:=7) VG.nd rfl (rK rfl)) zdg))) (@zn _ _ _ (yb (yq (Vb (pv 7) zj)) (@zn _ _ _ (vy (Vm sF sZ t2 wX (pv 5) (@za _ _ _ _ _ (@yk _ _ _ _ _ (@za _ _ _ _ _ (zv (ze5 (fu:=fu) T) (hr.mono ∅) rfl T.cf.m T.cf.F.kp T.cf.b .nil zQ (@za _ _ _ _ _ (pv 7) (@za _ _ _ _ _ (pv 4) zg zf) zf)) (@za _ _ _ _ _ (zv (zaD (fu:=fu) T) (hr.mono ∅) rfl T.bz.m T.bz.F.kp T.bz.b .nil zQ (@za _ _ _ _ _ (pv 0) (@za _ _ _ _ _ (pv 1) (@za _ _ _ _ _ (pv 2) (@za _ _ _ _ _ (pv 6) zg zf) zf) zf) zf)) zg yr) yr)) zg wL)))) zM))) (@zn _ _ _ (@zH _ _ _ _ (pv 5)))))),yy (n:=4) (k:=4) (b:=zbU fu) rfl (zr (zA (yu zgX (zc (zb 3) zk)) zp) (zr (zA (Zd zk) zp) (zr (wO (zi1 (zb 3)) (zf9 (XZ zp (XZ zp zdz))) (yc (yK (Ve (zb 7) (zi _))) (vz (Vd vN (zb 5) (zc (yl (zc (zw (zc (zb 7) (zc (zb 4) zk))) (zc (zw (zc (zb 0) (zc (zb 1) (zc (zb 2) (zc (zb 6) zk))))) zk))) zk))) zN)) (zI (zb 5))))) h⟩)
noncomputable def WM (fu:Nat):TwS:=(zD (sIf (bE (eOp (yn false) (eOp zy (ze 0) (eC (.int 0))) (eC (.str "if")))) (ye (yI [(eOp zy (ze 0) (eC (.int 2))),(eOp zy (ze 0) (eC (.int 3)))])) zT) (zD (sIf (bOr (bE (eOp (yn false) (eOp zy (ze 0) (eC (.int 0))) (eC (.str "while")))) (bE (eOp (yn false) (eOp zy (ze 0) (eC (.int 0))) (eC (.str "times"))))) (ye (yI [(eOp zy (ze 0) (eC (.int 2)))])) zT) (zD (sIf (bE (eOp (yn false) (eOp zy (ze 0) (eC (.int 0))) (eC (.str "hand")))) (ye (eOp zy (ze 0) (eC (.int 1)))) zT) (ye (yI [])))))
noncomputable def WN (fu:Nat):TwF:=ym 1 0 (WM fu)
theorem zdU (T:Tx K mg):yA P w K mg base (CXE P w) 1 T.bS.a T.bS.fd ["deed"] (sTw K 1 (WN fu)):=
 T.bS.F.okE zdP (λvs H Q E h=>h.1) (λaS A outer s H vs Q E hr h=>⟨_,(@zh _ _ _ _ _ (yb (zZ yw (@zx _ _ _ _ _ _ _ (zo (K:=K)) (pv 0) zj (λ_ _=>rfl)) zJ (by rfl)) (@zn _ _ _ (@zH _ _ _ _ (@yk _ _ _ _ _ (@za _ _ _ _ _ (@zx _ _ _ _ _ _ _ (zo (K:=K)) (pv 0) zj (λ_ _=>rfl)) (@za _ _ _ _ _ (@zx _ _ _ _ _ _ _ (zo (K:=K)) (pv 0) zj (λ_ _=>rfl)) zg zt) zt)))) zM) (@zh _ _ _ _ _ (yb (PW.pt (vY (zZ yw (@zx _ _ _ _ _ _ _ (zo (K:=K)) (pv 0) zj (λ_ _=>rfl)) zJ (by rfl)) (vE (zZ yw (@zx _ _ _ _ _ _ _ (zo (K:=K)) (pv 0) zj (λ_ _=>rfl)) zJ (by rfl))))) (@zn _ _ _ (@zH _ _ _ _ (@yk _ _ _ _ _ (@za _ _ _ _ _ (@zx _ _ _ _ _ _ _ (zo (K:=K)) (pv 0) zj (λ_ _=>rfl)) zg zt)))) zM) (@zh _ _ _ _ _ (yb (zZ yw (@zx _ _ _ _ _ _ _ (zo (K:=K)) (pv 0) zj (λ_ _=>rfl)) zJ (by rfl)) (@zn _ _ _ (@zH _ _ _ _ (@zx _ _ _ _ _ _ _ (zo (K:=K)) (pv 0) zj (λ_ _=>rfl)))) zM) (@zn _ _ _ (@zH _ _ _ _ (@yk _ _ _ _ _ zg)))))),yy (n:=1) (k:=0) (b:=WM fu) rfl (zr (yc (ya (zm yi (zm zu (zb 0) (zi _)) (zL _))) (zI (yl (zc (zm zu (zb 0) (zi _)) (zc (zm zu (zb 0) (zi _)) zk)))) zN) (zr (yc (Zc (ya (zm yi (zm zu (zb 0) (zi _)) (zL _))) (ya (zm yi (zm zu (zb 0) (zi _)) (zL _)))) (zI (yl (zc (zm zu (zb 0) (zi _)) zk))) zN) (zr (yc (ya (zm yi (zm zu (zb 0) (zi _)) (zL _))) (zI (zm zu (zb 0) (zi _))) zN) (zI (yl zk))))) h⟩)
noncomputable def vC (fu:Nat) (ez:TwF):TwS:=(zD (zO (Wt []) (gN 1)) (zD (YH (iT (ze 0)) (gN 2) (zD (ZR (eMt va (ze 1) [(ze 2)])) (YH (iT (zE (WN fu) [(ze 2)])) (gN 3) (ZR (eMt Ys (ze 1) [(zE ez [(ze 3)])]))))) (ye (ze 1))))
noncomputable def yV (fu:Nat):Nat->TwF
 |0=>λ_ _=>none
 |n+1=>ym 1 3 (vC fu (yV fu n))
theorem Ya (fu n:Nat):yV fu (n+1)=ym 1 3 (vC fu (yV fu n)):=by rfl
theorem VU (fu:Nat):yV fu 0=λ_ _=>none:=by rfl
theorem zan (T:Tx K mg):∀n:Nat,yA P w K mg base (CXE P w) (1+n) T.av.a T.av.fd ["block"] (sTw K 1 (yV fu n)):=by
 intro n
 induction n with
 |zero=>
  skip
  ·rw[VU]
   exact ZK
 |succ n ih=>
  ·rw[Ya]
   exact T.av.F.okE vA (λvs H Q E h=>h.1) (λaS A outer s H vs Q E hr h=>⟨_,(@zh _ _ _ _ _ (@zB _ _ 1 _ _ _ _ vA.nd rfl (rK rfl) (@vZ _ _ _ _ zg) (by rfl) (by walk_at "q1")) (@zh _ _ _ _ _ (wJ PassesOwn.leaving rfl (wY (K:=K) (pv 0)) (yp (i:=2) vA.nd rfl (rK rfl)) (@zh _ _ _ _ _ (vy (Vm sF sZ t2 wX (pv 1) (@za _ _ _ _ _ (pv 2) zg zf))) (@zn _ _ _ (wJ PassesOwn.leaving rfl (wY (K:=K) (zv (zdU (fu:=fu) T) (hr.mono (by (try simp only[sk]);omega)) rfl T.bS.m T.bS.F.kp T.bS.b .nil zQ (@za _ _ _ _ _ (pv 2) zg zf))) (yp (i:=3) vA.nd rfl (rK rfl)) (@zn _ _ _ (vy (Vm sF As Au (zbq (K:=K)) (pv 1) (@za _ _ _ _ _ (zv ih (hr.mono (by (try simp only[sk]);omega)) rfl T.av.m T.av.F.kp T.av.b .nil zQ (@za _ _ _ _ _ (pv 3) zg zf)) zg yr)))))))) (@zn _ _ _ (@zH _ _ _ _ (pv 1))))),yy (n:=1) (k:=3) (b:=vC fu (yV fu n)) rfl (zr (zA (Zd zk) zp) (zr (wO (Zz (zb 0)) zp (zr (vz (Vd vN (zb 1) (zc (zb 2) zk))) (wO (Zz (zw (zc (zb 2) zk))) zp (vz (Vd zcV (zb 1) (zc (zw (zc (zb 3) zk)) zk)))))) (zI (zb 1)))) h⟩)
theorem zaL (T:Tx K mg) (n:Nat):yA P w K mg base (CXE P w) (1+n) T.av.a T.av.fd ["block"] (sTw K 1 (yV fu n)):=(zan T n)
noncomputable def WP (fu:Nat):TwS:=(ye (eFn zi0 [(vf [none,some 1] (iL (zE (yV fu 12) [(ze 0)])) (gN 0) vO (eOp (yn false) (eOp zy (ze 0) (eC (.int 0))) (ze 1)))]))
noncomputable def Tv (fu:Nat):TwF:=ym 2 0 (WP fu)
theorem zdV (T:Tx K mg):yA P w K mg base (CXE P w) 14 T.bR.a T.bR.fd ["block","kind"] (sTw K 2 (Tv fu)):=
 T.bR.F.okE zdQ (λvs H Q E h=>h.1) (λaS A outer s H vs Q E hr h=>⟨_,(@zn _ _ _ (@zH _ _ _ _ (zK (zhB (K:=K) rfl) rfl T.gX PyProof.Rows.Boot.«any» (za (xT (N':=["deed","kind"]) rfl (blk (osc:=zC Xe) rfl (by decide+kernel)) (xB (yY (i:=1) rfl rfl xA)) (Tc (K:=K) (zv (zaL (fu:=fu) T 12) (hr.mono ∅) rfl T.av.m T.av.F.kp T.av.b .nil zQ (@za _ _ _ _ _ (pv 0) zg zf))) (yQ rfl) (λC s₀ H₀ fp=>yp (i:=0) (show (["deed","kind"]:List Str).Nodup from by decide+kernel) rfl (rK rfl)) (λC s₀ H₀ fp=>xS) (λC s₀ H₀ fp=>(UX yw (@zx _ _ _ _ _ _ _ (zo (K:=K)) (pv 0) zj (λ_ _=>rfl)) (pv 1) (by rfl)))) zg)))),yy (n:=2) (k:=0) (b:=WP fu) rfl (zI (yu zmm (zc (xC (cap:=[none,some 1]) (zaT (zw (zc (zb 0) zk))) zp xU (zm yi (zm zu (zb 0) (zi _)) (zb 1))) zk))) h⟩)
noncomputable def XA (fu:Nat):TwS:=(ye (eB (wM (bE (zE (Tv fu) [(ze 0),(eC (.str "while"))])))))
noncomputable def XB (fu:Nat):TwF:=ym 1 0 (XA fu)
theorem zcw (T:Tx K mg):yA P w K mg base (CXE P w) 15 T.bK.a T.bK.fd ["block"] (sTw K 1 (XB fu)):=
 T.bK.F.okE zcr (λvs H Q E h=>h.1) (λaS A outer s H vs Q E hr h=>⟨_,(@zn _ _ _ (@zH _ _ _ _ (zdf (zv (zdV (fu:=fu) T) (hr.mono ∅) rfl T.bR.m T.bR.F.kp T.bR.b .nil zQ (@za _ _ _ _ _ (pv 0) (@za _ _ _ _ _ zJ zg zq) zf))))),yy (n:=1) (k:=0) (b:=XA fu) rfl (zI (zdw (zw (zc (zb 0) (zc (zL _) zk))))) h⟩)
noncomputable def vM (fu:Nat):TwS:=(zD (zg3 "Grower" "boxes" (ze 0) (ze 1)) (zg3 "Grower" "leaves" (ze 0) (eC (.int 0))))
noncomputable def YS (fu:Nat):TwF:=ym 2 0 (vM fu)
theorem UQ (T:Tx K mg):yA P w K mg base (CXE P w) 1 T.aV.a T.aV.fd ["self","boxes"] (sTw K 2 (YS fu)):=
 T.aV.F.okE UP (λvs H Q E h=>h.1) (λaS A outer s H vs Q E hr h=>⟨_,(@zh _ _ _ _ _ (zic (pv 0) (pv 1) rfl) (@zn _ _ _ (zic (pv 0) zj rfl))),yy (n:=2) (k:=0) (b:=vM fu) rfl (zr (zg4 T.az T.aE T.au (zb 0) (zb 1)) (zg4 T.az T.aE T.aN (zb 0) (zi _))) h⟩)
noncomputable def Zm (fu:Nat):TwS:=(zD (zjk "Grower" "leaves" (ze 0) (eC (.int 1))) (zD (sIf (bE (eOp dGt (vo "Grower" "leaves" (ze 0)) (eC (.int 400)))) (zgk "TooMany" [(eC (.str "the tree has too many leaves"))]) zT) (ye (ze 1))))
noncomputable def yZ (fu:Nat):TwF:=ym 2 0 (Zm fu)
theorem Xk (T:Tx K mg):yA P w K mg base (CXE P w) 1 T.aJ.a T.aJ.fd ["self","leaf"] (sTw K 2 (yZ fu)):=
 T.aJ.F.okE Tt (λvs H Q E h=>h.1) (λaS A outer s H vs Q E hr h=>⟨_,(@zh _ _ _ _ _ (zhq (pv 0) zj zl3) (@zh _ _ _ _ _ (yb (yq (Vb (UB (pv 0) rfl) (match T.dc with|⟨t,h⟩=>zde (v:= .int 400) rfl h ⟨t,rfl⟩))) (@zn _ _ _ (zeC zgR rfl rfl T.cE Ae (@za _ _ _ _ _ zJ zg zq))) zM) (@zn _ _ _ (@zH _ _ _ _ (pv 1))))),yy (n:=2) (k:=0) (b:=Zm fu) rfl (zr (zkQ T.az T.aE T.aN (zb 0) (zi _)) (zr (yc (yK (Ve (WB T.az T.aE T.aN (zb 0)) (zi _))) (zeY T.eI (zc (zL _) zk)) zN) (zI (zb 1)))) h⟩)
noncomputable def VW (fu:Nat):TwS:=(zD (YH (zmD (ze 0)) (gN 2) (zO (yI [(ze 2),(ze 1)]) (gN 1))) (ye (ze 1)))
noncomputable def xy (fu:Nat):TwF:=ym 2 1 (VW fu)
theorem Xl (T:Tx K mg):yA P w K mg base (CXE P w) 1 T.aB.a T.aB.fd ["block","later"] (sTw K 2 (xy fu)):=
 T.aB.F.okE VH (λvs H Q E h=>h.1) (λaS A outer s H vs Q E hr h=>⟨_,(@zh _ _ _ _ _ (wJ PassesOwn.leaving rfl (zmh (K:=K) rfl T.dh (@za _ _ _ _ _ (pv 0) zg zf)) (yp (i:=2) VH.nd rfl (rK rfl)) (@zn _ _ _ (@zB _ _ 1 _ _ _ _ VH.nd rfl (rK rfl) (@yk _ _ _ _ _ (@za _ _ _ _ _ (pv 2) (@za _ _ _ _ _ (pv 1) zg zf) zf)) (by rfl) (by walk_at "q1")))) (@zn _ _ _ (@zH _ _ _ _ (pv 1)))),yy (n:=2) (k:=1) (b:=VW fu) rfl (zr (wO (zkO (zb 0)) zp (zA (yl (zc (zb 2) (zc (zb 1) zk))) zp)) (zI (zb 1))) h⟩)
noncomputable def xY (fu:Nat) (bJ:TwF) (bX:TwF) (bW:TwF):TwS:=(zD (sWh fu (bE (eUn Tj (ze 1))) (zD (zO (eOp zy (ze 1) (eC (.int 0))) (gN 4)) (zD (zO (eOp zy (ze 1) (eC (.int 1))) (gN 1)) (zD (sIf (bE (eOp (yn false) (eOp zy (ze 4) (eC (.int 0))) (eC (.str "draw")))) (ye (yI [(eC (.str "draw")),(vj "Grower" "parts_from" bX (ze 0) [(zE (VT fu) [(vo "Grower" "boxes" (ze 0)),(ze 2),(eOp zy (ze 4) (eC (.int 1))),(eOp zy (ze 4) (eC (.int 2)))]),(ze 1),(ze 3)])])) zT) (zD (sIf (bE (eOp (yn false) (eOp zy (ze 4) (eC (.int 0))) (eC (.str "hand")))) (ye (yI [(eC (.str "hand")),(vj "Grower" "trees_from" bW (ze 0) [(eOp zy (ze 4) (eC (.int 1))),(ze 1),(ze 2),(ze 3)])])) zT) (zD (sIf (zab (bE (eOp (yn false) (eOp zy (ze 4) (eC (.int 0))) (eC (.str "look")))) (wM (bE (zE (ZZ fu) [(vo "Grower" "boxes" (ze 0)),(ze 2),(eOp zy (ze 4) (eC (.int 1)))])))) (ye (vj "Grower" "counted" (yZ fu) (ze 0) [(yI [(eC (.str "lost")),(ze 3)])])) zT) (sIf (bE (eOp (yn false) (eOp zy (ze 4) (eC (.int 0))) (eC (.str "set")))) (zO (zE (vV fu) [(vo "Grower" "boxes" (ze 0)),(ze 2),(eOp zy (ze 4) (eC (.int 1))),(zE (vU fu) [(vo "Grower" "boxes" (ze 0)),(ze 2),(eOp zy (ze 4) (eC (.int 2)))])]) (gN 2)) (sIf (bE (eOp (yn false) (eOp zy (ze 4) (eC (.int 0))) (eC (.str "gain")))) (zO (eOp xZ (ze 3) (zE (Zl fu) [(vo "Grower" "boxes" (ze 0)),(ze 2),(eOp zy (ze 4) (eC (.int 1)))])) (gN 3)) (sIf (bE (eOp (yn false) (eOp zy (ze 4) (eC (.int 0))) (eC (.str "if")))) (zO (zE (xy fu) [(eIf (bE (zE (ZZ fu) [(vo "Grower" "boxes" (ze 0)),(ze 2),(eOp zy (ze 4) (eC (.int 1)))])) (eOp zy (ze 4) (eC (.int 2))) (eOp zy (ze 4) (eC (.int 3)))),(ze 1)]) (gN 1)) (sIf (bE (eOp (yn false) (eOp zy (ze 4) (eC (.int 0))) (eC (.str "times")))) (YH (iR1 (eOp zy (ze 4) (eC (.int 1)))) (gN 5) (zO (zE (xy fu) [(eOp zy (ze 4) (eC (.int 2))),(ze 1)]) (gN 1))) zT)))))))))) (ye (vj "Grower" "counted" (yZ fu) (ze 0) [(yI [(eC (.str "end")),(ze 2),(ze 3)])])))
noncomputable def xJ (fu:Nat) (bJ:TwF) (bX:TwF) (bW:TwF):TwS:=(zD (zO (Wt []) (gN 4)) (zD (YH (iL (ze 1)) (gT 2 (Vq (gN 5) (Vq (gN 6) zeQ))) (ZR (eMt va (ze 4) [(yI [(ze 5),(vj "Grower" "tree_from" bJ (ze 0) [(ze 2),(ze 6),(ze 3)])])]))) (ye (eFn Yf [(ze 4)]))))
noncomputable def xK (fu:Nat) (bJ:TwF) (bX:TwF) (bW:TwF):TwS:=(zD (zO (Wt []) (gN 5)) (zD (YH (iT (ze 1)) (gN 6) (ZR (eMt va (ze 5) [(vj "Grower" "tree_from" bJ (ze 0) [(zE (xy fu) [(ze 6),(ze 2)]),(ze 3),(ze 4)])]))) (ye (eFn Yf [(ze 5)]))))
mutual
noncomputable def zW (fu:Nat):Nat->TwF
 |0=>λ_ _=>none
 |n+1=>ym 4 2 (xY fu (zW fu n) (zU fu n) (zV fu n))
noncomputable def zU (fu:Nat):Nat->TwF
 |0=>λ_ _=>none
 |n+1=>ym 4 3 (xJ fu (zW fu n) (zU fu n) (zV fu n))
noncomputable def zV (fu:Nat):Nat->TwF
 |0=>λ_ _=>none
 |n+1=>ym 5 2 (xK fu (zW fu n) (zU fu n) (zV fu n))
end
theorem vt (fu n:Nat):zW fu (n+1)=ym 4 2 (xY fu (zW fu n) (zU fu n) (zV fu n)):=by rw[zW]
theorem XC (fu:Nat):zW fu 0=λ_ _=>none:=by rw[zW]
theorem vg (fu n:Nat):zU fu (n+1)=ym 4 3 (xJ fu (zW fu n) (zU fu n) (zV fu n)):=by rw[zU]
theorem YW (fu:Nat):zU fu 0=λ_ _=>none:=by rw[zU]
theorem vh (fu n:Nat):zV fu (n+1)=ym 5 2 (xK fu (zW fu n) (zU fu n) (zV fu n)):=by rw[zV]
theorem YX (fu:Nat):zV fu 0=λ_ _=>none:=by rw[zV]
theorem VX (T:Tx K mg):∀n:Nat,yA P w K mg base (CXE P w) (4+n) T.ak.a T.ak.fd ["self","later","state","gain"] (sTw K 4 (zW fu n))/\yA P w K mg base (CXE P w) (4+n) T.aM.a T.aM.fd ["self","ways","later","gain"] (sTw K 4 (zU fu n))/\yA P w K mg base (CXE P w) (4+n) T.aL.a T.aL.fd ["self","blocks","later","state","gain"] (sTw K 5 (zV fu n)):=by
 intro n
 induction n with
 |zero=>
  refine⟨?_,?_,?_⟩
  ·rw[XC]
   exact ZK
  ·rw[YW]
   exact ZK
  ·rw[YX]
   exact ZK
 |succ n ih=>
  refine⟨?_,?_,?_⟩
  ·rw[vt]
   exact T.ak.F.okE yG (λvs H Q E h=>h.1) (λaS A outer s H vs Q E hr h=>⟨_,(@zh _ _ _ _ _ (XU PassesOwn.leaving (yq (zkb (pv 1))) (@zh _ _ _ _ _ (@zB _ _ 4 _ _ _ _ yG.nd rfl (rK rfl) (@zx _ _ _ _ _ _ _ (zo (K:=K)) (pv 1) zj (λ_ _=>rfl)) (by rfl) (by walk_at "q1")) (@zh _ _ _ _ _ (@zB _ _ 1 _ _ _ _ yG.nd rfl (rK rfl) (@zx _ _ _ _ _ _ _ (zo (K:=K)) (pv 1) zj (λ_ _=>rfl)) (by rfl) (by walk_at "q1")) (@zh _ _ _ _ _ (yb (zZ yw (@zx _ _ _ _ _ _ _ (zo (K:=K)) (pv 4) zj (λ_ _=>rfl)) zJ (by rfl)) (@zn _ _ _ (@zH _ _ _ _ (@yk _ _ _ _ _ (@za _ _ _ _ _ zJ (@za _ _ _ _ _ (Wn (pv 0) T.aE T.aM.mt ih.2.1 (hr.mono (by (try simp only[sk]);omega)) T.aM.b .nil zQ (@za _ _ _ _ _ (zv (zjt (fu:=fu) T) (hr.mono (by (try simp only[sk]);omega)) rfl T.cT.m T.cT.F.kp T.cT.b .nil zQ (@za _ _ _ _ _ (UB (pv 0) rfl) (@za _ _ _ _ _ (pv 2) (@za _ _ _ _ _ (@zx _ _ _ _ _ _ _ (zo (K:=K)) (pv 4) zj (λ_ _=>rfl)) (@za _ _ _ _ _ (@zx _ _ _ _ _ _ _ (zo (K:=K)) (pv 4) zj (λ_ _=>rfl)) zg zt) zt) zf) wZ)) (@za _ _ _ _ _ (pv 1) (@za _ _ _ _ _ (pv 3) zg zf) zf) yr)) zg yr) zq)))) zM) (@zh _ _ _ _ _ (yb (zZ yw (@zx _ _ _ _ _ _ _ (zo (K:=K)) (pv 4) zj (λ_ _=>rfl)) zJ (by rfl)) (@zn _ _ _ (@zH _ _ _ _ (@yk _ _ _ _ _ (@za _ _ _ _ _ zJ (@za _ _ _ _ _ (Wn (pv 0) T.aE T.aL.mt ih.2.2 (hr.mono (by (try simp only[sk]);omega)) T.aL.b .nil zQ (@za _ _ _ _ _ (@zx _ _ _ _ _ _ _ (zo (K:=K)) (pv 4) zj (λ_ _=>rfl)) (@za _ _ _ _ _ (pv 1) (@za _ _ _ _ _ (pv 2) (@za _ _ _ _ _ (pv 3) zg zf) zf) zf) zt)) zg yr) zq)))) zM) (@zh _ _ _ _ _ (yb (PW.pt (TR (zZ yw (@zx _ _ _ _ _ _ _ (zo (K:=K)) (pv 4) zj (λ_ _=>rfl)) zJ (by rfl)) (Ue (wg (xr (zv (ze7 (fu:=fu) T) (hr.mono (by (try simp only[sk]);omega)) rfl T.cy.m T.cy.F.kp T.cy.b .nil zQ (@za _ _ _ _ _ (UB (pv 0) rfl) (@za _ _ _ _ _ (pv 2) (@za _ _ _ _ _ (@zx _ _ _ _ _ _ _ (zo (K:=K)) (pv 4) zj (λ_ _=>rfl)) zg zt) zf) wZ))))))) (@zn _ _ _ (@zH _ _ _ _ (Wn (pv 0) T.aE T.aJ.mt (Xk (fu:=fu) T) (hr.mono (by (try simp only[sk]);omega)) T.aJ.b .nil zQ (@za _ _ _ _ _ (@yk _ _ _ _ _ (@za _ _ _ _ _ zJ (@za _ _ _ _ _ (pv 3) zg zf) zq)) zg wL)))) zM) (@zn _ _ _ (yb (zZ yw (@zx _ _ _ _ _ _ _ (zo (K:=K)) (pv 4) zj (λ_ _=>rfl)) zJ (by rfl)) (@zn _ _ _ (@zB _ _ 2 _ _ _ _ yG.nd rfl (rK rfl) (zv (zaD (fu:=fu) T) (hr.mono (by (try simp only[sk]);omega)) rfl T.bz.m T.bz.F.kp T.bz.b .nil zQ (@za _ _ _ _ _ (UB (pv 0) rfl) (@za _ _ _ _ _ (pv 2) (@za _ _ _ _ _ (@zx _ _ _ _ _ _ _ (zo (K:=K)) (pv 4) zj (λ_ _=>rfl)) (@za _ _ _ _ _ (zv (ze6 (fu:=fu) T) (hr.mono (by (try simp only[sk]);omega)) rfl T.c7.m T.c7.F.kp T.c7.b .nil zQ (@za _ _ _ _ _ (UB (pv 0) rfl) (@za _ _ _ _ _ (pv 2) (@za _ _ _ _ _ (@zx _ _ _ _ _ _ _ (zo (K:=K)) (pv 4) zj (λ_ _=>rfl)) zg zt) zf) wZ)) zg yr) zt) zf) wZ)) (by rfl) (by walk_at "q1"))) (@zn _ _ _ (yb (zZ yw (@zx _ _ _ _ _ _ _ (zo (K:=K)) (pv 4) zj (λ_ _=>rfl)) zJ (by rfl)) (@zn _ _ _ (@zB _ _ 3 _ _ _ _ yG.nd rfl (rK rfl) (yd xa (pv 3) (zv (VR (fu:=fu) T) (hr.mono (by (try simp only[sk]);omega)) rfl T.aZ.m T.aZ.F.kp T.aZ.b .nil zQ (@za _ _ _ _ _ (UB (pv 0) rfl) (@za _ _ _ _ _ (pv 2) (@za _ _ _ _ _ (@zx _ _ _ _ _ _ _ (zo (K:=K)) (pv 4) zj (λ_ _=>rfl)) zg zt) zf) wZ))) (by rfl) (by walk_at "q1"))) (@zn _ _ _ (yb (zZ yw (@zx _ _ _ _ _ _ _ (zo (K:=K)) (pv 4) zj (λ_ _=>rfl)) zJ (by rfl)) (@zn _ _ _ (@zB _ _ 1 _ _ _ _ yG.nd rfl (rK rfl) (zv (Xl (fu:=fu) T) (hr.mono (by (try simp only[sk]);omega)) rfl T.aB.m T.aB.F.kp T.aB.b .nil zQ (@za _ _ _ _ _ (zh3 (xr (zv (ze7 (fu:=fu) T) (hr.mono (by (try simp only[sk]);omega)) rfl T.cy.m T.cy.F.kp T.cy.b .nil zQ (@za _ _ _ _ _ (UB (pv 0) rfl) (@za _ _ _ _ _ (pv 2) (@za _ _ _ _ _ (@zx _ _ _ _ _ _ _ (zo (K:=K)) (pv 4) zj (λ_ _=>rfl)) zg zt) zf) wZ))) (@zx _ _ _ _ _ _ _ (zo (K:=K)) (pv 4) zj (λ_ _=>rfl)) (@zx _ _ _ _ _ _ _ (zo (K:=K)) (pv 4) zj (λ_ _=>rfl))) (@za _ _ _ _ _ (pv 1) zg zf) ziL)) (by rfl) (by walk_at "q1"))) (@zn _ _ _ (yb (zZ yw (@zx _ _ _ _ _ _ _ (zo (K:=K)) (pv 4) zj (λ_ _=>rfl)) zJ (by rfl)) (@zn _ _ _ (wJ PassesOwn.leaving rfl (xc rfl T.bw (@za _ _ _ _ _ (@zx _ _ _ _ _ _ _ (zo (K:=K)) (pv 4) zj (λ_ _=>rfl)) zg zt)) (yp (i:=5) yG.nd rfl (rK rfl)) (@zn _ _ _ (@zB _ _ 1 _ _ _ _ yG.nd rfl (rK rfl) (zv (Xl (fu:=fu) T) (hr.mono (by (try simp only[sk]);omega)) rfl T.aB.m T.aB.F.kp T.aB.b .nil zQ (@za _ _ _ _ _ (@zx _ _ _ _ _ _ _ (zo (K:=K)) (pv 4) zj (λ_ _=>rfl)) (@za _ _ _ _ _ (pv 1) zg zf) zt)) (by rfl) (by walk_at "q1"))))) zM)))))))))))))) (@zn _ _ _ (@zH _ _ _ _ (Wn (pv 0) T.aE T.aJ.mt (Xk (fu:=fu) T) (hr.mono (by (try simp only[sk]);omega)) T.aJ.b .nil zQ (@za _ _ _ _ _ (@yk _ _ _ _ _ (@za _ _ _ _ _ zJ (@za _ _ _ _ _ (pv 2) (@za _ _ _ _ _ (pv 3) zg zf) zf) zq)) zg wL))))),yy (n:=4) (k:=2) (b:=xY fu (zW fu n) (zU fu n) (zV fu n)) rfl (zr (Wa (yK (zkD (zb 1))) (zr (zA (zm zu (zb 1) (zi _)) zp) (zr (zA (zm zu (zb 1) (zi _)) zp) (zr (yc (ya (zm yi (zm zu (zb 4) (zi _)) (zL _))) (zI (yl (zc (zL _) (zc (YM T.az (zb 0) (zc (zw (zc (WB T.az T.aE T.au (zb 0)) (zc (zb 2) (zc (zm zu (zb 4) (zi _)) (zc (zm zu (zb 4) (zi _)) zk))))) (zc (zb 1) (zc (zb 3) zk)))) zk)))) zN) (zr (yc (ya (zm yi (zm zu (zb 4) (zi _)) (zL _))) (zI (yl (zc (zL _) (zc (YM T.az (zb 0) (zc (zm zu (zb 4) (zi _)) (zc (zb 1) (zc (zb 2) (zc (zb 3) zk))))) zk)))) zN) (zr (yc (zac (ya (zm yi (zm zu (zb 4) (zi _)) (zL _))) (wk (yK (zw (zc (WB T.az T.aE T.au (zb 0)) (zc (zb 2) (zc (zm zu (zb 4) (zi _)) zk))))))) (zI (YM T.az (zb 0) (zc (yl (zc (zL _) (zc (zb 3) zk))) zk))) zN) (yc (ya (zm yi (zm zu (zb 4) (zi _)) (zL _))) (zA (zw (zc (WB T.az T.aE T.au (zb 0)) (zc (zb 2) (zc (zm zu (zb 4) (zi _)) (zc (zw (zc (WB T.az T.aE T.au (zb 0)) (zc (zb 2) (zc (zm zu (zb 4) (zi _)) zk)))) zk))))) zp) (yc (ya (zm yi (zm zu (zb 4) (zi _)) (zL _))) (zA (zm xb (zb 3) (zw (zc (WB T.az T.aE T.au (zb 0)) (zc (zb 2) (zc (zm zu (zb 4) (zi _)) zk))))) zp) (yc (ya (zm yi (zm zu (zb 4) (zi _)) (zL _))) (zA (zw (zc (znx (yK (zw (zc (WB T.az T.aE T.au (zb 0)) (zc (zb 2) (zc (zm zu (zb 4) (zi _)) zk))))) (zm zu (zb 4) (zi _)) (zm zu (zb 4) (zi _))) (zc (zb 1) zk))) zp) (yc (ya (zm yi (zm zu (zb 4) (zi _)) (zL _))) (wO (xf (zm zu (zb 4) (zi _))) zp (zA (zw (zc (zm zu (zb 4) (zi _)) (zc (zb 1) zk))) zp)) zN)))))))))) (zI (YM T.az (zb 0) (zc (yl (zc (zL _) (zc (zb 2) (zc (zb 3) zk)))) zk)))) h⟩)
  ·rw[vg]
   exact T.aM.F.okE xG (λvs H Q E h=>h.1) (λaS A outer s H vs Q E hr h=>⟨_,(@zh _ _ _ _ _ (@zB _ _ 4 _ _ _ _ xG.nd rfl (rK rfl) (@vZ _ _ _ _ zg) (by rfl) (by walk_at "q1")) (@zh _ _ _ _ _ (wJ PassesOwn.leaving rfl (Tc (K:=K) (pv 1)) (zdt (K:=K) (n:=2) rfl (XT (yp (i:=5) xG.nd rfl (rK rfl)) (XT (yp (i:=6) xG.nd rfl (rK rfl)) zdg))) (@zn _ _ _ (vy (Vm sF sZ t2 wX (pv 4) (@za _ _ _ _ _ (@yk _ _ _ _ _ (@za _ _ _ _ _ (pv 5) (@za _ _ _ _ _ (Wn (pv 0) T.aE T.ak.mt ih.1 (hr.mono (by (try simp only[sk]);omega)) T.ak.b .nil zQ (@za _ _ _ _ _ (pv 2) (@za _ _ _ _ _ (pv 6) (@za _ _ _ _ _ (pv 3) zg zf) zf) zf)) zg yr) zf)) zg wL))))) (@zn _ _ _ (@zH _ _ _ _ (wA (we (K:=K)) rfl T.bu boot_tuple (@za _ _ _ _ _ (pv 4) zg zf)))))),yy (n:=4) (k:=3) (b:=xJ fu (zW fu n) (zU fu n) (zV fu n)) rfl (zr (zA (Zd zk) zp) (zr (wO (zaT (zb 1)) (zf9 (XZ zp (XZ zp zdz))) (vz (Vd vN (zb 4) (zc (yl (zc (zb 5) (zc (YM T.az (zb 0) (zc (zb 2) (zc (zb 6) (zc (zb 3) zk)))) zk))) zk)))) (zI (yu ZU (zc (zb 4) zk))))) h⟩)
  ·rw[vh]
   exact T.aL.F.okE wQ (λvs H Q E h=>h.1) (λaS A outer s H vs Q E hr h=>⟨_,(@zh _ _ _ _ _ (@zB _ _ 5 _ _ _ _ wQ.nd rfl (rK rfl) (@vZ _ _ _ _ zg) (by rfl) (by walk_at "q1")) (@zh _ _ _ _ _ (wJ PassesOwn.leaving rfl (wY (K:=K) (pv 1)) (yp (i:=6) wQ.nd rfl (rK rfl)) (@zn _ _ _ (vy (Vm sF sZ t2 wX (pv 5) (@za _ _ _ _ _ (Wn (pv 0) T.aE T.ak.mt ih.1 (hr.mono (by (try simp only[sk]);omega)) T.ak.b .nil zQ (@za _ _ _ _ _ (zv (Xl (fu:=fu) T) (hr.mono (by (try simp only[sk]);omega)) rfl T.aB.m T.aB.F.kp T.aB.b .nil zQ (@za _ _ _ _ _ (pv 6) (@za _ _ _ _ _ (pv 2) zg zf) zf)) (@za _ _ _ _ _ (pv 3) (@za _ _ _ _ _ (pv 4) zg zf) zf) yr)) zg yr))))) (@zn _ _ _ (@zH _ _ _ _ (wA (we (K:=K)) rfl T.bu boot_tuple (@za _ _ _ _ _ (pv 5) zg zf)))))),yy (n:=5) (k:=2) (b:=xK fu (zW fu n) (zU fu n) (zV fu n)) rfl (zr (zA (Zd zk) zp) (zr (wO (Zz (zb 1)) zp (vz (Vd vN (zb 5) (zc (YM T.az (zb 0) (zc (zw (zc (zb 6) (zc (zb 2) zk))) (zc (zb 3) (zc (zb 4) zk)))) zk)))) (zI (yu ZU (zc (zb 5) zk))))) h⟩)
theorem Up (T:Tx K mg) (n:Nat):yA P w K mg base (CXE P w) (4+n) T.ak.a T.ak.fd ["self","later","state","gain"] (sTw K 4 (zW fu n)):=(VX T n).1
noncomputable def UR (fu:Nat):TwS:=(zD (sIf (wM (bE (zE (XB fu) [(eOp zy (ze 0) (eC (.int 1)))]))) (zgk "NoBound" [(eC (.str "a while stands in the program"))]) zT) (ye (vj "Grower" "tree_from" (zW fu 210) (zgj "Grower" (YS fu) [(eOp zy (ze 0) (eC (.int 0)))]) [(zE (xy fu) [(eOp zy (ze 0) (eC (.int 1))),(eC .non)]),(ze 1),(eC (.int 0))])))
noncomputable def US (fu:Nat):TwF:=ym 2 0 (UR fu)
theorem zgn (T:Tx K mg):yA P w K mg base (CXE P w) 215 T.ck.a T.ck.fd ["program","state"] (sTw K 2 (US fu)):=
 T.ck.F.okE zgm (λvs H Q E h=>h.1) (λaS A outer s H vs Q E hr h=>⟨_,(@zh _ _ _ _ _ (yb (wg (xr (zv (zcw (fu:=fu) T) (hr.mono ∅) rfl T.bK.m T.bK.F.kp T.bK.b .nil zQ (@za _ _ _ _ _ (@zx _ _ _ _ _ _ _ (zo (K:=K)) (pv 0) zj (λ_ _=>rfl)) zg zt)))) (@zn _ _ _ (zeC zgR rfl rfl T.cF Ae (@za _ _ _ _ _ zJ zg zq))) zM) (@zn _ _ _ (@zH _ _ _ _ (Wn (zkj T.eQ (UQ (fu:=fu) T) (hr.mono ∅) rfl T.fg T.aV.b .nil zQ (@za _ _ _ _ _ (@zx _ _ _ _ _ _ _ (zo (K:=K)) (pv 0) zj (λ_ _=>rfl)) zg zt)) T.aE T.ak.mt (Up (fu:=fu) T 210) (hr.mono ∅) T.ak.b .nil zQ (@za _ _ _ _ _ (zv (Xl (fu:=fu) T) (hr.mono ∅) rfl T.aB.m T.aB.F.kp T.aB.b .nil zQ (@za _ _ _ _ _ (@zx _ _ _ _ _ _ _ (zo (K:=K)) (pv 0) zj (λ_ _=>rfl)) (@za _ _ _ _ _ zfy zg zq) zt)) (@za _ _ _ _ _ (pv 1) (@za _ _ _ _ _ zj zg zq) zf) yr))))),yy (n:=2) (k:=0) (b:=UR fu) rfl (zr (yc (wk (yK (zw (zc (zm zu (zb 0) (zi _)) zk)))) (zeY T.eJ (zc (zL _) zk)) zN) (zI (YM T.az (zjh T.az (zc (zm zu (zb 0) (zi _)) zk)) (zc (zw (zc (zm zu (zb 0) (zi _)) (zc zf4 zk))) (zc (zb 1) (zc (zi _) zk)))))) h⟩)
noncomputable def Xm (fu:Nat):TwS:=(zD (sIf (bE (eOp (yn false) (eOp zy (ze 0) (eC (.int 0))) (eC (.str "hand")))) (ye (vf [none] (iT (eOp zy (ze 0) (eC (.int 1)))) (gN 0) vO (yI [(eC (.ct [.int 1,.int 1])),(ze 0)]))) zT) (ye (eOp zy (ze 0) (eC (.int 1)))))
noncomputable def Xn (fu:Nat):TwF:=ym 1 0 (Xm fu)
theorem ze8 (T:Tx K mg):yA P w K mg base (CXE P w) 1 T.c9.a T.c9.fd ["tree"] (sTw K 1 (Xn fu)):=
 T.c9.F.okE ze4 (λvs H Q E h=>h.1) (λaS A outer s H vs Q E hr h=>⟨_,(@zh _ _ _ _ _ (yb (zZ yw (@zx _ _ _ _ _ _ _ (zo (K:=K)) (pv 0) zj (λ_ _=>rfl)) zJ (by rfl)) (@zn _ _ _ (@zH _ _ _ _ (xT (N':=["part"]) rfl (blk (osc:=zC WF) rfl (by decide+kernel)) (xB xA) (wY (K:=K) (@zx _ _ _ _ _ _ _ (zo (K:=K)) (pv 0) zj (λ_ _=>rfl))) (yQ rfl) (λC s₀ H₀ fp=>yp (i:=0) (show (["part"]:List Str).Nodup from by decide+kernel) rfl (rK rfl)) (λC s₀ H₀ fp=>xS) (λC s₀ H₀ fp=>(@yk _ _ _ _ _ (@za _ _ _ _ _ (zde (v:= .ref T.dA) rfl T.g5 rfl) (@za _ _ _ _ _ (pv 0) zg zf) zf)))))) zM) (@zn _ _ _ (@zH _ _ _ _ (@zx _ _ _ _ _ _ _ (zo (K:=K)) (pv 0) zj (λ_ _=>rfl))))),yy (n:=1) (k:=0) (b:=Xm fu) rfl (zr (yc (ya (zm yi (zm zu (zb 0) (zi _)) (zL _))) (zI (xC (cap:=[none]) (Zz (zm zu (zb 0) (zi _))) zp xU (yl (zc (zhE λj H=> .ct (λH=>T.gk H) (.cons (.int _) (.cons (.int _) (.nil)))) (zc (zb 0) zk))))) zN) (zI (zm zu (zb 0) (zi _)))) h⟩)
noncomputable def wR (fu:Nat) (fm:TwF):TwS:=(sIf (bE (eOp (yn false) (eOp zy (ze 3) (eC (.int 0))) (eC (.str "end")))) (ZR (eMt va (ze 0) [(yI [(ze 1),(ze 2),(eOp zy (ze 3) (eC (.int 1))),(eOp zy (ze 3) (eC (.int 2)))])])) (sIf (bE (eOp (yn false) (eOp zy (ze 3) (eC (.int 0))) (eC (.str "lost")))) (ZR (eMt va (ze 0) [(yI [(ze 1),(ze 2),(eC .non),(eOp zy (ze 3) (eC (.int 1)))])])) (YH (zmE (zE (Xn fu) [(ze 3)])) (gT 2 (Vq (gN 4) (Vq (gN 5) zeQ))) (ZR (zE fm [(ze 0),(eOp Zf (ze 1) (yI [(ze 4)])),(zE (Tu fu) [(ze 2),(eOp zy (ze 5) (eC (.int 0)))]),(eOp zy (ze 5) (eC (.int 1)))])))))
noncomputable def xj (fu:Nat):Nat->TwF
 |0=>λ_ _=>none
 |n+1=>ym 4 2 (wR fu (xj fu n))
theorem wc (fu n:Nat):xj fu (n+1)=ym 4 2 (wR fu (xj fu n)):=by rfl
theorem zao (fu:Nat):xj fu 0=λ_ _=>none:=by rfl
theorem zdW (T:Tx K mg):∀n:Nat,yA P w K mg base (CXE P w) (3+n) T.aW.a T.aW.fd ["runs","marks","share","tree"] (sTw K 4 (xj fu n)):=by
 intro n
 induction n with
 |zero=>
  skip
  ·rw[zao]
   exact ZK
 |succ n ih=>
  ·rw[wc]
   exact T.aW.F.okE VI (λvs H Q E h=>h.1) (λaS A outer s H vs Q E hr h=>⟨_,(@zn _ _ _ (yb (zZ yw (@zx _ _ _ _ _ _ _ (zo (K:=K)) (pv 3) zj (λ_ _=>rfl)) zJ (by rfl)) (@zn _ _ _ (vy (Vm sF sZ t2 wX (pv 0) (@za _ _ _ _ _ (@yk _ _ _ _ _ (@za _ _ _ _ _ (pv 1) (@za _ _ _ _ _ (pv 2) (@za _ _ _ _ _ (@zx _ _ _ _ _ _ _ (zo (K:=K)) (pv 3) zj (λ_ _=>rfl)) (@za _ _ _ _ _ (@zx _ _ _ _ _ _ _ (zo (K:=K)) (pv 3) zj (λ_ _=>rfl)) zg zt) zt) zf) zf)) zg wL)))) (@zn _ _ _ (yb (zZ yw (@zx _ _ _ _ _ _ _ (zo (K:=K)) (pv 3) zj (λ_ _=>rfl)) zJ (by rfl)) (@zn _ _ _ (vy (Vm sF sZ t2 wX (pv 0) (@za _ _ _ _ _ (@yk _ _ _ _ _ (@za _ _ _ _ _ (pv 1) (@za _ _ _ _ _ (pv 2) (@za _ _ _ _ _ zfy (@za _ _ _ _ _ (@zx _ _ _ _ _ _ _ (zo (K:=K)) (pv 3) zj (λ_ _=>rfl)) zg zt) zq) zf) zf)) zg wL)))) (@zn _ _ _ (wJ PassesOwn.leaving rfl (zjd (K:=K) rfl T.d4 (@za _ _ _ _ _ (zv (ze8 (fu:=fu) T) (hr.mono (by (try simp only[sk]);omega)) rfl T.c9.m T.c9.F.kp T.c9.b .nil zQ (@za _ _ _ _ _ (pv 3) zg zf)) zg yr)) (zdt (K:=K) (n:=2) rfl (XT (yp (i:=4) VI.nd rfl (rK rfl)) (XT (yp (i:=5) VI.nd rfl (rK rfl)) zdg))) (@zn _ _ _ (vy (zv ih (hr.mono (by (try simp only[sk]);omega)) rfl T.aW.m T.aW.F.kp T.aW.b .nil zQ (@za _ _ _ _ _ (pv 0) (@za _ _ _ _ _ (yd (Wr (K:=K)) (pv 1) (@yk _ _ _ _ _ (@za _ _ _ _ _ (pv 4) zg zf))) (@za _ _ _ _ _ (zv (zjs (fu:=fu) T) (hr.mono (by (try simp only[sk]);omega)) rfl T.cS.m T.cS.F.kp T.cS.b .nil zQ (@za _ _ _ _ _ (pv 2) (@za _ _ _ _ _ (@zx _ _ _ _ _ _ _ (zo (K:=K)) (pv 5) zj (λ_ _=>rfl)) zg zt) zf)) (@za _ _ _ _ _ (@zx _ _ _ _ _ _ _ (zo (K:=K)) (pv 5) zj (λ_ _=>rfl)) zg zt) yr) yx) zf)))))))))),yy (n:=4) (k:=2) (b:=wR fu (xj fu n)) rfl (yc (ya (zm yi (zm zu (zb 3) (zi _)) (zL _))) (vz (Vd vN (zb 0) (zc (yl (zc (zb 1) (zc (zb 2) (zc (zm zu (zb 3) (zi _)) (zc (zm zu (zb 3) (zi _)) zk))))) zk))) (yc (ya (zm yi (zm zu (zb 3) (zi _)) (zL _))) (vz (Vd vN (zb 0) (zc (yl (zc (zb 1) (zc (zb 2) (zc zf4 (zc (zm zu (zb 3) (zi _)) zk))))) zk))) (wO (zjl (zw (zc (zb 3) zk))) (zf9 (XZ zp (XZ zp zdz))) (vz (zw (zc (zb 0) (zc (zm Wx (zb 1) (yl (zc (zb 4) zk))) (zc (zw (zc (zb 2) (zc (zm zu (zb 5) (zi _)) zk))) (zc (zm zu (zb 5) (zi _)) zk))))))))) h⟩)
theorem ze9 (T:Tx K mg) (n:Nat):yA P w K mg base (CXE P w) (3+n) T.aW.a T.aW.fd ["runs","marks","share","tree"] (sTw K 4 (xj fu n)):=(zdW T n)
noncomputable def UT (fu:Nat):TwS:=(zD (zO (Wt []) (gN 1)) (zD (ZR (zE (xj fu 110) [(ze 1),(yI []),(eC (.ct [.int 1,.int 1])),(ze 0)])) (ye (ze 1))))
noncomputable def UU (fu:Nat):TwF:=ym 1 1 (UT fu)
theorem zgo (T:Tx K mg):yA P w K mg base (CXE P w) 114 T.cm.a T.cm.fd ["tree"] (sTw K 1 (UU fu)):=
 T.cm.F.okE zbN (λvs H Q E h=>h.1) (λaS A outer s H vs Q E hr h=>⟨_,(@zh _ _ _ _ _ (@zB _ _ 1 _ _ _ _ zbN.nd rfl (rK rfl) (@vZ _ _ _ _ zg) (by rfl) (by walk_at "q1")) (@zh _ _ _ _ _ (vy (zv (ze9 (fu:=fu) T 110) (hr.mono ∅) rfl T.aW.m T.aW.F.kp T.aW.b .nil zQ (@za _ _ _ _ _ (pv 1) (@za _ _ _ _ _ (@yk _ _ _ _ _ zg) (@za _ _ _ _ _ (zde (v:= .ref T.dA) rfl T.g5 rfl) (@za _ _ _ _ _ (pv 0) zg zf) zf) wL) zf))) (@zn _ _ _ (@zH _ _ _ _ (pv 1))))),yy (n:=1) (k:=1) (b:=UT fu) rfl (zr (zA (Zd zk) zp) (zr (vz (zw (zc (zb 1) (zc (yl zk) (zc (zhE λj H=> .ct (λH=>T.gk H) (.cons (.int _) (.cons (.int _) (.nil)))) (zc (zb 0) zk)))))) (zI (zb 1)))) h⟩)
noncomputable def WQ (fu:Nat):TwS:=(zD (sIf (bE (eOp ZT (eFn yX [(ze 0)]) (eC (.int 0)))) (ye (eC (.int 0))) zT) (ye (eOp YI (eMt zdy (ze 0) []) (ze 1))))
noncomputable def zX (fu:Nat):TwF:=ym 2 0 (WQ fu)
theorem yf (T:Tx K mg):yA P w K mg base (CXE P w) 1 T.ae.a T.ae.fd ["_law_left","_law_many"] (sTw K 2 (zX fu)):=
 T.ae.F.okE zdR (λvs H Q E h=>h.1) (λaS A outer s H vs Q E hr h=>⟨_,(@zh _ _ _ _ _ (yb (yq (xN (zK (yh (K:=K)) rfl T.aT boot_len (@za _ _ _ _ _ (pv 0) zg zf)) zj)) (@zn _ _ _ (@zH _ _ _ _ zj)) zM) (@zn _ _ _ (@zH _ _ _ _ (yd vF (zil sF B7 B8 zin (pv 0)) (pv 1))))),yy (n:=2) (k:=0) (b:=WQ fu) rfl (zr (yc (yK (xP (yu yO (zc (zb 0) zk)) (zi _))) (zI (zi _)) zN) (zI (zm vH (ziS ziT (zb 0)) (zb 1)))) h⟩)
noncomputable def WR (fu:Nat):TwS:=(zD (zO (eC (.str "")) (gN 2)) (zD (YH (iR1 (ze 1)) (gN 3) (zD (zO (eOp To (ze 2) (eOp zeO (eC (.str "abcdefghijklmnopqrstuvwxyz")) (eOp YI (ze 0) (eC (.int 26))))) (gN 2)) (zO (eOp Tl (ze 0) (eC (.int 26))) (gN 0)))) (ye (ze 2))))
noncomputable def Zn (fu:Nat):TwF:=ym 2 2 (WR fu)
theorem Tw (T:Tx K mg):yA P w K mg base (CXE P w) 1 T.b7.a T.b7.fd ["_law_number","_law_size"] (sTw K 2 (Zn fu)):=
 T.b7.F.okE Zi (λvs H Q E h=>h.1) (λaS A outer s H vs Q E hr h=>⟨_,(@zh _ _ _ _ _ (@zB _ _ 2 _ _ _ _ Zi.nd rfl (rK rfl) zJ (by rfl) (by walk_at "q1")) (@zh _ _ _ _ _ (wJ PassesOwn.leaving rfl (xc rfl T.bw (@za _ _ _ _ _ (pv 1) zg zf)) (yp (i:=3) Zi.nd rfl (rK rfl)) (@zh _ _ _ _ _ (@zB _ _ 2 _ _ _ _ Zi.nd rfl (rK rfl) (yd UA (pv 2) (@zx _ _ _ _ _ _ _ zdj zJ (yd vF (pv 0) zj) (λ_ _=>rfl))) (by rfl) (by walk_at "q1")) (@zn _ _ _ (@zB _ _ 0 _ _ _ _ Zi.nd rfl (rK rfl) (yd zaR (pv 0) zj) (by rfl) (by walk_at "q1"))))) (@zn _ _ _ (@zH _ _ _ _ (pv 2))))),yy (n:=2) (k:=2) (b:=WR fu) rfl (zr (zA (zL _) zp) (zr (wO (xf (zb 1)) zp (zr (zA (zm zdD (zb 2) (zm zf5 (zL _) (zm vH (zb 0) (zi _)))) zp) (zA (zm zaU (zb 0) (zi _)) zp))) (zI (zb 2)))) h⟩)
noncomputable def XD (fu:Nat):TwS:=(zD (zO (zE (zX fu) [(ze 0),(eC (.int 4))]) (gN 2)) (zD (sIf (bE (eOp ZT (ze 2) (eC (.int 1)))) (zD (zO (Wt [(eC (.str "pass")),(eC (.str "end")),(eC (.str "lost")),(eC (.str "set")),(eC (.str "hand")),(eC (.str "draw")),(eC (.str "if")),(eC (.str "gain")),(eC (.str "while")),(eC (.str "look")),(eC (.str "times")),(eC (.str "leaf")),(eC (.str "fork"))]) (gN 3)) (zD (zO (zE (zX fu) [(ze 0),(eC (.int 13))]) (gN 4)) (ye (vf [none,some 3,some 4] (iR1 (ze 1)) (gN 0) vO (eOp zaI (ze 1) (eOp YI (eOp xZ (ze 2) (ze 0)) (eC (.int 13)))))))) zT) (zD (zO (zE (Zn fu) [(zE (zX fu) [(ze 0),(eOp zgb (eC (.int 26)) (eC (.int 8)))]),(eC (.int 8))]) (gN 5)) (zD (sIf (zab (bE (eOp ZT (ze 2) (eC (.int 2)))) (bE (eOp dLt (ze 1) (eC (.int 9))))) (ye (vf [none,some 5] (iR1 (ze 1)) (gN 0) vO (eSl zbs (ze 1) oNo (Yn (eOp xZ (ze 0) (eC (.int 1))))))) zT) (zD (zO (zE (zX fu) [(ze 0),(eC (.int 1664))]) (gN 6)) (zD (zO (eOp xZ (eC (.int 1)) (eOp YI (ze 6) (eC (.int 8)))) (gN 7)) (zD (zO (eOp YI (eOp Tl (ze 6) (eC (.int 8))) (ze 7)) (gN 8)) (ye (vf [none,some 5,some 7,some 8,some 6] (iR1 (ze 1)) (gN 0) vO (eOp To (eOp To (eSl zbs (ze 1) oNo (Yn (ze 3))) (zE (Zn fu) [(eOp xZ (eOp Tl (ze 4) (eC (.int 64))) (ze 0)),(eC (.int 1))])) (eSl zbs (ze 1) (Yn (eOp xZ (ze 3) (eC (.int 1)))) (Yn (ze 2)))))))))))))
noncomputable def XE (fu:Nat):TwF:=ym 2 7 (XD fu)
theorem zcx (T:Tx K mg):yA P w K mg base (CXE P w) 2 T.bM.a T.bM.fd ["_law_left","_law_many"] (sTw K 2 (XE fu)):=
 T.bM.F.okE xx (λvs H Q E h=>h.1) (λaS A outer s H vs Q E hr h=>⟨_,(@zh _ _ _ _ _ (@zB _ _ 2 _ _ _ _ xx.nd rfl (rK rfl) (zv (yf (fu:=fu) T) (hr.mono ∅) rfl T.ae.m T.ae.F.kp T.ae.b .nil zQ (@za _ _ _ _ _ (pv 0) (@za _ _ _ _ _ zj zg zq) zf)) (by rfl) (by walk_at "q1")) (@zh _ _ _ _ _ (yb (yq (xN (pv 2) zj)) (@zh _ _ _ _ _ (@zB _ _ 3 _ _ _ _ xx.nd rfl (y0 rfl) (@vZ _ _ _ _ (@za _ _ _ _ _ zJ (@za _ _ _ _ _ zJ (@za _ _ _ _ _ zJ (@za _ _ _ _ _ zJ (@za _ _ _ _ _ zJ (@za _ _ _ _ _ zJ (@za _ _ _ _ _ zJ (@za _ _ _ _ _ zJ (@za _ _ _ _ _ zJ (@za _ _ _ _ _ zJ (@za _ _ _ _ _ zJ (@za _ _ _ _ _ zJ (@za _ _ _ _ _ zJ zg zq) zq) zq) zq) zq) zq) zq) zq) zq) zq) zq) zq) zq)) (by rfl) (by walk_at "q1")) (@zh _ _ _ _ _ (@zB _ _ 4 _ _ _ _ xx.nd rfl (y0 rfl) (zv (yf (fu:=fu) T) (hr.mono ∅) rfl T.ae.m T.ae.F.kp T.ae.b .nil zQ (@za _ _ _ _ _ (pv 0) (@za _ _ _ _ _ zj zg zq) zf)) (by rfl) (by walk_at "q1")) (@zn _ _ _ (@zH _ _ _ _ (xT (N':=["_law_k","_law_some","_law_turn"]) rfl (blk (osc:=zC vb) rfl (by decide+kernel)) (xB (yY (i:=3) rfl rfl (yY (i:=4) rfl rfl xA))) (xc rfl T.bw (@za _ _ _ _ _ (pv 1) zg zf)) (yQ rfl) (λC s₀ H₀ fp=>yp (i:=0) (show (["_law_k","_law_some","_law_turn"]:List Str).Nodup from by decide+kernel) rfl (rK rfl)) (λC s₀ H₀ fp=>xS) (λC s₀ H₀ fp=>(@zx _ _ _ _ _ _ _ (XY (K:=K)) (pv 1) (yd vF (yd xa (pv 2) (pv 0)) zj) (λ_ _=>rfl)))))))) zM) (@zh _ _ _ _ _ (@zB _ _ 5 _ _ _ _ xx.nd rfl (y0 rfl) (zv (Tw (fu:=fu) T) (hr.mono ∅) rfl T.b7.m T.b7.F.kp T.b7.b .nil zQ (@za _ _ _ _ _ (zv (yf (fu:=fu) T) (hr.mono ∅) rfl T.ae.m T.ae.F.kp T.ae.b .nil zQ (@za _ _ _ _ _ (pv 0) (@za _ _ _ _ _ (yd zdh zj zj) zg yx) zf)) (@za _ _ _ _ _ zj zg zq) yr)) (by rfl) (by walk_at "q1")) (@zh _ _ _ _ _ (yb (PW.pt (TR (yq (xN (pv 2) zj)) (Ue (yq (UW (pv 1) zj))))) (@zn _ _ _ (@zH _ _ _ _ (xT (N':=["_law_k","_law_word_here"]) rfl (blk (osc:=zC vb) rfl (by decide+kernel)) (xB (yY (i:=5) rfl rfl xA)) (xc rfl T.bw (@za _ _ _ _ _ (pv 1) zg zf)) (yQ rfl) (λC s₀ H₀ fp=>yp (i:=0) (show (["_law_k","_law_word_here"]:List Str).Nodup from by decide+kernel) rfl (rK rfl)) (λC s₀ H₀ fp=>xS) (λC s₀ H₀ fp=>(Za zfT (pv 1) YZ (ZH (yd xa (pv 0) zj))))))) zM) (@zh _ _ _ _ _ (@zB _ _ 6 _ _ _ _ xx.nd rfl (y0 rfl) (zv (yf (fu:=fu) T) (hr.mono ∅) rfl T.ae.m T.ae.F.kp T.ae.b .nil zQ (@za _ _ _ _ _ (pv 0) (@za _ _ _ _ _ zj zg zq) zf)) (by rfl) (by walk_at "q1")) (@zh _ _ _ _ _ (@zB _ _ 7 _ _ _ _ xx.nd rfl (y0 rfl) (yd xa zj (yd vF (pv 6) zj)) (by rfl) (by walk_at "q1")) (@zh _ _ _ _ _ (@zB _ _ 8 _ _ _ _ xx.nd rfl (y0 rfl) (yd vF (yd zaR (pv 6) zj) (pv 7)) (by rfl) (by walk_at "q1")) (@zn _ _ _ (@zH _ _ _ _ (xT (N':=["_law_k","_law_word_here","_law_size","_law_at","_law_cell"]) rfl (blk (osc:=zC vb) rfl (by decide+kernel)) (xB (yY (i:=5) rfl rfl (yY (i:=7) rfl rfl (yY (i:=8) rfl rfl (yY (i:=6) rfl rfl xA))))) (xc rfl T.bw (@za _ _ _ _ _ (pv 1) zg zf)) (yQ rfl) (λC s₀ H₀ fp=>yp (i:=0) (show (["_law_k","_law_word_here","_law_size","_law_at","_law_cell"]:List Str).Nodup from by decide+kernel) rfl (rK rfl)) (λC s₀ H₀ fp=>xS) (λC s₀ H₀ fp=>(yd UA (yd UA (Za zfT (pv 1) YZ (ZH (pv 3))) (zv (Tw (fu:=fu) T) (hr.mono ∅) rfl T.b7.m T.b7.F.kp T.b7.b .nil Uv (@za _ _ _ _ _ (yd xa (yd zaR (pv 4) zj) (pv 0)) (@za _ _ _ _ _ zj zg zq) yx))) (Za zfT (pv 1) (ZH (yd xa (pv 3) zj)) (ZH (pv 2))))))))))))))),yy (n:=2) (k:=7) (b:=XD fu) rfl (zr (zA (zw (zc (zb 0) (zc (zi _) zk))) zp) (zr (yc (yK (xP (zb 2) (zi _))) (zr (zA (Zd (zc (zL _) (zc (zL _) (zc (zL _) (zc (zL _) (zc (zL _) (zc (zL _) (zc (zL _) (zc (zL _) (zc (zL _) (zc (zL _) (zc (zL _) (zc (zL _) (zc (zL _) zk)))))))))))))) zp) (zr (zA (zw (zc (zb 0) (zc (zi _) zk))) zp) (zI (xC (cap:=[none,some 3,some 4]) (xf (zb 1)) zp xU (zm zad (zb 1) (zm vH (zm xb (zb 2) (zb 0)) (zi _))))))) zN) (zr (zA (zw (zc (zw (zc (zb 0) (zc (zm zdC (zi _) (zi _)) zk))) (zc (zi _) zk))) zp) (zr (yc (zac (yK (xP (zb 2) (zi _))) (yK (Tn (zb 1) (zi _)))) (zI (xC (cap:=[none,some 5]) (xf (zb 1)) zp xU (zf7 (zb 1) zaz (ZJ (zm xb (zb 0) (zi _)))))) zN) (zr (zA (zw (zc (zb 0) (zc (zi _) zk))) zp) (zr (zA (zm xb (zi _) (zm vH (zb 6) (zi _))) zp) (zr (zA (zm vH (zm zaU (zb 6) (zi _)) (zb 7)) zp) (zI (xC (cap:=[none,some 5,some 7,some 8,some 6]) (xf (zb 1)) zp xU (zm zdD (zm zdD (zf7 (zb 1) zaz (ZJ (zb 3))) (zw (zc (zm xb (zm zaU (zb 4) (zi _)) (zb 0)) (zc (zi _) zk)))) (zf7 (zb 1) (ZJ (zm xb (zb 3) (zi _))) (ZJ (zb 2))))))))))))) h⟩)
noncomputable def XF (fu:Nat):TwS:=(zD (zO (zE (zX fu) [(ze 0),(eC (.int 40))]) (gN 2)) (zD (sIf (bE (eOp dGt (ze 2) (eC (.int 9)))) (zO (eOp xZ (eC (.int 1)) (eOp YI (ze 2) (eC (.int 3)))) (gN 2)) zT) (zD (zO (yI []) (gN 3)) (zD (zO (eC (.int 1)) (gN 4)) (zD (YH (iL (zE (XE fu) [(ze 0),(ze 2)])) (gN 5) (zD (zO (eOp xZ (eC (.int 1)) (zE (zX fu) [(ze 0),(eC (.int 9))])) (gN 6)) (zD (sIf (zab (bE (eOp dGt (ze 2) (eC (.int 1)))) (bE (eOp dLt (ze 1) (eC (.int 100))))) (zO (eOp xZ (eC (.int 1)) (eOp YI (ze 6) (eC (.int 3)))) (gN 6)) zT) (zD (zO (eFn ziX [(ze 6),(eOp Ww (ze 1) (ze 4))]) (gN 6)) (zD (zO (eOp Zf (ze 3) (yI [(yI [(ze 5),(ze 6)])])) (gN 3)) (zO (eOp wF (ze 4) (ze 6)) (gN 4))))))) (ye (ze 3)))))))
noncomputable def XG (fu:Nat):TwF:=ym 2 5 (XF fu)
theorem zcy (T:Tx K mg):yA P w K mg base (CXE P w) 3 T.bP.a T.bP.fd ["_law_left","_law_most"] (sTw K 2 (XG fu)):=
 T.bP.F.okE yS (λvs H Q E h=>h.1) (λaS A outer s H vs Q E hr h=>⟨_,(@zh _ _ _ _ _ (@zB _ _ 2 _ _ _ _ yS.nd rfl (rK rfl) (zv (yf (fu:=fu) T) (hr.mono ∅) rfl T.ae.m T.ae.F.kp T.ae.b .nil zQ (@za _ _ _ _ _ (pv 0) (@za _ _ _ _ _ zj zg zq) zf)) (by rfl) (by walk_at "q1")) (@zh _ _ _ _ _ (yb (yq (Vb (pv 2) zj)) (@zn _ _ _ (@zB _ _ 2 _ _ _ _ yS.nd rfl (rK rfl) (yd xa zj (yd vF (pv 2) zj)) (by rfl) (by walk_at "q1"))) zM) (@zh _ _ _ _ _ (@zB _ _ 3 _ _ _ _ yS.nd rfl (rK rfl) (@yk _ _ _ _ _ zg) (by rfl) (by walk_at "q1")) (@zh _ _ _ _ _ (@zB _ _ 4 _ _ _ _ yS.nd rfl (rK rfl) zj (by rfl) (by walk_at "q1")) (@zh _ _ _ _ _ (wJ PassesOwn.leaving rfl (Tc (K:=K) (zv (zcx (fu:=fu) T) (hr.mono ∅) rfl T.bM.m T.bM.F.kp T.bM.b .nil zQ (@za _ _ _ _ _ (pv 0) (@za _ _ _ _ _ (pv 2) zg zf) zf))) (yp (i:=5) yS.nd rfl (rK rfl)) (@zh _ _ _ _ _ (@zB _ _ 6 _ _ _ _ yS.nd rfl (rK rfl) (yd xa zj (zv (yf (fu:=fu) T) (hr.mono ∅) rfl T.ae.m T.ae.F.kp T.ae.b .nil zQ (@za _ _ _ _ _ (pv 0) (@za _ _ _ _ _ zj zg zq) zf))) (by rfl) (by walk_at "q1")) (@zh _ _ _ _ _ (yb (PW.pt (TR (yq (Vb (pv 2) zj)) (Ue (yq (UW (pv 1) zj))))) (@zn _ _ _ (@zB _ _ 6 _ _ _ _ yS.nd rfl (rK rfl) (yd xa zj (yd vF (pv 6) zj)) (by rfl) (by walk_at "q1"))) zM) (@zh _ _ _ _ _ (@zB _ _ 6 _ _ _ _ yS.nd rfl (rK rfl) (zK (zcG rfl) rfl T.g4 boot_min (@za _ _ _ _ _ (pv 6) (@za _ _ _ _ _ (yd XX (pv 1) (pv 4)) zg yx) zf)) (by rfl) (by walk_at "q1")) (@zh _ _ _ _ _ (@zB _ _ 3 _ _ _ _ yS.nd rfl (rK rfl) (yd (Wr (K:=K)) (pv 3) (@yk _ _ _ _ _ (@za _ _ _ _ _ (@yk _ _ _ _ _ (@za _ _ _ _ _ (pv 5) (@za _ _ _ _ _ (pv 6) zg zf) zf)) zg wL))) (by rfl) (by walk_at "q1")) (@zn _ _ _ (@zB _ _ 4 _ _ _ _ yS.nd rfl (rK rfl) (yd wj (pv 4) (pv 6)) (by rfl) (by walk_at "q1")))))))) (@zn _ _ _ (@zH _ _ _ _ (pv 3)))))))),yy (n:=2) (k:=5) (b:=XF fu) rfl (zr (zA (zw (zc (zb 0) (zc (zi _) zk))) zp) (zr (yc (yK (Ve (zb 2) (zi _))) (zA (zm xb (zi _) (zm vH (zb 2) (zi _))) zp) zN) (zr (zA (yl zk) zp) (zr (zA (zi _) zp) (zr (wO (zaT (zw (zc (zb 0) (zc (zb 2) zk)))) zp (zr (zA (zm xb (zi _) (zw (zc (zb 0) (zc (zi _) zk)))) zp) (zr (yc (zac (yK (Ve (zb 2) (zi _))) (yK (Tn (zb 1) (zi _)))) (zA (zm xb (zi _) (zm vH (zb 6) (zi _))) zp) zN) (zr (zA (yu ziY (zc (zb 6) (zc (zm Wb (zb 1) (zb 4)) zk))) zp) (zr (zA (zm Wx (zb 3) (yl (zc (yl (zc (zb 5) (zc (zb 6) zk))) zk))) zp) (zA (zm wm (zb 4) (zb 6)) zp)))))) (zI (zb 3))))))) h⟩)
noncomputable def XH (fu:Nat):TwS:=(ye (eFn Yf [(vf [none,some 0] (iT (ze 1)) (gN 0) vO (zE (zX fu) [(ze 1),(eOp zy (ze 0) (eC (.int 1)))]))]))
noncomputable def XI (fu:Nat):TwF:=ym 2 0 (XH fu)
theorem zcz (T:Tx K mg):yA P w K mg base (CXE P w) 2 T.bL.a T.bL.fd ["_law_left","_law_boxes_here"] (sTw K 2 (XI fu)):=
 T.bL.F.okE zcs (λvs H Q E h=>h.1) (λaS A outer s H vs Q E hr h=>⟨_,(@zn _ _ _ (@zH _ _ _ _ (wA (we (K:=K)) rfl T.bu boot_tuple (za (xT (N':=["_law_box","_law_left"]) rfl (blk (osc:=zC Yt) rfl (by decide+kernel)) (xB (yY (i:=0) rfl rfl xA)) (wY (K:=K) (pv 1)) (yQ rfl) (λC s₀ H₀ fp=>yp (i:=0) (show (["_law_box","_law_left"]:List Str).Nodup from by decide+kernel) rfl (rK rfl)) (λC s₀ H₀ fp=>xS) (λC s₀ H₀ fp=>(zv (yf (fu:=fu) T) (hr.mono ∅) rfl T.ae.m T.ae.F.kp T.ae.b .nil Uv (@za _ _ _ _ _ (pv 1) (@za _ _ _ _ _ (@zx _ _ _ _ _ _ _ (zo (K:=K)) (pv 0) zj (λ_ _=>rfl)) zg zt) zf)))) zg)))),yy (n:=2) (k:=0) (b:=XH fu) rfl (zI (yu ZU (zc (xC (cap:=[none,some 0]) (Zz (zb 1)) zp xU (zw (zc (zb 1) (zc (zm zu (zb 0) (zi _)) zk)))) zk))) h⟩)
noncomputable def Yh (fu:Nat):TwS:=(zD (zO (zE (zX fu) [(ze 0),(eOp xZ (eOp zkE (eC (.int 2)) (eFn yX [(ze 1)])) (eC (.int 3)))]) (gN 2)) (zD (sIf (bE (eOp dGt (ze 2) (eC (.int 2)))) (ye (eOp zy (eOp zy (ze 1) (eOp YI (ze 2) (eFn yX [(ze 1)]))) (eC (.int 0)))) zT) (zD (sIf (bE (eOp ZT (ze 2) (eC (.int 2)))) (ye (zE (zX fu) [(ze 0),(eOp zgb (eC (.int 10)) (eC (.int 9)))])) zT) (ye (zE (zX fu) [(ze 0),(eC (.int 10))])))))
noncomputable def xn (fu:Nat):TwF:=ym 2 1 (Yh fu)
theorem wz (T:Tx K mg):yA P w K mg base (CXE P w) 2 T.ai.a T.ai.fd ["_law_left","_law_boxes_here"] (sTw K 2 (xn fu)):=
 T.ai.F.okE Vf (λvs H Q E h=>h.1) (λaS A outer s H vs Q E hr h=>⟨_,(@zh _ _ _ _ _ (@zB _ _ 2 _ _ _ _ Vf.nd rfl (rK rfl) (zv (yf (fu:=fu) T) (hr.mono ∅) rfl T.ae.m T.ae.F.kp T.ae.b .nil zQ (@za _ _ _ _ _ (pv 0) (@za _ _ _ _ _ (yd xa (yd zl0 zj (zK (yh (K:=K)) rfl T.aT boot_len (@za _ _ _ _ _ (pv 1) zg zf))) zj) zg yx) zf)) (by rfl) (by walk_at "q1")) (@zh _ _ _ _ _ (yb (yq (Vb (pv 2) zj)) (@zn _ _ _ (@zH _ _ _ _ (@zx _ _ _ _ _ _ _ (zo (K:=K)) (@zx _ _ _ _ _ _ _ (zo (K:=K)) (pv 1) (yd vF (pv 2) (zK (yh (K:=K)) rfl T.aT boot_len (@za _ _ _ _ _ (pv 1) zg zf))) (λ_ _=>rfl)) zj (λ_ _=>rfl)))) zM) (@zh _ _ _ _ _ (yb (yq (xN (pv 2) zj)) (@zn _ _ _ (@zH _ _ _ _ (zv (yf (fu:=fu) T) (hr.mono ∅) rfl T.ae.m T.ae.F.kp T.ae.b .nil zQ (@za _ _ _ _ _ (pv 0) (@za _ _ _ _ _ (yd zdh zj zj) zg yx) zf)))) zM) (@zn _ _ _ (@zH _ _ _ _ (zv (yf (fu:=fu) T) (hr.mono ∅) rfl T.ae.m T.ae.F.kp T.ae.b .nil zQ (@za _ _ _ _ _ (pv 0) (@za _ _ _ _ _ zj zg zq) zf))))))),yy (n:=2) (k:=1) (b:=Yh fu) rfl (zr (zA (zw (zc (zb 0) (zc (zm xb (zm zml (zi _) (yu yO (zc (zb 1) zk))) (zi _)) zk))) zp) (zr (yc (yK (Ve (zb 2) (zi _))) (zI (zm zu (zm zu (zb 1) (zm vH (zb 2) (yu yO (zc (zb 1) zk)))) (zi _))) zN) (zr (yc (yK (xP (zb 2) (zi _))) (zI (zw (zc (zb 0) (zc (zm zdC (zi _) (zi _)) zk)))) zN) (zI (zw (zc (zb 0) (zc (zi _) zk))))))) h⟩)
noncomputable def WT (fu:Nat):TwS:=(zD (zO (zE (xn fu) [(ze 0),(ze 1)]) (gN 2)) (zD (zO (eOp zeO (eC (.str "=<#")) (zE (zX fu) [(ze 0),(eC (.int 3))])) (gN 3)) (ye (yI [(ze 2),(ze 3),(zE (xn fu) [(ze 0),(ze 1)])]))))
noncomputable def Zo (fu:Nat):TwF:=ym 2 2 (WT fu)
theorem WU (T:Tx K mg):yA P w K mg base (CXE P w) 3 T.aI.a T.aI.fd ["_law_left","_law_boxes_here"] (sTw K 2 (Zo fu)):=
 T.aI.F.okE WL (λvs H Q E h=>h.1) (λaS A outer s H vs Q E hr h=>⟨_,(@zh _ _ _ _ _ (@zB _ _ 2 _ _ _ _ WL.nd rfl (rK rfl) (zv (wz (fu:=fu) T) (hr.mono ∅) rfl T.ai.m T.ai.F.kp T.ai.b .nil zQ (@za _ _ _ _ _ (pv 0) (@za _ _ _ _ _ (pv 1) zg zf) zf)) (by rfl) (by walk_at "q1")) (@zh _ _ _ _ _ (@zB _ _ 3 _ _ _ _ WL.nd rfl (rK rfl) (@zx _ _ _ _ _ _ _ zdj zJ (zv (yf (fu:=fu) T) (hr.mono ∅) rfl T.ae.m T.ae.F.kp T.ae.b .nil zQ (@za _ _ _ _ _ (pv 0) (@za _ _ _ _ _ zj zg zq) zf)) (λ_ _=>rfl)) (by rfl) (by walk_at "q1")) (@zn _ _ _ (@zH _ _ _ _ (@yk _ _ _ _ _ (@za _ _ _ _ _ (pv 2) (@za _ _ _ _ _ (pv 3) (@za _ _ _ _ _ (zv (wz (fu:=fu) T) (hr.mono ∅) rfl T.ai.m T.ai.F.kp T.ai.b .nil zQ (@za _ _ _ _ _ (pv 0) (@za _ _ _ _ _ (pv 1) zg zf) zf)) zg yr) zf) zf)))))),yy (n:=2) (k:=2) (b:=WT fu) rfl (zr (zA (zw (zc (zb 0) (zc (zb 1) zk))) zp) (zr (zA (zm zf5 (zL _) (zw (zc (zb 0) (zc (zi _) zk)))) zp) (zI (yl (zc (zb 2) (zc (zb 3) (zc (zw (zc (zb 0) (zc (zb 1) zk))) zk))))))) h⟩)
noncomputable def Zp (fu:Nat):TwS:=(zD (zO (zE (zX fu) [(ze 0),(eC (.int 6))]) (gN 3)) (zD (sIf (bE (eOp ZT (ze 3) (eC (.int 5)))) (ye (yI [(ze 2),(eC (.str "+")),(eOp xZ (eC (.int 1)) (zE (zX fu) [(ze 0),(eC (.int 8))]))])) zT) (zD (zO (zE (xn fu) [(ze 0),(ze 1)]) (gN 4)) (zD (sIf (bE (eOp ZT (ze 3) (eC (.int 4)))) (ye (yI [(ze 4),(eC (.str "-")),(ze 2)])) zT) (zD (sIf (bE (eOp ZT (ze 3) (eC (.int 0)))) (ye (yI [(ze 4)])) zT) (ye (yI [(ze 4),(eOp zeO (eC (.str " +-*")) (ze 3)),(zE (xn fu) [(ze 0),(ze 1)])])))))))
noncomputable def Zq (fu:Nat):TwF:=ym 3 2 (Zp fu)
theorem Tz (T:Tx K mg):yA P w K mg base (CXE P w) 3 T.aQ.a T.aQ.fd ["_law_left","_law_boxes_here","_law_name"] (sTw K 3 (Zq fu)):=
 T.aQ.F.okE Zj (λvs H Q E h=>h.1) (λaS A outer s H vs Q E hr h=>⟨_,(@zh _ _ _ _ _ (@zB _ _ 3 _ _ _ _ Zj.nd rfl (rK rfl) (zv (yf (fu:=fu) T) (hr.mono ∅) rfl T.ae.m T.ae.F.kp T.ae.b .nil zQ (@za _ _ _ _ _ (pv 0) (@za _ _ _ _ _ zj zg zq) zf)) (by rfl) (by walk_at "q1")) (@zh _ _ _ _ _ (yb (yq (xN (pv 3) zj)) (@zn _ _ _ (@zH _ _ _ _ (@yk _ _ _ _ _ (@za _ _ _ _ _ (pv 2) (@za _ _ _ _ _ zJ (@za _ _ _ _ _ (yd xa zj (zv (yf (fu:=fu) T) (hr.mono ∅) rfl T.ae.m T.ae.F.kp T.ae.b .nil zQ (@za _ _ _ _ _ (pv 0) (@za _ _ _ _ _ zj zg zq) zf))) zg yx) zq) zf)))) zM) (@zh _ _ _ _ _ (@zB _ _ 4 _ _ _ _ Zj.nd rfl (rK rfl) (zv (wz (fu:=fu) T) (hr.mono ∅) rfl T.ai.m T.ai.F.kp T.ai.b .nil zQ (@za _ _ _ _ _ (pv 0) (@za _ _ _ _ _ (pv 1) zg zf) zf)) (by rfl) (by walk_at "q1")) (@zh _ _ _ _ _ (yb (yq (xN (pv 3) zj)) (@zn _ _ _ (@zH _ _ _ _ (@yk _ _ _ _ _ (@za _ _ _ _ _ (pv 4) (@za _ _ _ _ _ zJ (@za _ _ _ _ _ (pv 2) zg zf) zq) zf)))) zM) (@zh _ _ _ _ _ (yb (yq (xN (pv 3) zj)) (@zn _ _ _ (@zH _ _ _ _ (@yk _ _ _ _ _ (@za _ _ _ _ _ (pv 4) zg zf)))) zM) (@zn _ _ _ (@zH _ _ _ _ (@yk _ _ _ _ _ (@za _ _ _ _ _ (pv 4) (@za _ _ _ _ _ (@zx _ _ _ _ _ _ _ zdj zJ (pv 3) (λ_ _=>rfl)) (@za _ _ _ _ _ (zv (wz (fu:=fu) T) (hr.mono ∅) rfl T.ai.m T.ai.F.kp T.ai.b .nil zQ (@za _ _ _ _ _ (pv 0) (@za _ _ _ _ _ (pv 1) zg zf) zf)) zg yr) zt) zf))))))))),yy (n:=3) (k:=2) (b:=Zp fu) rfl (zr (zA (zw (zc (zb 0) (zc (zi _) zk))) zp) (zr (yc (yK (xP (zb 3) (zi _))) (zI (yl (zc (zb 2) (zc (zL _) (zc (zm xb (zi _) (zw (zc (zb 0) (zc (zi _) zk)))) zk))))) zN) (zr (zA (zw (zc (zb 0) (zc (zb 1) zk))) zp) (zr (yc (yK (xP (zb 3) (zi _))) (zI (yl (zc (zb 4) (zc (zL _) (zc (zb 2) zk))))) zN) (zr (yc (yK (xP (zb 3) (zi _))) (zI (yl (zc (zb 4) zk))) zN) (zI (yl (zc (zb 4) (zc (zm zf5 (zL _) (zb 3)) (zc (zw (zc (zb 0) (zc (zb 1) zk))) zk)))))))))) h⟩)
noncomputable def Yi (fu:Nat):TwS:=(zD (zO (eC (.int 4)) (gN 2)) (zD (sIf (bE (eOp ZT (zE (zX fu) [(ze 0),(eC (.int 4))]) (eC (.int 1)))) (zO (eOp zgb (eC (.int 10)) (eC (.int 9))) (gN 2)) zT) (zD (zO (vf [none,some 0,some 2] (iR1 (ze 1)) (gN 0) vO (zE (zX fu) [(ze 1),(ze 2)])) (gN 3)) (zD (zO (zE (zX fu) [(ze 0),(ze 1)]) (gN 4)) (zD (zO (eFn zhL [(eC (.int 1)),(eOp zaI (ze 3) (ze 4))]) (zbu (ze 3) (ze 4))) (ye (eFn Yf [(ze 3)])))))))
noncomputable def Yj (fu:Nat):TwF:=ym 2 3 (Yi fu)
theorem zaM (T:Tx K mg):yA P w K mg base (CXE P w) 2 T.bh.a T.bh.fd ["_law_left","_law_size"] (sTw K 2 (Yj fu)):=
 T.bh.F.okE wx (λvs H Q E h=>h.1) (λaS A outer s H vs Q E hr h=>⟨_,(@zh _ _ _ _ _ (@zB _ _ 2 _ _ _ _ wx.nd rfl (y0 rfl) zj (by rfl) (by walk_at "q1")) (@zh _ _ _ _ _ (yb (yq (xN (zv (yf (fu:=fu) T) (hr.mono ∅) rfl T.ae.m T.ae.F.kp T.ae.b .nil zQ (@za _ _ _ _ _ (pv 0) (@za _ _ _ _ _ zj zg zq) zf)) zj)) (@zn _ _ _ (@zB _ _ 2 _ _ _ _ wx.nd rfl (y0 rfl) (yd zdh zj zj) (by rfl) (by walk_at "q1"))) zM) (@zh _ _ _ _ _ (zbg (i:=3) (N':=["_law_k","_law_left","_law_most"]) rfl (blk (osc:=zC Zh) rfl (by decide+kernel)) (xB (yY (i:=0) rfl rfl (yY (i:=2) rfl rfl xA))) (xc rfl T.bw (@za _ _ _ _ _ (pv 1) zg zf)) (yQ rfl) (λC s₀ H₀ fp=>yp (i:=0) (show (["_law_k","_law_left","_law_most"]:List Str).Nodup from by decide+kernel) rfl (rK rfl)) (λC s₀ H₀ fp=>xS) (λC s₀ H₀ fp=>(zv (yf (fu:=fu) T) (hr.mono ∅) rfl T.ae.m T.ae.F.kp T.ae.b .nil Uv (@za _ _ _ _ _ (pv 1) (@za _ _ _ _ _ (pv 2) zg zf) zf))) wx.nd rfl rfl) (@zh _ _ _ _ _ (@zB _ _ 4 _ _ _ _ wx.nd rfl (rK rfl) (zv (yf (fu:=fu) T) (hr.mono ∅) rfl T.ae.m T.ae.F.kp T.ae.b .nil zQ (@za _ _ _ _ _ (pv 0) (@za _ _ _ _ _ (pv 1) zg zf) zf)) (by rfl) (by walk_at "q1")) (@zh _ _ _ _ _ (zfA (zK (Uf rfl) rfl T.f9 boot_max (@za _ _ _ _ _ zj (@za _ _ _ _ _ (@zx _ _ _ _ _ _ _ (XY (K:=K)) (pv 3) (pv 4) (λ_ _=>rfl)) zg zt) zq)) (zfz (pv 3) (pv 4) zbf)) (@zn _ _ _ (@zH _ _ _ _ (wA (we (K:=K)) rfl T.bu boot_tuple (@za _ _ _ _ _ (pv 3) zg zf))))))))),yy (n:=2) (k:=3) (b:=Yi fu) rfl (zr (zA (zi _) zp) (zr (yc (yK (xP (zw (zc (zb 0) (zc (zi _) zk))) (zi _))) (zA (zm zdC (zi _) (zi _)) zp) zN) (zr (zbw (xC (cap:=[none,some 0,some 2]) (xf (zb 1)) zp xU (zw (zc (zb 1) (zc (zb 2) zk))))) (zr (zA (zw (zc (zb 0) (zc (zb 1) zk))) zp) (zr (zA (yu zdE (zc (zi _) (zc (zm zad (zb 3) (zb 4)) zk))) (zbv (zb 3) (zb 4))) (zI (yu ZU (zc (zb 3) zk)))))))) h⟩)
noncomputable def YT (fu:Nat):TwS:=(zD (sIf (bE (eOp (yn false) (ze 2) (eC (.str "gain")))) (ye (yI [(eC (.str "gain")),(zE (xn fu) [(ze 0),(ze 1)])])) zT) (zD (sIf (bE (eOp (yn false) (ze 2) (eC (.str "look")))) (ye (yI [(eC (.str "look")),(zE (Zo fu) [(ze 0),(ze 1)])])) zT) (zD (sIf (bOr (bE (eOp ZT (eFn yX [(ze 1)]) (eC (.int 0)))) (bE (eOp (yn false) (ze 2) (eC (.str "pass"))))) (ye (yI [(eC (.str "pass"))])) zT) (zD (zO (eOp zy (ze 1) (zE (zX fu) [(ze 0),(eFn yX [(ze 1)])])) (gN 3)) (zD (sIf (bE (eOp (yn false) (ze 2) (eC (.str "set")))) (ye (yI [(eC (.str "set")),(eOp zy (ze 3) (eC (.int 0))),(zE (Zq fu) [(ze 0),(ze 1),(eOp zy (ze 3) (eC (.int 0)))])])) zT) (ye (yI [(eC (.str "draw")),(eOp zy (ze 3) (eC (.int 0))),(zE (Yj fu) [(ze 0),(eOp zy (ze 3) (eC (.int 1)))])])))))))
noncomputable def YU (fu:Nat):TwF:=ym 3 1 (YT fu)
theorem zbV (T:Tx K mg):yA P w K mg base (CXE P w) 4 T.bG.a T.bG.fd ["_law_left","_law_boxes_here","_law_kind"] (sTw K 3 (YU fu)):=
 T.bG.F.okE VJ (λvs H Q E h=>h.1) (λaS A outer s H vs Q E hr h=>⟨_,(@zh _ _ _ _ _ (yb (zZ yw (pv 2) zJ (by rfl)) (@zn _ _ _ (@zH _ _ _ _ (@yk _ _ _ _ _ (@za _ _ _ _ _ zJ (@za _ _ _ _ _ (zv (wz (fu:=fu) T) (hr.mono ∅) rfl T.ai.m T.ai.F.kp T.ai.b .nil zQ (@za _ _ _ _ _ (pv 0) (@za _ _ _ _ _ (pv 1) zg zf) zf)) zg yr) zq)))) zM) (@zh _ _ _ _ _ (yb (zZ yw (pv 2) zJ (by rfl)) (@zn _ _ _ (@zH _ _ _ _ (@yk _ _ _ _ _ (@za _ _ _ _ _ zJ (@za _ _ _ _ _ (zv (WU (fu:=fu) T) (hr.mono ∅) rfl T.aI.m T.aI.F.kp T.aI.b .nil zQ (@za _ _ _ _ _ (pv 0) (@za _ _ _ _ _ (pv 1) zg zf) zf)) zg yr) zq)))) zM) (@zh _ _ _ _ _ (yb (PW.pt (vY (yq (xN (zK (yh (K:=K)) rfl T.aT boot_len (@za _ _ _ _ _ (pv 1) zg zf)) zj)) (vE (zZ yw (pv 2) zJ (by rfl))))) (@zn _ _ _ (@zH _ _ _ _ (@yk _ _ _ _ _ (@za _ _ _ _ _ zJ zg zq)))) zM) (@zh _ _ _ _ _ (@zB _ _ 3 _ _ _ _ VJ.nd rfl (rK rfl) (@zx _ _ _ _ _ _ _ (zo (K:=K)) (pv 1) (zv (yf (fu:=fu) T) (hr.mono ∅) rfl T.ae.m T.ae.F.kp T.ae.b .nil zQ (@za _ _ _ _ _ (pv 0) (@za _ _ _ _ _ (zK (yh (K:=K)) rfl T.aT boot_len (@za _ _ _ _ _ (pv 1) zg zf)) zg yr) zf)) (λ_ _=>rfl)) (by rfl) (by walk_at "q1")) (@zh _ _ _ _ _ (yb (zZ yw (pv 2) zJ (by rfl)) (@zn _ _ _ (@zH _ _ _ _ (@yk _ _ _ _ _ (@za _ _ _ _ _ zJ (@za _ _ _ _ _ (@zx _ _ _ _ _ _ _ (zo (K:=K)) (pv 3) zj (λ_ _=>rfl)) (@za _ _ _ _ _ (zv (Tz (fu:=fu) T) (hr.mono ∅) rfl T.aQ.m T.aQ.F.kp T.aQ.b .nil zQ (@za _ _ _ _ _ (pv 0) (@za _ _ _ _ _ (pv 1) (@za _ _ _ _ _ (@zx _ _ _ _ _ _ _ (zo (K:=K)) (pv 3) zj (λ_ _=>rfl)) zg zt) zf) zf)) zg yr) zt) zq)))) zM) (@zn _ _ _ (@zH _ _ _ _ (@yk _ _ _ _ _ (@za _ _ _ _ _ zJ (@za _ _ _ _ _ (@zx _ _ _ _ _ _ _ (zo (K:=K)) (pv 3) zj (λ_ _=>rfl)) (@za _ _ _ _ _ (zv (zaM (fu:=fu) T) (hr.mono ∅) rfl T.bh.m T.bh.F.kp T.bh.b .nil zQ (@za _ _ _ _ _ (pv 0) (@za _ _ _ _ _ (@zx _ _ _ _ _ _ _ (zo (K:=K)) (pv 3) zj (λ_ _=>rfl)) zg zt) zf)) zg yr) zt) zq))))))))),yy (n:=3) (k:=1) (b:=YT fu) rfl (zr (yc (ya (zm yi (zb 2) (zL _))) (zI (yl (zc (zL _) (zc (zw (zc (zb 0) (zc (zb 1) zk))) zk)))) zN) (zr (yc (ya (zm yi (zb 2) (zL _))) (zI (yl (zc (zL _) (zc (zw (zc (zb 0) (zc (zb 1) zk))) zk)))) zN) (zr (yc (Zc (yK (xP (yu yO (zc (zb 1) zk)) (zi _))) (ya (zm yi (zb 2) (zL _)))) (zI (yl (zc (zL _) zk))) zN) (zr (zA (zm zu (zb 1) (zw (zc (zb 0) (zc (yu yO (zc (zb 1) zk)) zk)))) zp) (zr (yc (ya (zm yi (zb 2) (zL _))) (zI (yl (zc (zL _) (zc (zm zu (zb 3) (zi _)) (zc (zw (zc (zb 0) (zc (zb 1) (zc (zm zu (zb 3) (zi _)) zk)))) zk))))) zN) (zI (yl (zc (zL _) (zc (zm zu (zb 3) (zi _)) (zc (zw (zc (zb 0) (zc (zm zu (zb 3) (zi _)) zk))) zk)))))))))) h⟩)
noncomputable def Zr (fu:Nat) (bY:TwF):TwS:=(zD (zO (eC (.int 0)) (gN 1)) (zD (YH (iT (ze 0)) (gN 2) (zD (zO (eOp xZ (ze 1) (eC (.int 1))) (gN 1)) (zD (sIf (bE (eOp (yn false) (eOp zy (ze 2) (eC (.int 0))) (eC (.str "if")))) (zO (eOp xZ (eOp xZ (ze 1) (zE bY [(eOp zy (ze 2) (eC (.int 2)))])) (zE bY [(eOp zy (ze 2) (eC (.int 3)))])) (gN 1)) zT) (zD (sIf (bE (eOp (yn false) (eOp zy (ze 2) (eC (.int 0))) (eC (.str "while")))) (zO (eOp xZ (ze 1) (zE bY [(eOp zy (ze 2) (eC (.int 2)))])) (gN 1)) zT) (zD (sIf (bE (eOp (yn false) (eOp zy (ze 2) (eC (.int 0))) (eC (.str "times")))) (zO (eOp xZ (ze 1) (eOp wF (eFn zhL [(eC (.int 1)),(eOp zy (ze 2) (eC (.int 1)))]) (eOp xZ (eC (.int 1)) (zE bY [(eOp zy (ze 2) (eC (.int 2)))])))) (gN 1)) zT) (sIf (bE (eOp (yn false) (eOp zy (ze 2) (eC (.int 0))) (eC (.str "hand")))) (zO (eOp xZ (ze 1) (eFn zeU [(vf [none] (iT (eOp zy (ze 2) (eC (.int 1)))) (gN 0) vO (zE bY [(ze 0)]))])) (gN 1)) zT)))))) (ye (ze 1))))
noncomputable def yL (fu:Nat):Nat->TwF
 |0=>λ_ _=>none
 |n+1=>ym 1 2 (Zr fu (yL fu n))
theorem Yp (fu n:Nat):yL fu (n+1)=ym 1 2 (Zr fu (yL fu n)):=by rfl
theorem Uq (fu:Nat):yL fu 0=λ_ _=>none:=by rfl
theorem zaN (T:Tx K mg):∀n:Nat,yA P w K mg base (CXE P w) (0+n) T.af.a T.af.fd ["_law_block_here"] (sTw K 1 (yL fu n)):=by
 intro n
 induction n with
 |zero=>
  skip
  ·rw[Uq]
   exact ZK
 |succ n ih=>
  ·rw[Yp]
   exact T.af.F.okE xi (λvs H Q E h=>h.1) (λaS A outer s H vs Q E hr h=>⟨_,(@zh _ _ _ _ _ (@zB _ _ 1 _ _ _ _ xi.nd rfl (rK rfl) zj (by rfl) (by walk_at "q1")) (@zh _ _ _ _ _ (wJ PassesOwn.leaving rfl (wY (K:=K) (pv 0)) (yp (i:=2) xi.nd rfl (rK rfl)) (@zh _ _ _ _ _ (@zB _ _ 1 _ _ _ _ xi.nd rfl (rK rfl) (yd xa (pv 1) zj) (by rfl) (by walk_at "q1")) (@zh _ _ _ _ _ (yb (zZ yw (@zx _ _ _ _ _ _ _ (zo (K:=K)) (pv 2) zj (λ_ _=>rfl)) zJ (by rfl)) (@zn _ _ _ (@zB _ _ 1 _ _ _ _ xi.nd rfl (rK rfl) (yd xa (yd xa (pv 1) (zv ih (hr.mono (by (try simp only[sk]);omega)) rfl T.af.m T.af.F.kp T.af.b .nil zQ (@za _ _ _ _ _ (@zx _ _ _ _ _ _ _ (zo (K:=K)) (pv 2) zj (λ_ _=>rfl)) zg zt))) (zv ih (hr.mono (by (try simp only[sk]);omega)) rfl T.af.m T.af.F.kp T.af.b .nil zQ (@za _ _ _ _ _ (@zx _ _ _ _ _ _ _ (zo (K:=K)) (pv 2) zj (λ_ _=>rfl)) zg zt))) (by rfl) (by walk_at "q1"))) zM) (@zh _ _ _ _ _ (yb (zZ yw (@zx _ _ _ _ _ _ _ (zo (K:=K)) (pv 2) zj (λ_ _=>rfl)) zJ (by rfl)) (@zn _ _ _ (@zB _ _ 1 _ _ _ _ xi.nd rfl (rK rfl) (yd xa (pv 1) (zv ih (hr.mono (by (try simp only[sk]);omega)) rfl T.af.m T.af.F.kp T.af.b .nil zQ (@za _ _ _ _ _ (@zx _ _ _ _ _ _ _ (zo (K:=K)) (pv 2) zj (λ_ _=>rfl)) zg zt))) (by rfl) (by walk_at "q1"))) zM) (@zh _ _ _ _ _ (yb (zZ yw (@zx _ _ _ _ _ _ _ (zo (K:=K)) (pv 2) zj (λ_ _=>rfl)) zJ (by rfl)) (@zn _ _ _ (@zB _ _ 1 _ _ _ _ xi.nd rfl (rK rfl) (yd xa (pv 1) (yd wj (zK (Uf rfl) rfl T.f9 boot_max (@za _ _ _ _ _ zj (@za _ _ _ _ _ (@zx _ _ _ _ _ _ _ (zo (K:=K)) (pv 2) zj (λ_ _=>rfl)) zg zt) zq)) (yd xa zj (zv ih (hr.mono (by (try simp only[sk]);omega)) rfl T.af.m T.af.F.kp T.af.b .nil zQ (@za _ _ _ _ _ (@zx _ _ _ _ _ _ _ (zo (K:=K)) (pv 2) zj (λ_ _=>rfl)) zg zt))))) (by rfl) (by walk_at "q1"))) zM) (@zn _ _ _ (yb (zZ yw (@zx _ _ _ _ _ _ _ (zo (K:=K)) (pv 2) zj (λ_ _=>rfl)) zJ (by rfl)) (@zn _ _ _ (@zB _ _ 1 _ _ _ _ xi.nd rfl (rK rfl) (yd xa (pv 1) (zK (zcR (K:=K) rfl) rfl T.f7 PyProof.Rows.Boot.«sum» (za (xT (N':=["_law_one"]) rfl (blk (osc:=zC ZL) rfl (by decide+kernel)) (xB xA) (wY (K:=K) (@zx _ _ _ _ _ _ _ (zo (K:=K)) (pv 2) zj (λ_ _=>rfl))) (yQ rfl) (λC s₀ H₀ fp=>yp (i:=0) (show (["_law_one"]:List Str).Nodup from by decide+kernel) rfl (rK rfl)) (λC s₀ H₀ fp=>xS) (λC s₀ H₀ fp=>(zv ih (hr.mono (by (try simp only[sk]);omega)) rfl T.af.m T.af.F.kp T.af.b .nil Uv (@za _ _ _ _ _ (pv 0) zg zf)))) zg))) (by rfl) (by walk_at "q1"))) zM))))))) (@zn _ _ _ (@zH _ _ _ _ (pv 1))))),yy (n:=1) (k:=2) (b:=Zr fu (yL fu n)) rfl (zr (zA (zi _) zp) (zr (wO (Zz (zb 0)) zp (zr (zA (zm xb (zb 1) (zi _)) zp) (zr (yc (ya (zm yi (zm zu (zb 2) (zi _)) (zL _))) (zA (zm xb (zm xb (zb 1) (zw (zc (zm zu (zb 2) (zi _)) zk))) (zw (zc (zm zu (zb 2) (zi _)) zk))) zp) zN) (zr (yc (ya (zm yi (zm zu (zb 2) (zi _)) (zL _))) (zA (zm xb (zb 1) (zw (zc (zm zu (zb 2) (zi _)) zk))) zp) zN) (zr (yc (ya (zm yi (zm zu (zb 2) (zi _)) (zL _))) (zA (zm xb (zb 1) (zm wm (yu zdE (zc (zi _) (zc (zm zu (zb 2) (zi _)) zk))) (zm xb (zi _) (zw (zc (zm zu (zb 2) (zi _)) zk))))) zp) zN) (yc (ya (zm yi (zm zu (zb 2) (zi _)) (zL _))) (zA (zm xb (zb 1) (yu ziZ (zc (xC (cap:=[none]) (Zz (zm zu (zb 2) (zi _))) zp xU (zw (zc (zb 0) zk))) zk))) zp) zN)))))) (zI (zb 1)))) h⟩)
theorem VY (T:Tx K mg) (n:Nat):yA P w K mg base (CXE P w) (0+n) T.af.a T.af.fd ["_law_block_here"] (sTw K 1 (yL fu n)):=(zaN T n)
noncomputable def ZO (fu:Nat) (cD:TwF) (dW:TwF):TwS:=(ye (eFn Yf [(vf [none,some 0,some 1,some 2,some 3] (iR1 (zE (zX fu) [(ze 0),(eC (.int 4))])) (gN 0) vO (zE dW [(ze 1),(ze 2),(ze 3),(ze 4)]))]))
noncomputable def Yw (fu:Nat) (cD:TwF) (dW:TwF):TwS:=(zD (zO (eOp zaI (ze 2) (zE (zX fu) [(ze 0),(eFn yX [(ze 2)])])) (gN 4)) (zD (sIf (bE (eOp (dIn true) (ze 4) (Wt [(eC (.str "if")),(eC (.str "while")),(eC (.str "times")),(eC (.str "hand"))]))) (ye (zE (YU fu) [(ze 0),(ze 1),(ze 4)])) zT) (zD (sIf (bE (eOp ZT (ze 3) (eC (.int 0)))) (ye (yI [(eC (.str "pass"))])) zT) (zD (zO (zE cD [(ze 0),(ze 1),(ze 2),(eOp zdB (ze 3) (eC (.int 1)))]) (gN 5)) (zD (sIf (bE (eOp (yn false) (ze 4) (eC (.str "times")))) (zD (zO (zE (zX fu) [(ze 0),(eOp xZ (eC (.int 1)) (eOp Ww (eC (.int 60)) (eOp xZ (eC (.int 1)) (zE (yL fu 6) [(ze 5)]))))]) (gN 6)) (zD (sIf (bE (eOp ZT (eOp YI (ze 6) (eC (.int 2))) (eC (.int 1)))) (zO (eOp YI (ze 6) (eC (.int 6))) (gN 6)) zT) (ye (yI [(eC (.str "times")),(ze 6),(ze 5)])))) zT) (zD (sIf (bE (eOp (yn false) (ze 4) (eC (.str "while")))) (ye (yI [(eC (.str "while")),(zE (Zo fu) [(ze 0),(ze 1)]),(ze 5)])) zT) (zD (zO (zE cD [(ze 0),(ze 1),(ze 2),(eOp zdB (ze 3) (eC (.int 1)))]) (gN 7)) (zD (sIf (bE (eOp (yn false) (ze 4) (eC (.str "if")))) (ye (yI [(eC (.str "if")),(zE (Zo fu) [(ze 0),(ze 1)]),(ze 5),(ze 7)])) zT) (zD (zO (zE (zX fu) [(ze 0),(eC (.int 10))]) (gN 8)) (zD (zO (eOp zeS (Wt [(ze 5),(ze 7)]) (vf [none,some 0,some 1,some 2] (iR1 (eFn zhL [(eC (.int 0)),(eOp zdB (ze 8) (eC (.int 3)))])) (gN 0) vO (zE cD [(ze 1),(ze 2),(ze 3),(eC (.int 0))]))) (gN 9)) (ye (yI [(eC (.str "hand")),(eFn Yf [(ze 9)])]))))))))))))
mutual
noncomputable def yF (fu:Nat):Nat->TwF
 |0=>λ_ _=>none
 |n+1=>ym 4 0 (ZO fu (yF fu n) (yC fu n))
noncomputable def yC (fu:Nat):Nat->TwF
 |0=>λ_ _=>none
 |n+1=>ym 4 6 (Yw fu (yF fu n) (yC fu n))
end
theorem YV (fu n:Nat):yF fu (n+1)=ym 4 0 (ZO fu (yF fu n) (yC fu n)):=by rw[yF]
theorem UV (fu:Nat):yF fu 0=λ_ _=>none:=by rw[yF]
theorem Xo (fu n:Nat):yC fu (n+1)=ym 4 6 (Yw fu (yF fu n) (yC fu n)):=by rw[yC]
theorem TB (fu:Nat):yC fu 0=λ_ _=>none:=by rw[yC]
theorem zbW (T:Tx K mg):∀n:Nat,yA P w K mg base (CXE P w) (6+n) T.aA.a T.aA.fd ["_law_left","_law_boxes_here","_law_kinds_here","_law_depth"] (sTw K 4 (yF fu n))/\yA P w K mg base (CXE P w) (6+n) T.aO.a T.aO.fd ["_law_left","_law_boxes_here","_law_kinds_here","_law_depth"] (sTw K 4 (yC fu n)):=by
 intro n
 induction n with
 |zero=>
  refine⟨?_,?_⟩
  ·rw[UV]
   exact ZK
  ·rw[TB]
   exact ZK
 |succ n ih=>
  refine⟨?_,?_⟩
  ·rw[YV]
   exact T.aA.F.okE zct (λvs H Q E h=>h.1) (λaS A outer s H vs Q E hr h=>⟨_,(@zn _ _ _ (@zH _ _ _ _ (wA (we (K:=K)) rfl T.bu boot_tuple (za (xT (N':=["_law_k","_law_left","_law_boxes_here","_law_kinds_here","_law_depth"]) rfl (blk (osc:=zC Yu) rfl (by decide+kernel)) (xB (yY (i:=0) rfl rfl (yY (i:=1) rfl rfl (yY (i:=2) rfl rfl (yY (i:=3) rfl rfl xA))))) (xc rfl T.bw (@za _ _ _ _ _ (zv (yf (fu:=fu) T) (hr.mono (by (try simp only[sk]);omega)) rfl T.ae.m T.ae.F.kp T.ae.b .nil zQ (@za _ _ _ _ _ (pv 0) (@za _ _ _ _ _ zj zg zq) zf)) zg yr)) (yQ rfl) (λC s₀ H₀ fp=>yp (i:=0) (show (["_law_k","_law_left","_law_boxes_here","_law_kinds_here","_law_depth"]:List Str).Nodup from by decide+kernel) rfl (rK rfl)) (λC s₀ H₀ fp=>xS) (λC s₀ H₀ fp=>(zv ih.2 (hr.mono (by (try simp only[sk]);omega)) rfl T.aO.m T.aO.F.kp T.aO.b .nil Uv (@za _ _ _ _ _ (pv 1) (@za _ _ _ _ _ (pv 2) (@za _ _ _ _ _ (pv 3) (@za _ _ _ _ _ (pv 4) zg zf) zf) zf) zf)))) zg)))),yy (n:=4) (k:=0) (b:=ZO fu (yF fu n) (yC fu n)) rfl (zI (yu ZU (zc (xC (cap:=[none,some 0,some 1,some 2,some 3]) (xf (zw (zc (zb 0) (zc (zi _) zk)))) zp xU (zw (zc (zb 1) (zc (zb 2) (zc (zb 3) (zc (zb 4) zk)))))) zk))) h⟩)
  ·rw[Xo]
   exact T.aO.F.okE xH (λvs H Q E h=>h.1) (λaS A outer s H vs Q E hr h=>⟨_,(@zh _ _ _ _ _ (@zB _ _ 4 _ _ _ _ xH.nd rfl (rK rfl) (@zx _ _ _ _ _ _ _ (XY (K:=K)) (pv 2) (zv (yf (fu:=fu) T) (hr.mono (by (try simp only[sk]);omega)) rfl T.ae.m T.ae.F.kp T.ae.b .nil zQ (@za _ _ _ _ _ (pv 0) (@za _ _ _ _ _ (zK (yh (K:=K)) rfl T.aT boot_len (@za _ _ _ _ _ (pv 2) zg zf)) zg yr) zf)) (λ_ _=>rfl)) (by rfl) (by walk_at "q1")) (@zh _ _ _ _ _ (yb (zZ (zcQ (K:=K)) (pv 4) (@vZ _ _ _ _ (@za _ _ _ _ _ zJ (@za _ _ _ _ _ zJ (@za _ _ _ _ _ zJ (@za _ _ _ _ _ zJ zg zq) zq) zq) zq)) (by rfl)) (@zn _ _ _ (@zH _ _ _ _ (zv (zbV (fu:=fu) T) (hr.mono (by (try simp only[sk]);omega)) rfl T.bG.m T.bG.F.kp T.bG.b .nil zQ (@za _ _ _ _ _ (pv 0) (@za _ _ _ _ _ (pv 1) (@za _ _ _ _ _ (pv 4) zg zf) zf) zf)))) zM) (@zh _ _ _ _ _ (yb (yq (xN (pv 3) zj)) (@zn _ _ _ (@zH _ _ _ _ (@yk _ _ _ _ _ (@za _ _ _ _ _ zJ zg zq)))) zM) (@zh _ _ _ _ _ (@zB _ _ 5 _ _ _ _ xH.nd rfl (rK rfl) (zv ih.1 (hr.mono (by (try simp only[sk]);omega)) rfl T.aA.m T.aA.F.kp T.aA.b .nil zQ (@za _ _ _ _ _ (pv 0) (@za _ _ _ _ _ (pv 1) (@za _ _ _ _ _ (pv 2) (@za _ _ _ _ _ (yd TU (pv 3) zj) zg yx) zf) zf) zf)) (by rfl) (by walk_at "q1")) (@zh _ _ _ _ _ (yb (zZ yw (pv 4) zJ (by rfl)) (@zh _ _ _ _ _ (@zB _ _ 6 _ _ _ _ xH.nd rfl (rK rfl) (zv (yf (fu:=fu) T) (hr.mono (by (try simp only[sk]);omega)) rfl T.ae.m T.ae.F.kp T.ae.b .nil zQ (@za _ _ _ _ _ (pv 0) (@za _ _ _ _ _ (yd xa zj (yd XX zj (yd xa zj (zv (VY (fu:=fu) T 6) (hr.mono (by (try simp only[sk]);omega)) rfl T.af.m T.af.F.kp T.af.b .nil zQ (@za _ _ _ _ _ (pv 5) zg zf))))) zg yx) zf)) (by rfl) (by walk_at "q1")) (@zh _ _ _ _ _ (yb (yq (xN (yd vF (pv 6) zj) zj)) (@zn _ _ _ (@zB _ _ 6 _ _ _ _ xH.nd rfl (rK rfl) (yd vF (pv 6) zj) (by rfl) (by walk_at "q1"))) zM) (@zn _ _ _ (@zH _ _ _ _ (@yk _ _ _ _ _ (@za _ _ _ _ _ zJ (@za _ _ _ _ _ (pv 6) (@za _ _ _ _ _ (pv 5) zg zf) zf) zq)))))) zM) (@zh _ _ _ _ _ (yb (zZ yw (pv 4) zJ (by rfl)) (@zn _ _ _ (@zH _ _ _ _ (@yk _ _ _ _ _ (@za _ _ _ _ _ zJ (@za _ _ _ _ _ (zv (WU (fu:=fu) T) (hr.mono (by (try simp only[sk]);omega)) rfl T.aI.m T.aI.F.kp T.aI.b .nil zQ (@za _ _ _ _ _ (pv 0) (@za _ _ _ _ _ (pv 1) zg zf) zf)) (@za _ _ _ _ _ (pv 5) zg zf) yr) zq)))) zM) (@zh _ _ _ _ _ (@zB _ _ 7 _ _ _ _ xH.nd rfl (rK rfl) (zv ih.1 (hr.mono (by (try simp only[sk]);omega)) rfl T.aA.m T.aA.F.kp T.aA.b .nil zQ (@za _ _ _ _ _ (pv 0) (@za _ _ _ _ _ (pv 1) (@za _ _ _ _ _ (pv 2) (@za _ _ _ _ _ (yd TU (pv 3) zj) zg yx) zf) zf) zf)) (by rfl) (by walk_at "q1")) (@zh _ _ _ _ _ (yb (zZ yw (pv 4) zJ (by rfl)) (@zn _ _ _ (@zH _ _ _ _ (@yk _ _ _ _ _ (@za _ _ _ _ _ zJ (@za _ _ _ _ _ (zv (WU (fu:=fu) T) (hr.mono (by (try simp only[sk]);omega)) rfl T.aI.m T.aI.F.kp T.aI.b .nil zQ (@za _ _ _ _ _ (pv 0) (@za _ _ _ _ _ (pv 1) zg zf) zf)) (@za _ _ _ _ _ (pv 5) (@za _ _ _ _ _ (pv 7) zg zf) zf) yr) zq)))) zM) (@zh _ _ _ _ _ (@zB _ _ 8 _ _ _ _ xH.nd rfl (rK rfl) (zv (yf (fu:=fu) T) (hr.mono (by (try simp only[sk]);omega)) rfl T.ae.m T.ae.F.kp T.ae.b .nil zQ (@za _ _ _ _ _ (pv 0) (@za _ _ _ _ _ zj zg zq) zf)) (by rfl) (by walk_at "q1")) (@zh _ _ _ _ _ (@zB _ _ 9 _ _ _ _ xH.nd rfl (rK rfl) (yd (zkA (K:=K)) (@vZ _ _ _ _ (@za _ _ _ _ _ (pv 5) (@za _ _ _ _ _ (pv 7) zg zf) zf)) (xT (N':=["_law_k","_law_left","_law_boxes_here","_law_kinds_here"]) rfl (blk (osc:=zC Xf) rfl (by decide+kernel)) (xB (yY (i:=0) rfl rfl (yY (i:=1) rfl rfl (yY (i:=2) rfl rfl xA)))) (xc rfl T.bw (@za _ _ _ _ _ (zK (Uf rfl) rfl T.f9 boot_max (@za _ _ _ _ _ zj (@za _ _ _ _ _ (yd TU (pv 8) zj) zg yx) zq)) zg yr)) (yQ rfl) (λC s₀ H₀ fp=>yp (i:=0) (show (["_law_k","_law_left","_law_boxes_here","_law_kinds_here"]:List Str).Nodup from by decide+kernel) rfl (rK rfl)) (λC s₀ H₀ fp=>xS) (λC s₀ H₀ fp=>(zv ih.1 (hr.mono (by (try simp only[sk]);omega)) rfl T.aA.m T.aA.F.kp T.aA.b .nil Uv (@za _ _ _ _ _ (pv 1) (@za _ _ _ _ _ (pv 2) (@za _ _ _ _ _ (pv 3) (@za _ _ _ _ _ zj zg zq) zf) zf) zf))))) (by rfl) (by walk_at "q1")) (@zn _ _ _ (@zH _ _ _ _ (@yk _ _ _ _ _ (@za _ _ _ _ _ zJ (@za _ _ _ _ _ (wA (we (K:=K)) rfl T.bu boot_tuple (@za _ _ _ _ _ (pv 9) zg zf)) zg yr) zq)))))))))))))),yy (n:=4) (k:=6) (b:=Yw fu (yF fu n) (yC fu n)) rfl (zr (zA (zm zad (zb 2) (zw (zc (zb 0) (zc (yu yO (zc (zb 2) zk)) zk)))) zp) (zr (yc (ya (zm zlD (zb 4) (Zd (zc (zL _) (zc (zL _) (zc (zL _) (zc (zL _) zk))))))) (zI (zw (zc (zb 0) (zc (zb 1) (zc (zb 4) zk))))) zN) (zr (yc (yK (xP (zb 3) (zi _))) (zI (yl (zc (zL _) zk))) zN) (zr (zA (zw (zc (zb 0) (zc (zb 1) (zc (zb 2) (zc (zm zag (zb 3) (zi _)) zk))))) zp) (zr (yc (ya (zm yi (zb 4) (zL _))) (zr (zA (zw (zc (zb 0) (zc (zm xb (zi _) (zm Wb (zi _) (zm xb (zi _) (zw (zc (zb 5) zk))))) zk))) zp) (zr (yc (yK (xP (zm vH (zb 6) (zi _)) (zi _))) (zA (zm vH (zb 6) (zi _)) zp) zN) (zI (yl (zc (zL _) (zc (zb 6) (zc (zb 5) zk))))))) zN) (zr (yc (ya (zm yi (zb 4) (zL _))) (zI (yl (zc (zL _) (zc (zw (zc (zb 0) (zc (zb 1) zk))) (zc (zb 5) zk))))) zN) (zr (zA (zw (zc (zb 0) (zc (zb 1) (zc (zb 2) (zc (zm zag (zb 3) (zi _)) zk))))) zp) (zr (yc (ya (zm yi (zb 4) (zL _))) (zI (yl (zc (zL _) (zc (zw (zc (zb 0) (zc (zb 1) zk))) (zc (zb 5) (zc (zb 7) zk)))))) zN) (zr (zA (zw (zc (zb 0) (zc (zi _) zk))) zp) (zr (zA (zm zkF (Zd (zc (zb 5) (zc (zb 7) zk))) (xC (cap:=[none,some 0,some 1,some 2]) (xf (yu zdE (zc (zi _) (zc (zm zag (zb 8) (zi _)) zk)))) zp xU (zw (zc (zb 1) (zc (zb 2) (zc (zb 3) (zc (zi _) zk))))))) zp) (zI (yl (zc (zL _) (zc (yu ZU (zc (zb 9) zk)) zk)))))))))))))) h⟩)
theorem zdX (T:Tx K mg) (n:Nat):yA P w K mg base (CXE P w) (6+n) T.aO.a T.aO.fd ["_law_left","_law_boxes_here","_law_kinds_here","_law_depth"] (sTw K 4 (yC fu n)):=(zbW T n).2
noncomputable def Zs (fu:Nat) (cx:TwF):TwS:=(zD (zO (eC (.int 1)) (gN 1)) (zD (YH (iT (ze 0)) (gN 2) (zD (zO (eC (.int 1)) (gN 3)) (zD (zO (eC (.int 1)) (gN 4)) (zD (sIf (bE (eOp (yn false) (eOp zy (ze 2) (eC (.int 0))) (eC (.str "draw")))) (zO (eFn yX [(vf [none] (iT (eOp zy (ze 2) (eC (.int 2)))) (gN 0) (bE (eOp dGt (ze 0) (eC (.int 0)))) (ze 0))]) (gN 4)) zT) (zD (sIf (bE (eOp (yn false) (eOp zy (ze 2) (eC (.int 0))) (eC (.str "if")))) (zO (eFn zhL [(zE cx [(eOp zy (ze 2) (eC (.int 2)))]),(zE cx [(eOp zy (ze 2) (eC (.int 3)))])]) (gN 4)) zT) (zD (sIf (bE (eOp (yn false) (eOp zy (ze 2) (eC (.int 0))) (eC (.str "hand")))) (zO (eFn zeU [(vf [none] (iT (eOp zy (ze 2) (eC (.int 1)))) (gN 0) vO (zE cx [(ze 0)]))]) (gN 4)) zT) (zD (sIf (bE (eOp (yn false) (eOp zy (ze 2) (eC (.int 0))) (eC (.str "times")))) (zD (zO (eOp zy (ze 2) (eC (.int 1))) (gN 3)) (zO (zE cx [(eOp zy (ze 2) (eC (.int 2)))]) (gN 4))) zT) (YH (iR1 (ze 3)) (gN 5) (zO (eFn ziX [(eC (.int 1000)),(eOp wF (ze 1) (ze 4))]) (gN 1)))))))))) (ye (ze 1))))
noncomputable def yT (fu:Nat):Nat->TwF
 |0=>λ_ _=>none
 |n+1=>ym 1 5 (Zs fu (yT fu n))
theorem Yq (fu n:Nat):yT fu (n+1)=ym 1 5 (Zs fu (yT fu n)):=by rfl
theorem Ur (fu:Nat):yT fu 0=λ_ _=>none:=by rfl
theorem zaO (T:Tx K mg):∀n:Nat,yA P w K mg base (CXE P w) (0+n) T.ah.a T.ah.fd ["_law_block_here"] (sTw K 1 (yT fu n)):=by
 intro n
 induction n with
 |zero=>
  skip
  ·rw[Ur]
   exact ZK
 |succ n ih=>
  ·rw[Yq]
   exact T.ah.F.okE yE (λvs H Q E h=>h.1) (λaS A outer s H vs Q E hr h=>⟨_,(@zh _ _ _ _ _ (@zB _ _ 1 _ _ _ _ yE.nd rfl (rK rfl) zj (by rfl) (by walk_at "q1")) (@zh _ _ _ _ _ (wJ PassesOwn.leaving rfl (wY (K:=K) (pv 0)) (yp (i:=2) yE.nd rfl (rK rfl)) (@zh _ _ _ _ _ (@zB _ _ 3 _ _ _ _ yE.nd rfl (rK rfl) zj (by rfl) (by walk_at "q1")) (@zh _ _ _ _ _ (@zB _ _ 4 _ _ _ _ yE.nd rfl (rK rfl) zj (by rfl) (by walk_at "q1")) (@zh _ _ _ _ _ (yb (zZ yw (@zx _ _ _ _ _ _ _ (zo (K:=K)) (pv 2) zj (λ_ _=>rfl)) zJ (by rfl)) (@zn _ _ _ (@zB _ _ 4 _ _ _ _ yE.nd rfl (rK rfl) (zK (yh (K:=K)) rfl T.aT boot_len (za (xT (N':=["_law_weight"]) rfl (blk (osc:=zC vq) rfl (by decide+kernel)) (xB xA) (wY (K:=K) (@zx _ _ _ _ _ _ _ (zo (K:=K)) (pv 2) zj (λ_ _=>rfl))) (yQ rfl) (λC s₀ H₀ fp=>yp (i:=0) (show (["_law_weight"]:List Str).Nodup from by decide+kernel) rfl (rK rfl)) (λC s₀ H₀ fp=>zgQ (yq (Vb (pv 0) zj))) (λC s₀ H₀ fp=>(pv 0))) zg)) (by rfl) (by walk_at "q1"))) zM) (@zh _ _ _ _ _ (yb (zZ yw (@zx _ _ _ _ _ _ _ (zo (K:=K)) (pv 2) zj (λ_ _=>rfl)) zJ (by rfl)) (@zn _ _ _ (@zB _ _ 4 _ _ _ _ yE.nd rfl (rK rfl) (zK (Uf rfl) rfl T.f9 boot_max (@za _ _ _ _ _ (zv ih (hr.mono (by (try simp only[sk]);omega)) rfl T.ah.m T.ah.F.kp T.ah.b .nil zQ (@za _ _ _ _ _ (@zx _ _ _ _ _ _ _ (zo (K:=K)) (pv 2) zj (λ_ _=>rfl)) zg zt)) (@za _ _ _ _ _ (zv ih (hr.mono (by (try simp only[sk]);omega)) rfl T.ah.m T.ah.F.kp T.ah.b .nil zQ (@za _ _ _ _ _ (@zx _ _ _ _ _ _ _ (zo (K:=K)) (pv 2) zj (λ_ _=>rfl)) zg zt)) zg yr) yr)) (by rfl) (by walk_at "q1"))) zM) (@zh _ _ _ _ _ (yb (zZ yw (@zx _ _ _ _ _ _ _ (zo (K:=K)) (pv 2) zj (λ_ _=>rfl)) zJ (by rfl)) (@zn _ _ _ (@zB _ _ 4 _ _ _ _ yE.nd rfl (rK rfl) (zK (zcR (K:=K) rfl) rfl T.f7 PyProof.Rows.Boot.«sum» (za (xT (N':=["_law_one"]) rfl (blk (osc:=zC vq) rfl (by decide+kernel)) (xB xA) (wY (K:=K) (@zx _ _ _ _ _ _ _ (zo (K:=K)) (pv 2) zj (λ_ _=>rfl))) (yQ rfl) (λC s₀ H₀ fp=>yp (i:=0) (show (["_law_one"]:List Str).Nodup from by decide+kernel) rfl (rK rfl)) (λC s₀ H₀ fp=>xS) (λC s₀ H₀ fp=>(zv ih (hr.mono (by (try simp only[sk]);omega)) rfl T.ah.m T.ah.F.kp T.ah.b .nil Uv (@za _ _ _ _ _ (pv 0) zg zf)))) zg)) (by rfl) (by walk_at "q1"))) zM) (@zh _ _ _ _ _ (yb (zZ yw (@zx _ _ _ _ _ _ _ (zo (K:=K)) (pv 2) zj (λ_ _=>rfl)) zJ (by rfl)) (@zh _ _ _ _ _ (@zB _ _ 3 _ _ _ _ yE.nd rfl (rK rfl) (@zx _ _ _ _ _ _ _ (zo (K:=K)) (pv 2) zj (λ_ _=>rfl)) (by rfl) (by walk_at "q1")) (@zn _ _ _ (@zB _ _ 4 _ _ _ _ yE.nd rfl (rK rfl) (zv ih (hr.mono (by (try simp only[sk]);omega)) rfl T.ah.m T.ah.F.kp T.ah.b .nil zQ (@za _ _ _ _ _ (@zx _ _ _ _ _ _ _ (zo (K:=K)) (pv 2) zj (λ_ _=>rfl)) zg zt)) (by rfl) (by walk_at "q1")))) zM) (@zn _ _ _ (wJ PassesOwn.leaving rfl (xc rfl T.bw (@za _ _ _ _ _ (pv 3) zg zf)) (yp (i:=5) yE.nd rfl (rK rfl)) (@zn _ _ _ (@zB _ _ 1 _ _ _ _ yE.nd rfl (rK rfl) (zK (zcG rfl) rfl T.g4 boot_min (@za _ _ _ _ _ zj (@za _ _ _ _ _ (yd wj (pv 1) (pv 4)) zg yx) zq)) (by rfl) (by walk_at "q1")))))))))))) (@zn _ _ _ (@zH _ _ _ _ (pv 1))))),yy (n:=1) (k:=5) (b:=Zs fu (yT fu n)) rfl (zr (zA (zi _) zp) (zr (wO (Zz (zb 0)) zp (zr (zA (zi _) zp) (zr (zA (zi _) zp) (zr (yc (ya (zm yi (zm zu (zb 2) (zi _)) (zL _))) (zA (yu yO (zc (xC (cap:=[none]) (Zz (zm zu (zb 2) (zi _))) zp (yK (Ve (zb 0) (zi _))) (zb 0)) zk)) zp) zN) (zr (yc (ya (zm yi (zm zu (zb 2) (zi _)) (zL _))) (zA (yu zdE (zc (zw (zc (zm zu (zb 2) (zi _)) zk)) (zc (zw (zc (zm zu (zb 2) (zi _)) zk)) zk))) zp) zN) (zr (yc (ya (zm yi (zm zu (zb 2) (zi _)) (zL _))) (zA (yu ziZ (zc (xC (cap:=[none]) (Zz (zm zu (zb 2) (zi _))) zp xU (zw (zc (zb 0) zk))) zk)) zp) zN) (zr (yc (ya (zm yi (zm zu (zb 2) (zi _)) (zL _))) (zr (zA (zm zu (zb 2) (zi _)) zp) (zA (zw (zc (zm zu (zb 2) (zi _)) zk)) zp)) zN) (wO (xf (zb 3)) zp (zA (yu ziY (zc (zi _) (zc (zm wm (zb 1) (zb 4)) zk))) zp))))))))) (zI (zb 1)))) h⟩)
theorem zbX (T:Tx K mg) (n:Nat):yA P w K mg base (CXE P w) (0+n) T.ah.a T.ah.fd ["_law_block_here"] (sTw K 1 (yT fu n)):=(zaO T n)
noncomputable def WV (fu:Nat):TwS:=(zD (zO (zE (zX fu) [(ze 0),(eC (.int 360))]) (gN 2)) (zD (sIf (bOr (bE (eOp dGt (ze 2) (eC (.int 90)))) (bE (eOp ZT (eFn yX [(ze 1)]) (eC (.int 0))))) (ye (yI [])) zT) (zD (zO (eOp zy (ze 1) (zE (zX fu) [(ze 0),(eFn yX [(ze 1)])])) (gN 3)) (zD (zO (vf [none] (iR1 (eOp zy (ze 3) (eC (.int 1)))) (gN 0) vO (eC (.int 0))) (gN 4)) (zD (zO (eOp xZ (eC (.int 1)) (zE (zX fu) [(ze 0),(eOp zdB (eOp zgb (eC (.int 10)) (eC (.int 9))) (eC (.int 1)))])) (zbu (ze 4) (zE (zX fu) [(ze 0),(eOp zy (ze 3) (eC (.int 1)))]))) (zD (zO (yI [(yI [(eC (.str "draw")),(eOp zy (ze 3) (eC (.int 0))),(eFn Yf [(ze 4)])])]) (gN 5)) (zD (sIf (bE (eOp ZT (eOp YI (ze 2) (eC (.int 2))) (eC (.int 0)))) (ye (yI [(yI [(eC (.str "times")),(eOp Tl (ze 2) (eC (.int 2))),(ze 5)])])) zT) (ye (eOp zcY (ze 5) (ze 2))))))))))
noncomputable def WW (fu:Nat):TwF:=ym 2 4 (WV fu)
theorem zdY (T:Tx K mg):yA P w K mg base (CXE P w) 2 T.bU.a T.bU.fd ["_law_left","_law_boxes_here"] (sTw K 2 (WW fu)):=
 T.bU.F.okE Zk (λvs H Q E h=>h.1) (λaS A outer s H vs Q E hr h=>⟨_,(@zh _ _ _ _ _ (@zB _ _ 2 _ _ _ _ Zk.nd rfl (rK rfl) (zv (yf (fu:=fu) T) (hr.mono ∅) rfl T.ae.m T.ae.F.kp T.ae.b .nil zQ (@za _ _ _ _ _ (pv 0) (@za _ _ _ _ _ zj zg zq) zf)) (by rfl) (by walk_at "q1")) (@zh _ _ _ _ _ (yb (PW.pt (vY (yq (Vb (pv 2) zj)) (vE (yq (xN (zK (yh (K:=K)) rfl T.aT boot_len (@za _ _ _ _ _ (pv 1) zg zf)) zj))))) (@zn _ _ _ (@zH _ _ _ _ (@yk _ _ _ _ _ zg))) zM) (@zh _ _ _ _ _ (@zB _ _ 3 _ _ _ _ Zk.nd rfl (rK rfl) (@zx _ _ _ _ _ _ _ (zo (K:=K)) (pv 1) (zv (yf (fu:=fu) T) (hr.mono ∅) rfl T.ae.m T.ae.F.kp T.ae.b .nil zQ (@za _ _ _ _ _ (pv 0) (@za _ _ _ _ _ (zK (yh (K:=K)) rfl T.aT boot_len (@za _ _ _ _ _ (pv 1) zg zf)) zg yr) zf)) (λ_ _=>rfl)) (by rfl) (by walk_at "q1")) (@zh _ _ _ _ _ (zbg (i:=4) (N':=["_law_k"]) rfl (blk (osc:=zC Xg) rfl (by decide+kernel)) (xB xA) (xc rfl T.bw (@za _ _ _ _ _ (@zx _ _ _ _ _ _ _ (zo (K:=K)) (pv 3) zj (λ_ _=>rfl)) zg zt)) (yQ rfl) (λC s₀ H₀ fp=>yp (i:=0) (show (["_law_k"]:List Str).Nodup from by decide+kernel) rfl (rK rfl)) (λC s₀ H₀ fp=>xS) (λC s₀ H₀ fp=>zj) Zk.nd rfl rfl) (@zh _ _ _ _ _ (zfA (yd xa zj (zv (yf (fu:=fu) T) (hr.mono ∅) rfl T.ae.m T.ae.F.kp T.ae.b .nil zQ (@za _ _ _ _ _ (pv 0) (@za _ _ _ _ _ (yd TU (yd zdh zj zj) zj) zg yx) zf))) (zfz (pv 4) (zv (yf (fu:=fu) T) (hr.mono ∅) rfl T.ae.m T.ae.F.kp T.ae.b .nil zQ (@za _ _ _ _ _ (pv 0) (@za _ _ _ _ _ (@zx _ _ _ _ _ _ _ (zo (K:=K)) (pv 3) zj (λ_ _=>rfl)) zg zt) zf)) zbf)) (@zh _ _ _ _ _ (@zB _ _ 5 _ _ _ _ Zk.nd rfl (rK rfl) (@yk _ _ _ _ _ (@za _ _ _ _ _ (@yk _ _ _ _ _ (@za _ _ _ _ _ zJ (@za _ _ _ _ _ (@zx _ _ _ _ _ _ _ (zo (K:=K)) (pv 3) zj (λ_ _=>rfl)) (@za _ _ _ _ _ (wA (we (K:=K)) rfl T.bu boot_tuple (@za _ _ _ _ _ (pv 4) zg zf)) zg yr) zt) zq)) zg wL)) (by rfl) (by walk_at "q1")) (@zh _ _ _ _ _ (yb (yq (xN (yd vF (pv 2) zj) zj)) (@zn _ _ _ (@zH _ _ _ _ (@yk _ _ _ _ _ (@za _ _ _ _ _ (@yk _ _ _ _ _ (@za _ _ _ _ _ zJ (@za _ _ _ _ _ (yd zaR (pv 2) zj) (@za _ _ _ _ _ (pv 5) zg zf) yx) zq)) zg wL)))) zM) (@zn _ _ _ (@zH _ _ _ _ (yd (zeN (K:=K)) (pv 5) (pv 2))))))))))),yy (n:=2) (k:=4) (b:=WV fu) rfl (zr (zA (zw (zc (zb 0) (zc (zi _) zk))) zp) (zr (yc (Zc (yK (Ve (zb 2) (zi _))) (yK (xP (yu yO (zc (zb 1) zk)) (zi _)))) (zI (yl zk)) zN) (zr (zA (zm zu (zb 1) (zw (zc (zb 0) (zc (yu yO (zc (zb 1) zk)) zk)))) zp) (zr (zbw (xC (cap:=[none]) (xf (zm zu (zb 3) (zi _))) zp xU (zi _))) (zr (zA (zm xb (zi _) (zw (zc (zb 0) (zc (zm zag (zm zdC (zi _) (zi _)) (zi _)) zk)))) (zbv (zb 4) (zw (zc (zb 0) (zc (zm zu (zb 3) (zi _)) zk))))) (zr (zA (yl (zc (yl (zc (zL _) (zc (zm zu (zb 3) (zi _)) (zc (yu ZU (zc (zb 4) zk)) zk)))) zk)) zp) (zr (yc (yK (xP (zm vH (zb 2) (zi _)) (zi _))) (zI (yl (zc (yl (zc (zL _) (zc (zm zaU (zb 2) (zi _)) (zc (zb 5) zk)))) zk))) zN) (zI (zm zg6 (zb 5) (zb 2)))))))))) h⟩)
noncomputable def Yk (fu:Nat):TwS:=(zD (zO (zE (WW fu) [(ze 0),(ze 1)]) (gN 4)) (zD (sWh fu (bE (eOp dGt (eFn yX [(ze 0)]) (eC (.int 0)))) (zD (zO (eOp Zf (ze 4) (yI [(zE (yC fu 10) [(ze 0),(ze 1),(ze 2),(eC (.int 2))])])) (gN 5)) (sIf (zab (bE (eOp dLt (zE (yL fu 6) [(ze 5)]) (eC (.int 101)))) (bE (eOp dLe (zE (yT fu 6) [(ze 5)]) (ze 3)))) (zO (ze 5) (gN 4)) zT))) (ye (ze 4))))
noncomputable def Yl (fu:Nat):TwF:=ym 4 2 (Yk fu)
theorem zaP (T:Tx K mg):yA P w K mg base (CXE P w) 17 T.bj.a T.bj.fd ["_law_left","_law_boxes_here","_law_kinds_here","_law_most"] (sTw K 4 (Yl fu)):=
 T.bj.F.okE vB (λvs H Q E h=>h.1) (λaS A outer s H vs Q E hr h=>⟨_,(@zh _ _ _ _ _ (@zB _ _ 4 _ _ _ _ vB.nd rfl (rK rfl) (zv (zdY (fu:=fu) T) (hr.mono ∅) rfl T.bU.m T.bU.F.kp T.bU.b .nil zQ (@za _ _ _ _ _ (pv 0) (@za _ _ _ _ _ (pv 1) zg zf) zf)) (by rfl) (by walk_at "q1")) (@zh _ _ _ _ _ (XU PassesOwn.leaving (yq (Vb (zK (yh (K:=K)) rfl T.aT boot_len (@za _ _ _ _ _ (pv 0) zg zf)) zj)) (@zh _ _ _ _ _ (@zB _ _ 5 _ _ _ _ vB.nd rfl (rK rfl) (yd (Wr (K:=K)) (pv 4) (@yk _ _ _ _ _ (@za _ _ _ _ _ (zv (zdX (fu:=fu) T 10) (hr.mono ∅) rfl T.aO.m T.aO.F.kp T.aO.b .nil zQ (@za _ _ _ _ _ (pv 0) (@za _ _ _ _ _ (pv 1) (@za _ _ _ _ _ (pv 2) (@za _ _ _ _ _ zj zg zq) zf) zf) zf)) zg yr))) (by rfl) (by walk_at "q1")) (@zn _ _ _ (yb (PW.pt (TR (yq (UW (zv (VY (fu:=fu) T 6) (hr.mono ∅) rfl T.af.m T.af.F.kp T.af.b .nil zQ (@za _ _ _ _ _ (pv 5) zg zf)) zj)) (Ue (yq (zm0 (zv (zbX (fu:=fu) T 6) (hr.mono ∅) rfl T.ah.m T.ah.F.kp T.ah.b .nil zQ (@za _ _ _ _ _ (pv 5) zg zf)) (pv 3)))))) (@zn _ _ _ (@zB _ _ 4 _ _ _ _ vB.nd rfl (rK rfl) (pv 5) (by rfl) (by walk_at "q1"))) zM)))) (@zn _ _ _ (@zH _ _ _ _ (pv 4))))),yy (n:=4) (k:=2) (b:=Yk fu) rfl (zr (zA (zw (zc (zb 0) (zc (zb 1) zk))) zp) (zr (Wa (yK (Ve (yu yO (zc (zb 0) zk)) (zi _))) (zr (zA (zm Wx (zb 4) (yl (zc (zw (zc (zb 0) (zc (zb 1) (zc (zb 2) (zc (zi _) zk))))) zk))) zp) (yc (zac (yK (Tn (zw (zc (zb 5) zk)) (zi _))) (yK (znC (zw (zc (zb 5) zk)) (zb 3)))) (zA (zb 5) zp) zN))) (zI (zb 4)))) h⟩)
noncomputable def XJ (fu:Nat):TwS:=(zD (YH (iR1 (eFn yX [(ze 0)])) (gN 3) (sIf (bE (eOp (yn false) (eOp zy (eOp zy (ze 0) (ze 3)) (eC (.int 0))) (ze 2))) (ye (eOp zy (ze 1) (ze 3))) zT)) (ye (ze 2)))
noncomputable def xz (fu:Nat):TwF:=ym 3 1 (XJ fu)
theorem vw (T:Tx K mg):yA P w K mg base (CXE P w) 1 T.ao.a T.ao.fd ["_law_boxes_here","_law_state_here","_law_operand_here"] (sTw K 3 (xz fu)):=
 T.ao.F.okE Uy (λvs H Q E h=>h.1) (λaS A outer s H vs Q E hr h=>⟨_,(@zh _ _ _ _ _ (wJ PassesOwn.leaving rfl (xc rfl T.bw (@za _ _ _ _ _ (zK (yh (K:=K)) rfl T.aT boot_len (@za _ _ _ _ _ (pv 0) zg zf)) zg yr)) (yp (i:=3) Uy.nd rfl (rK rfl)) (@zn _ _ _ (yb (zZ yw (@zx _ _ _ _ _ _ _ (zo (K:=K)) (@zx _ _ _ _ _ _ _ (zo (K:=K)) (pv 0) (pv 3) (λ_ _=>rfl)) zj (λ_ _=>rfl)) (pv 2) (by rfl)) (@zn _ _ _ (@zH _ _ _ _ (@zx _ _ _ _ _ _ _ (zo (K:=K)) (pv 1) (pv 3) (λ_ _=>rfl)))) zM))) (@zn _ _ _ (@zH _ _ _ _ (pv 2)))),yy (n:=3) (k:=1) (b:=XJ fu) rfl (zr (wO (xf (yu yO (zc (zb 0) zk))) zp (yc (ya (zm yi (zm zu (zm zu (zb 0) (zb 3)) (zi _)) (zb 2))) (zI (zm zu (zb 1) (zb 3))) zN)) (zI (zb 2))) h⟩)
noncomputable def XL (fu:Nat):TwS:=(zD (zO (zE (xz fu) [(ze 0),(ze 1),(eOp zy (ze 2) (eC (.int 0)))]) (gN 3)) (zD (zO (zE (xz fu) [(ze 0),(ze 1),(eOp zy (ze 2) (eC (.int 2)))]) (gN 4)) (zD (sIf (bE (eOp (yn false) (eOp zy (ze 2) (eC (.int 1))) (eC (.str "=")))) (ye (eOp ZT (ze 3) (ze 4))) zT) (zD (sIf (bE (eOp (yn false) (eOp zy (ze 2) (eC (.int 1))) (eC (.str "<")))) (ye (eOp dLt (ze 3) (ze 4))) zT) (ye (eOp Tm (ze 3) (ze 4)))))))
noncomputable def vx (fu:Nat):TwF:=ym 3 2 (XL fu)
theorem Uz (T:Tx K mg):yA P w K mg base (CXE P w) 2 T.aR.a T.aR.fd ["_law_boxes_here","_law_state_here","_law_test_here"] (sTw K 3 (vx fu)):=
 T.aR.F.okE Xz (λvs H Q E h=>h.1) (λaS A outer s H vs Q E hr h=>⟨_,(@zh _ _ _ _ _ (@zB _ _ 3 _ _ _ _ Xz.nd rfl (rK rfl) (zv (vw (fu:=fu) T) (hr.mono ∅) rfl T.ao.m T.ao.F.kp T.ao.b .nil zQ (@za _ _ _ _ _ (pv 0) (@za _ _ _ _ _ (pv 1) (@za _ _ _ _ _ (@zx _ _ _ _ _ _ _ (zo (K:=K)) (pv 2) zj (λ_ _=>rfl)) zg zt) zf) zf)) (by rfl) (by walk_at "q1")) (@zh _ _ _ _ _ (@zB _ _ 4 _ _ _ _ Xz.nd rfl (rK rfl) (zv (vw (fu:=fu) T) (hr.mono ∅) rfl T.ao.m T.ao.F.kp T.ao.b .nil zQ (@za _ _ _ _ _ (pv 0) (@za _ _ _ _ _ (pv 1) (@za _ _ _ _ _ (@zx _ _ _ _ _ _ _ (zo (K:=K)) (pv 2) zj (λ_ _=>rfl)) zg zt) zf) zf)) (by rfl) (by walk_at "q1")) (@zh _ _ _ _ _ (yb (zZ yw (@zx _ _ _ _ _ _ _ (zo (K:=K)) (pv 2) zj (λ_ _=>rfl)) zJ (by rfl)) (@zn _ _ _ (@zH _ _ _ _ (Vi (xN (pv 3) (pv 4))))) zM) (@zh _ _ _ _ _ (yb (zZ yw (@zx _ _ _ _ _ _ _ (zo (K:=K)) (pv 2) zj (λ_ _=>rfl)) zJ (by rfl)) (@zn _ _ _ (@zH _ _ _ _ (Vi (UW (pv 3) (pv 4))))) zM) (@zn _ _ _ (@zH _ _ _ _ (Vi (Vh (pv 3) (pv 4))))))))),yy (n:=3) (k:=2) (b:=XL fu) rfl (zr (zA (zw (zc (zb 0) (zc (zb 1) (zc (zm zu (zb 2) (zi _)) zk)))) zp) (zr (zA (zw (zc (zb 0) (zc (zb 1) (zc (zm zu (zb 2) (zi _)) zk)))) zp) (zr (yc (ya (zm yi (zm zu (zb 2) (zi _)) (zL _))) (zI (xP (zb 3) (zb 4))) zN) (zr (yc (ya (zm yi (zm zu (zb 2) (zi _)) (zL _))) (zI (Tn (zb 3) (zb 4))) zN) (zI (Vr (zb 3) (zb 4))))))) h⟩)
noncomputable def VZ (fu:Nat):TwS:=(zD (zO (eFn zeT [(ze 1)]) (gN 4)) (zD (YH (iR1 (eFn yX [(ze 0)])) (gN 5) (sIf (bE (eOp (yn false) (eOp zy (eOp zy (ze 0) (ze 5)) (eC (.int 0))) (ze 2))) (zO (eOp YI (ze 3) (eOp zy (eOp zy (ze 0) (ze 5)) (eC (.int 1)))) (zbu (ze 4) (ze 5))) zT)) (ye (eFn Yf [(ze 4)]))))
noncomputable def wS (fu:Nat):TwF:=ym 4 2 (VZ fu)
theorem zaE (T:Tx K mg):yA P w K mg base (CXE P w) 1 T.bH.a T.bH.fd ["_law_boxes_here","_law_state_here","_law_name","_law_number"] (sTw K 4 (wS fu)):=
 T.bH.F.okE VL (λvs H Q E h=>h.1) (λaS A outer s H vs Q E hr h=>⟨_,(@zh _ _ _ _ _ (@zB _ _ 4 _ _ _ _ VL.nd rfl (rK rfl) (wA (zfS (K:=K)) rfl T.di boot_list (@za _ _ _ _ _ (pv 1) zg zf)) (by rfl) (by walk_at "q1")) (@zh _ _ _ _ _ (wJ PassesOwn.leaving rfl (xc rfl T.bw (@za _ _ _ _ _ (zK (yh (K:=K)) rfl T.aT boot_len (@za _ _ _ _ _ (pv 0) zg zf)) zg yr)) (yp (i:=5) VL.nd rfl (rK rfl)) (@zn _ _ _ (yb (zZ yw (@zx _ _ _ _ _ _ _ (zo (K:=K)) (@zx _ _ _ _ _ _ _ (zo (K:=K)) (pv 0) (pv 5) (λ_ _=>rfl)) zj (λ_ _=>rfl)) (pv 2) (by rfl)) (@zn _ _ _ (zfA (yd vF (pv 3) (@zx _ _ _ _ _ _ _ (zo (K:=K)) (@zx _ _ _ _ _ _ _ (zo (K:=K)) (pv 0) (pv 5) (λ_ _=>rfl)) zj (λ_ _=>rfl))) (zfz (pv 4) (pv 5) zbf))) zM))) (@zn _ _ _ (@zH _ _ _ _ (wA (we (K:=K)) rfl T.bu boot_tuple (@za _ _ _ _ _ (pv 4) zg zf)))))),yy (n:=4) (k:=2) (b:=VZ fu) rfl (zr (zA (yu zkH (zc (zb 1) zk)) zp) (zr (wO (xf (yu yO (zc (zb 0) zk))) zp (yc (ya (zm yi (zm zu (zm zu (zb 0) (zb 5)) (zi _)) (zb 2))) (zA (zm vH (zb 3) (zm zu (zm zu (zb 0) (zb 5)) (zi _))) (zbv (zb 4) (zb 5))) zN)) (zI (yu ZU (zc (zb 4) zk))))) h⟩)
noncomputable def Xp (fu:Nat):TwS:=(zD (zO (zE (xz fu) [(ze 0),(ze 1),(eOp zy (eOp zy (ze 2) (eC (.int 2))) (eC (.int 0)))]) (gN 3)) (zD (sIf (bE (eOp ZT (eFn yX [(eOp zy (ze 2) (eC (.int 2)))]) (eC (.int 3)))) (zD (zO (zE (xz fu) [(ze 0),(ze 1),(eOp zy (eOp zy (ze 2) (eC (.int 2))) (eC (.int 2)))]) (gN 4)) (zD (sIf (bE (eOp (yn false) (eOp zy (eOp zy (ze 2) (eC (.int 2))) (eC (.int 1))) (eC (.str "+")))) (zO (eOp xZ (ze 3) (ze 4)) (gN 3)) zT) (zD (sIf (bE (eOp (yn false) (eOp zy (eOp zy (ze 2) (eC (.int 2))) (eC (.int 1))) (eC (.str "-")))) (zO (eOp zdB (ze 3) (ze 4)) (gN 3)) zT) (sIf (bE (eOp (yn false) (eOp zy (eOp zy (ze 2) (eC (.int 2))) (eC (.int 1))) (eC (.str "*")))) (zO (eOp wF (ze 3) (ze 4)) (gN 3)) zT)))) zT) (ye (zE (wS fu) [(ze 0),(ze 1),(eOp zy (ze 2) (eC (.int 1))),(ze 3)]))))
noncomputable def Yb (fu:Nat):TwF:=ym 3 2 (Xp fu)
theorem zfa (T:Tx K mg):yA P w K mg base (CXE P w) 2 T.cg.a T.cg.fd ["_law_boxes_here","_law_state_here","_law_deed_here"] (sTw K 3 (Yb fu)):=
 T.cg.F.okE vS (λvs H Q E h=>h.1) (λaS A outer s H vs Q E hr h=>⟨_,(@zh _ _ _ _ _ (@zB _ _ 3 _ _ _ _ vS.nd rfl (rK rfl) (zv (vw (fu:=fu) T) (hr.mono ∅) rfl T.ao.m T.ao.F.kp T.ao.b .nil zQ (@za _ _ _ _ _ (pv 0) (@za _ _ _ _ _ (pv 1) (@za _ _ _ _ _ (@zx _ _ _ _ _ _ _ (zo (K:=K)) (@zx _ _ _ _ _ _ _ (zo (K:=K)) (pv 2) zj (λ_ _=>rfl)) zj (λ_ _=>rfl)) zg zt) zf) zf)) (by rfl) (by walk_at "q1")) (@zh _ _ _ _ _ (yb (yq (xN (zK (yh (K:=K)) rfl T.aT boot_len (@za _ _ _ _ _ (@zx _ _ _ _ _ _ _ (zo (K:=K)) (pv 2) zj (λ_ _=>rfl)) zg zt)) zj)) (@zh _ _ _ _ _ (@zB _ _ 4 _ _ _ _ vS.nd rfl (rK rfl) (zv (vw (fu:=fu) T) (hr.mono ∅) rfl T.ao.m T.ao.F.kp T.ao.b .nil zQ (@za _ _ _ _ _ (pv 0) (@za _ _ _ _ _ (pv 1) (@za _ _ _ _ _ (@zx _ _ _ _ _ _ _ (zo (K:=K)) (@zx _ _ _ _ _ _ _ (zo (K:=K)) (pv 2) zj (λ_ _=>rfl)) zj (λ_ _=>rfl)) zg zt) zf) zf)) (by rfl) (by walk_at "q1")) (@zh _ _ _ _ _ (yb (zZ yw (@zx _ _ _ _ _ _ _ (zo (K:=K)) (@zx _ _ _ _ _ _ _ (zo (K:=K)) (pv 2) zj (λ_ _=>rfl)) zj (λ_ _=>rfl)) zJ (by rfl)) (@zn _ _ _ (@zB _ _ 3 _ _ _ _ vS.nd rfl (rK rfl) (yd xa (pv 3) (pv 4)) (by rfl) (by walk_at "q1"))) zM) (@zh _ _ _ _ _ (yb (zZ yw (@zx _ _ _ _ _ _ _ (zo (K:=K)) (@zx _ _ _ _ _ _ _ (zo (K:=K)) (pv 2) zj (λ_ _=>rfl)) zj (λ_ _=>rfl)) zJ (by rfl)) (@zn _ _ _ (@zB _ _ 3 _ _ _ _ vS.nd rfl (rK rfl) (yd TU (pv 3) (pv 4)) (by rfl) (by walk_at "q1"))) zM) (@zn _ _ _ (yb (zZ yw (@zx _ _ _ _ _ _ _ (zo (K:=K)) (@zx _ _ _ _ _ _ _ (zo (K:=K)) (pv 2) zj (λ_ _=>rfl)) zj (λ_ _=>rfl)) zJ (by rfl)) (@zn _ _ _ (@zB _ _ 3 _ _ _ _ vS.nd rfl (rK rfl) (yd wj (pv 3) (pv 4)) (by rfl) (by walk_at "q1"))) zM))))) zM) (@zn _ _ _ (@zH _ _ _ _ (zv (zaE (fu:=fu) T) (hr.mono ∅) rfl T.bH.m T.bH.F.kp T.bH.b .nil zQ (@za _ _ _ _ _ (pv 0) (@za _ _ _ _ _ (pv 1) (@za _ _ _ _ _ (@zx _ _ _ _ _ _ _ (zo (K:=K)) (pv 2) zj (λ_ _=>rfl)) (@za _ _ _ _ _ (pv 3) zg zf) zt) zf) zf)))))),yy (n:=3) (k:=2) (b:=Xp fu) rfl (zr (zA (zw (zc (zb 0) (zc (zb 1) (zc (zm zu (zm zu (zb 2) (zi _)) (zi _)) zk)))) zp) (zr (yc (yK (xP (yu yO (zc (zm zu (zb 2) (zi _)) zk)) (zi _))) (zr (zA (zw (zc (zb 0) (zc (zb 1) (zc (zm zu (zm zu (zb 2) (zi _)) (zi _)) zk)))) zp) (zr (yc (ya (zm yi (zm zu (zm zu (zb 2) (zi _)) (zi _)) (zL _))) (zA (zm xb (zb 3) (zb 4)) zp) zN) (zr (yc (ya (zm yi (zm zu (zm zu (zb 2) (zi _)) (zi _)) (zL _))) (zA (zm zag (zb 3) (zb 4)) zp) zN) (yc (ya (zm yi (zm zu (zm zu (zb 2) (zi _)) (zi _)) (zL _))) (zA (zm wm (zb 3) (zb 4)) zp) zN)))) zN) (zI (zw (zc (zb 0) (zc (zb 1) (zc (zm zu (zb 2) (zi _)) (zc (zb 3) zk)))))))) h⟩)
noncomputable def Ua (fu:Nat):TwS:=(zD (zO (eFn zhK [(ze 0)]) (gN 2)) (zD (zO (ze 1) (gN 3)) (zD (sWh fu (bE (eOp dGt (ze 3) (eC (.int 0)))) (zD (zO (eOp YI (ze 2) (ze 3)) (gN 4)) (zD (zO (ze 3) (gN 2)) (zO (ze 4) (gN 3))))) (ye (yI [(eOp Ww (ze 0) (ze 2)),(eOp Ww (ze 1) (ze 2))])))))
noncomputable def xL (fu:Nat):TwF:=ym 2 3 (Ua fu)
theorem Xq (T:Tx K mg):yA P w K mg base (CXE P w) 1 T.aC.a T.aC.fd ["_law_top","_law_bottom"] (sTw K 2 (xL fu)):=
 T.aC.F.okE vT (λvs H Q E h=>h.1) (λaS A outer s H vs Q E hr h=>⟨_,(@zh _ _ _ _ _ (@zB _ _ 2 _ _ _ _ vT.nd rfl (rK rfl) (zK za7 rfl T.fH boot_abs (@za _ _ _ _ _ (pv 0) zg zf)) (by rfl) (by walk_at "q1")) (@zh _ _ _ _ _ (@zB _ _ 3 _ _ _ _ vT.nd rfl (rK rfl) (pv 1) (by rfl) (by walk_at "q1")) (@zh _ _ _ _ _ (XU PassesOwn.leaving (yq (Vb (pv 3) zj)) (@zh _ _ _ _ _ (@zB _ _ 4 _ _ _ _ vT.nd rfl (rK rfl) (yd vF (pv 2) (pv 3)) (by rfl) (by walk_at "q1")) (@zh _ _ _ _ _ (@zB _ _ 2 _ _ _ _ vT.nd rfl (rK rfl) (pv 3) (by rfl) (by walk_at "q1")) (@zn _ _ _ (@zB _ _ 3 _ _ _ _ vT.nd rfl (rK rfl) (pv 4) (by rfl) (by walk_at "q1")))))) (@zn _ _ _ (@zH _ _ _ _ (@yk _ _ _ _ _ (@za _ _ _ _ _ (yd XX (pv 0) (pv 2)) (@za _ _ _ _ _ (yd XX (pv 1) (pv 2)) zg yx) yx))))))),yy (n:=2) (k:=3) (b:=Ua fu) rfl (zr (zA (yu zge (zc (zb 0) zk)) zp) (zr (zA (zb 1) zp) (zr (Wa (yK (Ve (zb 3) (zi _))) (zr (zA (zm vH (zb 2) (zb 3)) zp) (zr (zA (zb 3) zp) (zA (zb 4) zp)))) (zI (yl (zc (zm Wb (zb 0) (zb 2)) (zc (zm Wb (zb 1) (zb 2)) zk))))))) h⟩)
noncomputable def XM (fu:Nat):TwS:=(ye (zco (eUn (Zv "int") (ze 0)) (eB (wM (bE (eUn (Zv "bool") (ze 0)))))))
noncomputable def xQ (fu:Nat):TwF:=ym 1 0 (XM fu)
theorem ZP (T:Tx K mg):yA P w K mg base (CXE P w) 1 T.aq.a T.aq.fd ["_law_found"] (sTw K 1 (xQ fu)):=
 T.aq.F.okE zcu (λvs H Q E h=>h.1) (λaS A outer s H vs Q E hr h=>⟨_,(@zn _ _ _ (@zH _ _ _ _ (Vj (zK (yJ (K:=K)) rfl T.aj boot_isinstance (za (pv 0) (za (xk (v:= .ty "int") rfl T.fc boot_int rfl) zg))) (za4 (zdf (zK (yJ (K:=K)) rfl T.aj boot_isinstance (za (pv 0) (za (xk (v:= .ty "bool") rfl T.eT boot_bool rfl) zg)))))))),yy (n:=1) (k:=0) (b:=XM fu) rfl (zI (Vp (wa zdI (zb 0)) (zdw (wa zbD (zb 0))))) h⟩)
noncomputable def wq (fu:Nat) (dU:TwF):TwS:=(zD (sIf (bE (eUn (Zv "tuple") (ze 1))) (zD (sIf (bOr (wM (bE (eUn (Zv "tuple") (ze 0)))) (bE (eOp Tm (eFn yX [(ze 0)]) (eFn yX [(ze 1)])))) (ye (eC (.bl false))) zT) (ye (eFn zdF [(vf [none,some 0,some 1] (iR1 (eFn yX [(ze 1)])) (gN 0) vO (zE dU [(eOp zeP (ze 1) (ze 0)),(eOp zeP (ze 2) (ze 0))]))]))) zT) (zD (sIf (bE (eUn (Zv "list") (ze 1))) (zD (sIf (bOr (wM (bE (eUn (Zv "list") (ze 0)))) (bE (eOp Tm (eFn yX [(ze 0)]) (eFn yX [(ze 1)])))) (ye (eC (.bl false))) zT) (ye (eFn zdF [(vf [none,some 0,some 1] (iR1 (eFn yX [(ze 1)])) (gN 0) vO (zE dU [(eOp zeP (ze 1) (ze 0)),(eOp zeP (ze 2) (ze 0))]))]))) zT) (zD (sIf (bE (eUn zhF (ze 1))) (ye (eUn zhF (ze 0))) zT) (zD (sIf (bE (eUn (Zv "str") (ze 1))) (ye (zco (eUn (Zv "str") (ze 0)) (eOp (yn false) (ze 0) (ze 1)))) zT) (ye (zco (eUn (Zv "int") (ze 0)) (zco (eB (wM (bE (eUn (Zv "bool") (ze 0))))) (eOp (yn false) (ze 0) (ze 1)))))))))
noncomputable def xu (fu:Nat):Nat->TwF
 |0=>λ_ _=>none
 |n+1=>ym 2 0 (wq fu (xu fu n))
theorem xM (fu n:Nat):xu fu (n+1)=ym 2 0 (wq fu (xu fu n)):=by rfl
theorem TC (fu:Nat):xu fu 0=λ_ _=>none:=by rfl
theorem zcA (T:Tx K mg):∀n:Nat,yA P w K mg base (CXE P w) (0+n) T.ay.a T.ay.fd ["_law_found","_law_due"] (sTw K 2 (xu fu n)):=by
 intro n
 induction n with
 |zero=>
  skip
  ·rw[TC]
   exact ZK
 |succ n ih=>
  ·rw[xM]
   exact T.ay.F.okE zdS (λvs H Q E h=>h.1) (λaS A outer s H vs Q E hr h=>⟨_,(@zh _ _ _ _ _ (yb (xr (zK (yJ (K:=K)) rfl T.aj boot_isinstance (za (pv 1) (za (xk (v:= .ty "tuple") rfl T.bu boot_tuple rfl) zg)))) (@zh _ _ _ _ _ (yb (PW.pt (vY (wg (xr (zK (yJ (K:=K)) rfl T.aj boot_isinstance (za (pv 0) (za (xk (v:= .ty "tuple") rfl T.bu boot_tuple rfl) zg))))) (vE (yq (Vh (zK (yh (K:=K)) rfl T.aT boot_len (@za _ _ _ _ _ (pv 0) zg zf)) (zK (yh (K:=K)) rfl T.aT boot_len (@za _ _ _ _ _ (pv 1) zg zf))))))) (@zn _ _ _ (@zH _ _ _ _ Va)) zM) (@zn _ _ _ (@zH _ _ _ _ (zK (TZ (K:=K) rfl) rfl T.fG PyProof.Rows.Boot.«all» (za (xT (N':=["_law_k","_law_found","_law_due"]) rfl (blk (osc:=zC ZY) rfl (by decide+kernel)) (xB (yY (i:=0) rfl rfl (yY (i:=1) rfl rfl xA))) (xc rfl T.bw (@za _ _ _ _ _ (zK (yh (K:=K)) rfl T.aT boot_len (@za _ _ _ _ _ (pv 1) zg zf)) zg yr)) (yQ rfl) (λC s₀ H₀ fp=>yp (i:=0) (show (["_law_k","_law_found","_law_due"]:List Str).Nodup from by decide+kernel) rfl (rK rfl)) (λC s₀ H₀ fp=>xS) (λC s₀ H₀ fp=>(zv ih (hr.mono (by (try simp only[sk]);omega)) rfl T.ay.m T.ay.F.kp T.ay.b .nil Uv (@za _ _ _ _ _ (@zx _ _ _ _ _ _ _ (zaZ (K:=K)) (pv 1) (pv 0) (λ_ _=>rfl)) (@za _ _ _ _ _ (@zx _ _ _ _ _ _ _ (zaZ (K:=K)) (pv 2) (pv 0) (λ_ _=>rfl)) zg zt) zt)))) zg))))) zM) (@zh _ _ _ _ _ (yb (xr (zK (yJ (K:=K)) rfl T.aj boot_isinstance (za (pv 1) (za (xk (v:= .ty "list") rfl T.di boot_list rfl) zg)))) (@zh _ _ _ _ _ (yb (PW.pt (vY (wg (xr (zK (yJ (K:=K)) rfl T.aj boot_isinstance (za (pv 0) (za (xk (v:= .ty "list") rfl T.di boot_list rfl) zg))))) (vE (yq (Vh (zK (yh (K:=K)) rfl T.aT boot_len (@za _ _ _ _ _ (pv 0) zg zf)) (zK (yh (K:=K)) rfl T.aT boot_len (@za _ _ _ _ _ (pv 1) zg zf))))))) (@zn _ _ _ (@zH _ _ _ _ Va)) zM) (@zn _ _ _ (@zH _ _ _ _ (zK (TZ (K:=K) rfl) rfl T.fG PyProof.Rows.Boot.«all» (za (xT (N':=["_law_k","_law_found","_law_due"]) rfl (blk (osc:=zC ZY) rfl (by decide+kernel)) (xB (yY (i:=0) rfl rfl (yY (i:=1) rfl rfl xA))) (xc rfl T.bw (@za _ _ _ _ _ (zK (yh (K:=K)) rfl T.aT boot_len (@za _ _ _ _ _ (pv 1) zg zf)) zg yr)) (yQ rfl) (λC s₀ H₀ fp=>yp (i:=0) (show (["_law_k","_law_found","_law_due"]:List Str).Nodup from by decide+kernel) rfl (rK rfl)) (λC s₀ H₀ fp=>xS) (λC s₀ H₀ fp=>(zv ih (hr.mono (by (try simp only[sk]);omega)) rfl T.ay.m T.ay.F.kp T.ay.b .nil Uv (@za _ _ _ _ _ (@zx _ _ _ _ _ _ _ (zaZ (K:=K)) (pv 1) (pv 0) (λ_ _=>rfl)) (@za _ _ _ _ _ (@zx _ _ _ _ _ _ _ (zaZ (K:=K)) (pv 2) (pv 0) (λ_ _=>rfl)) zg zt) zt)))) zg))))) zM) (@zh _ _ _ _ _ (yb (yq (zh2 (pv 1))) (@zn _ _ _ (@zH _ _ _ _ (Vi (zh2 (pv 0))))) zM) (@zh _ _ _ _ _ (yb (xr (zK (yJ (K:=K)) rfl T.aj boot_isinstance (za (pv 1) (za (xk (v:= .ty "str") rfl T.fF boot_str rfl) zg)))) (@zn _ _ _ (@zH _ _ _ _ (Vj (zK (yJ (K:=K)) rfl T.aj boot_isinstance (za (pv 0) (za (xk (v:= .ty "str") rfl T.fF boot_str rfl) zg))) (za4 (UX yw (pv 0) (pv 1) (by rfl)))))) zM) (@zn _ _ _ (@zH _ _ _ _ (Vj (zK (yJ (K:=K)) rfl T.aj boot_isinstance (za (pv 0) (za (xk (v:= .ty "int") rfl T.fc boot_int rfl) zg))) (Vj (zdf (zK (yJ (K:=K)) rfl T.aj boot_isinstance (za (pv 0) (za (xk (v:= .ty "bool") rfl T.eT boot_bool rfl) zg)))) (za4 (UX yw (pv 0) (pv 1) (by rfl))))))))))),yy (n:=2) (k:=0) (b:=wq fu (xu fu n)) rfl (zr (yc (yK (wa vP (zb 1))) (zr (yc (Zc (wk (yK (wa vP (zb 0)))) (yK (Vr (yu yO (zc (zb 0) zk)) (yu yO (zc (zb 1) zk))))) (zI (Vc _)) zN) (zI (yu zgf (zc (xC (cap:=[none,some 0,some 1]) (xf (yu yO (zc (zb 1) zk))) zp xU (zw (zc (zm zdx (zb 1) (zb 0)) (zc (zm zdx (zb 2) (zb 0)) zk)))) zk)))) zN) (zr (yc (yK (wa Vs (zb 1))) (zr (yc (Zc (wk (yK (wa Vs (zb 0)))) (yK (Vr (yu yO (zc (zb 0) zk)) (yu yO (zc (zb 1) zk))))) (zI (Vc _)) zN) (zI (yu zgf (zc (xC (cap:=[none,some 0,some 1]) (xf (yu yO (zc (zb 1) zk))) zp xU (zw (zc (zm zdx (zb 1) (zb 0)) (zc (zm zdx (zb 2) (zb 0)) zk)))) zk)))) zN) (zr (yc (yK (ziQ (zb 1))) (zI (ziQ (zb 0))) zN) (zr (yc (yK (wa zdJ (zb 1))) (zI (Vp (wa zdJ (zb 0)) (zm yi (zb 0) (zb 1)))) zN) (zI (Vp (wa zdI (zb 0)) (Vp (zdw (wa zbD (zb 0))) (zm yi (zb 0) (zb 1))))))))) h⟩)
theorem zdZ (T:Tx K mg) (n:Nat):yA P w K mg base (CXE P w) (0+n) T.ay.a T.ay.fd ["_law_found","_law_due"] (sTw K 2 (xu fu n)):=(zcA T n)
noncomputable def Zt (fu:Nat):TwS:=(zD (sIf (bE (eOp (yn false) (eOp zy (ze 0) (eC (.int 0))) (eC (.str "draw")))) (ye (vf [none,some 0] (iR1 (eFn yX [(eOp zy (ze 0) (eC (.int 2)))])) (gN 0) (bE (eOp dGt (eOp zy (eOp zy (ze 1) (eC (.int 2))) (ze 0)) (eC (.int 0)))) (ze 0))) zT) (ye (zgl (eFn yX [(eOp zy (ze 0) (eC (.int 1)))]))))
noncomputable def wT (fu:Nat):TwF:=ym 1 0 (Zt fu)
theorem zbY (T:Tx K mg):yA P w K mg base (CXE P w) 1 T.bI.a T.bI.fd ["_law_deed_here"] (sTw K 1 (wT fu)):=
 T.bI.F.okE zbO (λvs H Q E h=>h.1) (λaS A outer s H vs Q E hr h=>⟨_,(@zh _ _ _ _ _ (yb (zZ yw (@zx _ _ _ _ _ _ _ (zo (K:=K)) (pv 0) zj (λ_ _=>rfl)) zJ (by rfl)) (@zn _ _ _ (@zH _ _ _ _ (xT (N':=["_law_k","_law_deed_here"]) rfl (blk (osc:=zC ZM) rfl (by decide+kernel)) (xB (yY (i:=0) rfl rfl xA)) (xc rfl T.bw (@za _ _ _ _ _ (zK (yh (K:=K)) rfl T.aT boot_len (@za _ _ _ _ _ (@zx _ _ _ _ _ _ _ (zo (K:=K)) (pv 0) zj (λ_ _=>rfl)) zg zt)) zg yr)) (yQ rfl) (λC s₀ H₀ fp=>yp (i:=0) (show (["_law_k","_law_deed_here"]:List Str).Nodup from by decide+kernel) rfl (rK rfl)) (λC s₀ H₀ fp=>zgQ (yq (Vb (@zx _ _ _ _ _ _ _ (zo (K:=K)) (@zx _ _ _ _ _ _ _ (zo (K:=K)) (pv 1) zj (λ_ _=>rfl)) (pv 0) (λ_ _=>rfl)) zj))) (λC s₀ H₀ fp=>(pv 0))))) zM) (@zn _ _ _ (@zH _ _ _ _ (zjf rfl rfl T.di rfl T.bw (zK (yh (K:=K)) rfl T.aT boot_len (@za _ _ _ _ _ (@zx _ _ _ _ _ _ _ (zo (K:=K)) (pv 0) zj (λ_ _=>rfl)) zg zt)))))),yy (n:=1) (k:=0) (b:=Zt fu) rfl (zr (yc (ya (zm yi (zm zu (zb 0) (zi _)) (zL _))) (zI (xC (cap:=[none,some 0]) (xf (yu yO (zc (zm zu (zb 0) (zi _)) zk))) zp (yK (Ve (zm zu (zm zu (zb 1) (zi _)) (zb 0)) (zi _))) (zb 0))) zN) (zI (zjn (yu yO (zc (zm zu (zb 0) (zi _)) zk))))) h⟩)
noncomputable def wU (fu:Nat):TwS:=(zD (sIf (bE (eOp (yn false) (eOp zy (ze 1) (eC (.int 0))) (eC (.str "times")))) (ye (eOp zcY (eOp zy (ze 1) (eC (.int 2))) (eOp zy (ze 1) (eC (.int 1))))) zT) (zD (sIf (bE (eOp (yn false) (eOp zy (ze 1) (eC (.int 0))) (eC (.str "if")))) (zD (sIf (bE (zE (vx fu) [(ze 0),(ze 2),(eOp zy (ze 1) (eC (.int 1)))])) (ye (eOp zy (ze 1) (eC (.int 2)))) zT) (ye (eOp zy (ze 1) (eC (.int 3))))) zT) (ye (yI []))))
noncomputable def wd (fu:Nat):TwF:=ym 3 0 (wU fu)
theorem zbZ (T:Tx K mg):yA P w K mg base (CXE P w) 3 T.bF.a T.bF.fd ["_law_boxes_here","_law_deed_here","_law_state_here"] (sTw K 3 (wd fu)):=
 T.bF.F.okE zbP (λvs H Q E h=>h.1) (λaS A outer s H vs Q E hr h=>⟨_,(@zh _ _ _ _ _ (yb (zZ yw (@zx _ _ _ _ _ _ _ (zo (K:=K)) (pv 1) zj (λ_ _=>rfl)) zJ (by rfl)) (@zn _ _ _ (@zH _ _ _ _ (yd (zeN (K:=K)) (@zx _ _ _ _ _ _ _ (zo (K:=K)) (pv 1) zj (λ_ _=>rfl)) (@zx _ _ _ _ _ _ _ (zo (K:=K)) (pv 1) zj (λ_ _=>rfl))))) zM) (@zh _ _ _ _ _ (yb (zZ yw (@zx _ _ _ _ _ _ _ (zo (K:=K)) (pv 1) zj (λ_ _=>rfl)) zJ (by rfl)) (@zh _ _ _ _ _ (yb (xr (zv (Uz (fu:=fu) T) (hr.mono ∅) rfl T.aR.m T.aR.F.kp T.aR.b .nil zQ (@za _ _ _ _ _ (pv 0) (@za _ _ _ _ _ (pv 2) (@za _ _ _ _ _ (@zx _ _ _ _ _ _ _ (zo (K:=K)) (pv 1) zj (λ_ _=>rfl)) zg zt) zf) zf))) (@zn _ _ _ (@zH _ _ _ _ (@zx _ _ _ _ _ _ _ (zo (K:=K)) (pv 1) zj (λ_ _=>rfl)))) zM) (@zn _ _ _ (@zH _ _ _ _ (@zx _ _ _ _ _ _ _ (zo (K:=K)) (pv 1) zj (λ_ _=>rfl))))) zM) (@zn _ _ _ (@zH _ _ _ _ (@yk _ _ _ _ _ zg))))),yy (n:=3) (k:=0) (b:=wU fu) rfl (zr (yc (ya (zm yi (zm zu (zb 1) (zi _)) (zL _))) (zI (zm zg6 (zm zu (zb 1) (zi _)) (zm zu (zb 1) (zi _)))) zN) (zr (yc (ya (zm yi (zm zu (zb 1) (zi _)) (zL _))) (zr (yc (yK (zw (zc (zb 0) (zc (zb 2) (zc (zm zu (zb 1) (zi _)) zk))))) (zI (zm zu (zb 1) (zi _))) zN) (zI (zm zu (zb 1) (zi _)))) zN) (zI (yl zk)))) h⟩)
noncomputable def WX (fu:Nat):TwS:=(zD (zO (eC (.int 0)) (gN 4)) (zD (zO (yI [(eC (.int 1)),(eC (.int 1))]) (gN 5)) (zD (zO (yI [(eC (.int 1)),(eC (.int 1))]) (gN 6)) (zD (zO (eC (.int 0)) (gN 7)) (zD (sWh fu (bE (eOp dGt (eFn yX [(ze 1)]) (eC (.int 0)))) (zD (zO (eOp zy (ze 1) (eC (.int 0))) (gN 8)) (zD (zO (eSl zaJ (ze 1) (Yn (eC (.int 1))) oNo) (gN 1)) (sIf (bOr (bE (eOp (yn false) (eOp zy (ze 8) (eC (.int 0))) (eC (.str "draw")))) (bE (eOp (yn false) (eOp zy (ze 8) (eC (.int 0))) (eC (.str "hand"))))) (zD (zO (zE (wT fu) [(ze 8)]) (gN 9)) (zD (sIf (bOr (bE (eOp ZT (ze 7) (eFn yX [(ze 3)]))) (bOr (bE (eOp dLt (eOp zy (ze 3) (ze 7)) (eC (.int 0)))) (bE (eOp dGe (eOp zy (ze 3) (ze 7)) (eFn yX [(ze 9)]))))) (ye (yI [])) zT) (zD (zO (eOp zaI (ze 9) (eOp zy (ze 3) (ze 7))) (gN 10)) (zD (zO (eOp xZ (ze 7) (eC (.int 1))) (gN 7)) (sIf (bE (eOp (yn false) (eOp zy (ze 8) (eC (.int 0))) (eC (.str "draw")))) (zD (zO (eFn zbz [(eOp zy (ze 8) (eC (.int 2)))]) (gN 11)) (zD (zO (zE (xL fu) [(eOp wF (eOp zy (ze 5) (eC (.int 0))) (eOp zy (eOp zy (ze 8) (eC (.int 2))) (ze 10))),(eOp wF (eOp zy (ze 5) (eC (.int 1))) (ze 11))]) (gN 5)) (zD (zO (zE (xL fu) [(eOp wF (eOp zy (ze 6) (eC (.int 0))) (eOp zy (eOp zy (ze 8) (eC (.int 2))) (ze 10))),(eOp wF (eOp zy (ze 6) (eC (.int 1))) (ze 11))]) (gN 6)) (zO (zE (wS fu) [(ze 0),(ze 2),(eOp zy (ze 8) (eC (.int 1))),(ze 10)]) (gN 2))))) (zD (zO (zE (xL fu) [(eOp zy (ze 6) (eC (.int 0))),(eOp wF (eOp zy (ze 6) (eC (.int 1))) (eFn yX [(ze 9)]))]) (gN 6)) (zO (eOp Zf (eOp zy (eOp zy (ze 8) (eC (.int 1))) (ze 10)) (ze 1)) (gN 1)))))))) (sIf (zab (bE (eOp (yn false) (eOp zy (ze 8) (eC (.int 0))) (eC (.str "look")))) (wM (bE (zE (vx fu) [(ze 0),(ze 2),(eOp zy (ze 8) (eC (.int 1)))])))) (zD (zO (eC .non) (gN 2)) (zO (yI []) (gN 1))) (sIf (bE (eOp (yn false) (eOp zy (ze 8) (eC (.int 0))) (eC (.str "gain")))) (zO (eOp xZ (ze 4) (zE (xz fu) [(ze 0),(ze 2),(eOp zy (ze 8) (eC (.int 1)))])) (gN 4)) (sIf (bE (eOp (yn false) (eOp zy (ze 8) (eC (.int 0))) (eC (.str "set")))) (zO (zE (Yb fu) [(ze 0),(ze 2),(ze 8)]) (gN 2)) (zO (eOp Zf (zE (wd fu) [(ze 0),(ze 8),(ze 2)]) (ze 1)) (gN 1))))))))) (zD (sIf (bE (eOp dLt (ze 7) (eFn yX [(ze 3)]))) (ye (yI [])) zT) (ye (yI [(ze 5),(ze 2),(ze 4),(ze 6)]))))))))
noncomputable def WY (fu:Nat):TwF:=ym 4 8 (WX fu)
theorem zd0 (T:Tx K mg):yA P w K mg base (CXE P w) 4 T.bV.a T.bV.fd ["_law_boxes_here","_law_block_here","_law_state_here","_law_marks_here"] (sTw K 4 (WY fu)):=
 T.bV.F.okE yj (λvs H Q E h=>h.1) (λaS A outer s H vs Q E hr h=>⟨_,(@zh _ _ _ _ _ (@zB _ _ 4 _ _ _ _ yj.nd rfl (rK rfl) zj (by rfl) (by walk_at "q1")) (@zh _ _ _ _ _ (@zB _ _ 5 _ _ _ _ yj.nd rfl (rK rfl) (@yk _ _ _ _ _ (@za _ _ _ _ _ zj (@za _ _ _ _ _ zj zg zq) zq)) (by rfl) (by walk_at "q1")) (@zh _ _ _ _ _ (@zB _ _ 6 _ _ _ _ yj.nd rfl (rK rfl) (@yk _ _ _ _ _ (@za _ _ _ _ _ zj (@za _ _ _ _ _ zj zg zq) zq)) (by rfl) (by walk_at "q1")) (@zh _ _ _ _ _ (@zB _ _ 7 _ _ _ _ yj.nd rfl (rK rfl) zj (by rfl) (by walk_at "q1")) (@zh _ _ _ _ _ (XU PassesOwn.leaving (yq (Vb (zK (yh (K:=K)) rfl T.aT boot_len (@za _ _ _ _ _ (pv 1) zg zf)) zj)) (@zh _ _ _ _ _ (@zB _ _ 8 _ _ _ _ yj.nd rfl (rK rfl) (@zx _ _ _ _ _ _ _ (zo (K:=K)) (pv 1) zj (λ_ _=>rfl)) (by rfl) (by walk_at "q1")) (@zh _ _ _ _ _ (@zB _ _ 1 _ _ _ _ yj.nd rfl (rK rfl) (Za (Tg (K:=K)) (pv 1) (ZH zj) YZ) (by rfl) (by walk_at "q1")) (@zn _ _ _ (yb (PW.pt (vY (zZ yw (@zx _ _ _ _ _ _ _ (zo (K:=K)) (pv 8) zj (λ_ _=>rfl)) zJ (by rfl)) (vE (zZ yw (@zx _ _ _ _ _ _ _ (zo (K:=K)) (pv 8) zj (λ_ _=>rfl)) zJ (by rfl))))) (@zh _ _ _ _ _ (@zB _ _ 9 _ _ _ _ yj.nd rfl (rK rfl) (zv (zbY (fu:=fu) T) (hr.mono ∅) rfl T.bI.m T.bI.F.kp T.bI.b .nil zQ (@za _ _ _ _ _ (pv 8) zg zf)) (by rfl) (by walk_at "q1")) (@zh _ _ _ _ _ (yb (PW.pt (vY (yq (xN (pv 7) (zK (yh (K:=K)) rfl T.aT boot_len (@za _ _ _ _ _ (pv 3) zg zf)))) (vY (yq (UW (@zx _ _ _ _ _ _ _ (zo (K:=K)) (pv 3) (pv 7) (λ_ _=>rfl)) zj)) (vE (yq (zm1 (@zx _ _ _ _ _ _ _ (zo (K:=K)) (pv 3) (pv 7) (λ_ _=>rfl)) (zK (yh (K:=K)) rfl T.aT boot_len (@za _ _ _ _ _ (pv 9) zg zf)))))))) (@zn _ _ _ (@zH _ _ _ _ (@yk _ _ _ _ _ zg))) zM) (@zh _ _ _ _ _ (@zB _ _ 10 _ _ _ _ yj.nd rfl (rK rfl) (@zx _ _ _ _ _ _ _ (XY (K:=K)) (pv 9) (@zx _ _ _ _ _ _ _ (zo (K:=K)) (pv 3) (pv 7) (λ_ _=>rfl)) (λ_ _=>rfl)) (by rfl) (by walk_at "q1")) (@zh _ _ _ _ _ (@zB _ _ 7 _ _ _ _ yj.nd rfl (rK rfl) (yd xa (pv 7) zj) (by rfl) (by walk_at "q1")) (@zn _ _ _ (yb (zZ yw (@zx _ _ _ _ _ _ _ (zo (K:=K)) (pv 8) zj (λ_ _=>rfl)) zJ (by rfl)) (@zh _ _ _ _ _ (@zB _ _ 11 _ _ _ _ yj.nd rfl (rK rfl) (zK (zbo (K:=K) rfl) rfl T.f7 PyProof.Rows.Boot.«sum» (@za _ _ _ _ _ (@zx _ _ _ _ _ _ _ (zo (K:=K)) (pv 8) zj (λ_ _=>rfl)) zg zt)) (by rfl) (by walk_at "q1")) (@zh _ _ _ _ _ (@zB _ _ 5 _ _ _ _ yj.nd rfl (rK rfl) (zv (Xq (fu:=fu) T) (hr.mono ∅) rfl T.aC.m T.aC.F.kp T.aC.b .nil zQ (@za _ _ _ _ _ (yd wj (@zx _ _ _ _ _ _ _ (zo (K:=K)) (pv 5) zj (λ_ _=>rfl)) (@zx _ _ _ _ _ _ _ (zo (K:=K)) (@zx _ _ _ _ _ _ _ (zo (K:=K)) (pv 8) zj (λ_ _=>rfl)) (pv 10) (λ_ _=>rfl))) (@za _ _ _ _ _ (yd wj (@zx _ _ _ _ _ _ _ (zo (K:=K)) (pv 5) zj (λ_ _=>rfl)) (pv 11)) zg yx) yx)) (by rfl) (by walk_at "q1")) (@zh _ _ _ _ _ (@zB _ _ 6 _ _ _ _ yj.nd rfl (rK rfl) (zv (Xq (fu:=fu) T) (hr.mono ∅) rfl T.aC.m T.aC.F.kp T.aC.b .nil zQ (@za _ _ _ _ _ (yd wj (@zx _ _ _ _ _ _ _ (zo (K:=K)) (pv 6) zj (λ_ _=>rfl)) (@zx _ _ _ _ _ _ _ (zo (K:=K)) (@zx _ _ _ _ _ _ _ (zo (K:=K)) (pv 8) zj (λ_ _=>rfl)) (pv 10) (λ_ _=>rfl))) (@za _ _ _ _ _ (yd wj (@zx _ _ _ _ _ _ _ (zo (K:=K)) (pv 6) zj (λ_ _=>rfl)) (pv 11)) zg yx) yx)) (by rfl) (by walk_at "q1")) (@zn _ _ _ (@zB _ _ 2 _ _ _ _ yj.nd rfl (rK rfl) (zv (zaE (fu:=fu) T) (hr.mono ∅) rfl T.bH.m T.bH.F.kp T.bH.b .nil zQ (@za _ _ _ _ _ (pv 0) (@za _ _ _ _ _ (pv 2) (@za _ _ _ _ _ (@zx _ _ _ _ _ _ _ (zo (K:=K)) (pv 8) zj (λ_ _=>rfl)) (@za _ _ _ _ _ (pv 10) zg zf) zt) zf) zf)) (by rfl) (by walk_at "q1")))))) (@zh _ _ _ _ _ (@zB _ _ 6 _ _ _ _ yj.nd rfl (rK rfl) (zv (Xq (fu:=fu) T) (hr.mono ∅) rfl T.aC.m T.aC.F.kp T.aC.b .nil zQ (@za _ _ _ _ _ (@zx _ _ _ _ _ _ _ (zo (K:=K)) (pv 6) zj (λ_ _=>rfl)) (@za _ _ _ _ _ (yd wj (@zx _ _ _ _ _ _ _ (zo (K:=K)) (pv 6) zj (λ_ _=>rfl)) (zK (yh (K:=K)) rfl T.aT boot_len (@za _ _ _ _ _ (pv 9) zg zf))) zg yx) zt)) (by rfl) (by walk_at "q1")) (@zn _ _ _ (@zB _ _ 1 _ _ _ _ yj.nd rfl (rK rfl) (yd (Wr (K:=K)) (@zx _ _ _ _ _ _ _ (zo (K:=K)) (@zx _ _ _ _ _ _ _ (zo (K:=K)) (pv 8) zj (λ_ _=>rfl)) (pv 10) (λ_ _=>rfl)) (pv 1)) (by rfl) (by walk_at "q1")))))))))) (@zn _ _ _ (yb (PW.pt (TR (zZ yw (@zx _ _ _ _ _ _ _ (zo (K:=K)) (pv 8) zj (λ_ _=>rfl)) zJ (by rfl)) (Ue (wg (xr (zv (Uz (fu:=fu) T) (hr.mono ∅) rfl T.aR.m T.aR.F.kp T.aR.b .nil zQ (@za _ _ _ _ _ (pv 0) (@za _ _ _ _ _ (pv 2) (@za _ _ _ _ _ (@zx _ _ _ _ _ _ _ (zo (K:=K)) (pv 8) zj (λ_ _=>rfl)) zg zt) zf) zf))))))) (@zh _ _ _ _ _ (@zB _ _ 2 _ _ _ _ yj.nd rfl (rK rfl) zfy (by rfl) (by walk_at "q1")) (@zn _ _ _ (@zB _ _ 1 _ _ _ _ yj.nd rfl (rK rfl) (@yk _ _ _ _ _ zg) (by rfl) (by walk_at "q1")))) (@zn _ _ _ (yb (zZ yw (@zx _ _ _ _ _ _ _ (zo (K:=K)) (pv 8) zj (λ_ _=>rfl)) zJ (by rfl)) (@zn _ _ _ (@zB _ _ 4 _ _ _ _ yj.nd rfl (rK rfl) (yd xa (pv 4) (zv (vw (fu:=fu) T) (hr.mono ∅) rfl T.ao.m T.ao.F.kp T.ao.b .nil zQ (@za _ _ _ _ _ (pv 0) (@za _ _ _ _ _ (pv 2) (@za _ _ _ _ _ (@zx _ _ _ _ _ _ _ (zo (K:=K)) (pv 8) zj (λ_ _=>rfl)) zg zt) zf) zf))) (by rfl) (by walk_at "q1"))) (@zn _ _ _ (yb (zZ yw (@zx _ _ _ _ _ _ _ (zo (K:=K)) (pv 8) zj (λ_ _=>rfl)) zJ (by rfl)) (@zn _ _ _ (@zB _ _ 2 _ _ _ _ yj.nd rfl (rK rfl) (zv (zfa (fu:=fu) T) (hr.mono ∅) rfl T.cg.m T.cg.F.kp T.cg.b .nil zQ (@za _ _ _ _ _ (pv 0) (@za _ _ _ _ _ (pv 2) (@za _ _ _ _ _ (pv 8) zg zf) zf) zf)) (by rfl) (by walk_at "q1"))) (@zn _ _ _ (@zB _ _ 1 _ _ _ _ yj.nd rfl (rK rfl) (yd (Wr (K:=K)) (zv (zbZ (fu:=fu) T) (hr.mono ∅) rfl T.bF.m T.bF.F.kp T.bF.b .nil zQ (@za _ _ _ _ _ (pv 0) (@za _ _ _ _ _ (pv 8) (@za _ _ _ _ _ (pv 2) zg zf) zf) zf)) (pv 1)) (by rfl) (by walk_at "q1")))))))))))))) (@zh _ _ _ _ _ (yb (yq (UW (pv 7) (zK (yh (K:=K)) rfl T.aT boot_len (@za _ _ _ _ _ (pv 3) zg zf)))) (@zn _ _ _ (@zH _ _ _ _ (@yk _ _ _ _ _ zg))) zM) (@zn _ _ _ (@zH _ _ _ _ (@yk _ _ _ _ _ (@za _ _ _ _ _ (pv 5) (@za _ _ _ _ _ (pv 2) (@za _ _ _ _ _ (pv 4) (@za _ _ _ _ _ (pv 6) zg zf) zf) zf) zf)))))))))),yy (n:=4) (k:=8) (b:=WX fu) rfl (zr (zA (zi _) zp) (zr (zA (yl (zc (zi _) (zc (zi _) zk))) zp) (zr (zA (yl (zc (zi _) (zc (zi _) zk))) zp) (zr (zA (zi _) zp) (zr (Wa (yK (Ve (yu yO (zc (zb 1) zk)) (zi _))) (zr (zA (zm zu (zb 1) (zi _)) zp) (zr (zA (zbt (zb 1) (ZJ (zi _)) zaz) zp) (yc (Zc (ya (zm yi (zm zu (zb 8) (zi _)) (zL _))) (ya (zm yi (zm zu (zb 8) (zi _)) (zL _)))) (zr (zA (zw (zc (zb 8) zk)) zp) (zr (yc (Zc (yK (xP (zb 7) (yu yO (zc (zb 3) zk)))) (Zc (yK (Tn (zm zu (zb 3) (zb 7)) (zi _))) (yK (znD (zm zu (zb 3) (zb 7)) (yu yO (zc (zb 9) zk)))))) (zI (yl zk)) zN) (zr (zA (zm zad (zb 9) (zm zu (zb 3) (zb 7))) zp) (zr (zA (zm xb (zb 7) (zi _)) zp) (yc (ya (zm yi (zm zu (zb 8) (zi _)) (zL _))) (zr (zA (yu zgX (zc (zm zu (zb 8) (zi _)) zk)) zp) (zr (zA (zw (zc (zm wm (zm zu (zb 5) (zi _)) (zm zu (zm zu (zb 8) (zi _)) (zb 10))) (zc (zm wm (zm zu (zb 5) (zi _)) (zb 11)) zk))) zp) (zr (zA (zw (zc (zm wm (zm zu (zb 6) (zi _)) (zm zu (zm zu (zb 8) (zi _)) (zb 10))) (zc (zm wm (zm zu (zb 6) (zi _)) (zb 11)) zk))) zp) (zA (zw (zc (zb 0) (zc (zb 2) (zc (zm zu (zb 8) (zi _)) (zc (zb 10) zk))))) zp)))) (zr (zA (zw (zc (zm zu (zb 6) (zi _)) (zc (zm wm (zm zu (zb 6) (zi _)) (yu yO (zc (zb 9) zk))) zk))) zp) (zA (zm Wx (zm zu (zm zu (zb 8) (zi _)) (zb 10)) (zb 1)) zp))))))) (yc (zac (ya (zm yi (zm zu (zb 8) (zi _)) (zL _))) (wk (yK (zw (zc (zb 0) (zc (zb 2) (zc (zm zu (zb 8) (zi _)) zk))))))) (zr (zA zf4 zp) (zA (yl zk) zp)) (yc (ya (zm yi (zm zu (zb 8) (zi _)) (zL _))) (zA (zm xb (zb 4) (zw (zc (zb 0) (zc (zb 2) (zc (zm zu (zb 8) (zi _)) zk))))) zp) (yc (ya (zm yi (zm zu (zb 8) (zi _)) (zL _))) (zA (zw (zc (zb 0) (zc (zb 2) (zc (zb 8) zk)))) zp) (zA (zm Wx (zw (zc (zb 0) (zc (zb 8) (zc (zb 2) zk)))) (zb 1)) zp)))))))) (zr (yc (yK (Tn (zb 7) (yu yO (zc (zb 3) zk)))) (zI (yl zk)) zN) (zI (yl (zc (zb 5) (zc (zb 2) (zc (zb 4) (zc (zb 6) zk)))))))))))) h⟩)
noncomputable def WZ (fu:Nat):TwS:=(ye (zco (eUn (Zv "tuple") (ze 0)) (zco (eOp ZT (eFn yX [(ze 0)]) (eC (.int 2))) (zco (zE (xQ fu) [(eOp zy (ze 0) (eC (.int 0)))]) (zE (xQ fu) [(eOp zy (ze 0) (eC (.int 1)))])))))
noncomputable def Yx (fu:Nat):TwF:=ym 1 0 (WZ fu)
theorem zd1 (T:Tx K mg):yA P w K mg base (CXE P w) 2 T.bT.a T.bT.fd ["_law_share"] (sTw K 1 (Yx fu)):=
 T.bT.F.okE zdT (λvs H Q E h=>h.1) (λaS A outer s H vs Q E hr h=>⟨_,(@zn _ _ _ (@zH _ _ _ _ (Vj (zK (yJ (K:=K)) rfl T.aj boot_isinstance (za (pv 0) (za (xk (v:= .ty "tuple") rfl T.bu boot_tuple rfl) zg))) (Vj (Vi (xN (zK (yh (K:=K)) rfl T.aT boot_len (@za _ _ _ _ _ (pv 0) zg zf)) zj)) (Vj (zv (ZP (fu:=fu) T) (hr.mono ∅) rfl T.aq.m T.aq.F.kp T.aq.b .nil zQ (@za _ _ _ _ _ (@zx _ _ _ _ _ _ _ (zo (K:=K)) (pv 0) zj (λ_ _=>rfl)) zg zt)) (za4 (zv (ZP (fu:=fu) T) (hr.mono ∅) rfl T.aq.m T.aq.F.kp T.aq.b .nil zQ (@za _ _ _ _ _ (@zx _ _ _ _ _ _ _ (zo (K:=K)) (pv 0) zj (λ_ _=>rfl)) zg zt)))))))),yy (n:=1) (k:=0) (b:=WZ fu) rfl (zI (Vp (wa vP (zb 0)) (Vp (xP (yu yO (zc (zb 0) zk)) (zi _)) (Vp (zw (zc (zm zu (zb 0) (zi _)) zk)) (zw (zc (zm zu (zb 0) (zi _)) zk)))))) h⟩)
noncomputable def XN (fu:Nat):TwS:=(zD (zO (Wt [(ze 0)]) (gN 1)) (zD (sWh fu (bE (eOp dGt (eFn yX [(ze 1)]) (eC (.int 0)))) (zD (zO (eMt zdy (ze 1) []) (gN 2)) (zD (sIf (bOr (wM (bE (eUn (Zv "tuple") (ze 2)))) (bOr (bE (eOp dLt (eFn yX [(ze 2)]) (eC (.int 2)))) (bE (eOp (dIn true) (eOp zy (ze 2) (eC (.int 0))) (Wt [(eC (.str "end")),(eC (.str "lost")),(eC (.str "draw")),(eC (.str "hand"))]))))) (ye (eC (.bl false))) zT) (zD (sIf (bE (eOp Tm (eFn yX [(ze 2)]) (eOp xZ (eC (.int 2)) (eFn zbK [(eOp (yn false) (eOp zy (ze 2) (eC (.int 0))) (eC (.str "end")))])))) (ye (eC (.bl false))) zT) (sIf (bOr (bE (eOp (yn false) (eOp zy (ze 2) (eC (.int 0))) (eC (.str "end")))) (bE (eOp (yn false) (eOp zy (ze 2) (eC (.int 0))) (eC (.str "lost"))))) (sIf (wM (bE (zE (xQ fu) [(eOp zy (ze 2) (eUn zgc (eC (.int 1))))]))) (ye (eC (.bl false))) zT) (sIf (wM (bE (eUn (Zv "tuple") (eOp zy (ze 2) (eC (.int 1)))))) (ye (eC (.bl false))) (sIf (bE (eOp (yn false) (eOp zy (ze 2) (eC (.int 0))) (eC (.str "hand")))) (ZR (eMt Ys (ze 1) [(eOp zy (ze 2) (eC (.int 1)))])) (YH (iT (eOp zy (ze 2) (eC (.int 1)))) (gN 3) (zD (sIf (bOr (wM (bE (eUn (Zv "tuple") (ze 3)))) (bOr (bE (eOp Tm (eFn yX [(ze 3)]) (eC (.int 2)))) (wM (bE (zE (Yx fu) [(eOp zy (ze 3) (eC (.int 0)))]))))) (ye (eC (.bl false))) zT) (ZR (eMt va (ze 1) [(eOp zy (ze 3) (eC (.int 1)))]))))))))))) (ye (eC (.bl true)))))
noncomputable def XO (fu:Nat):TwF:=ym 1 3 (XN fu)
theorem zcB (T:Tx K mg):yA P w K mg base (CXE P w) 3 T.bO.a T.bO.fd ["_law_tree"] (sTw K 1 (XO fu)):=
 T.bO.F.okE ZN (λvs H Q E h=>h.1) (λaS A outer s H vs Q E hr h=>⟨_,(@zh _ _ _ _ _ (@zB _ _ 1 _ _ _ _ ZN.nd rfl (rK rfl) (@vZ _ _ _ _ (@za _ _ _ _ _ (pv 0) zg zf)) (by rfl) (by walk_at "q1")) (@zh _ _ _ _ _ (XU PassesOwn.leaving (yq (Vb (zK (yh (K:=K)) rfl T.aT boot_len (@za _ _ _ _ _ (pv 1) zg zf)) zj)) (@zh _ _ _ _ _ (@zB _ _ 2 _ _ _ _ ZN.nd rfl (rK rfl) (zil sF B7 B8 zin (pv 1)) (by rfl) (by walk_at "q1")) (@zh _ _ _ _ _ (yb (PW.pt (vY (wg (xr (zK (yJ (K:=K)) rfl T.aj boot_isinstance (za (pv 2) (za (xk (v:= .ty "tuple") rfl T.bu boot_tuple rfl) zg))))) (vY (yq (UW (zK (yh (K:=K)) rfl T.aT boot_len (@za _ _ _ _ _ (pv 2) zg zf)) zj)) (vE (zZ (zcQ (K:=K)) (@zx _ _ _ _ _ _ _ (zo (K:=K)) (pv 2) zj (λ_ _=>rfl)) (@vZ _ _ _ _ (@za _ _ _ _ _ zJ (@za _ _ _ _ _ zJ (@za _ _ _ _ _ zJ (@za _ _ _ _ _ zJ zg zq) zq) zq) zq)) (by rfl)))))) (@zn _ _ _ (@zH _ _ _ _ Va)) zM) (@zh _ _ _ _ _ (yb (yq (Vh (zK (yh (K:=K)) rfl T.aT boot_len (@za _ _ _ _ _ (pv 2) zg zf)) (yd xa zj (wA zhn rfl T.fc boot_int (@za _ _ _ _ _ (UX yw (@zx _ _ _ _ _ _ _ (zo (K:=K)) (pv 2) zj (λ_ _=>rfl)) zJ (by rfl)) zg zfZ))))) (@zn _ _ _ (@zH _ _ _ _ Va)) zM) (@zn _ _ _ (yb (PW.pt (vY (zZ yw (@zx _ _ _ _ _ _ _ (zo (K:=K)) (pv 2) zj (λ_ _=>rfl)) zJ (by rfl)) (vE (zZ yw (@zx _ _ _ _ _ _ _ (zo (K:=K)) (pv 2) zj (λ_ _=>rfl)) zJ (by rfl))))) (@zn _ _ _ (yb (wg (xr (zv (ZP (fu:=fu) T) (hr.mono ∅) rfl T.aq.m T.aq.F.kp T.aq.b .nil zQ (@za _ _ _ _ _ (@zx _ _ _ _ _ _ _ (zo (K:=K)) (pv 2) (zh7 zfE zj) (λ_ _=>rfl)) zg zt)))) (@zn _ _ _ (@zH _ _ _ _ Va)) zM)) (@zn _ _ _ (yb (wg (xr (zK (yJ (K:=K)) rfl T.aj boot_isinstance (za (@zx _ _ _ _ _ _ _ (zo (K:=K)) (pv 2) zj (λ_ _=>rfl)) (za (xk (v:= .ty "tuple") rfl T.bu boot_tuple rfl) zg))))) (@zn _ _ _ (@zH _ _ _ _ Va)) (@zn _ _ _ (yb (zZ yw (@zx _ _ _ _ _ _ _ (zo (K:=K)) (pv 2) zj (λ_ _=>rfl)) zJ (by rfl)) (@zn _ _ _ (vy (Vm sF As Au (zbq (K:=K)) (pv 1) (@za _ _ _ _ _ (@zx _ _ _ _ _ _ _ (zo (K:=K)) (pv 2) zj (λ_ _=>rfl)) zg zt)))) (@zn _ _ _ (wJ PassesOwn.leaving rfl (wY (K:=K) (@zx _ _ _ _ _ _ _ (zo (K:=K)) (pv 2) zj (λ_ _=>rfl))) (yp (i:=3) ZN.nd rfl (rK rfl)) (@zh _ _ _ _ _ (yb (PW.pt (vY (wg (xr (zK (yJ (K:=K)) rfl T.aj boot_isinstance (za (pv 3) (za (xk (v:= .ty "tuple") rfl T.bu boot_tuple rfl) zg))))) (vY (yq (Vh (zK (yh (K:=K)) rfl T.aT boot_len (@za _ _ _ _ _ (pv 3) zg zf)) zj)) (vE (wg (xr (zv (zd1 (fu:=fu) T) (hr.mono ∅) rfl T.bT.m T.bT.F.kp T.bT.b .nil zQ (@za _ _ _ _ _ (@zx _ _ _ _ _ _ _ (zo (K:=K)) (pv 3) zj (λ_ _=>rfl)) zg zt)))))))) (@zn _ _ _ (@zH _ _ _ _ Va)) zM) (@zn _ _ _ (vy (Vm sF sZ t2 wX (pv 1) (@za _ _ _ _ _ (@zx _ _ _ _ _ _ _ (zo (K:=K)) (pv 3) zj (λ_ _=>rfl)) zg zt))))))))))))))))) (@zn _ _ _ (@zH _ _ _ _ Va)))),yy (n:=1) (k:=3) (b:=XN fu) rfl (zr (zA (Zd (zc (zb 0) zk)) zp) (zr (Wa (yK (Ve (yu yO (zc (zb 1) zk)) (zi _))) (zr (zA (ziS ziT (zb 1)) zp) (zr (yc (Zc (wk (yK (wa vP (zb 2)))) (Zc (yK (Tn (yu yO (zc (zb 2) zk)) (zi _))) (ya (zm zlD (zm zu (zb 2) (zi _)) (Zd (zc (zL _) (zc (zL _) (zc (zL _) (zc (zL _) zk))))))))) (zI (Vc _)) zN) (zr (yc (yK (Vr (yu yO (zc (zb 2) zk)) (zm xb (zi _) (yu zkS (zc (zm yi (zm zu (zb 2) (zi _)) (zL _)) zk))))) (zI (Vc _)) zN) (yc (Zc (ya (zm yi (zm zu (zb 2) (zi _)) (zL _))) (ya (zm yi (zm zu (zb 2) (zi _)) (zL _)))) (yc (wk (yK (zw (zc (zm zu (zb 2) (ziP zgd (zi _))) zk)))) (zI (Vc _)) zN) (yc (wk (yK (wa vP (zm zu (zb 2) (zi _))))) (zI (Vc _)) (yc (ya (zm yi (zm zu (zb 2) (zi _)) (zL _))) (vz (Vd zcV (zb 1) (zc (zm zu (zb 2) (zi _)) zk))) (wO (Zz (zm zu (zb 2) (zi _))) zp (zr (yc (Zc (wk (yK (wa vP (zb 3)))) (Zc (yK (Vr (yu yO (zc (zb 3) zk)) (zi _))) (wk (yK (zw (zc (zm zu (zb 3) (zi _)) zk)))))) (zI (Vc _)) zN) (vz (Vd vN (zb 1) (zc (zm zu (zb 3) (zi _)) zk)))))))))))) (zI (Vc _)))) h⟩)
noncomputable def XQ (fu:Nat):TwS:=(zD (sIf (bOr (wM (bE (eUn (Zv "tuple") (ze 0)))) (bOr (bE (eOp Tm (eFn yX [(ze 0)]) (eC (.int 4)))) (wM (bE (eUn (Zv "tuple") (eOp zy (ze 0) (eC (.int 0)))))))) (ye (eC (.bl false))) zT) (ye (eFn zdF [(vf [none] (iT (eOp zy (ze 0) (eC (.int 0)))) (gN 0) vO (zE (xQ fu) [(ze 0)]))])))
noncomputable def XR (fu:Nat):TwF:=ym 1 0 (XQ fu)
theorem zcC (T:Tx K mg):yA P w K mg base (CXE P w) 2 T.bN.a T.bN.fd ["_law_run"] (sTw K 1 (XR fu)):=
 T.bN.F.okE zcv (λvs H Q E h=>h.1) (λaS A outer s H vs Q E hr h=>⟨_,(@zh _ _ _ _ _ (yb (PW.pt (vY (wg (xr (zK (yJ (K:=K)) rfl T.aj boot_isinstance (za (pv 0) (za (xk (v:= .ty "tuple") rfl T.bu boot_tuple rfl) zg))))) (vY (yq (Vh (zK (yh (K:=K)) rfl T.aT boot_len (@za _ _ _ _ _ (pv 0) zg zf)) zj)) (vE (wg (xr (zK (yJ (K:=K)) rfl T.aj boot_isinstance (za (@zx _ _ _ _ _ _ _ (zo (K:=K)) (pv 0) zj (λ_ _=>rfl)) (za (xk (v:= .ty "tuple") rfl T.bu boot_tuple rfl) zg))))))))) (@zn _ _ _ (@zH _ _ _ _ Va)) zM) (@zn _ _ _ (@zH _ _ _ _ (zK (TZ (K:=K) rfl) rfl T.fG PyProof.Rows.Boot.«all» (za (xT (N':=["_law_mark"]) rfl (blk (osc:=zC Yv) rfl (by decide+kernel)) (xB xA) (wY (K:=K) (@zx _ _ _ _ _ _ _ (zo (K:=K)) (pv 0) zj (λ_ _=>rfl))) (yQ rfl) (λC s₀ H₀ fp=>yp (i:=0) (show (["_law_mark"]:List Str).Nodup from by decide+kernel) rfl (rK rfl)) (λC s₀ H₀ fp=>xS) (λC s₀ H₀ fp=>(zv (ZP (fu:=fu) T) (hr.mono ∅) rfl T.aq.m T.aq.F.kp T.aq.b .nil Uv (@za _ _ _ _ _ (pv 0) zg zf)))) zg))))),yy (n:=1) (k:=0) (b:=XQ fu) rfl (zr (yc (Zc (wk (yK (wa vP (zb 0)))) (Zc (yK (Vr (yu yO (zc (zb 0) zk)) (zi _))) (wk (yK (wa vP (zm zu (zb 0) (zi _))))))) (zI (Vc _)) zN) (zI (yu zgf (zc (xC (cap:=[none]) (Zz (zm zu (zb 0) (zi _))) zp xU (zw (zc (zb 0) zk))) zk)))) h⟩)
noncomputable def zgp (fu:Nat):TwS:=(zD (zO (eUn Vt (eSl zf6 (ze 0) oNo (Yn (eC (.int 200))))) (gN 1)) (zD (zO (zE (XG fu) [(ze 1),(eOp zaI (Wt [(eC (.int 27)),(eC (.int 1000))]) (zE (zX fu) [(ze 1),(eC (.int 2))]))]) (gN 2)) (zD (zO (zE (XI fu) [(ze 1),(ze 2)]) (gN 3)) (zD (zO (Wt [(eC (.str "draw")),(eC (.str "set")),(eC (.str "hand")),(eC (.str "gain")),(eC (.str "if")),(eC (.str "look")),(eC (.str "times")),(eC (.str "draw")),(eC (.str "set")),(eC (.str "pass"))]) (gN 4)) (zD (zO (zE (Yl fu) [(ze 1),(ze 2),(ze 4),(eC (.int 40))]) (gN 5)) (zD (zO (zE (US fu) [(yI [(ze 2),(ze 5)]),(ze 3)]) (gN 6)) (zD (zO (zE (UU fu) [(ze 6)]) (gN 7)) (zD (sIf (bOr (wM (bE (zE (XO fu) [(ze 6)]))) (wM (bE (eUn (Zv "list") (ze 7))))) (ye (eC (.bl false))) zT) (zD (zO (yI [(eC (.int 0)),(eC (.int 1))]) (gN 8)) (zD (zO (Wt []) (gN 9)) (zD (YH (iL (ze 7)) (gN 10) (zD (sIf (bOr (wM (bE (zE (XR fu) [(ze 10)]))) (zab (bE (eOp (zbE true) (ze 9) (Wt []))) (wM (bE (eOp zjm (eOp zaI (ze 9) (eUn zgc (eC (.int 1)))) (eOp zy (ze 10) (eC (.int 0)))))))) (ye (eC (.bl false))) zT) (zD (ZR (eMt va (ze 9) [(eOp zy (ze 10) (eC (.int 0)))])) (zD (zO (zE (WY fu) [(ze 2),(ze 5),(ze 3),(eOp zy (ze 10) (eC (.int 0)))]) (gN 11)) (zD (sIf (bOr (bE (eOp ZT (eFn yX [(ze 11)]) (eC (.int 0)))) (wM (bE (zE (xu fu 10) [(eSl zaJ (ze 10) (Yn (eC (.int 1))) oNo),(eSl zaJ (ze 11) oNo (Yn (eC (.int 3))))])))) (ye (eC (.bl false))) zT) (zD (zO (eOp zy (ze 11) (eC (.int 3))) (gN 12)) (zD (zO (eOp xZ (eOp wF (eOp zy (ze 8) (eC (.int 0))) (eOp zy (ze 12) (eC (.int 1)))) (eOp wF (eOp zy (ze 12) (eC (.int 0))) (eOp zy (ze 8) (eC (.int 1))))) (gN 13)) (zO (zE (xL fu) [(ze 13),(eOp wF (eOp zy (ze 8) (eC (.int 1))) (eOp zy (ze 12) (eC (.int 1))))]) (gN 8))))))))) (ye (eOp (zjg false) (ze 8) (yI [(eC (.int 1)),(eC (.int 1))]))))))))))))))
noncomputable def zgq (fu:Nat):TwF:=ym 1 13 (zgp fu)
theorem zkT (T:Tx K mg):yA P w K mg base (CXE P w) 216 T.dY.a T.dY.fd ["_law_script"] (sTw K 1 (zgq fu)):=
 T.dY.F.okE vL (λvs H Q E h=>h.1) (λaS A outer s H vs Q E hr h=>⟨_,(@zh _ _ _ _ _ (@zB _ _ 1 _ _ _ _ vL.nd rfl (rK rfl) (zfY (K:=K) rfl rfl T.di rfl T.dh (Za (ziA (K:=K)) (pv 0) YZ (ZH zj))) (by rfl) (by walk_at "q1")) (@zh _ _ _ _ _ (@zB _ _ 2 _ _ _ _ vL.nd rfl (rK rfl) (zv (zcy (fu:=fu) T) (hr.mono ∅) rfl T.bP.m T.bP.F.kp T.bP.b .nil zQ (@za _ _ _ _ _ (pv 1) (@za _ _ _ _ _ (@zx _ _ _ _ _ _ _ (XY (K:=K)) (@vZ _ _ _ _ (@za _ _ _ _ _ zj (@za _ _ _ _ _ zj zg zq) zq)) (zv (yf (fu:=fu) T) (hr.mono ∅) rfl T.ae.m T.ae.F.kp T.ae.b .nil zQ (@za _ _ _ _ _ (pv 1) (@za _ _ _ _ _ zj zg zq) zf)) (λ_ _=>rfl)) zg zt) zf)) (by rfl) (by walk_at "q1")) (@zh _ _ _ _ _ (@zB _ _ 3 _ _ _ _ vL.nd rfl (rK rfl) (zv (zcz (fu:=fu) T) (hr.mono ∅) rfl T.bL.m T.bL.F.kp T.bL.b .nil zQ (@za _ _ _ _ _ (pv 1) (@za _ _ _ _ _ (pv 2) zg zf) zf)) (by rfl) (by walk_at "q1")) (@zh _ _ _ _ _ (@zB _ _ 4 _ _ _ _ vL.nd rfl (rK rfl) (@vZ _ _ _ _ (@za _ _ _ _ _ zJ (@za _ _ _ _ _ zJ (@za _ _ _ _ _ zJ (@za _ _ _ _ _ zJ (@za _ _ _ _ _ zJ (@za _ _ _ _ _ zJ (@za _ _ _ _ _ zJ (@za _ _ _ _ _ zJ (@za _ _ _ _ _ zJ (@za _ _ _ _ _ zJ zg zq) zq) zq) zq) zq) zq) zq) zq) zq) zq)) (by rfl) (by walk_at "q1")) (@zh _ _ _ _ _ (@zB _ _ 5 _ _ _ _ vL.nd rfl (rK rfl) (zv (zaP (fu:=fu) T) (hr.mono ∅) rfl T.bj.m T.bj.F.kp T.bj.b .nil zQ (@za _ _ _ _ _ (pv 1) (@za _ _ _ _ _ (pv 2) (@za _ _ _ _ _ (pv 4) (@za _ _ _ _ _ zj zg zq) zf) zf) zf)) (by rfl) (by walk_at "q1")) (@zh _ _ _ _ _ (@zB _ _ 6 _ _ _ _ vL.nd rfl (rK rfl) (zv (zgn (fu:=fu) T) (hr.mono ∅) rfl T.ck.m T.ck.F.kp T.ck.b .nil zQ (@za _ _ _ _ _ (@yk _ _ _ _ _ (@za _ _ _ _ _ (pv 2) (@za _ _ _ _ _ (pv 5) zg zf) zf)) (@za _ _ _ _ _ (pv 3) zg zf) wL)) (by rfl) (by walk_at "q1")) (@zh _ _ _ _ _ (@zB _ _ 7 _ _ _ _ vL.nd rfl (rK rfl) (zv (zgo (fu:=fu) T) (hr.mono ∅) rfl T.cm.m T.cm.F.kp T.cm.b .nil zQ (@za _ _ _ _ _ (pv 6) zg zf)) (by rfl) (by walk_at "q1")) (@zh _ _ _ _ _ (yb (PW.pt (vY (wg (xr (zv (zcB (fu:=fu) T) (hr.mono ∅) rfl T.bO.m T.bO.F.kp T.bO.b .nil zQ (@za _ _ _ _ _ (pv 6) zg zf)))) (vE (wg (xr (zK (yJ (K:=K)) rfl T.aj boot_isinstance (za (pv 7) (za (xk (v:= .ty "list") rfl T.di boot_list rfl) zg)))))))) (@zn _ _ _ (@zH _ _ _ _ Va)) zM) (@zh _ _ _ _ _ (@zB _ _ 8 _ _ _ _ vL.nd rfl (rK rfl) (@yk _ _ _ _ _ (@za _ _ _ _ _ zj (@za _ _ _ _ _ zj zg zq) zq)) (by rfl) (by walk_at "q1")) (@zh _ _ _ _ _ (@zB _ _ 9 _ _ _ _ vL.nd rfl (rK rfl) (@vZ _ _ _ _ zg) (by rfl) (by walk_at "q1")) (@zh _ _ _ _ _ (wJ PassesOwn.leaving rfl (Tc (K:=K) (pv 7)) (yp (i:=10) vL.nd rfl (rK rfl)) (@zh _ _ _ _ _ (yb (PW.pt (vY (wg (xr (zv (zcC (fu:=fu) T) (hr.mono ∅) rfl T.bN.m T.bN.F.kp T.bN.b .nil zQ (@za _ _ _ _ _ (pv 10) zg zf)))) (vE (PW.pt (TR (zZ (zja (K:=K) hr) (pv 9) (@vZ _ _ _ _ zg) (by rfl)) (Ue (wg (zZ (zkM (K:=K) hr) (@zx _ _ _ _ _ _ _ (XY (K:=K)) (pv 9) (zh7 zfE zj) (λ_ _=>rfl)) (@zx _ _ _ _ _ _ _ (zo (K:=K)) (pv 10) zj (λ_ _=>rfl)) (by rfl))))))))) (@zn _ _ _ (@zH _ _ _ _ Va)) zM) (@zh _ _ _ _ _ (vy (Vm sF sZ t2 wX (pv 9) (@za _ _ _ _ _ (@zx _ _ _ _ _ _ _ (zo (K:=K)) (pv 10) zj (λ_ _=>rfl)) zg zt))) (@zh _ _ _ _ _ (@zB _ _ 11 _ _ _ _ vL.nd rfl (rK rfl) (zv (zd0 (fu:=fu) T) (hr.mono ∅) rfl T.bV.m T.bV.F.kp T.bV.b .nil zQ (@za _ _ _ _ _ (pv 2) (@za _ _ _ _ _ (pv 5) (@za _ _ _ _ _ (pv 3) (@za _ _ _ _ _ (@zx _ _ _ _ _ _ _ (zo (K:=K)) (pv 10) zj (λ_ _=>rfl)) zg zt) zf) zf) zf)) (by rfl) (by walk_at "q1")) (@zh _ _ _ _ _ (yb (PW.pt (vY (yq (xN (zK (yh (K:=K)) rfl T.aT boot_len (@za _ _ _ _ _ (pv 11) zg zf)) zj)) (vE (wg (xr (zv (zdZ (fu:=fu) T 10) (hr.mono ∅) rfl T.ay.m T.ay.F.kp T.ay.b .nil zQ (@za _ _ _ _ _ (Za (Tg (K:=K)) (pv 10) (ZH zj) YZ) (@za _ _ _ _ _ (Za (Tg (K:=K)) (pv 11) YZ (ZH zj)) zg zt) zt))))))) (@zn _ _ _ (@zH _ _ _ _ Va)) zM) (@zh _ _ _ _ _ (@zB _ _ 12 _ _ _ _ vL.nd rfl (rK rfl) (@zx _ _ _ _ _ _ _ (zo (K:=K)) (pv 11) zj (λ_ _=>rfl)) (by rfl) (by walk_at "q1")) (@zh _ _ _ _ _ (@zB _ _ 13 _ _ _ _ vL.nd rfl (rK rfl) (yd xa (yd wj (@zx _ _ _ _ _ _ _ (zo (K:=K)) (pv 8) zj (λ_ _=>rfl)) (@zx _ _ _ _ _ _ _ (zo (K:=K)) (pv 12) zj (λ_ _=>rfl))) (yd wj (@zx _ _ _ _ _ _ _ (zo (K:=K)) (pv 12) zj (λ_ _=>rfl)) (@zx _ _ _ _ _ _ _ (zo (K:=K)) (pv 8) zj (λ_ _=>rfl)))) (by rfl) (by walk_at "q1")) (@zn _ _ _ (@zB _ _ 8 _ _ _ _ vL.nd rfl (rK rfl) (zv (Xq (fu:=fu) T) (hr.mono ∅) rfl T.aC.m T.aC.F.kp T.aC.b .nil zQ (@za _ _ _ _ _ (pv 13) (@za _ _ _ _ _ (yd wj (@zx _ _ _ _ _ _ _ (zo (K:=K)) (pv 8) zj (λ_ _=>rfl)) (@zx _ _ _ _ _ _ _ (zo (K:=K)) (pv 12) zj (λ_ _=>rfl))) zg yx) zf)) (by rfl) (by walk_at "q1")))))))))) (@zn _ _ _ (@zH _ _ _ _ (UX (zmA (K:=K) hr) (pv 8) (@yk _ _ _ _ _ (@za _ _ _ _ _ zj (@za _ _ _ _ _ zj zg zq) zq)) (by rfl))))))))))))))),yy (n:=1) (k:=13) (b:=zgp fu) rfl (zr (zA (zgh (zmj (zb 0) zaz (ZJ (zi _)))) zp) (zr (zA (zw (zc (zb 1) (zc (zm zad (Zd (zc (zi _) (zc (zi _) zk))) (zw (zc (zb 1) (zc (zi _) zk)))) zk))) zp) (zr (zA (zw (zc (zb 1) (zc (zb 2) zk))) zp) (zr (zA (Zd (zc (zL _) (zc (zL _) (zc (zL _) (zc (zL _) (zc (zL _) (zc (zL _) (zc (zL _) (zc (zL _) (zc (zL _) (zc (zL _) zk))))))))))) zp) (zr (zA (zw (zc (zb 1) (zc (zb 2) (zc (zb 4) (zc (zi _) zk))))) zp) (zr (zA (zw (zc (yl (zc (zb 2) (zc (zb 5) zk))) (zc (zb 3) zk))) zp) (zr (zA (zw (zc (zb 6) zk)) zp) (zr (yc (Zc (wk (yK (zw (zc (zb 6) zk)))) (wk (yK (wa Vs (zb 7))))) (zI (Vc _)) zN) (zr (zA (yl (zc (zi _) (zc (zi _) zk))) zp) (zr (zA (Zd zk) zp) (zr (wO (zaT (zb 7)) zp (zr (yc (Zc (wk (yK (zw (zc (zb 10) zk)))) (zac (ya (zm zi2 (zb 9) (Zd zk))) (wk (ya (zm zmF (zm zad (zb 9) (ziP zgd (zi _))) (zm zu (zb 10) (zi _))))))) (zI (Vc _)) zN) (zr (vz (Vd vN (zb 9) (zc (zm zu (zb 10) (zi _)) zk))) (zr (zA (zw (zc (zb 2) (zc (zb 5) (zc (zb 3) (zc (zm zu (zb 10) (zi _)) zk))))) zp) (zr (yc (Zc (yK (xP (yu yO (zc (zb 11) zk)) (zi _))) (wk (yK (zw (zc (zbt (zb 10) (ZJ (zi _)) zaz) (zc (zbt (zb 11) zaz (ZJ (zi _))) zk)))))) (zI (Vc _)) zN) (zr (zA (zm zu (zb 11) (zi _)) zp) (zr (zA (zm xb (zm wm (zm zu (zb 8) (zi _)) (zm zu (zb 12) (zi _))) (zm wm (zm zu (zb 12) (zi _)) (zm zu (zb 8) (zi _)))) zp) (zA (zw (zc (zb 13) (zc (zm wm (zm zu (zb 8) (zi _)) (zm zu (zb 12) (zi _))) zk))) zp)))))))) (zI (zm zmB (zb 8) (yl (zc (zi _) (zc (zi _) zk)))))))))))))))) h⟩)
end
section
open Mth
def Big (fu:Nat):Prop:=2^9000<=fu
theorem Big.le {fu:Nat} (h:Big fu):1000000<=fu:=si (show 1000000<=2^20 by decide) (si (Be ∅ ∅) h)
local macro_rules | `(tactic| walk_at "w1") => `(tactic| first
 | with_reducible apply zeV | ((with_reducible apply vI); exact rfl) | with_reducible apply Vu | with_reducible apply zmq | with_reducible apply zF | with_reducible apply zkJ
 | with_reducible apply zG | ((with_reducible apply yv); try dsimp only[rY]) | with_reducible apply zaW | with_reducible apply xm | with_reducible apply kv
 | with_reducible apply ZW | with_reducible apply znF | with_reducible apply zbF | with_reducible apply znG | with_reducible apply zmo
 | with_reducible apply xV | with_reducible apply zdK | with_reducible apply zi3 | with_reducible apply Vv | with_reducible apply zaV
 | with_reducible apply zi4 | with_reducible apply znH | with_reducible apply je
 | with_reducible apply Vx | with_reducible apply zi5 | with_reducible apply zmt | with_reducible apply znI | with_reducible apply znJ | with_reducible apply znK | with_reducible apply znL | with_reducible apply zmu | with_reducible apply zmv
 | with_reducible apply zmy | with_reducible apply zi6 | with_reducible apply zi7 | with_reducible apply zi8
 | ((with_reducible apply zmx); exact⟨∅, by decide, by decide⟩)
 | ((with_reducible apply zmw); first | exact .inl ∅ | exact .inr ∅)
 | with_reducible refine Exists.intro _ (And.intro rfl ?_))
local macro_rules | `(tactic| walk_at "w") => `(tactic| repeat walk_at "w1")
local macro_rules|`(tactic|nofun)=>`(tactic|walk_at "w")
local macro_rules | `(tactic| walk_at "wr") => `(tactic| (refine zms rfl rfl ?_; dsimp only [List.map, HAppend.hAppend, Append.append, List.append, List.replicate]))
section
variable {fu:Nat} {S S' S2:Sto} {x y:Xv}
theorem yH {c:Prop} [Decidable c] {A B:Prop} (h:c->A) (g:¬c->B):(decide c=true->A)/\(decide c=false->B):=⟨λe=>h (of_decide_eq_true e),λe=>g (of_decide_eq_false e)⟩
def Kp (w:Nat->Prop) (S S':Sto):Prop:=S.length<=S'.length/\∀(n:Nat) c,S[n]? =some c->¬w n->S'[n]? =some c
theorem Kp.refl (w:Nat->Prop):Kp w S S:=⟨rL _,λ_ _ e _=>e⟩
theorem Kp.trans {w:Nat->Prop} (a:Kp w S S') (b:Kp w S' S2):Kp w S S2:=⟨si a.1 b.1,λn c e z=>b.2 n c (a.2 n c e z) z⟩
theorem Kp.mono {w w':Nat->Prop} (a:Kp w S S') (h:∀n,w n->w' n):Kp w' S S':=⟨a.1,λn c e z=>a.2 n c e λq=>z (h n q)⟩
theorem Kp.pre {w:Nat->Prop} (p:S<+:S'):Kp w S S':=⟨p.length_le,λn c e _=>by
 obtain⟨T,rfl⟩:=p
 rw[su (rH.1 e).1]
 exact e⟩
theorem Kp.app {w:Nat->Prop} {T:Sto} (a:Kp w S S'):Kp w S (S'++T):=a.trans (Kp.pre (rW _ _))
theorem Kp.set {w:Nat->Prop} {n:Nat} {c:Ce} (a:Kp w S S') (h:w n\/S.length<=n):Kp w S (S'.set n c):=⟨by simpa using a.1,λm d e z=>by
 rw[u5]
 have hm:=(rH.1 e).1
 rw[if_neg λq=>by
  subst q
  rcases h with h|h
  ·exact z h
  ·omega]
 exact a.2 m d e z⟩
theorem yM {c:Ce}:(S++[c])[S.length]? =some c:=by simp
theorem wC {n:Nat} {c c':Ce} (h:S[n]? =some c):(S.set n c')[n]? =some c':=by rw[u5,if_pos rfl,if_pos (rH.1 h).1]
theorem zb0 {n m:Nat} {c c':Ce} (h:S[m]? =some c) (q:n≠m):(S.set n c')[m]? =some c:=by rw[u5,if_neg q];exact h
theorem zfb {n:Nat} (h:n<=100):n<sizeLine:=tu h ∅
theorem zc1 {n:Nat} (h:n<=999):n<sizeLine:=tu h ∅
theorem zb1:∀n:Nat,YJ (rN n (Xv.bl true))=some (rN n true)
 |0=>rfl
 |n+1=>by rw[sJ,sJ];simp[YJ,zb1 n]
theorem zju {P:Xv->Sto->Prop} {l:List Xv} {bs:List Bool} (h:yD S x=some l) (h2:YJ l=some bs) (k:P (.bl (bs.all id)) S):WO (zdF [x] S) P:= .of (by unfold zdF;dsimp only;rw[h,rZ,h2];rfl) k
theorem wG {P:Xv->Sto->Prop} {a b:Str} (k:P (.bl (decide (a=b))) S):WO (yn false (.str a) (.str b) S) P:= .of (by show some (Xv.bl (false !=decide (a=b)),S)=_;rw[B6]) k
theorem zkU {P:Xv->Sto->Prop} {a b:Int} (k:P (.bl (decide (a=b))) S):WO (yn false (.int a) (.int b) S) P:= .of (by show some (Xv.bl (false !=decide (a=b)),S)=_;rw[B6]) k
end
section
variable {fu:Nat} {S S':Sto} {xs:Xv} {ns:List Int} {dd:Int}
abbrev Q2:=Int×Int
noncomputable def qv (q:Q2):Xv:= .tup [.int q.1,.int q.2]
noncomputable def wV (t b:Int):Q2:=(t / (sR t b:Int),b / (sR t b:Int))
noncomputable def zkV (a b:Q2):Q2:=wV (a.1*b.2+b.1*a.2) (a.2*b.2)
structure QOk (dd c:Int) (q:Q2):Prop where
 pos:0<q.2
 dvd:q.2∣dd
 le:(q.1.natAbs:Int)<=c*q.2
 low:sR q.1 q.2=1
theorem QOk.bD {c:Int} {q:Q2} (hd:0<dd) (h:QOk dd c q):q.2<=dd:=Af hd h.dvd
theorem QOk.nil:QOk dd 0 (0,1):=⟨∅,AW _,∅,∅⟩
theorem zd2 {c t b:Int} (hb:0<b) (hd:b∣dd*t) (hle:(t.natAbs:Int)<=c*b):QOk dd c (wV t b):=by
 have g0:0<sR t b:=A4 _ ⋯
 have gt:(sR t b:Int)∣t:=BQ ..
 have gb:(sR t b:Int)∣b:=Ak ..
 obtain⟨t',et⟩:=gt
 obtain⟨b',eb⟩:=gb
 have gz:((sR t b:Int))≠0:=by omega
 have gp:(0:Int)<(sR t b:Int):=by omega
 unfold wV
 have co:sR t' b'=1:=by
  have h1:sR t b=sR t b*sR t' b':=by
   have:=Int.gcd_mul_left (sR t b:Int) t' b'
   rw[<-et,<-eb] at this
   simpa using this
  exact Nat.eq_of_mul_eq_mul_left g0 (by rw[AX];exact h1.symm)
 have dt:t / (sR t b:Int)=t':=tP gz et
 have db:b / (sR t b:Int)=b':=tP gz eb
 rw[dt,db]
 generalize (sR t b:Int)=g at*
 have eR:0<b':=by
  rcases Int.lt_trichotomy b' 0 with h|h|h
  ·have:=Int.mul_neg_of_pos_of_neg gp h;omega
  ·subst h;simp at eb;omega
  ·exact h
 refine⟨eR,?_,?_,co⟩
 ·rw[et,eb] at hd
  have hd:b'∣dd*t':=by
   have:g*b'∣g*(dd*t'):=by rw[show g*(dd*t')=dd*(g*t') by rw[<-sC,<-sC,sO g dd]];exact hd
   exact Int.dvd_of_mul_dvd_mul_left gz this
  have hn:b'.natAbs∣dd.natAbs*t'.natAbs:=by
   have:=uJ.2 hd
   rwa [uK] at this
  have hc:Nat.Coprime b'.natAbs t'.natAbs:=by
   show um _ _=1
   rw[v7]
   exact co
  exact uJ.1 (hc.dvd_of_dvd_mul_right hn)
 ·show (t'.natAbs:Int)<=c*b'
  rw[et,eb,uK] at hle
  have hg:((g.natAbs:Nat):Int)=g:=uO ⋯
  rw[uk,hg,show c*(g*b')=g*(c*b') by rw[<-sC,sO c g,sC]] at hle
  exact Int.le_of_mul_le_mul_left hle gp
theorem zmJ {c d:Int} {a b:Q2} (ha:QOk dd c a) (hb:QOk dd d b):QOk dd (c+d) (zkV a b):=by
 have h1:=ha.pos
 have h2:=hb.pos
 refine zd2 (sU h1 h2) ?_ ?_
 ·obtain⟨u,hu⟩:=ha.dvd
  obtain⟨v,hv⟩:=hb.dvd
  refine⟨a.1*u+b.1*v,?_⟩
  have e1:(dd:Int)*(a.1*b.2+b.1*a.2)=a.1*b.2*dd+b.1*a.2*dd:=by rw[Int.mul_add,sO dd,sO dd (b.1*a.2)]
  rw[e1]
  conv=>lhs;rw[show a.1*b.2*dd=a.1*b.2*(a.2*u) by rw[<-hu],show b.1*a.2*dd=b.1*a.2*(b.2*v) by rw[<-hv]]
  rw[Int.mul_add]
  congr 1
  ·rw[sO a.1 b.2,sC,sO a.2 b.2,sC];congr 1;rw[<-sC,<-sC,sO a.1 a.2]
  ·rw[sO b.1 a.2,sC,sC];congr 1;rw[<-sC,<-sC,sO b.1 b.2]
 ·have l1:((a.1*b.2).natAbs:Int)<=c*(a.2*b.2):=by
   rw[uK,uk,show ((b.2.natAbs:Nat):Int)=b.2 from uO ⋯,<-sC]
   exact u3 ha.le ⋯
  have l2:((b.1*a.2).natAbs:Int)<=d*(a.2*b.2):=by
   rw[uK,uk,show ((a.2.natAbs:Nat):Int)=a.2 from uO ⋯,sO a.2 b.2,<-sC]
   exact u3 hb.le ⋯
  have:=Int.natAbs_add_le (a.1*b.2) (b.1*a.2)
  rw[Int.add_mul]
  omega
end
section
variable {fu:Nat} {S S':Sto} {dd:Int}
noncomputable def wD (a b:Q2):Q2:=wV (a.1*b.1) (a.2*b.2)
noncomputable def val (x:Q2):Rat:=(x.1:Rat) / (x.2:Rat)
theorem vD {b:Int} (h:b≠0):(b:Rat)≠0:=λz=>h (by exact_mod_cast z)
theorem za0 {t b:Int} (hb:0<b):val (wV t b)=(t:Rat) / (b:Rat):=by
 have g0:0<sR t b:=A4 _ ⋯
 obtain⟨t',et⟩:(sR t b:Int)∣t:=BQ ..
 obtain⟨b',eb⟩:(sR t b:Int)∣b:=Ak ..
 have gz:((sR t b:Int))≠0:=by omega
 have dt:t / (sR t b:Int)=t':=tP gz et
 have db:b / (sR t b:Int)=b':=tP gz eb
 unfold val wV
 dsimp only
 rw[dt,db]
 generalize (sR t b:Int)=g at*
 have eR:b'≠0:=λz=>by subst z;simp at eb;omega
 rw[et,eb,uo,uo]
 have h1:=vD gz
 have h2:=vD eR
 rw[uC,uC,Rat.inv_mul_rev]
 have:(g:Rat)*(t':Rat)*((b':Rat)⁻¹*(g:Rat)⁻¹)=(t':Rat)*(b':Rat)⁻¹*((g:Rat)*(g:Rat)⁻¹):=by grind
 rw[this,uB _ h1,AY]
theorem zkW {a b:Q2} (ha:0<a.2) (hb:0<b.2):val (zkV a b)=val a+val b:=by
 unfold zkV
 rw[za0 (sU ha hb)]
 unfold val
 have h1:=vD (b:=a.2) ⋯
 have h2:=vD (b:=b.2) ⋯
 rw[AJ,uo,uo,uo]
 grind
theorem zd3 {a b:Q2} (ha:0<a.2) (hb:0<b.2):val (wD a b)=val a*val b:=by
 unfold wD
 rw[za0 (sU ha hb)]
 unfold val
 have h1:=vD (b:=a.2) ⋯
 have h2:=vD (b:=b.2) ⋯
 rw[uo,uo]
 grind
theorem zjv {p t q:Int} (h:p∣t*q) (g:sR t p=1):p∣q:=by
 have h:=uJ.2 h
 rw[uK] at h
 have hc:Nat.Coprime p.natAbs t.natAbs:=by
  show um _ _=1
  rw[v7]
  exact g
 exact uJ.1 (hc.dvd_of_dvd_mul_left h)
theorem zg9 {a b:Q2} (ha:0<a.2) (la:sR a.1 a.2=1) (hb:0<b.2) (lb:sR b.1 b.2=1) (h:val a=val b):a=b:=by
 obtain⟨t,p⟩:=a
 obtain⟨u,q⟩:=b
 unfold val at h
 dsimp only at*
 have h1:=vD (b:=p) ⋯
 have h2:=vD (b:=q) ⋯
 have e:(t:Rat)*(q:Rat)=(u:Rat)*(p:Rat):=by grind
 have e:t*q=u*p:=by exact_mod_cast e
 have d1:p∣q:=by
  have:p∣t*q:=⟨u,by rw[e,sO]⟩
  exact zjv this la
 have d2:q∣p:=by
  have:q∣u*p:=⟨t,by rw[<-e,sO]⟩
  exact zjv this lb
 have pq:p=q:=Int.le_antisymm (Af hb d1) (Af ha d2)
 subst pq
 have:t=u:=Int.eq_of_mul_eq_mul_right ⋯ e
 rw[this]
end
section
variable {fu:Nat} {S S':Sto} {dd:Int} {x y:Xv}
theorem zgr {P:Xv->Sto->Prop} {p:Int} (k:P (.int (p.natAbs:Int)) S):WO (zhK [.int p] S) P:= .of (show zhK [.int p] S=some (.int (if p<0 then -p else p),S) from rfl) (by
 rw[show (if p<0 then -p else p)=(p.natAbs:Int) by split<;>omega]
 exact k)
theorem zhO:∀(n:Nat) (one other:Nat) (a2:Option Xv),other<n->
  WS (Zu (bE (eOp Tm (ze 1) (eC (.int 0)))) (zD (zO (eOp YI (ze 0) (ze 1)) (gN 2)) (zD (zO (ze 1) (gN 0)) (zO (ze 2) (gN 1)))) n [some (.int one),some (.int other),a2] S) (λρ S'=>∃a2,ρ=[some (.int (um one other:Nat)),some (.int 0),a2]/\S=S') (λ_ _=>False):=by
 intro n
 induction n with
 |zero=>intro one other a2 h;omega
 |succ n ih=>
  intro one other a2 h
  refine Xd ?_
  nofun
  rw[show (!decide ((other:Int)=0))=decide (¬(other:Int)=0) by simp]
  refine yH (λh=> ?_) (λh=> ?_)
  ·have h0:0<other:=by omega
   nofun
   refine vJ ⋯ ?_
   nofun
   have:=ih other (one % other) (some (.int ((one % other:Nat):Int))) (by have:=Nat.mod_lt one h0;omega)
   rw[show um other (one % other)=um one other by rw[v7 other,<-Nat.gcd_rec,v7]] at this
   rw[BR] at this
   exact this
  ·have:other=0:=by omega
   subst this
   exact⟨a2,by simp,rfl⟩
def xD (n:Nat) (p:Int):Prop:=p.natAbs<2^n
theorem xD.mono {n m:Nat} {p:Int} (h:xD n p) (hn:n<=m):xD m p:=sv h (Be ∅ hn)
theorem xD.le {n:Nat} {p:Int} (h:xD n p):intBits p<=n:=z8.mpr h
theorem xD.mul {n m:Nat} {p q:Int} (h:xD n p) (g:xD m q):xD (n+m) (p*q):=by
 unfold xD at*
 rw[uK,Nat.pow_add]
 rcases Nat.eq_zero_or_pos q.natAbs with z|z
 ·rw[z,Nat.mul_zero];exact uT (AZ ∅) (AZ ∅)
 ·exact Nat.mul_lt_mul_of_lt_of_le h (tK g) (AZ ∅)
theorem xD.fuel {n:Nat} {p:Int} (hb:Big fu) (h:xD n p) (hn:n<=9000):p.natAbs<fu:=sv (h.mono hn) hb
theorem zfc {n:Nat} {t b:Int} (h0:0<b) (hb:xD n b) (hn:n<=9000):((um t.natAbs b.natAbs:Nat):Int)≠0/\intBits ((um t.natAbs b.natAbs:Nat):Int)<=9000:=by
 have g0:0<um t.natAbs b.natAbs:=Nat.gcd_pos_of_pos_right _ ⋯
 have gl:um t.natAbs b.natAbs<=b.natAbs:=Nat.gcd_le_right _ ⋯
 refine⟨⋯,si (xD.le (n:=n) ?_) hn⟩
 unfold xD
 rw[Bv]
 exact tu gl hb
theorem zfd {t b:Int}:qv (wV t b)= .tup [.int (t.fdiv ((um t.natAbs b.natAbs:Nat):Int)),.int (b.fdiv ((um t.natAbs b.natAbs:Nat):Int))]:=by
 rw[tT _ ⋯,tT _ ⋯]
 rfl
theorem zfe (cW:Big fu) {t b:Int} (h0:0<b) (hb:xD 9000 b):W (Ui fu [.int t,.int b] S) λv S'=>v=qv (wV t b)/\S=S':=by
 have gb:=zfc (t:=t) h0 hb (rL _)
 walk_at "wr";unfold zam
 nofun
 refine W.imp (P:=λv S'=>v= .int (um t.natAbs b.natAbs:Nat)/\S=S') ?_ ?_
 ·walk_at "wr";unfold YR;nofun
  refine zgr ?_
  nofun
  refine zgr ?_
  nofun
  refine zcX ?_
  rcases zhO (S:=S) fu t.natAbs b.natAbs none (xD.fuel cW hb (rL _)) with⟨ρ,S',e,a2,rfl,rfl⟩|⟨_,_,_,z⟩
  ·refine .nx e ?_
   nofun
   exact⟨rfl,rfl⟩
  ·exact z.elim
 rintro _ _ ⟨rfl,rfl⟩
 nofun
 refine zS ?_
 nofun
 refine yH (λh=>absurd h ⋯) (λ_=>zF ?_)
 nofun
 refine Wf gb ?_
 nofun
 refine Wf gb ?_
 nofun
 exact⟨zfd.symm,rfl⟩
def QX (x:Xv) (q:Q2):Prop:=x.tupOf=some [.int q.1,.int q.2]
theorem QX.qv (q:Q2):QX (qv q) q:=rfl
theorem QOk.bits {c:Int} {q:Q2} (h:QOk dd c q) (hd:0<dd) (ek:xD 4000 dd) (h0:0<=c) (hc:c<1048576):xD 4020 q.1/\xD 4000 q.2:=by
 have h1:=h.bD hd
 have h2:=h.pos
 have hb:xD 4000 q.2:=tu (show q.2.natAbs<=dd.natAbs by omega) ek
 refine⟨?_,hb⟩
 have q9:xD 20 c:=by
  unfold xD
  have:(2:Nat)^20=1048576:=by decide
  omega
 have:=q9.mul hb
 refine tu ?_ (this.mono ∅)
 have h3:=h.le
 have h4:0<=c*q.2:=B9 h0 ⋯
 omega
end
section
variable {fu:Nat} {S S':Sto} {dd:Int} {x y:Xv}
theorem zjw:∀(n:Nat) (t b:Xv) (one other:Nat) (a4:Option Xv),other<n->
  WS (Zu (bE (eOp dGt (ze 3) (eC (.int 0)))) (zD (zO (eOp YI (ze 2) (ze 3)) (gN 4)) (zD (zO (ze 3) (gN 2)) (zO (ze 4) (gN 3)))) n [some t,some b,some (.int one),some (.int other),a4] S) (λρ S'=>∃a4,ρ=[some t,some b,some (.int (um one other:Nat)),some (.int 0),a4]/\S=S') (λ_ _=>False):=by
 intro n
 induction n with
 |zero=>intro t b one other a4 h;omega
 |succ n ih=>
  intro t b one other a4 h
  refine Xd ?_
  nofun
  refine yH (λh=> ?_) (λh=> ?_)
  ·have h0:0<other:=by omega
   nofun
   refine vJ ⋯ ?_
   nofun
   have:=ih t b other (one % other) (some (.int ((one % other:Nat):Int))) (by have:=Nat.mod_lt one h0;omega)
   rw[show um other (one % other)=um one other by rw[v7 other,<-Nat.gcd_rec,v7]] at this
   rw[BR] at this
   exact this
  ·have:other=0:=by omega
   subst this
   exact⟨a4,by simp,rfl⟩
theorem TD (cW:Big fu) {t b:Int} (h0:0<b) (hb:xD 9000 b):W (xL fu [.int t,.int b] S) λv S'=>v=qv (wV t b)/\S=S':=by
 have gb:=zfc (t:=t) h0 hb (rL _)
 walk_at "wr";unfold Ua
 nofun
 refine zgr ?_
 nofun
 refine zcX ?_
 have qc:Xv.int b=Xv.int ((b.natAbs:Nat):Int):=by rw[uO ⋯]
 rcases zjw (S:=S) fu (.int t) (.int b) t.natAbs b.natAbs none (xD.fuel cW hb (rL _)) with⟨ρ,S',e,a4,rfl,rfl⟩|⟨_,_,_,z⟩
 rotate_left
 ·exact z.elim
 rw[<-qc] at e
 refine .nx e ?_
 nofun
 refine Wf gb ?_
 nofun
 refine Wf gb ?_
 nofun
 exact⟨zfd.symm,rfl⟩
theorem zkX (cW:Big fu) {a b:Q2} {c e:Int} (hx:QX x a) (hy:QX y b) (oa:QOk dd c a) (ob:QOk dd e b) (hd:0<dd) (ek:xD 4000 dd) (c0:0<=c/\c<1048576) (e0:0<=e/\e<1048576):W (Tu fu [x,y] S) λv S'=>v=qv (wD a b)/\S=S':=by
 obtain⟨a1,a2⟩:=oa.bits hd ek c0.1 c0.2
 obtain⟨b1,b2⟩:=ob.bits hd ek e0.1 e0.2
 have l1:=a1.le
 have l2:=a2.le
 have l3:=b1.le
 have l4:=b2.le
 walk_at "wr";unfold zbR
 nofun
 refine zP hx ZX ?_
 nofun
 refine zP hy ZX ?_
 refine wo ⋯ ?_
 nofun
 refine zP hx Yo ?_
 nofun
 refine zP hy Yo ?_
 refine wo ⋯ ?_
 nofun
 exact zfe cW (sU oa.pos ob.pos) ((a2.mul b2).mono ∅)
end
section
variable {fu:Nat} {S S' S2:Sto} {dd:Int} {x y:Xv}
theorem yo {a b:Str} (h:a≠b) {P:Xv->Sto->Prop} (k:P (.bl false) S):WO (yn false (.str a) (.str b) S) P:=wG (by rw[decide_eq_false h];exact k)
theorem xl {a:Str} {P:Xv->Sto->Prop} (k:P (.bl true) S):WO (yn false (.str a) (.str a) S) P:=wG (by rw[decide_eq_true rfl];exact k)
theorem zjx {a b:Q2} (ha:QOk dd 1 a) (hb:0<b.2/\0<=b.1/\b.1<=b.2) (hn:0<=a.1) (hd:a.2*b.2∣dd):QOk dd 1 (wD a b):=by
 have h1:=ha.pos
 have h2:=ha.le
 refine zd2 (sU h1 hb.1) (t8 hd ⟨a.1*b.1,rfl⟩) ?_
 have h3:a.1*b.1<=a.2*b.2:=Int.le_trans (uD hb.2.2 hn) (u3 ⋯ ⋯)
 have h4:0<=a.1*b.1:=B9 hn hb.2.1
 omega
theorem zjy {a b:Q2} (ha:0<a.2) (hb:0<b.2) (hn:0<=a.1) (hm:0<=b.1):0<=(wD a b).1:=by
 unfold wD wV
 exact AK (B9 hn hm) ⋯
structure Sh (q:Q2):Prop where
 pos:0<q.2
 nn:0<=q.1
 le:q.1<=q.2
 low:sR q.1 q.2=1
 vp:0<val q
theorem zd4 {t b:Int}:(wV t b).2∣b:=by
 obtain⟨b',eb⟩:(sR t b:Int)∣b:=Ak ..
 unfold wV
 dsimp only
 by_cases gz:((sR t b:Int))=0
 ·rw[gz] at eb ⊢
  rw[Int.zero_mul] at eb
  rw[eb]
  exact Int.dvd_zero _
 ·rw[tP gz eb]
  exact⟨(sR t b:Int),by rw[sO];exact eb⟩
theorem xg {α:Type} {l:List α} {i:Nat} {a:α} (h:l[i]? =some a):l.take (i+1)=l.take i++[a]:=by
 obtain⟨hi,e⟩:=rH.1 h
 rw[uw hi,e]
end
section
variable {fu:Nat} {S S' S2:Sto} {dd:Int} {x y:Xv} {ln:Nat}
def yU (ln k:Nat) (S:Sto):Prop:=∃ns:List Int,ns.length=k/\S[ln]? =some (.lst (ns.map Xv.int))
theorem yU.keep {w:Nat->Prop} {k:Nat} (h:yU ln k S) (q:Kp w S S') (z:¬w ln):yU ln k S':=by
 obtain⟨ns,l,e⟩:=h
 exact⟨ns,l,q.2 _ _ e z⟩
theorem yU.app {k:Nat} {T:Sto} (h:yU ln k S):yU ln k (S++T):=h.keep (Kp.pre (w:=λ_=>False) (rW _ _)) id
theorem yU.lt {k:Nat} (h:yU ln k S):ln<S.length:=by
 obtain⟨ns,_,en⟩:=h
 exact (rH.1 en).1
end
section
variable {fu:Nat} {S S' S2:Sto} {dd:Int} {x y:Xv}
inductive SmX (S:Sto):Nat->Xv->Xv->Prop
 |int {n:Nat} (i:Int):SmX S n (.int i) (.int i)
 |non {n:Nat}:SmX S n .non .non
 |tup {n:Nat} {x y:Xv} {l m:List Xv}:x.tupOf=some l->y.tupOf=some m->l.length=m.length->l.length<=999->(∀(i:Nat) a b,l[i]? =some a->m[i]? =some b->SmX S n a b)->SmX S (n+1) x y
 |lst {n a b:Nat} {l m:List Xv}:S[a]? =some (.lst l)->S[b]? =some (.lst m)->l.length=m.length->l.length<=999->(∀(i:Nat) a b,l[i]? =some a->m[i]? =some b->SmX S n a b)->SmX S (n+1) (.ref a) (.ref b)
theorem zd5 {l:List Xv} {i:Nat} {z:Xv} (h:wN S x=some l) (e:l[i]? =some z):zeP x (.int (i:Int)) S=some (z,S):=by
 unfold zeP
 rw[h]
 dsimp only
 rw[wP ⋯ (by rw[rQ];exact e)]
 rfl
theorem zap {l:List Xv} (h:wN S x=some l):yX [x] S=some (.int l.length,S):=by
 unfold yX
 dsimp only
 rw[h]
 rfl
theorem zkY {n:Nat} (h:SmX S n x y):∀{S':Sto},Kp (λ_=>False) S S'->W (xu fu (n+1) [x,y] S') λv S2=>v= .bl true/\S'<+:S2:=by
 have iz:∀{x:Xv} {l:List Xv} {S:Sto},x.tupOf=some l->zbB "tuple" S x=some true/\wN S x=some l:=by
  intro x l S h
  cases x<;>first|(cases h;exact⟨rfl,rfl⟩)|cases h
 have h7:∀{a:Nat} {l:List Xv} {S:Sto},S[a]? =some (.lst l)->zbB "tuple" S (.ref a)=some false/\zbB "list" S (.ref a)=some true/\wN S (.ref a)=some l:=by
  intro a l S h
  refine⟨?_,?_,zR h⟩<;>(unfold zbB;first|(rw[zR h];rfl)|(simp[zR h])|rfl)
 induction h with
 | @int n i=>
  intro S' k
  rw[xM]
  walk_at "wr";unfold wq
  refine zG (zS ?_)
  nofun
  refine xh (v:=false) rfl ?_
  refine⟨_,rfl,λz=>(by cases z),λ_=>zF ?_⟩
  refine zG (zS ?_)
  nofun
  refine xh (v:=false) rfl ?_
  refine⟨_,rfl,λz=>(by cases z),λ_=>zF ?_⟩
  refine zG (zS ?_)
  nofun
  refine WO.of (show zhF (.int i) S'=some (.bl false,S') from rfl) ?_
  refine⟨_,rfl,λz=>(by cases z),λ_=>zF ?_⟩
  refine zG (zS ?_)
  nofun
  refine xh (v:=false) rfl ?_
  refine⟨_,rfl,λz=>(by cases z),λ_=>zF ?_⟩
  refine xm (Wz ?_)
  nofun
  refine xh (v:=true) rfl ?_
  refine⟨_,rfl,λ_=> ?_,λz=>(by cases z)⟩
  refine Wz ?_
  nofun
  refine xh (v:=false) rfl ?_
  refine⟨_,rfl,_,rfl,λ_=> ?_,λz=>(by cases z)⟩
  nofun
  refine zkU ?_
  exact⟨by rw[decide_eq_true rfl],ud _⟩
 | @non n=>
  intro S' k
  rw[xM]
  walk_at "wr";unfold wq
  refine zG (zS ?_)
  nofun
  refine xh (v:=false) rfl ?_
  refine⟨_,rfl,λz=>(by cases z),λ_=>zF ?_⟩
  refine zG (zS ?_)
  nofun
  refine xh (v:=false) rfl ?_
  refine⟨_,rfl,λz=>(by cases z),λ_=>zF ?_⟩
  refine zG (zS ?_)
  nofun
  refine WO.of (show zhF .non S'=some (.bl true,S') from rfl) ?_
  refine⟨_,rfl,λ_=> ?_,λz=>(by cases z)⟩
  nofun
  refine WO.of (show zhF .non S'=some (.bl true,S') from rfl) ?_
  exact⟨rfl,ud _⟩
 | @tup n x y l m hx hy fj hl _ ih=>
  intro S' k
  have cell:∀{S2:Sto},S'<+:S2->wN S2 x=some l/\wN S2 y=some m:=λ_=>⟨(iz hx).2,(iz hy).2⟩
  rw[xM]
  walk_at "wr";unfold wq
  refine zG (zS ?_)
  nofun
  refine xh (v:=true) (iz hy).1 ?_
  refine⟨_,rfl,λ_=> ?_,λz=>(by cases z)⟩
  refine zG (zS (ww ?_))
  nofun
  refine xh (v:=true) (iz hx).1 ?_
  refine⟨_,rfl,λz=>(by cases z),λ_=> ?_⟩
  nofun
  refine WO.of (zap (iz hx).2) ?_
  nofun
  refine WO.of (zap (iz hy).2) ?_
  nofun
  rw[fj]
  refine⟨λz=> ?_,λ_=>zF ?_⟩
  ·simp at z
  refine xm (Vv (xV (xW (ZC ?_))))
  nofun
  refine WO.of (zap (iz hy).2) ?_
  refine⟨_,rfl,⟨⋯,⋯⟩,_,rfl,?_⟩
  refine xF (by rw[yz];exact tK (zc1 ⋯)) (λi es S2=>S'<+:S2/\es=rN i (.bl true)) (λ_ _ _ _ _=>rfl) ?_ ⟨ud _,rfl⟩ ?_
  ·rintro i w es S2 hw eh ⟨p2,rfl⟩
   obtain⟨hi,rfl⟩:=vQ hw
   rw[tM]
   have fB:i<l.length:=by omega
   have jy:i<m.length:=by omega
   refine .of rfl ?_
   dsimp only[ZS,tG,rY]
   nofun
   refine⟨rfl,?_⟩
   nofun
   refine WO.of (zd5 (cell p2).1 (rG fB)) ?_
   nofun
   refine WO.of (zd5 (cell p2).2 (rG jy)) ?_
   nofun
   refine (ih i _ _ (rG fB) (rG jy) (k.trans (Kp.pre p2))).imp ?_
   rintro _ S3 ⟨rfl,p3⟩
   exact⟨p2.trans p3,by rw[uP]⟩
  ·rintro es S2 _ ⟨p2,rfl⟩
   nofun
   refine zju Wg (zb1 _) ?_
   refine⟨by simp,p2.trans (rW _ _)⟩
 | @lst n a b l m ha hb fj hl _ ih=>
  intro S' k
  have cell:∀{S2:Sto},S'<+:S2->S2[a]? =some (.lst l)/\S2[b]? =some (.lst m):=λp=>⟨(Kp.pre (w:=λ_=>False) p).2 _ _ (k.2 _ _ ha id) id,(Kp.pre (w:=λ_=>False) p).2 _ _ (k.2 _ _ hb id) id⟩
  have lZ:=(cell (ud _)).1
  have eR:=(cell (ud _)).2
  rw[xM]
  walk_at "wr";unfold wq
  refine zG (zS ?_)
  nofun
  refine xh (v:=false) (h7 eR).1 ?_
  refine⟨_,rfl,λz=>(by cases z),λ_=>zF ?_⟩
  refine zG (zS ?_)
  nofun
  refine xh (v:=true) (h7 eR).2.1 ?_
  refine⟨_,rfl,λ_=> ?_,λz=>(by cases z)⟩
  refine zG (zS (ww ?_))
  nofun
  refine xh (v:=true) (h7 lZ).2.1 ?_
  refine⟨_,rfl,λz=>(by cases z),λ_=> ?_⟩
  nofun
  refine WO.of (zap (h7 lZ).2.2) ?_
  nofun
  refine WO.of (zap (h7 eR).2.2) ?_
  nofun
  rw[fj]
  refine⟨λz=> ?_,λ_=>zF ?_⟩
  ·simp at z
  refine xm (Vv (xV (xW (ZC ?_))))
  nofun
  refine WO.of (zap (h7 eR).2.2) ?_
  refine⟨_,rfl,⟨⋯,⋯⟩,_,rfl,?_⟩
  refine xF (by rw[yz];exact tK (zc1 ⋯)) (λi es S2=>S'<+:S2/\es=rN i (.bl true)) (λ_ _ _ _ _=>rfl) ?_ ⟨ud _,rfl⟩ ?_
  ·rintro i w es S2 hw eh ⟨p2,rfl⟩
   obtain⟨hi,rfl⟩:=vQ hw
   rw[tM]
   have fB:i<l.length:=by omega
   have jy:i<m.length:=by omega
   refine .of rfl ?_
   dsimp only[ZS,tG,rY]
   nofun
   refine⟨rfl,?_⟩
   nofun
   refine WO.of (zd5 (h7 (cell p2).1).2.2 (rG fB)) ?_
   nofun
   refine WO.of (zd5 (h7 (cell p2).2).2.2 (rG jy)) ?_
   nofun
   refine (ih i _ _ (rG fB) (rG jy) (k.trans (Kp.pre p2))).imp ?_
   rintro _ S3 ⟨rfl,p3⟩
   exact⟨p2.trans p3,by rw[uP]⟩
  ·rintro es S2 _ ⟨p2,rfl⟩
   nofun
   refine zju Wg (zb1 _) ?_
   refine⟨by simp,p2.trans (rW _ _)⟩
end
section
variable {fu:Nat} {S S' S2:Sto} {dd:Int} {x y:Xv}
structure Lf2 where
 ms:List Int
 fs:List Q2
 o:Xv
 g:Xv
noncomputable def ext (k:Nat) (o:Option Q2) (r:Lf2):Lf2:=⟨(k:Int)::r.ms,o.toList++r.fs,r.o,r.g⟩
abbrev Pt2:=Option Q2×Xv×List Lf2×Int
noncomputable def vc:Nat->List Pt2->List Lf2
 |_,[]=>[]
 |k,p::r=>p.2.2.1.map (ext k p.1)++vc (k+1) r
noncomputable def ptY (p:Pt2):Xv:=match p.1 with
 |some q=> .tup [qv q,p.2.1]
 |none=>p.2.1
inductive Rt:Nat->Xv->List Lf2->Int->Prop
 |fin {h:Nat} {st:List Int} {g:Int}:st.length<=100->Rt h (.tup [.str "end",.tup (st.map Xv.int),.int g]) [⟨[],[],.tup (st.map Xv.int),.int g⟩] 1
 |lost {h:Nat} {g:Int}:Rt h (.tup [.str "lost",.int g]) [⟨[],[],.non,.int g⟩] 1
 |draw {h:Nat} {s e:Int} (ps:List Pt2):ps≠[]->ps.length<=100->0<s->0<e->(∀p∈ps,Rt h p.2.1 p.2.2.1 p.2.2.2)->(∀p∈ps,∃q,p.1=some q/\Sh q/\q.2∣s/\p.2.2.2∣e)->Rt (h+1) (.tup [.str "draw",.tup (ps.map ptY)]) (vc 0 ps) (s*e)
 |hand {h:Nat} {e:Int} (ps:List Pt2):ps≠[]->ps.length<=100->0<e->(∀p∈ps,Rt h p.2.1 p.2.2.1 p.2.2.2)->(∀p∈ps,p.1=none/\p.2.2.2∣e)->Rt (h+1) (.tup [.str "hand",.tup (ps.map ptY)]) (vc 0 ps) e
theorem zb2:∀(a b:List Pt2) (k:Nat),vc k (a++b)=vc k a++vc (k+a.length) b
 |[],b,k=>rfl
 |p::a,b,k=>by
  show p.2.2.1.map (ext k p.1)++vc (k+1) (a++b)=(p.2.2.1.map (ext k p.1)++vc (k+1) a)++vc (k+(a.length+1)) b
  rw[zb2 a b (k+1),t6,show k+(a.length+1)=k+1+a.length by omega]
theorem zc2 {ps:List Pt2} {i:Nat} {p:Pt2} (h:ps[i]? =some p):vc 0 (ps.take (i+1))=vc 0 (ps.take i)++p.2.2.1.map (ext i p.1)/\(vc 0 (ps.take i)).length+p.2.2.1.length<=(vc 0 ps).length:=by
 have hi:=(rH.1 h).1
 have e:vc 0 (ps.take (i+1))=vc 0 (ps.take i)++p.2.2.1.map (ext i p.1):=by
  rw[xg h,zb2,sV,C1 ⋯,v8]
  show _++(p.2.2.1.map (ext i p.1)++[])=_
  rw[sI]
 refine⟨e,?_⟩
 have:vc 0 ps=vc 0 (ps.take (i+1))++vc (0+(ps.take (i+1)).length) (ps.drop (i+1)):=by rw[<-zb2,y8]
 rw[this,e,rV,rV,rJ]
 omega
theorem Rt.up {h h':Nat} {l:List Lf2} {d:Int} (r:Rt h x l d) (hh:h<=h'):Rt h' x l d:=by
 induction r generalizing h' with
 |fin a=>exact .fin a
 |lost=>exact .lost
 |draw ps a1 a2 a3 a4 _ a5 ih=>
  obtain⟨k,rfl⟩:∃k,h'=k+1:=⟨h'-1,⋯⟩
  exact .draw ps a1 a2 a3 a4 (λp hp=>ih p hp ⋯) a5
 |hand ps a1 a2 a3 _ a4 ih=>
  obtain⟨k,rfl⟩:∃k,h'=k+1:=⟨h'-1,⋯⟩
  exact .hand ps a1 a2 a3 (λp hp=>ih p hp ⋯) a4
theorem Rt.one {h:Nat} {l:List Lf2} {d:Int} (r:Rt h x l d):1<=l.length:=by
 have key:∀{h:Nat} {ps:List Pt2},ps≠[]->(∀p∈ps,1<=p.2.2.1.length)->1<=(vc 0 ps).length:=by
  intro h ps ef ih
  cases ps with
  |nil=>exact absurd rfl ef
  |cons p r=>
   have:=ih p (sj ..)
   show 1<=(p.2.2.1.map (ext 0 p.1)++_).length
   rw[rV,rJ]
   omega
 induction r with
 |fin _=>exact rL _
 |lost=>exact rL _
 |draw ps ef _ _ _ _ _ ih=>exact key (h:=0) ef ih
 |hand ps ef _ _ _ _ ih=>exact key (h:=0) ef ih
def zkZ (l:List Lf2):Prop:=l.Pairwise λa b=>ltL a.ms b.ms=true
theorem zjz {k:Int} {a b:List Int}:ltL (k::a) (k::b)=ltL a b:=by
 rw[ltL]
 exact if_pos rfl
theorem zjA {k j:Int} {a b:List Int} (h:k<j):ltL (k::a) (j::b)=true:=by
 rw[ltL,if_neg ⋯]
 exact decide_eq_true h
theorem zd6:∀(ps:List Pt2) (k:Nat),∀r∈vc k ps,∃(j:Nat) (m:List Int),r.ms=(j:Int)::m/\k<=j
 |[],_,r,h=>by cases h
 |p::ps,k,r,h=>by
  rcases sN.1 h with h|h
  ·obtain⟨r',_,rfl⟩:=sQ.1 h
   exact⟨k,r'.ms,rfl,rL _⟩
  ·obtain⟨j,m,e,hj⟩:=zd6 ps (k+1) r h
   exact⟨j,m,e,⋯⟩
theorem zb3:∀(ps:List Pt2) (k:Nat),(∀p∈ps,zkZ p.2.2.1)->zkZ (vc k ps)
 |[],_,_=>BE
 |p::ps,k,h=>by
  unfold zkZ
  show List.Pairwise _ (p.2.2.1.map (ext k p.1)++vc (k+1) ps)
  rw[List.pairwise_append]
  refine⟨?_,zb3 ps (k+1) λp hp=>h p (rT _ hp),λa ha b hb=> ?_⟩
  ·rw[BI]
   exact (h p (sj ..)).imp λ{a b} fT=>by
    show ltL ((k:Int)::a.ms) ((k:Int)::b.ms)=true
    rw[zjz]
    exact fT
  ·obtain⟨a',_,rfl⟩:=sQ.1 ha
   obtain⟨j,m,e,hj⟩:=zd6 ps (k+1) b hb
   rw[e]
   exact zjA ⋯
theorem Rt.ris {h:Nat} {l:List Lf2} {d:Int} (r:Rt h x l d):zkZ l/\(2<=l.length->∀p∈l,p.ms≠[]):=by
 have ne:∀(ps:List Pt2),∀p∈vc 0 ps,p.ms≠[]:=λps p hp=>by
  obtain⟨j,m,e,_⟩:=zd6 ps 0 p hp
  rw[e]
  simp
 induction r with
 |fin _=>exact⟨Az _ _,λz=>absurd z (by simp)⟩
 |lost=>exact⟨Az _ _,λz=>absurd z (by simp)⟩
 |draw ps _ _ _ _ _ _ ih=>exact⟨zb3 ps 0 λp hp=>(ih p hp).1,λ_=>ne ps⟩
 |hand ps _ _ _ _ _ ih=>exact⟨zb3 ps 0 λp hp=>(ih p hp).1,λ_=>ne ps⟩
theorem Rt.ok {h:Nat} {l:List Lf2} {d:Int} (r:Rt h x l d):∀p∈l,p.ms.length<=h/\(∃g,p.g= .int g)/\(p.o= .non\/∃st:List Int,p.o= .tup (st.map Xv.int)/\st.length<=100):=by
 have key:∀{h:Nat} (ps:List Pt2) (k:Nat),(∀p∈ps,∀q∈p.2.2.1,q.ms.length<=h/\(∃g,q.g= .int g)/\(q.o= .non\/∃st:List Int,q.o= .tup (st.map Xv.int)/\st.length<=100))->∀p∈vc k ps,p.ms.length<=h+1/\(∃g,p.g= .int g)/\(p.o= .non\/∃st:List Int,p.o= .tup (st.map Xv.int)/\st.length<=100):=by
  intro h ps
  induction ps with
  |nil=>intro k _ p hp;cases hp
  |cons p ps ih=>
   intro k hh q hq
   rcases sN.1 hq with hq|hq
   ·obtain⟨q',fS,rfl⟩:=sQ.1 hq
    have:=hh p (sj ..) q' fS
    exact⟨Nat.succ_le_succ this.1,this.2⟩
   ·exact ih (k+1) (λp hp=>hh p (rT _ hp)) q hq
 induction r with
 |fin a=>intro p hp;rw[sD.1 hp];exact⟨tf _,⟨_,rfl⟩,.inr ⟨_,rfl,a⟩⟩
 |lost=>intro p hp;rw[sD.1 hp];exact⟨tf _,⟨_,rfl⟩,.inl rfl⟩
 |draw ps _ _ _ _ _ _ ih=>exact key ps 0 ih
 |hand ps _ _ _ _ _ ih=>exact key ps 0 ih
noncomputable def shr (q:Q2) (r:Lf2):Q2:=r.fs.foldl wD q
def znQ (ms:List Int) (q:Q2) (r:Lf2) (e:Xv):Prop:=∃sh,e= .tup [.tup ((ms++r.ms).map Xv.int),sh,r.o,r.g]/\QX sh (shr q r)
inductive vW (ms:List Int) (q:Q2):List Lf2->List Xv->Prop
 |nil:vW ms q [] []
 |cons {e:Xv} {r:Lf2} {es:List Xv} {l:List Lf2}:znQ ms q r e->vW ms q l es->vW ms q (r::l) (e::es)
theorem vW.len {ms:List Int} {q:Q2} {es:List Xv} {l:List Lf2} (h:vW ms q l es):es.length=l.length:=by
 induction h with
 |nil=>rfl
 |cons _ _ ih=>simp[ih]
theorem vW.app {ms:List Int} {q:Q2} {es es':List Xv} {l l':List Lf2} (h:vW ms q l es) (h':vW ms q l' es'):vW ms q (l++l') (es++es'):=by
 induction h with
 |nil=>exact h'
 |cons a _ ih=>exact .cons a ih
theorem vW.at {ms:List Int} {q:Q2} {es:List Xv} {l:List Lf2} (h:vW ms q l es):∀{i:Nat} {e:Xv},es[i]? =some e->∃r,l[i]? =some r/\znQ ms q r e:=by
 induction h with
 |nil=>intro i e h;simp at h
 |cons a _ ih=>
  intro i e h
  cases i with
  |zero=>cases h;exact⟨_,rfl,a⟩
  |succ i=>exact ih h
noncomputable def zmK (q:Q2):Option Q2->Q2
 |some p=>wD q p
 |none=>q
theorem zd7 (q:Q2) (k:Nat) (o:Option Q2) (r:Lf2):shr q (ext k o r)=shr (zmK q o) r:=by
 cases o<;>rfl
theorem vW.ext {ms:List Int} {q:Q2} {k:Nat} {o:Option Q2} {es:List Xv} {l:List Lf2} (h:vW (ms++[(k:Int)]) (zmK q o) l es):vW ms q (l.map (Prf.ext k o)) es:=by
 induction h with
 |nil=>exact .nil
 |cons a _ ih=>
  obtain⟨sh,e,hx⟩:=a
  refine .cons ⟨sh,?_,by rw[zd7];exact hx⟩ ih
  rw[e,t6]
  rfl
theorem zjB {q:Q2} (h0:0<q.2) (h1:sR q.1 q.2=1):wD q (1,1)=q:=by
 unfold wD wV
 show ((q.1*1) / (sR (q.1*1) (q.2*1):Int),(q.2*1) / (sR (q.1*1) (q.2*1):Int))=q
 rw[AQ,AQ,h1]
 simp
end
section
variable {fu:Nat} {S S' S2:Sto} {dd:Int} {x y:Xv}
theorem zd8 {n:Nat} (h:n<2000):n<sizeLine:=sv h ∅
theorem zjC {ts:Xv}:W (Xn fu [.tup [.str "draw",ts]] S) λv S'=>v=ts/\S=S':=by
 walk_at "wr";unfold Xm
 refine zG (zS ?_)
 nofun
 refine yo ∅ ⟨_,rfl,nofun,λ_=>zF ?_⟩
 nofun
 exact⟨rfl,rfl⟩
theorem zjD {ts:List Xv} (hl:ts.length<=100):W (Xn fu [.tup [.str "hand",.tup ts]] S) λv S'=>v= .ref S.length/\S'=S++[.lst (ts.map λx=> .tup [.ct [.int 1,.int 1],x])]:=by
 walk_at "wr";unfold Xm
 refine zG (zS ?_)
 nofun
 refine xl ⟨_,rfl,λ_=> ?_,nofun⟩
 refine xm (xW (We ?_))
 nofun
 refine xF (xs:=ts) (tK (zfb hl)) (λi es S2=>S2=S/\es=(ts.take i).map λx=> .tup [.ct [.int 1,.int 1],x]) (λ_ _ _ _ _=>rfl) ?_ ⟨rfl,rfl⟩ ?_
 ·rintro i w es S2 hw eh ⟨rfl,rfl⟩
  refine .of rfl ?_
  dsimp only[ZS,tG,rY]
  nofun
  refine⟨rfl,?_⟩
  nofun
  refine⟨rfl,?_⟩
  rw[xg hw,rR]
  rfl
 ·rintro es S2 _ ⟨rfl,rfl⟩
  rw[sE]
  exact⟨rfl,rfl⟩
theorem zgs (hd:0<dd):QOk dd 1 (1,1):=⟨∅,AW _,∅,∅⟩
theorem zjE (cW:Big fu) (hd:0<dd) (ek:xD 4000 dd) {h i:Nat} {m:Nat} {S:Sto} {rn:Nat} {old es:List Xv} {ms:List Int} {q:Q2} {xq tr:Xv} {p:Pt2} {sx:Xv} {N:Rho->Sto->Prop} {R:Xv->Sto->Prop}
  (ih:∀(m:Nat) (S:Sto) (rn:Nat) (old:List Xv) (ms:List Int) (q:Q2) (xq:Xv),h<m->QX xq q->QOk dd 1 q->0<=q.1->q.2*p.2.2.2∣dd->S[rn]? =some (.lst old)->old.length+p.2.2.1.length<2000->ms.length+h<=999->W (xj fu m [.ref rn,.tup (ms.map Xv.int),xq,p.2.1] S) λ_ S'=>∃es,S'[rn]? =some (.lst (old++es))/\vW ms q p.2.2.1 es/\Kp (· =rn) S S')
  (hm:h<m) (hx:QX xq q) (hq:QOk dd 1 q) (hn:0<=q.1) {q1:Q2} (oV:QX sx q1) (h1:QOk dd 1 q1) (lK:wD q q1=zmK q p.1) (hok:QOk dd 1 (wD q q1)) (lG:0<=(wD q q1).1) (fJ:(wD q q1).2*p.2.2.2∣dd) (e:S[rn]? =some (.lst (old++es))) (hl:(old++es).length+p.2.2.1.length<2000) (ju:ms.length+1+h<=999)
  (k:∀S' es',S'[rn]? =some (.lst (old++(es++es')))->vW ms q (p.2.2.1.map (Prf.ext i p.1)) es'->Kp (· =rn) S S'->N [some (.ref rn),some (.tup (ms.map Xv.int)),some xq,some tr,some (.int (i:Int)),some (.tup [sx,p.2.1])] S'):
  WS (ZR (zE (xj fu m) [(ze 0),(eOp Zf (ze 1) (yI [(ze 4)])),(zE (Tu fu) [(ze 2),(eOp zy (ze 5) (eC (.int 0)))]),(eOp zy (ze 5) (eC (.int 1)))]) [some (.ref rn),some (.tup (ms.map Xv.int)),some xq,some tr,some (.int (i:Int)),some (.tup [sx,p.2.1])] S) N R:=by
 nofun
 refine WO.of (show Zf (.tup (ms.map Xv.int)) (.tup [.int (i : Int)]) S = some (.tup ((ms ++ [(i : Int)]).map Xv.int), S) by
  unfold Zf
  rw[rR]
  exact if_pos (tK (zc1 (by simp;omega)))) ?_
 nofun
 refine (zkX cW hx oV hq h1 hd ek ∅ ∅).imp ?_
 rintro _ S3 ⟨rfl,rfl⟩
 nofun
 refine (ih m S rn (old++es) (ms++[(i:Int)]) (wD q q1) _ hm (QX.qv _) hok lG fJ e hl (by simp;omega)).imp ?_
 rintro _ S4 ⟨jN,e4,iV,k4⟩
 refine k S4 jN (by rw[<-t6];exact e4) ?_ k4
 rw[lK] at iV
 exact iV.ext
theorem zmL (cW:Big fu) (hd:0<dd) (ek:xD 4000 dd) {h:Nat} {l:List Lf2} {d:Int} (r:Rt h x l d):∀(m:Nat) (S:Sto) (rn:Nat) (old:List Xv) (ms:List Int) (q:Q2) (xq:Xv),h<m->QX xq q->QOk dd 1 q->0<=q.1->q.2*d∣dd->S[rn]? =some (.lst old)->old.length+l.length<2000->ms.length+h<=999->
  W (xj fu m [.ref rn,.tup (ms.map Xv.int),xq,x] S) λ_ S'=>∃es,S'[rn]? =some (.lst (old++es))/\vW ms q l es/\Kp (· =rn) S S':=by
 induction r with
 | @fin h st g _=>
  intro m S rn old ms q xq hm hx hq hn fJ e hl ju
  obtain⟨m,rfl⟩:∃q,m=q+1:=⟨m-1,⋯⟩
  rw[wc]
  walk_at "wr";unfold wR
  refine zS ?_
  nofun
  refine xl ⟨_,rfl,λ_=> ?_,nofun⟩
  nofun
  refine Wd ?_
  nofun
  refine⟨⟨_,zR e⟩,?_⟩
  nofun
  refine zP rfl (show atI [Xv.str "end",.tup (st.map Xv.int),.int g] 2=some (.int g) from rfl) ?_
  nofun
  refine vR (xX e) (zd8 (by simp at hl;omega)) ?_
  exact⟨[_],wC e,.cons ⟨_,by rw[sI],hx⟩ .nil,(Kp.refl _).set (.inl rfl)⟩
 | @lost h g=>
  intro m S rn old ms q xq hm hx hq hn fJ e hl ju
  obtain⟨m,rfl⟩:∃q,m=q+1:=⟨m-1,⋯⟩
  rw[wc]
  walk_at "wr";unfold wR
  refine zS ?_
  nofun
  refine yo ∅ ⟨_,rfl,nofun,λ_=> ?_⟩
  refine zS ?_
  nofun
  refine xl ⟨_,rfl,λ_=> ?_,nofun⟩
  nofun
  refine Wd ?_
  nofun
  refine⟨⟨_,zR e⟩,?_⟩
  nofun
  refine vR (xX e) (zd8 (by simp at hl;omega)) ?_
  exact⟨[_],wC e,.cons ⟨_,by rw[sI],hx⟩ .nil,(Kp.refl _).set (.inl rfl)⟩
 | @draw h s ee ps _ eW lu jC _ hp ih=>
  intro m S rn old ms q xq hm hx hq hn fJ e hl ju
  obtain⟨m,rfl⟩:∃q,m=q+1:=⟨m-1,⋯⟩
  rw[wc]
  walk_at "wr";unfold wR
  refine zS ?_
  nofun
  refine yo ∅ ⟨_,rfl,nofun,λ_=> ?_⟩
  refine zS ?_
  nofun
  refine yo ∅ ⟨_,rfl,nofun,λ_=> ?_⟩
  refine wB (zg8 (zaV ?_))
  nofun
  refine zjC.imp ?_
  rintro _ S1 ⟨rfl,rfl⟩
  refine .inl ⟨_,rfl,_,rfl,?_⟩
  refine xt (λi ρ S2=>∃(a4 a5:Option Xv) (es:List Xv),ρ=[some (.ref rn),some (.tup (ms.map Xv.int)),some xq,some (.tup [.str "draw",.tup (ps.map ptY)]),a4,a5]/\S2[rn]? =some (.lst (old++es))/\vW ms q (vc 0 (ps.take i)) es/\Kp (· =rn) S S2) (λ_ _ _ _ _=>rfl) ?_ ?_ ?_
  ·rintro i w ρ S2 hw ⟨a4,a5,es,rfl,e2,rx,k2⟩
   obtain⟨x0,ex,rfl⟩:=Wc hw
   rw[rM] at ex
   cases fw:ps[i]? with
   |none=>rw[fw] at ex;cases ex
   |some p=>
    rw[fw] at ex
    cases ex
    have ed:=rX fw
    obtain⟨q1,eq1,fv,hZ,lV⟩:=hp p ed
    obtain⟨f1,f2⟩:=zc2 fw
    have rl:=rx.len
    have qp:=hq.pos
    have jr:q.2*q1.2∣dd:=t8 (uQ q.2 (t8 hZ ⟨ee,rfl⟩)) fJ
    have og:QOk dd 1 q1:=⟨fv.pos,t8 ⟨q.2,by rw[sO]⟩ jr,by have:=fv.nn;have:=fv.le;omega,fv.low⟩
    have lU:(wD q q1).2*p.2.2.2∣dd:=by
     refine t8 (tQ (zd4 (t:=q.1*q1.1) (b:=q.2*q1.2)) lV) (t8 ?_ fJ)
     rw[sC]
     exact uQ _ (tQ hZ (sX _))
    have ep:ptY p= .tup [qv q1,p.2.1]:=by unfold ptY;rw[eq1]
    rw[ep]
    refine .of rfl ?_
    dsimp only[rY]
    refine zjE cW hd ek (h:=h) (p:=p) (ih p ed) ⋯ hx hq hn (QX.qv q1) og (by rw[eq1];rfl) (zjx hq ⟨fv.pos,fv.nn,fv.le⟩ hn jr) (zjy qp fv.pos hn fv.nn) lU e2 (by rw[rV];omega) ⋯ λS4 jN e4 iV k4=> ?_
    exact⟨_,_,es++jN,rfl,e4,by rw[f1];exact rx.app iV,k2.trans k4⟩
  ·exact⟨none,none,[],rfl,by rw[sI];exact e,.nil,Kp.refl _⟩
  ·rintro ρ S2 ⟨a4,a5,es,rfl,e2,rx,k2⟩
   rw[YA,rJ,sE] at rx
   exact⟨es,e2,rx,k2⟩
 | @hand h ee ps _ eW jC _ hp ih=>
  intro m S rn old ms q xq hm hx hq hn fJ e hl ju
  obtain⟨m,rfl⟩:∃q,m=q+1:=⟨m-1,⋯⟩
  rw[wc]
  walk_at "wr";unfold wR
  refine zS ?_
  nofun
  refine yo ∅ ⟨_,rfl,nofun,λ_=> ?_⟩
  refine zS ?_
  nofun
  refine yo ∅ ⟨_,rfl,nofun,λ_=> ?_⟩
  refine wB (zg8 (zaV ?_))
  nofun
  refine (zjD (by rw[rJ];exact eW)).imp ?_
  rintro _ _ ⟨rfl,rfl⟩
  have en:=yM (S:=S) (c:=Ce.lst ((ps.map ptY).map λx=> .tup [.ct [.int 1,.int 1],x]))
  have er:=(Kp.pre (w:=λ_=>False) (rW S [Ce.lst ((ps.map ptY).map λx=> .tup [.ct [.int 1,.int 1],x])])).2 _ _ e id
  have kn:Kp (· =rn) S (S++[Ce.lst ((ps.map ptY).map λx=> .tup [.ct [.int 1,.int 1],x])]):=(Kp.refl _).app
  have ni:¬S.length=rn:=by have:=(rH.1 e).1;omega
  generalize S++[Ce.lst ((ps.map ptY).map λx=> .tup [.ct [.int 1,.int 1],x])]=S1 at en er kn ⊢
  generalize S.length=nn at en ni ⊢
  refine .inr ⟨_,rfl,zR en,_,by dsimp only;rw[zR en];rfl,?_⟩
  refine xt (λi ρ S2=>∃(a4 a5:Option Xv) (es:List Xv),ρ=[some (.ref rn),some (.tup (ms.map Xv.int)),some xq,some (.tup [.str "hand",.tup (ps.map ptY)]),a4,a5]/\S2[rn]? =some (.lst (old++es))/\S2[nn]? =some (Ce.lst ((ps.map ptY).map λx=> .tup [.ct [.int 1,.int 1],x]))/\vW ms q (vc 0 (ps.take i)) es/\Kp (· =rn) S S2) ?_ ?_ ?_ ?_
  ·rintro i ρ S2 _ ⟨a4,a5,es,rfl,e2,kq,_⟩
   rw[zR kq]
   rfl
  ·rintro i w ρ S2 hw ⟨a4,a5,es,rfl,e2,kq,rx,k2⟩
   obtain⟨x0,ex,rfl⟩:=Wc hw
   rw[rM,rM] at ex
   cases fw:ps[i]? with
   |none=>rw[fw] at ex;cases ex
   |some p=>
    rw[fw] at ex
    cases ex
    have ed:=rX fw
    obtain⟨eq1,lV⟩:=hp p ed
    obtain⟨f1,f2⟩:=zc2 fw
    have rl:=rx.len
    have m1:=zjB hq.pos hq.low
    have ep:ptY p=p.2.1:=by unfold ptY;rw[eq1]
    rw[ep]
    refine .of rfl ?_
    dsimp only[rY]
    refine zjE cW hd ek (h:=h) (p:=p) (q1:=(1,1)) (ih p ed) ⋯ hx hq hn rfl (zgs hd) (by rw[eq1,m1];rfl) (by rw[m1];exact hq) (by rw[m1];exact hn) (by rw[m1];exact t8 (uQ _ lV) fJ) e2 (by rw[rV];omega) ⋯ λS4 jN e4 iV k4=> ?_
    exact⟨_,_,es++jN,rfl,e4,k4.2 _ _ kq ni,by rw[f1];exact rx.app iV,k2.trans k4⟩
  ·exact⟨none,none,[],rfl,by rw[sI];exact er,en,.nil,kn⟩
  ·rintro ρ S2 ⟨a4,a5,es,rfl,e2,kq,rx,k2⟩
   rw[YA,rJ,rJ,sE] at rx
   exact⟨es,e2,rx,k2⟩
theorem zjF (cW:Big fu) (hd:0<dd) (ek:xD 4000 dd) {h:Nat} {l:List Lf2} (r:Rt h x l dd) (hh:h<110) (hl:l.length<2000):W (UU fu [x] S) λv S'=>∃n es,v= .ref n/\S.length<=n/\S'[n]? =some (.lst es)/\vW [] (1,1) l es/\Kp (λ_=>False) S S':=by
 walk_at "wr";unfold UT
 nofun
 refine (zmL cW hd ek r 110 (S++[.lst []]) S.length [] [] (1,1) (.ct [.int 1,.int 1]) hh rfl (zgs hd) ∅ (by rw[BJ];exact sX _) yM (by simpa using hl) (by simp;omega)).imp ?_
 rintro _ S2 ⟨es,e2,rx,k2⟩
 nofun
 rw[z9] at e2
 refine⟨_,es,rfl,rL _,e2,rx,⟨si (by simp) k2.1,λm c e _=>k2.2 m c ((Kp.pre (w:=λ_=>False) (rW _ _)).2 m c e id) (λq=>by have:=(rH.1 e).1;omega)⟩⟩
end
section
variable {fu:Nat} {S S' S2:Sto} {x y:Xv} {ln:Nat}
theorem Yc {P:Xv->Sto->Prop} {n:Nat} {l:List Xv} (h:S[n]? =some (.lst l)) (k:P (.tup l) S):WO (Yf [.ref n] S) P:= .of (by unfold Yf;dsimp only;rw[zR h];rfl) k
theorem zd9 {P:Xv->Sto->Prop} {a b:Str} (h:a.length+b.length<=sizeLine) (k:P (.str (a++b)) S):WO (To (.str a) (.str b) S) P:= .of (by unfold To;exact if_pos h) k
theorem zgt {P:Xv->Sto->Prop} {a:Str} {lo hi:Option Int} (h:a.length<=sizeLine) (k:P (.str (Txt.slice a lo hi)) S):WO (zbs (.str a) lo hi S) P:= .of (by unfold zbs;exact if_pos h) k
theorem xR {n:Nat} (h:n<=100):n<=sizeLine:=tK (zfb h)
theorem zff {z:Str} {k:Nat} (h:k<=z.length):(Txt.slice z none (some (k:Int))).length=k:=by
 have e1:y4 none (some (k:Int)) 1 z.length=tH k:=by
  unfold y4 sliceRange
  simp only[show (1:Int)>0 by decide,if_true,show ¬(k:Int)<0 by omega,if_false]
  have e2:max 0 (min (k:Int) (z.length:Int))=(k:Int):=by omega
  rw[e2]
  have e3:(if (0:Int)<(k:Int) then ((k:Int)-0+1-1) / 1 else 0).toNat=k:=by
   rw[Int.ediv_one]
   split<;>omega
  rw[e3]
  conv=>rhs;rw[<-List.map_id (tH k)]
  refine Bm λj _=> ?_
  show (0+1*(j:Int)).toNat=j
  omega
 unfold Txt.slice
 rw[e1]
 split
 ·rename_i hh
  rw[BH] at hh
  simp at hh
  exact hh.symm
 ·show (List.filterMap _ _).toArray.size=_
  rw[rO,zcT z.cps k,sV]
  show min k z.length=k
  omega
theorem yP {k:Nat} {many:Int} (hl:yU ln k S) (hm:0<many):W (zX fu [.ref ln,.int many] S) λv S'=>∃c,v= .int c/\0<=c/\c<many/\yU ln (k-1) S'/\Kp (· =ln) S S':=by
 obtain⟨ns,hk,e⟩:=id hl
 walk_at "wr";unfold WQ;nofun
 refine zS ?_
 nofun
 refine UE (zR e) ?_
 nofun
 rw[rJ]
 refine yH (λh=> ?_) (λh=> ?_)
 ·nofun
  exact⟨⋯,hm,by rw[show k-1=k by omega];exact hl,Kp.refl _⟩
 ·nofun
  refine Wd ?_
  nofun
  refine⟨⟨_,zR e⟩,?_⟩
  nofun
  have hn:ns.length-1<ns.length:=by omega
  refine WO.of (show zdy (.ref ln) [] S = some (.int ns[ns.length - 1], S.set ln (.lst (ns.dropLast.map Xv.int))) by
   unfold zdy
   rw[xX e]
   dsimp only
   rw[rJ,rM,rG hn,<-List.map_dropLast]
   rfl) ?_
  nofun
  refine vJ hm ?_
  exact⟨_,rfl,tI _ ⋯,tD _ hm,⟨_,by rw[Ba,hk],wC e⟩,(Kp.refl _).set (.inl rfl)⟩
theorem zmM {v:Int} (h0:0<=v) (h1:v<26):zeO (.str "abcdefghijklmnopqrstuvwxyz") (.int v) S=some (.str ⟨#[97+v.toNat]⟩,S):=by
 have all:∀n:Fin 26,(Str.ofString "abcdefghijklmnopqrstuvwxyz").cps.toList[n.1]? =some (97+n.1):=by decide
 obtain⟨n,rfl⟩:∃n:Nat,v=n:=⟨v.toNat,⋯⟩
 have e:=all ⟨n,⋯⟩
 unfold zeO zmi
 dsimp only
 rw[if_pos ∅,wP ⋯ (by rw[rQ];exact e)]
 rfl
theorem zjG {n:Int} {k:Nat} (hk:k<=8):W (Zn fu [.int n,.int (k:Int)] S) λv S'=>∃z:Str,v= .str z/\z.length=k/\(k=1->z=⟨#[97+(n % 26).toNat]⟩)/\S'=S:=by
 walk_at "wr";unfold WR
 nofun
 refine wB (ZC ?_)
 nofun
 refine⟨⟨⋯,⋯⟩,_,rfl,?_⟩
 refine xt (λi ρ S2=>∃(m:Int) (z:Str) (a3:Option Xv),ρ=[some (.int m),some (.int (k:Int)),some (.str z),a3]/\z.length=i/\(i=0->m=n/\z="")/\(i=1->z=⟨#[97+(n % 26).toNat]⟩)/\S2=S) (λ_ _ _ _ _=>rfl) ?_ ?_ ?_
 ·rintro i w ρ S2 hw ⟨m,z,a3,rfl,hz,h0,h1,rfl⟩
  obtain⟨hi,rfl⟩:=vQ hw
  refine .of rfl ?_
  dsimp only[rY]
  nofun
  refine vJ ∅ ?_
  refine WO.of (zmM (S:=S2) (tI m (show (26:Int)≠0 by decide)) (tD m (show (0:Int)<26 by decide))) ?_
  have hc:(⟨#[97+(m % 26).toNat]⟩:Str).length=1:=rfl
  refine zd9 (xR ⋯) ?_
  nofun
  refine zaX ∅ ?_
  nofun
  refine⟨_,_,_,rfl,by rw[Str.length_append];omega,(λh=>by omega),λh=> ?_,rfl⟩
  obtain⟨rfl,rfl⟩:=h0 ⋯
  rfl
 ·exact⟨n,_,none,rfl,rfl,λ_=>⟨rfl,rfl⟩,(λh=>by cases h),rfl⟩
 ·rintro ρ S2 ⟨m,z,a3,rfl,hz,_,h1,rfl⟩
  rw[yz,rQ] at hz h1
  nofun
  exact⟨hz,h1,rfl⟩
noncomputable def Wh (zs:List Str):List Xv:=zs.map Xv.str
theorem zgu {P:Xv->Sto->Prop} {size:Nat} {ρ:Rho} {cap:List (Option Nat)} {e n:TwE} (g:Nat->Str) (hs:size<=100)
  (hn:W (n ρ S) λv S'=>v= .int (size:Int)/\S'=S)
  (he:∀k:Nat,k<size->W (e ((ZS cap ρ).set 0 (some (.int (k:Int)))) S) λv S'=>v= .str (g k)/\S'=S)
  (k:P (.ref S.length) (S++[.lst (Wh ((tH size).map g))])):W (vf cap (iR1 n) (gN 0) vO e ρ S) P:=by
 refine xW (ZC (hn.imp ?_))
 rintro _ S1 ⟨rfl,rfl⟩
 refine⟨_,rfl,⟨⋯,⋯⟩,_,rfl,?_⟩
 refine xF (by rw[yz];exact xR ⋯) (λi es S2=>S2=S1/\es=Wh ((tH i).map g)) (λ_ _ _ _ _=>rfl) ?_ ⟨rfl,rfl⟩ ?_
 ·rintro i w es S2 hw eh ⟨rfl,rfl⟩
  obtain⟨hi,rfl⟩:=vQ hw
  rw[tM]
  refine .of rfl ?_
  nofun
  refine⟨rfl,?_⟩
  refine (he i ⋯).imp ?_
  rintro _ S3 ⟨rfl,rfl⟩
  exact⟨rfl,by rw[C0];simp[Wh]⟩
 ·rintro es S2 hlen ⟨rfl,rfl⟩
  rw[yz,rQ]
  exact k
theorem zgv {m:Nat} (g:Nat->Str) (h2:∀i j,i<j->j<m->g i≠g j):((tH m).map g).Nodup:=by
 rw[List.nodup_iff_pairwise_ne,BI]
 exact Cb (R:=λa b=>a<b) (λ{a b} ha hb fT=>h2 a b fT (ur.1 hb)) List.pairwise_lt_range
noncomputable def Xr:List Str:=["pass","end","lost","set","hand","draw","if","gain","while","look","times","leaf","fork"]
theorem zk0 {m k:Nat} (hl:yU ln k S) (hm:m<=9):W (XE fu [.ref ln,.int (m:Int)] S) λv S'=>∃(n:Nat) (zs:List Str) (k':Nat),v= .ref n/\zs.length=m/\zs.Nodup/\S'[n]? =some (.lst (Wh zs))/\S.length<=n/\yU ln k' S'/\k'<=k/\Kp (· =ln) S S':=by
 walk_at "wr";unfold XD
 nofun
 refine (yP hl ∅).imp ?_
 rintro _ S1 ⟨way,rfl,w0,w1,l1,k1⟩
 nofun
 refine zS ?_
 nofun
 refine yH (λhc=> ?_) (λhc=> ?_)
 ·nofun
  refine (yP l1.app ∅).imp ?_
  rintro _ S2 ⟨tn,rfl,t0,t1,l2,k2⟩
  refine xm ?_
  have hn:¬S1.length=ln:=by have:=l1.lt;omega
  have e2:=k2.2 _ _ yM hn
  have lH:∀i j:Fin 13,Xr[i.1]? =Xr[j.1]? ->i=j:=by decide
  have hw:∀i:Nat,i<13->Xr[i]? =some (Xr.getD i ""):=λi hi=>by
   rw[sS,rG (show i<Xr.length from hi)]
   rfl
  refine zgu (λj=>Xr.getD ((tn+(j:Int)) % 13).toNat "") (size:=m) ⋯ (by nofun;exact⟨rfl,rfl⟩) ?_ ?_
  ·intro k hk
   dsimp only[ZS,tG,rY]
   nofun
   refine vJ ∅ ?_
   have h0:=tI (tn+(k:Int)) (show (13:Int)≠0 by decide)
   have h1:=tD (tn+(k:Int)) (show (0:Int)<13 by decide)
   have e3:(Xr.map Xv.str)[((tn+(k:Int)) % 13).toNat]? =some (.str (Xr.getD ((tn+(k:Int)) % 13).toNat "")):=by rw[rM,hw _ ⋯];rfl
   exact zah (zR e2) (wP h0 e3) ⟨rfl,rfl⟩
  ·have kk:=k1.trans ((Kp.pre (rW _ _)).trans k2)
   refine⟨_,_,_,rfl,by simp,zgv _ λi j nF hj e=> ?_,yM,kk.1,l2.app,⋯,kk.app⟩
   have h0:=tI (tn+(i:Int)) (show (13:Int)≠0 by decide)
   have h1:=tD (tn+(i:Int)) (show (0:Int)<13 by decide)
   have h2:=tI (tn+(j:Int)) (show (13:Int)≠0 by decide)
   have h3:=tD (tn+(j:Int)) (show (0:Int)<13 by decide)
   have:=lH ⟨((tn+(i:Int)) % 13).toNat,⋯⟩ ⟨((tn+(j:Int)) % 13).toNat,⋯⟩ (by
    dsimp only
    rw[hw _ ⋯,hw _ ⋯]
    exact congrArg some e)
   have:=congrArg Fin.val this
   dsimp only at this
   omega
 ·nofun
  refine (yP l1 ∅).imp ?_
  rintro _ S2 ⟨c,rfl,c0,c1,l2,k2⟩
  nofun
  refine (zjG (k:=8) ∅).imp ?_
  rintro _ S3 ⟨z,rfl,hz,_,rfl⟩
  have kk:=k1.trans k2
  refine zG (zS (Yg ?_))
  nofun
  have go:∀{N:Rho->Sto->Prop} {R:Xv->Sto->Prop},(∀S4 k4,yU ln k4 S4->k4<=k->Kp (· =ln) S S4->∀zs:List Str,zs.length=m->zs.Nodup->R (.ref S4.length) (S4++[.lst (Wh zs)]))->WS (zD (zO (zE (zX fu) [(ze 0),(eC (.int 1664))]) (gN 6)) (zD (zO (eOp xZ (eC (.int 1)) (eOp YI (ze 6) (eC (.int 8)))) (gN 7)) (zD (zO (eOp YI (eOp Tl (ze 6) (eC (.int 8))) (ze 7)) (gN 8)) (ye (vf [none,some 5,some 7,some 8,some 6] (iR1 (ze 1)) (gN 0) vO (eOp To (eOp To (eSl zbs (ze 1) oNo (Yn (ze 3))) (zE (Zn fu) [(eOp xZ (eOp Tl (ze 4) (eC (.int 64))) (ze 0)),(eC (.int 1))])) (eSl zbs (ze 1) (Yn (eOp xZ (ze 3) (eC (.int 1)))) (Yn (ze 2)))))))) [some (.ref ln),some (.int (m:Int)),some (.int way),none,none,some (.str z),none,none,none] S3) N R:=by
   intro N R fin
   nofun
   refine (yP l2 ∅).imp ?_
   rintro _ S4 ⟨d,rfl,d0,d1,l4,k4⟩
   nofun
   refine vJ ∅ ?_
   nofun
   refine zaX ∅ ?_
   nofun
   have:=tI d (show (8:Int)≠0 by decide)
   refine vJ ⋯ ?_
   refine xm ?_
   refine zgu (λj=>Txt.slice z none (some (d / 8 % (1+d % 8)))++(⟨#[97+((d / 64+(j:Int)) % 26).toNat]⟩:Str)++Txt.slice z (some (d / 8 % (1+d % 8)+1)) (some (1+d % 8))) (size:=m) ⋯ (by nofun;exact⟨rfl,rfl⟩) ?_ ?_
   ·intro k hk
    dsimp only[ZS,tG,rY]
    nofun
    refine zgt (xR ⋯) ?_
    nofun
    refine zaX ∅ ?_
    nofun
    refine (zjG (k:=1) ∅).imp ?_
    rintro _ S5 ⟨z1,rfl,jn,kQ,rfl⟩
    have s1:=Txt.slice_le z none (some (d / 8 % (1+d % 8)))
    refine zd9 (xR ⋯) ?_
    nofun
    refine zgt (xR ⋯) ?_
    have s2:=Txt.slice_le z (some (d / 8 % (1+d % 8)+1)) (some (1+d % 8))
    refine zd9 (xR (by rw[Str.length_append];omega)) ?_
    rw[kQ rfl]
    exact⟨rfl,rfl⟩
   ·refine fin S4 _ l4 ⋯ (kk.trans k4) _ (by simp) (zgv _ λi j nF hj e=> ?_)
    have e2:=congrArg (λs:Str=>s.cps.toList) e
    have gR:∀a b:Str,(a++b).cps.toList=a.cps.toList++b.cps.toList:=λa b=>Array.toList_append
    try dsimp only at e2
    rw[gR,gR,gR,gR,t6,t6] at e2
    have e3:=List.append_cancel_left e2
    have e4:=(List.cons.inj e3).1
    omega
  have fin:∀S4 k4,yU ln k4 S4->k4<=k->Kp (· =ln) S S4->∀zs:List Str,zs.length=m->zs.Nodup->∃(n:Nat) (zs':List Str) (k':Nat),Xv.ref S4.length= .ref n/\zs'.length=m/\zs'.Nodup/\(S4++[Ce.lst (Wh zs)])[n]? =some (.lst (Wh zs'))/\S.length<=n/\yU ln k' (S4++[Ce.lst (Wh zs)])/\k'<=k/\Kp (· =ln) S (S4++[Ce.lst (Wh zs)]):=λS4 k4 l4 lN q4 zs hz nd=>⟨_,zs,k4,rfl,hz,nd,yM,q4.1,l4.app,lN,q4.app⟩
  refine yH (λh2=> ?_) (λh2=> ?_)
  ·nofun
   refine yH (λh3=> ?_) (λh3=>zF (go fin))
   refine xm ?_
   refine zgu (λj=>Txt.slice z none (some ((j:Int)+1))) (size:=m) ⋯ (by nofun;exact⟨rfl,rfl⟩) ?_ ?_
   ·intro k hk
    dsimp only[ZS,tG,rY]
    nofun
    exact zgt (xR ⋯) ⟨rfl,rfl⟩
   ·refine fin _ _ l2 ⋯ kk _ (by simp) (zgv _ λi j nF hj e=> ?_)
    have:=congrArg Str.length e
    have e1:=zff (z:=z) (k:=i+1) ⋯
    have e2:=zff (z:=z) (k:=j+1) ⋯
    rw[Int.natCast_add,Int.natCast_one] at e1 e2
    rw[e1,e2] at this
    omega
  ·exact⟨nofun,λ_=>zF (go fin)⟩
noncomputable def zjH (b:Str×Nat):Xv:= .tup [.str b.1,.int (b.2:Int)]
noncomputable def bsX (bs:List (Str×Nat)):List Xv:=bs.map zjH
structure BOk (bs:List (Str×Nat)):Prop where
 len:bs.length<=9
 siz:∀b∈bs,1<=b.2/\b.2<=9
 nd:(bs.map (·.1)).Nodup
theorem ve (bs:List (Str×Nat)):(bsX bs).length=bs.length:=by simp[bsX]
theorem zaq {bs:List (Str×Nat)} {i:Nat} {b:Str×Nat} (h:bs[i]? =some b):(bsX bs)[i]? =some (zjH b):=by unfold bsX;rw[rM,h];rfl
theorem XS {p:Int} (h:p.natAbs<2^60):intBits p<=60:=z8.mpr h
theorem zk1 {k:Nat} {most:Int} (nB:1<=most/\most<=1000) (hl:yU ln k S):W (XG fu [.ref ln,.int most] S) λv S'=>∃(bs:List (Str×Nat)) (k':Nat),v= .tup (bsX bs)/\BOk bs/\yU ln k' S'/\k'<=k/\Kp (· =ln) S S':=by
 obtain⟨mo,rfl⟩:∃m:Nat,most=(m:Int):=⟨most.toNat,⋯⟩
 walk_at "wr";unfold XF
 nofun
 refine (yP hl ∅).imp ?_
 rintro _ S1 ⟨c,rfl,c0,c1,l1,k1⟩
 nofun
 refine Vw (λρ S2=>∃m:Nat,m<=9/\ρ=[some (.ref ln),some (.int (mo:Int)),some (.int (m:Int)),none,none,none,none]/\S2=S1) (zS ?_) ?_
 ·nofun
  refine yH (λhc=> ?_) (λhc=> ?_)
  ·nofun
   refine vJ ∅ ?_
   nofun
   have h0:=tI c (show (3:Int)≠0 by decide)
   have h1:=tD c (show (0:Int)<3 by decide)
   exact⟨(1+c % 3).toNat,⋯,by rw[uX ⋯],rfl⟩
  ·exact zF ⟨c.toNat,⋯,by rw[uX ⋯],rfl⟩
 rintro _ _ ⟨m,hm,rfl,rfl⟩
 nofun
 refine wB (zgZ ?_)
 nofun
 refine (zk0 l1 hm).imp ?_
 rintro _ S2 ⟨n,zs,eV,rfl,hz,lH,e2,hn,l2,fA,k2⟩
 have qT:=l1.lt
 refine⟨_,zR e2,_,zR e2,?_⟩
 refine xt (xs:=Wh zs) (λi ρ S3=>∃(bs:List (Str×Nat)) (p k3:Nat) (a5 a6:Option Xv),ρ=[some (.ref ln),some (.int (mo:Int)),some (.int (m:Int)),some (.tup (bsX bs)),some (.int (p:Int)),a5,a6]/\bs.map (·.1)=zs.take i/\(∀b∈bs,1<=b.2/\b.2<=9)/\1<=p/\p<=mo/\yU ln k3 S3/\k3<=k/\Kp (· =ln) S2 S3) ?_ ?_ ?_ ?_
 ·rintro i ρ S3 _ ⟨bs,p,_,a5,a6,_,_,_,_,_,l3,_,k3⟩
  exact zR (k3.2 _ _ e2 (show ¬n=ln by omega))
 ·rintro i w ρ S3 hw ⟨bs,p,mG,a5,a6,rfl,j7,lX,p0,p1,l3,fV,k3⟩
  unfold Wh at hw
  rw[rM] at hw
  cases ka:zs[i]? with
  |none=>rw[ka] at hw;cases hw
  |some z=>
   rw[ka] at hw
   cases hw
   have hi:i<zs.length:=(rH.1 ka).1
   have qd:bs.length=i:=by
    have:=congrArg ug j7
    rw[rJ,sV] at this
    omega
   refine .of rfl ?_
   dsimp only[rY]
   nofun
   refine (yP l3 ∅).imp ?_
   rintro _ S4 ⟨d,rfl,d0,d1,l4,k4⟩
   nofun
   refine Vw (λρ S5=>∃d':Int,1<=d'/\d'<=9/\ρ=[some (.ref ln),some (.int (mo:Int)),some (.int (m:Int)),some (.tup (bsX bs)),some (.int (p:Int)),some (.str z),some (.int d')]/\S5=S4) (zS (Yg ?_)) ?_
   ·nofun
    have go:WS ((zO (eOp xZ (eC (.int 1)) (eOp YI (ze 6) (eC (.int 3)))) (gN 6)) [some (.ref ln),some (.int (mo:Int)),some (.int (m:Int)),some (.tup (bsX bs)),some (.int (p:Int)),some (.str z),some (.int (1+d))] S4) (λρ S5=>∃d':Int,1<=d'/\d'<=9/\ρ=[some (.ref ln),some (.int (mo:Int)),some (.int (m:Int)),some (.tup (bsX bs)),some (.int (p:Int)),some (.str z),some (.int d')]/\S5=S4) (λ_ _=>False):=by
     nofun
     refine vJ ∅ ?_
     nofun
     have h0:=tI (1+d) (show (3:Int)≠0 by decide)
     have h1:=tD (1+d) (show (0:Int)<3 by decide)
     exact⟨_,⋯,⋯,rfl,rfl⟩
    refine yH (λh1=> ?_) (λh1=>⟨nofun,λ_=>zF ⟨_,⋯,⋯,rfl,rfl⟩⟩)
    nofun
    refine yH (λh2=> ?_) (λh2=>zF ⟨_,⋯,⋯,rfl,rfl⟩)
    rcases go with h|⟨_,_,_,z⟩
    ·exact .inl h
    ·exact z.elim
   rintro _ S5 ⟨d',q5,r0,rfl,pV⟩
   subst pV
   nofun
   refine Wf ⟨⋯,si (XS ⋯) ∅⟩ ?_
   rw[tT _ ⋯]
   nofun
   have q0:1<=mo / p:=(Nat.le_div_iff_mul_le ⋯).2 ⋯
   have q1:p*(mo / p)<=mo:=Nat.mul_div_le mo p
   rw[show (mo:Int) / (p:Int)=((mo / p:Nat):Int) by rw[Int.natCast_ediv]]
   generalize hs:(if ((mo / p:Nat):Int)<d' then ((mo / p:Nat):Int) else d')=sz
   obtain⟨s,rfl⟩:∃s:Nat,sz=(s:Int):=⟨sz.toNat,by split at hs<;>omega⟩
   have hJ:1<=s/\s<=9/\s<=mo / p:=by split at hs<;>omega
   refine WO.of (show Zf (.tup (bsX bs)) (.tup [.tup [.str z, .int (s : Int)]]) S5 = some (.tup (bsX bs ++ [.tup [.str z, .int (s : Int)]]), S5) by
    unfold Zf
    exact if_pos (by rw[ve];exact xR (by simp;omega))) ?_
   nofun
   have eO:p*s<=mo:=si (uY p hJ.2.2) q1
   refine wo (by have:=XS (p:=(p:Int)) ⋯;have:=XS (p:=(s:Int)) ⋯;omega) ?_
   nofun
   refine⟨bs++[(z,s)],p*s,_,_,_,by rw[uk,show bsX (bs++[(z,s)])=bsX bs++[.tup [.str z,.int (s:Int)]] by simp[bsX,zjH]],by rw[rR,j7,xg ka];rfl,?_,uT p0 hJ.1,eO,l4,⋯,k3.trans k4⟩
   intro b hb
   rcases sN.1 hb with hb|hb
   ·exact lX b hb
   ·rw[sD] at hb
    subst hb
    exact⟨hJ.1,hJ.2.1⟩
 ·exact⟨[],1,eV,none,none,rfl,rfl,(λb hb=>by cases hb),∅,⋯,l2,⋯,Kp.refl _⟩
 ·rintro ρ S3 ⟨bs,p,mG,a5,a6,rfl,j7,lX,p0,p1,l3,fV,k3⟩
  nofun
  have e:(Wh zs).length=zs.length:=by simp[Wh]
  rw[e,sE] at j7
  refine⟨bs,mG,rfl,⟨?_,lX,by rw[j7];exact lH⟩,l3,fV,(k1.trans k2).trans k3⟩
  have:=congrArg ug j7
  rw[rJ] at this
  omega
def SOk (bs:List (Str×Nat)) (st:List Int):Prop:=st.length=bs.length/\∀k∈st,0<=k/\k<1000000000
theorem zk2 {bs:List (Str×Nat)} {k:Nat} (hl:yU ln k S) (hb:BOk bs):W (XI fu [.ref ln,.tup (bsX bs)] S) λv S'=>∃(st:List Int) (k':Nat),v= .tup (st.map Xv.int)/\SOk bs st/\yU ln k' S'/\k'<=k/\Kp (· =ln) S S':=by
 have gQ:=hb.len
 walk_at "wr";unfold XH
 refine xm (Vv (xV (xW (We ?_))))
 nofun
 refine xF (by rw[ve];exact xR ⋯) (λi es S2=>∃(st:List Int) (k2:Nat),es=st.map Xv.int/\(∀k∈st,0<=k/\k<1000000000)/\yU ln k2 S2/\k2<=k/\Kp (· =ln) S S2) (λ_ _ _ _ _=>rfl) ?_ ⟨[],k,rfl,(λk hk=>by cases hk),hl,rL _,Kp.refl _⟩ ?_
 ·rintro i w es S2 hw eh ⟨st,eV,rfl,g7,l2,fA,k2⟩
  unfold bsX at hw
  rw[rM] at hw
  cases iN:bs[i]? with
  |none=>rw[iN] at hw;cases hw
  |some b=>
   rw[iN] at hw
   cases hw
   have gj:=hb.siz b (rX iN)
   refine .of rfl ?_
   dsimp only[ZS,tG,rY]
   nofun
   refine⟨rfl,?_⟩
   nofun
   refine zP rfl Yo ?_
   nofun
   refine (yP l2 ⋯).imp ?_
   rintro _ S3 ⟨c,rfl,c0,c1,l3,k3⟩
   refine⟨st++[c],_,by rw[rR];rfl,λq hq=> ?_,l3,⋯,k2.trans k3⟩
   rcases sN.1 hq with hq|hq
   ·exact g7 q hq
   ·rw[sD.1 hq];omega
 ·rintro es S2 hlen ⟨st,eV,rfl,g7,l2,fA,k2⟩
  rw[rJ,ve] at hlen
  nofun
  refine Yc yM ?_
  exact⟨st,eV,rfl,⟨hlen,g7⟩,l2.app,fA,k2.app⟩
end
section
variable {fu:Nat} {S S' S2:Sto} {x y:Xv} {bs:List (Str×Nat)} {st:List Int}
def Op (bs:List (Str×Nat)) (o:Xv):Prop:=(∃k:Int,o= .int k/\0<=k/\k<1000000000)\/∃(i:Nat) (nm:Str) (s:Nat),o= .str nm/\bs[i]? =some (nm,s)
inductive Wo (bs:List (Str×Nat)) (st:List Int):Xv->Int->Prop
 |num {k:Int}:0<=k->k<1000000000->Wo bs st (.int k) k
 |box {i s:Nat} {nm:Str} {k:Int}:bs[i]? =some (nm,s)->st[i]? =some k->Wo bs st (.str nm) k
theorem Wo.of {o:Xv} (h:Op bs o) (hs:SOk bs st):∃k,Wo bs st o k:=by
 rcases h with⟨k,rfl,h0,h1⟩|⟨i,nm,s,rfl,e⟩
 ·exact⟨k,.num h0 h1⟩
 ·have hi:i<st.length:=by rw[hs.1];exact (rH.1 e).1
  exact⟨_,.box e (rG hi)⟩
theorem Wo.bd {o:Xv} {k:Int} (h:Wo bs st o k) (hs:SOk bs st):0<=k/\k<1000000000:=by
 cases h with
 |num h0 h1=>exact⟨h0,h1⟩
 |box _ e=>exact hs.2 k (rX e)
theorem zk3 {i s:Nat} {nm:Str} (hb:BOk bs) (e:bs[i]? =some (nm,s)):List.findIdx? (λw=>zcp w (.str nm)) (bs.map λb=>Xv.str b.1)=some i:=by
 rw[y3]
 obtain⟨hi,ei⟩:=rH.1 e
 have eq:∀a:Str,zcp (.str a) (.str nm)=decide (a=nm):=λa=>by
  show (a==nm)=decide (a=nm)
  rw[tY];simp
 refine⟨by simpa using hi,?_,λj hj=> ?_⟩
 ·rw[t4,eq,ei]
  exact decide_eq_true rfl
 ·rw[t4,eq]
  have kl:j<bs.length:=Nat.lt_trans hj hi
  have ne:bs[j].1≠nm:=λz=>by
   have nd:=uq.1 hb.nd j i (by simpa using kl) (by simpa using hi) hj
   rw[t4,t4,ei] at nd
   exact nd z
  rw[decide_eq_false ne]
  simp
theorem zha {i s:Nat} {nm:Str} (hb:BOk bs) (e:bs[i]? =some (nm,s)):W (Xi fu [.tup (bsX bs),.str nm] S) λv S'=>v= .int (i:Int)/\S<+:S':=by
 have gQ:=hb.len
 walk_at "wr";unfold VQ
 refine xm (Wd (xW (We ?_)))
 nofun
 refine xF (xs:=bsX bs) (by rw[ve];exact xR ⋯) (λi es S2=>S2=S/\es=(bs.take i).map λb=>Xv.str b.1) (λ_ _ _ _ _=>rfl) ?_ ⟨rfl,rfl⟩ ?_
 ·rintro i w es S2 hw eh ⟨rfl,rfl⟩
  unfold bsX at hw
  rw[rM] at hw
  cases iN:bs[i]? with
  |none=>rw[iN] at hw;cases hw
  |some b=>
   rw[iN] at hw
   cases hw
   refine .of rfl ?_
   dsimp only[ZS,tG,rY]
   nofun
   refine⟨rfl,?_⟩
   nofun
   refine zP rfl ZX ?_
   exact⟨rfl,by rw[xg iN,rR];rfl⟩
 ·rintro es S2 _ ⟨rfl,rfl⟩
  refine⟨⟨_,Wg⟩,?_⟩
  nofun
  rw[ve,sE]
  refine zjj (k:=i) (xX yM) ?_ (zk3 hb e) ⟨rfl,rW _ _⟩
  rw[tL,ub]
  refine⟨rfl,λw hw=> ?_⟩
  obtain⟨b,_,rfl⟩:=sQ.1 hw
  rfl
theorem zjI {i:Nat} {k:Int} (h:st[i]? =some k):atI (st.map Xv.int) (i:Int)=some (.int k):=wP ⋯ (by rw[rQ,rM,h];rfl)
theorem Uj {o:Xv} {k:Int} (hb:BOk bs) (h:Wo bs st o k):W (Zl fu [.tup (bsX bs),.tup (st.map Xv.int),o] S) λv S'=>v= .int k/\S<+:S':=by
 walk_at "wr";unfold zbS
 refine zG (zS ?_)
 nofun
 cases h with
 |num h0 h1=>
  refine xh (v:=false) rfl ?_
  refine⟨_,rfl,nofun,λ_=>zF ?_⟩
  nofun
  exact⟨rfl,ud _⟩
 |box e1 e2=>
  refine xh (v:=true) rfl ?_
  refine⟨_,rfl,λ_=> ?_,nofun⟩
  nofun
  refine (zha hb e1).imp ?_
  rintro _ S2 ⟨rfl,p⟩
  exact zP rfl (zjI e2) ⟨rfl,p⟩
def Te (bs:List (Str×Nat)) (t:Xv):Prop:=∃o1 o2,∃sg:Str,t= .tup [o1,.str sg,o2]/\Op bs o1/\Op bs o2
noncomputable def tst (sg:Str) (a b:Int):Bool:=if sg="=" then decide (a=b) else if sg="<" then decide (a<b) else !decide (a=b)
def He (bs:List (Str×Nat)) (st:List Int) (t:Xv) (b:Bool):Prop:=∃o1 o2,∃sg:Str,∃k1 k2,t= .tup [o1,.str sg,o2]/\Wo bs st o1 k1/\Wo bs st o2 k2/\b=tst sg k1 k2
theorem He.of {t:Xv} (h:Te bs t) (hs:SOk bs st):∃b,He bs st t b:=by
 obtain⟨o1,o2,sg,rfl,h1,h2⟩:=h
 obtain⟨k1,w1⟩:=Wo.of h1 hs
 obtain⟨k2,w2⟩:=Wo.of h2 hs
 exact⟨_,o1,o2,sg,k1,k2,rfl,w1,w2,rfl⟩
theorem zhb {t:Xv} {b:Bool} (hb:BOk bs) (h:He bs st t b):W (ZZ fu [.tup (bsX bs),.tup (st.map Xv.int),t] S) λv S'=>v= .bl b/\S<+:S':=by
 obtain⟨o1,o2,sg,k1,k2,rfl,w1,w2,rfl⟩:=h
 walk_at "wr";unfold zbT
 nofun
 refine (Uj hb w1).imp ?_
 rintro _ S2 ⟨rfl,p2⟩
 nofun
 refine zP rfl (show atI [o1,Xv.str sg,o2] 2=some o2 from rfl) ?_
 nofun
 refine (Uj hb w2).imp ?_
 rintro _ S3 ⟨rfl,p3⟩
 nofun
 unfold tst
 refine zS ?_
 nofun
 refine wG ⟨_,rfl,λh=> ?_,λh=>zF ?_⟩
 ·have h:=of_decide_eq_true h
  nofun
  exact⟨by rw[if_pos h],p2.trans p3⟩
 ·have h:=of_decide_eq_false h
  refine zG (zS ?_)
  nofun
  refine wG ⟨_,rfl,λh2=> ?_,λh2=>zF ?_⟩
  ·have h2:=of_decide_eq_true h2
   nofun
   exact⟨by rw[if_neg h,if_pos h2],p2.trans p3⟩
  ·have h2:=of_decide_eq_false h2
   nofun
   exact⟨by rw[if_neg h,if_neg h2],p2.trans p3⟩
def Rk (bs:List (Str×Nat)) (r:Xv):Prop:=(∃o,r= .tup [o]/\Op bs o)\/∃o1 o2,∃sg:Str,r= .tup [o1,.str sg,o2]/\Op bs o1/\Op bs o2/\(sg="+"\/sg="-"\/sg="*")
inductive Re (bs:List (Str×Nat)) (st:List Int):Xv->Int->Prop
 |one {o:Xv} {k:Int}:Wo bs st o k->Re bs st (.tup [o]) k
 |add {o p:Xv} {k m:Int}:Wo bs st o k->Wo bs st p m->Re bs st (.tup [o,.str "+",p]) (k+m)
 |sub {o p:Xv} {k m:Int}:Wo bs st o k->Wo bs st p m->Re bs st (.tup [o,.str "-",p]) (k-m)
 |mul {o p:Xv} {k m:Int}:Wo bs st o k->Wo bs st p m->Re bs st (.tup [o,.str "*",p]) (k*m)
theorem Re.of {r:Xv} (h:Rk bs r) (hs:SOk bs st):∃k,Re bs st r k:=by
 rcases h with⟨o,rfl,h⟩|⟨o1,o2,sg,rfl,h1,h2,oZ⟩
 ·obtain⟨k,w⟩:=Wo.of h hs
  exact⟨k,.one w⟩
 ·obtain⟨k1,w1⟩:=Wo.of h1 hs
  obtain⟨k2,w2⟩:=Wo.of h2 hs
  rcases oZ with rfl|rfl|rfl
  ·exact⟨_,.add w1 w2⟩
  ·exact⟨_,.sub w1 w2⟩
  ·exact⟨_,.mul w1 w2⟩
theorem zhc {k m:Int} (h1:0<=k/\k<1000000000) (h2:0<=m/\m<1000000000):intBits k+intBits m<=134217728:=by
 have:=XS (p:=k) ⋯
 have:=XS (p:=m) ⋯
 omega
theorem zmN {r:Xv} {k:Int} (hb:BOk bs) (hs:SOk bs st) (h:Re bs st r k):W (vU fu [.tup (bsX bs),.tup (st.map Xv.int),r] S) λv S'=>v= .int k/\S<+:S':=by
 have three:∀{o1 o2:Xv} {sg:Str} {k1 k2:Int},Wo bs st o1 k1->Wo bs st o2 k2->W (vU fu [.tup (bsX bs),.tup (st.map Xv.int),.tup [o1,.str sg,o2]] S) λv S'=>v= .int (if sg="+" then k1+k2 else if sg="-" then k1-k2 else k1*k2)/\S<+:S':=by
  intro o1 o2 sg k1 k2 w1 w2
  walk_at "wr";unfold Xj
  nofun
  refine (Uj hb w1).imp ?_
  rintro _ S2 ⟨rfl,p2⟩
  nofun
  refine zS ?_
  nofun
  refine WO.of (show yX [Xv.tup [o1,.str sg,o2]] S2=some (.int 3,S2) from rfl) ?_
  nofun
  refine⟨λz=>absurd z ∅,λ_=>zF ?_⟩
  nofun
  refine zP rfl (show atI [o1,Xv.str sg,o2] 2=some o2 from rfl) ?_
  nofun
  refine (Uj hb w2).imp ?_
  rintro _ S3 ⟨rfl,p3⟩
  nofun
  refine zS ?_
  nofun
  refine wG ⟨_,rfl,λh=> ?_,λh=>zF ?_⟩
  ·have h:=of_decide_eq_true h
   nofun
   exact⟨by rw[if_pos h],p2.trans p3⟩
  ·have h:=of_decide_eq_false h
   refine zG (zS ?_)
   nofun
   refine wG ⟨_,rfl,λh2=> ?_,λh2=>zF ?_⟩
   ·have h2:=of_decide_eq_true h2
    nofun
    exact⟨by rw[if_neg h,if_pos h2],p2.trans p3⟩
   ·have h2:=of_decide_eq_false h2
    nofun
    refine wo (zhc (w1.bd hs) (w2.bd hs)) ?_
    exact⟨by rw[if_neg h,if_neg h2],p2.trans p3⟩
 cases h with
 | @one o _ w=>
  walk_at "wr";unfold Xj
  nofun
  refine (Uj hb w).imp ?_
  rintro _ S2 ⟨rfl,p2⟩
  nofun
  refine zS ?_
  nofun
  refine WO.of (show yX [Xv.tup [o]] S2=some (.int 1,S2) from rfl) ?_
  nofun
  refine⟨λ_=> ?_,λz=>absurd z ∅⟩
  nofun
  exact⟨rfl,p2⟩
 |add w1 w2=>exact three w1 w2
 |sub w1 w2=>exact three w1 w2
 |mul w1 w2=>exact three w1 w2
def Pu (bs:List (Str×Nat)) (st:List Int) (nm:Str) (k:Int) (st':List Int):Prop:=∃(i s:Nat),bs[i]? =some (nm,s)/\st'=st.set i (k % (s:Int))
theorem Pu.ok {nm:Str} {k:Int} {st':List Int} (h:Pu bs st nm k st') (hb:BOk bs) (hs:SOk bs st):SOk bs st':=by
 obtain⟨i,s,e,rfl⟩:=h
 have h1:=hb.siz _ (rX e)
 refine⟨by rw[uZ];exact hs.1,λq hq=> ?_⟩
 rcases Am hq with hq|rfl
 ·exact hs.2 q hq
 ·have h2:=tI k (show (s:Int)≠0 by have:=h1.1;dsimp only at this;omega)
  have h3:=tD k (show (0:Int)<(s:Int) by have:=h1.1;dsimp only at this;omega)
  have:=h1.2
  dsimp only at this
  omega
theorem zk4 {α:Type} {l:List α} {i:Nat} {a:α} (h:i<l.length):L2.Wv l none (some (i:Int))++[a]++L2.Wv l (some ((i:Int)+1)) none=l.set i a:=by
 have e1:HT.sIx l.length 0 none=0:=rfl
 have e2:HT.sIx l.length l.length (some (i:Int))=i:=by
  unfold HT.sIx
  simp only[Cd]
  rw[if_neg ⋯]
  omega
 have e3:HT.sIx l.length 0 (some ((i:Int)+1))=i+1:=by
  unfold HT.sIx
  simp only[Cd]
  rw[if_neg ⋯]
  omega
 have e4:HT.sIx l.length l.length none=l.length:=rfl
 unfold L2.Wv
 rw[e1,e2,e3,e4,A5,Bw,List.take_of_length_le (l:=l.drop (i+1)) (by rw[uM];omega),List.set_eq_take_append_cons_drop,if_pos h,t6]
 rfl
theorem zb4 {P:Xv->Sto->Prop} {l:List Xv} {lo hi:Option Int} (k:P (.tup (L2.Wv l lo hi)) S):WO (zaJ (.tup l) lo hi S) P:= .of (by unfold zaJ;rfl) k
theorem zfg {α:Type} (l:List α) (lo hi:Option Int):(L2.Wv l lo hi).length<=l.length:=by
 unfold L2.Wv
 rw[sV,uM]
 omega
theorem Xs {P:Xv->Sto->Prop} {a b:List Xv} (h:a.length+b.length<=999) (k:P (.tup (a++b)) S):WO (Zf (.tup a) (.tup b) S) P:= .of (by
 unfold Zf
 exact if_pos (tK (zc1 h))) k
theorem zlF {nm:Str} {k:Int} {st':List Int} (hb:BOk bs) (hs:SOk bs st) (h:Pu bs st nm k st'):W (vV fu [.tup (bsX bs),.tup (st.map Xv.int),.str nm,.int k] S) λv S'=>v= .tup (st'.map Xv.int)/\S<+:S':=by
 obtain⟨i,s,e,rfl⟩:=h
 have gQ:=hb.len
 have eN:=hb.siz _ (rX e)
 have hi:i<st.length:=by rw[hs.1];exact (rH.1 e).1
 have hl:=hs.1
 walk_at "wr";unfold VS
 nofun
 refine (zha hb e).imp ?_
 rintro _ S2 ⟨rfl,p⟩
 nofun
 refine zP rfl (wP ⋯ (by rw[rQ];exact zaq e)) ?_
 nofun
 refine zP rfl Yo ?_
 nofun
 refine zb4 ?_
 nofun
 refine vJ (by have:=eN.1;dsimp only at this;omega) ?_
 nofun
 have c1:=zfg (st.map Xv.int) none (some (i:Int))
 have c2:=zfg (st.map Xv.int) (some ((i:Int)+1)) none
 rw[rJ] at c1 c2
 refine Xs (by simp;omega) ?_
 nofun
 refine zb4 ?_
 refine Xs (by rw[rV];simp;omega) ?_
 refine⟨?_,p⟩
 rw[zk4 (by simpa using hi),<-Av]
end
section
variable {fu:Nat} {S S' S2:Sto} {x y:Xv} {bs:List (Str×Nat)} {st:List Int}
theorem xw {l:List Xv}:yX [Xv.tup l] S=some (.int (l.length:Int),S):=rfl
theorem Wi {o:Xv} {k:Int} (hb:BOk bs) (h:Wo bs st o k):W (xz fu [.tup (bsX bs),.tup (st.map Xv.int),o] S) λv S'=>v= .int k/\S=S':=by
 have gQ:=hb.len
 walk_at "wr";unfold XJ
 refine zG (wB (ZC ?_))
 nofun
 refine WO.of xw ?_
 rw[ve]
 refine⟨_,rfl,⟨⋯,⋯⟩,_,rfl,?_⟩
 rw[rQ]
 have one:∀{j:Nat} (hj:j<bs.length),atI (bsX bs) ((0:Int)+(j:Int))=some (zjH bs[j]):=λ{j} hj=>by
  rw[tM]
  exact wP ⋯ (by rw[rQ];exact zaq (rG hj))
 cases h with
 | @num k h0 h1=>
  refine xt (xs:=xO 0 bs.length) (λi ρ S2=>∃a3,ρ=[some (.tup (bsX bs)),some (.tup (st.map Xv.int)),some (.int k),a3]/\S=S2) (λ_ _ _ _ _=>rfl) ?_ ⟨none,rfl,rfl⟩ ?_
  ·rintro j w ρ _ hw ⟨a3,rfl,rfl⟩
   obtain⟨hj,rfl⟩:=vQ hw
   refine .of rfl ?_
   dsimp only[rY]
   refine zS ?_
   nofun
   refine zP rfl (one hj) ?_
   nofun
   refine zP rfl ZX ?_
   nofun
   refine WO.of (show yn false (.str bs[j].1) (.int k) S=some (.bl false,S) from rfl) ?_
   exact⟨_,rfl,nofun,λ_=>zF ⟨_,rfl,rfl⟩⟩
  ·rintro ρ _ ⟨a3,rfl,rfl⟩
   nofun
   exact⟨rfl,rfl⟩
 | @box i s nm k e1 e2=>
  obtain⟨hi,ei⟩:=rH.1 e1
  refine xt (xs:=xO 0 bs.length) (λj ρ S2=>∃a3,ρ=[some (.tup (bsX bs)),some (.tup (st.map Xv.int)),some (.str nm),a3]/\j<=i/\S=S2) (λ_ _ _ _ _=>rfl) ?_ ⟨none,rfl,tf _,rfl⟩ ?_
  ·rintro j w ρ _ hw ⟨a3,rfl,pI,rfl⟩
   obtain⟨hj,rfl⟩:=vQ hw
   refine .of rfl ?_
   dsimp only[rY]
   refine zS ?_
   nofun
   refine zP rfl (one hj) ?_
   nofun
   refine zP rfl ZX ?_
   nofun
   by_cases hq:j=i
   ·subst hq
    rw[ei]
    refine xl ⟨_,rfl,λ_=> ?_,nofun⟩
    nofun
    refine zP rfl (by rw[tM];exact zjI e2) ?_
    exact⟨rfl,rfl⟩
   ·refine yo (λz=> ?_) ⟨_,rfl,nofun,λ_=>zF ⟨_,rfl,⋯,rfl⟩⟩
    have nd:=uq.1 hb.nd j i (by simpa using hj) (by simpa using hi) ⋯
    rw[t4,t4,ei] at nd
    exact nd z
  ·rintro ρ _ ⟨a3,rfl,pI,rfl⟩
   have:(xO 0 bs.length).length=bs.length:=yz
   omega
theorem zb5 {t:Xv} {b:Bool} (hb:BOk bs) (h:He bs st t b):W (vx fu [.tup (bsX bs),.tup (st.map Xv.int),t] S) λv S'=>v= .bl b/\S=S':=by
 obtain⟨o1,o2,sg,k1,k2,rfl,w1,w2,rfl⟩:=h
 walk_at "wr";unfold XL
 nofun
 refine (Wi hb w1).imp ?_
 rintro _ _ ⟨rfl,rfl⟩
 nofun
 refine zP rfl (show atI [o1,Xv.str sg,o2] 2=some o2 from rfl) ?_
 nofun
 refine (Wi hb w2).imp ?_
 rintro _ _ ⟨rfl,rfl⟩
 nofun
 unfold tst
 refine zS ?_
 nofun
 refine wG ⟨_,rfl,λh=> ?_,λh=>zF ?_⟩
 ·have h:=of_decide_eq_true h
  nofun
  exact⟨by rw[if_pos h],rfl⟩
 ·have h:=of_decide_eq_false h
  refine zG (zS ?_)
  nofun
  refine wG ⟨_,rfl,λh2=> ?_,λh2=>zF ?_⟩
  ·have h2:=of_decide_eq_true h2
   nofun
   exact⟨by rw[if_neg h,if_pos h2],rfl⟩
  ·have h2:=of_decide_eq_false h2
   nofun
   exact⟨by rw[if_neg h,if_neg h2],rfl⟩
theorem zjJ {nm:Str} {k:Int} {st':List Int} (hb:BOk bs) (hs:SOk bs st) (h:Pu bs st nm k st'):W (wS fu [.tup (bsX bs),.tup (st.map Xv.int),.str nm,.int k] S) λv S'=>v= .tup (st'.map Xv.int)/\Kp (λ_=>False) S S':=by
 obtain⟨i,s,e,rfl⟩:=h
 obtain⟨hi,ei⟩:=rH.1 e
 have gQ:=hb.len
 have eN:=hb.siz _ (rX e)
 have hl:=hs.1
 walk_at "wr";unfold VZ
 nofun
 refine WO.of (show zeT [Xv.tup (st.map Xv.int)] S=some (.ref S.length,S++[.lst (st.map Xv.int)]) by unfold zeT;rfl) ?_
 nofun
 refine wB (ZC ?_)
 nofun
 refine WO.of xw ?_
 rw[ve]
 refine⟨_,rfl,⟨⋯,⋯⟩,_,rfl,?_⟩
 rw[rQ]
 refine xt (xs:=xO 0 bs.length) (λj ρ S2=>∃a5,ρ=[some (.tup (bsX bs)),some (.tup (st.map Xv.int)),some (.str nm),some (.int k),some (.ref S.length),a5]/\S2[S.length]? =some (.lst ((if i<j then st.set i (k % (s:Int)) else st).map Xv.int))/\Kp (λ_=>False) S S2) (λ_ _ _ _ _=>rfl) ?_ ⟨none,rfl,by rw[if_neg ⋯];exact yM,(Kp.refl _).app⟩ ?_
 ·rintro j w ρ S2 hw ⟨a5,rfl,e2,k2⟩
  obtain⟨hj,rfl⟩:=vQ hw
  have nM:atI (bsX bs) ((0:Int)+(j:Int))=some (zjH bs[j]):=by
   rw[tM]
   exact wP ⋯ (by rw[rQ];exact zaq (rG hj))
  refine .of rfl ?_
  dsimp only[rY]
  refine zS ?_
  nofun
  refine zP rfl nM ?_
  nofun
  refine zP rfl ZX ?_
  nofun
  by_cases hq:j=i
  ·subst hq
   rw[ei]
   refine xl ⟨_,rfl,λ_=> ?_,nofun⟩
   rw[if_neg ⋯] at e2
   refine zbG ?_
   nofun
   refine zP rfl nM ?_
   nofun
   refine zP rfl Yo ?_
   rw[ei]
   refine vJ (by have:=eN.1;dsimp only at this;show (0:Int)<((s:Nat):Int);omega) ?_
   nofun
   refine⟨_,_,_,j,xX e2,rfl,?_,_,rfl,?_,k2.set (.inr (rL _))⟩
   ·rw[tM]
    unfold ixN
    rw[if_pos ⋯,if_pos (by rw[rJ];omega),rQ]
   ·rw[if_pos ⋯,wC e2,Av]
  ·refine yo (λz=> ?_) ⟨_,rfl,nofun,λ_=>zF ⟨_,rfl,?_,k2⟩⟩
   ·have nd:=uq.1 hb.nd
    rcases Nat.lt_or_gt_of_ne hq with h|h
    ·have:=nd j i (by simpa using hj) (by simpa using hi) h
     rw[t4,t4,ei] at this
     exact this z
    ·have:=nd i j (by simpa using hi) (by simpa using hj) h
     rw[t4,t4,ei] at this
     exact this z.symm
   ·by_cases h:i<j
    ·rw[if_pos h] at e2
     rw[if_pos ⋯]
     exact e2
    ·rw[if_neg h] at e2
     rw[if_neg ⋯]
     exact e2
 ·rintro ρ S2 ⟨a5,rfl,e2,k2⟩
  have:(xO 0 bs.length).length=bs.length:=yz
  rw[this,if_pos hi] at e2
  nofun
  refine Yc e2 ?_
  exact⟨rfl,k2⟩
theorem zmO {nm:Str} {r:Xv} {k:Int} {st':List Int} (hb:BOk bs) (hs:SOk bs st) (h:Re bs st r k) (hp:Pu bs st nm k st'):W (Yb fu [.tup (bsX bs),.tup (st.map Xv.int),.tup [.str "set",.str nm,r]] S) λv S'=>v= .tup (st'.map Xv.int)/\Kp (λ_=>False) S S':=by
 have iy:atI [Xv.str "set",.str nm,r] 2=some r:=rfl
 have fin:∀{a4:Option Xv},WS (ye (zE (wS fu) [(ze 0),(ze 1),(eOp zy (ze 2) (eC (.int 1))),(ze 3)]) [some (.tup (bsX bs)),some (.tup (st.map Xv.int)),some (.tup [.str "set",.str nm,r]),some (.int k),a4] S) (λ_ _=>False) λv S'=>v= .tup (st'.map Xv.int)/\Kp (λ_=>False) S S':=by
  intro a4
  nofun
  exact zjJ hb hs hp
 have fin:∀{a4:Option Xv} {N:Rho->Sto->Prop},WS (ye (zE (wS fu) [(ze 0),(ze 1),(eOp zy (ze 2) (eC (.int 1))),(ze 3)]) [some (.tup (bsX bs)),some (.tup (st.map Xv.int)),some (.tup [.str "set",.str nm,r]),some (.int k),a4] S) N λv S'=>v= .tup (st'.map Xv.int)/\Kp (λ_=>False) S S':=by
  intro a4 N
  rcases fin (a4:=a4) with⟨_,_,_,z⟩|h
  ·exact z.elim
  ·exact .inr h
 have three:∀{o1 o2:Xv} {sg:Str} {k1 k2:Int},r= .tup [o1,.str sg,o2]->Wo bs st o1 k1->Wo bs st o2 k2->(sg="+"/\k=k1+k2\/sg="-"/\k=k1-k2\/sg="*"/\k=k1*k2)->W (Yb fu [.tup (bsX bs),.tup (st.map Xv.int),.tup [.str "set",.str nm,r]] S) λv S'=>v= .tup (st'.map Xv.int)/\Kp (λ_=>False) S S':=by
  rintro o1 o2 sg k1 k2 rfl w1 w2 hk
  walk_at "wr";unfold Xp
  nofun
  refine zP rfl iy ?_
  nofun
  refine (Wi hb w1).imp ?_
  rintro _ _ ⟨rfl,rfl⟩
  nofun
  refine Vw (λρ S2=>(∃a4,ρ=[some (.tup (bsX bs)),some (.tup (st.map Xv.int)),some (.tup [.str "set",.str nm,.tup [o1,.str sg,o2]]),some (.int k),a4])/\S=S2) (zS ?_) ?_
  ·nofun
   refine zP rfl iy ?_
   nofun
   refine WO.of xw ?_
   nofun
   refine⟨λ_=> ?_,λz=>absurd z (by simp)⟩
   nofun
   refine zP rfl iy ?_
   nofun
   refine zP rfl (show atI [o1,Xv.str sg,o2] 2=some o2 from rfl) ?_
   nofun
   refine (Wi hb w2).imp ?_
   rintro _ _ ⟨rfl,rfl⟩
   have no:∀{c:Int} {w:Str} {a:TwS} {N:Rho->Sto->Prop} {R:Xv->Sto->Prop},sg≠w->N [some (.tup (bsX bs)),some (.tup (st.map Xv.int)),some (.tup [.str "set",.str nm,.tup [o1,.str sg,o2]]),some (.int c),some (.int k2)] S->WS (sIf (bE (eOp (yn false) (eOp zy (eOp zy (ze 2) (eC (.int 2))) (eC (.int 1))) (eC (.str w)))) a zT [some (.tup (bsX bs)),some (.tup (st.map Xv.int)),some (.tup [.str "set",.str nm,.tup [o1,.str sg,o2]]),some (.int c),some (.int k2)] S) N R:=by
    intro c w a N R hn hN
    refine zS ?_
    nofun
    refine zP rfl iy ?_
    nofun
    exact yo hn ⟨_,rfl,nofun,λ_=>zF hN⟩
   have yes:∀{c c':Int} {op:Op2} {N:Rho->Sto->Prop} {R:Xv->Sto->Prop},(∀P:Xv->Sto->Prop,P (.int c') S->WO (op (.int c) (.int k2) S) P)->N [some (.tup (bsX bs)),some (.tup (st.map Xv.int)),some (.tup [.str "set",.str nm,.tup [o1,.str sg,o2]]),some (.int c'),some (.int k2)] S->WS (sIf (bE (eOp (yn false) (eOp zy (eOp zy (ze 2) (eC (.int 2))) (eC (.int 1))) (eC (.str sg)))) (zO (eOp op (ze 3) (ze 4)) (gN 3)) zT [some (.tup (bsX bs)),some (.tup (st.map Xv.int)),some (.tup [.str "set",.str nm,.tup [o1,.str sg,o2]]),some (.int c),some (.int k2)] S) N R:=by
    intro c c' op N R lB hN
    refine zS ?_
    nofun
    refine zP rfl iy ?_
    nofun
    refine xl ⟨_,rfl,λ_=> ?_,nofun⟩
    nofun
    exact lB _ hN
   rcases hk with⟨rfl,rfl⟩|⟨rfl,rfl⟩|⟨rfl,rfl⟩
   ·refine zG (yes (λP h=>Vx h) ?_)
    refine zG (no ∅ ?_)
    exact no ∅ ⟨⟨_,rfl⟩,rfl⟩
   ·refine zG (no ∅ ?_)
    refine zG (yes (λP h=>zi5 h) ?_)
    exact no ∅ ⟨⟨_,rfl⟩,rfl⟩
   ·refine zG (no ∅ ?_)
    refine zG (no ∅ ?_)
    exact yes (λP h=>wo (zhc (w1.bd hs) (w2.bd hs)) h) ⟨⟨_,rfl⟩,rfl⟩
  ·rintro _ _ ⟨⟨a4,rfl⟩,rfl⟩
   exact fin
 cases h with
 | @one o _ w=>
  walk_at "wr";unfold Xp
  nofun
  refine zP rfl iy ?_
  nofun
  refine (Wi hb w).imp ?_
  rintro _ _ ⟨rfl,rfl⟩
  nofun
  refine zS ?_
  nofun
  refine zP rfl iy ?_
  nofun
  refine WO.of xw ?_
  nofun
  refine⟨λz=>absurd z (by simp),λ_=>zF fin⟩
 |add w1 w2=>exact three rfl w1 w2 (.inl ⟨rfl,rfl⟩)
 |sub w1 w2=>exact three rfl w1 w2 (.inr (.inl ⟨rfl,rfl⟩))
 |mul w1 w2=>exact three rfl w1 w2 (.inr (.inr ⟨rfl,rfl⟩))
noncomputable def xo:Nat->List Int->List (Nat×Int)
 |_,[]=>[]
 |k,w::r=>if 0<w then (k,w)::xo (k+1) r else xo (k+1) r
theorem zfh:∀(a b:List Int) (k:Nat),xo k (a++b)=xo k a++xo (k+a.length) b
 |[],b,k=>rfl
 |w::a,b,k=>by
  show (if 0<w then (k,w)::xo (k+1) (a++b) else xo (k+1) (a++b))=(if 0<w then (k,w)::xo (k+1) a else xo (k+1) a)++xo (k+(a.length+1)) b
  rw[zfh a b (k+1),show k+(a.length+1)=k+1+a.length by omega]
  split<;>rfl
theorem Wj {ws:List Int} {i:Nat} {w:Int} (h:ws[i]? =some w):xo 0 (ws.take (i+1))=xo 0 (ws.take i)++if 0<w then [(i,w)] else []:=by
 have hi:=(rH.1 h).1
 rw[xg h,zfh,sV,C1 ⋯,v8]
 congr 1
theorem Ub:∀(ws:List Int) (k:Nat),(xo k ws).length<=ws.length
 |[],_=>rL _
 |w::r,k=>by
  have:=Ub r (k+1)
  show (if 0<w then (k,w)::xo (k+1) r else xo (k+1) r).length<=r.length+1
  split
  ·rw[rP];omega
  ·omega
theorem zb6:∀(ws:List Int) (k:Nat),∀p∈xo k ws,k<=p.1/\ws[p.1-k]? =some p.2/\0<p.2
 |[],_,p,h=>by cases h
 |w::r,k,p,h=>by
  have key:p∈xo (k+1) r->k<=p.1/\(w::r)[p.1-k]? =some p.2/\0<p.2:=λh=>by
   obtain⟨h1,h2,h3⟩:=zb6 r (k+1) p h
   refine⟨⋯,?_,h3⟩
   rw[show p.1-k=(p.1-(k+1))+1 by omega,List.getElem?_cons_succ]
   exact h2
  have h:p∈(if 0<w then (k,w)::xo (k+1) r else xo (k+1) r):=h
  split at h
  ·rename_i hw
   rcases sq.1 h with rfl|h
   ·exact⟨rL _,by simp,hw⟩
   ·exact key h
  ·exact key h
structure Ws (bs:List (Str×Nat)) (nm:Str) (i s:Nat) (ws:List Int):Prop where
 at_:bs[i]? =some (nm,s)
 len:ws.length<=9
 nn:∀w∈ws,0<=w/\w<1000000000
 pos:0<ws.sum
theorem zar:∀{ws:List Int},(∀w∈ws,0<=w/\w<1000000000)->0<=ws.sum/\ws.sum<=1000000000*ws.length/\∀w∈ws,w<=ws.sum
 |[],_=>⟨by simp,by simp,(λw h=>by cases h)⟩
 |a::r,h=>by
  obtain⟨h1,h2,h3⟩:=zar λw hw=>h w (rT _ hw)
  have ha:=h a (sj ..)
  rw[tE,rP]
  refine⟨⋯,⋯,λw hw=> ?_⟩
  rcases sq.1 hw with rfl|hw
  ·omega
  ·have:=h3 w hw
   omega
theorem za1:∀{ws:List Int} (k:Nat),(∀w∈ws,0<=w/\w<1000000000)->0<ws.sum->xo k ws≠[]
 |[],_,_,h=>by simp at h
 |w::r,k,hn,h=>by
  show (if 0<w then (k,w)::xo (k+1) r else xo (k+1) r)≠[]
  split
  ·simp
  ·rename_i hw
   have:=hn w (sj ..)
   rw[tE] at h
   exact za1 (k+1) (λw hw=>hn w (rT _ hw)) ⋯
noncomputable def zk5 (st:List Int) (i s:Nat) (t:Int) (p:Nat×Int):Xv:= .tup [qv (wV p.2 t),.tup ((st.set i ((p.1:Int) % (s:Int))).map Xv.int)]
theorem zhd {i:Int}:W (Xh fu [.int i] S) λv S'=>v= .bl true/\S=S':=by
 walk_at "wr";unfold VM
 refine xm (Wz ?_)
 nofun
 refine xh (v:=true) rfl ?_
 refine⟨_,rfl,λ_=> ?_,λz=>(by cases z)⟩
 nofun
 refine xh (v:=false) rfl ?_
 exact⟨_,rfl,rfl,rfl⟩
theorem zgw (cW:Big fu) {t b:Int} (h0:0<b) (hb:xD 9000 b):W (VP fu [.int t,.int b] S) λv S'=>v=qv (wV t b)/\S=S':=by
 walk_at "wr";unfold VO
 refine zG (zS (ww ?_))
 nofun
 refine zhd.imp ?_
 rintro _ _ ⟨rfl,rfl⟩
 refine⟨_,rfl,nofun,λ_=> ?_⟩
 nofun
 refine zhd.imp ?_
 rintro _ _ ⟨rfl,rfl⟩
 refine⟨_,rfl,nofun,λ_=>zF ?_⟩
 refine zG (zS ?_)
 nofun
 refine yH (λh=>by omega) (λ_=>zF ?_)
 nofun
 exact zfe cW h0 hb
theorem zb7 {b:Int} (h:0<=b/\b<10000000000):xD 34 b:=by
 unfold xD
 have:(2:Nat)^34=17179869184:=by decide
 omega
theorem zk6 (cW:Big fu) {nm:Str} {i s:Nat} {ws:List Int} (hb:BOk bs) (hs:SOk bs st) (h:Ws bs nm i s ws):W (VT fu [.tup (bsX bs),.tup (st.map Xv.int),.str nm,.tup (ws.map Xv.int)] S) λv S'=>∃n,v= .ref n/\S.length<=n/\S'[n]? =some (.lst ((xo 0 ws).map (zk5 st i s ws.sum)))/\Kp (λ_=>False) S S':=by
 obtain⟨s0,s1,s2⟩:=zar h.nn
 have iB:=h.len
 walk_at "wr";unfold zbU
 nofun
 refine WO.of (show zbz [Xv.tup (ws.map Xv.int)] S = some (.int ws.sum, S) by
  show ((Xv.tupOf (.tup (ws.map Xv.int))).bind ZV).map _=_
  show ((ZV (ws.map Xv.int))).map _=_
  rw[ZB];rfl) ?_
 nofun
 refine wB (W.bind (vI rfl (.of rfl ?_)))
 refine⟨_,rfl,?_⟩
 refine xt (λk ρ S2=>∃(a6 a7:Option Xv),ρ=[some (.tup (bsX bs)),some (.tup (st.map Xv.int)),some (.str nm),some (.tup (ws.map Xv.int)),some (.int ws.sum),some (.ref S.length),a6,a7]/\S2[S.length]? =some (.lst ((xo 0 (ws.take k)).map (zk5 st i s ws.sum)))/\Kp (λ_=>False) S S2) (λ_ _ _ _ _=>rfl) ?_ ?_ ?_
 ·rintro k w ρ S2 hk ⟨a6,a7,rfl,e2,k2⟩
  obtain⟨x0,ex,rfl⟩:=Wc hk
  rw[rM] at ex
  cases ke:ws[k]? with
  |none=>rw[ke] at ex;cases ex
  |some w0=>
   rw[ke] at ex
   cases ex
   have qV:k<ws.length:=(rH.1 ke).1
   have ps:=Wj ke
   refine .of rfl ?_
   dsimp only[rY]
   refine zS ?_
   nofun
   refine yH (λnc=> ?_) (λnc=>zF ⟨_,_,rfl,by rw[ps,if_neg ⋯,sI];exact e2,k2⟩)
   nofun
   refine Wd ?_
   nofun
   refine⟨⟨_,zR e2⟩,?_⟩
   nofun
   refine (zgw cW h.pos ((zb7 ⟨s0,⋯⟩).mono ∅)).imp ?_
   rintro _ _ ⟨rfl,rfl⟩
   nofun
   refine (zlF hb hs (k:=(k:Int)) ⟨i,s,h.at_,rfl⟩).imp ?_
   rintro _ S4 ⟨rfl,p4⟩
   nofun
   have e4:=(Kp.pre (w:=λ_=>False) p4).2 _ _ e2 id
   have pl:=Ub (ws.take k) 0
   rw[sV] at pl
   refine vR (xX e4) (zfb (by rw[rJ];omega)) ?_
   refine⟨_,_,rfl,?_,(k2.trans (Kp.pre p4)).set (.inr (rL _))⟩
   rw[wC e4,ps,if_pos nc,rR]
   rfl
 ·exact⟨none,none,rfl,yM,(Kp.refl _).app⟩
 ·rintro ρ S2 ⟨a6,a7,rfl,e2,k2⟩
  rw[YA,rJ,sE] at e2
  refine xm (vI rfl ?_)
  exact⟨_,rfl,rL _,e2,k2⟩
end
section
variable {fu:Nat} {S S' S2:Sto} {x y:Xv} {bs:List (Str×Nat)} {st:List Int}
inductive Pl (bs:List (Str×Nat)):Xv->Prop
 |pass:Pl bs (.tup [.str "pass"])
 |gain {o:Xv}:Op bs o->Pl bs (.tup [.str "gain",o])
 |look {t:Xv}:Te bs t->Pl bs (.tup [.str "look",t])
 |set {nm:Str} {r:Xv} {i s:Nat}:bs[i]? =some (nm,s)->Rk bs r->Pl bs (.tup [.str "set",.str nm,r])
abbrev Hb:=List Xv×Nat×Int×Nat
noncomputable def Us (ps:List Hb):Nat:=(ps.map λp=>p.2.1).sum
noncomputable def Yy (ps:List Hb):Nat:=(ps.map λp=>p.2.2.2).sum
noncomputable def prD:List Hb->Int
 |[]=>1
 |p::r=>p.2.2.1*prD r
inductive Bk (bs:List (Str×Nat)):Nat->List Xv->Nat->Int->Nat->Prop
 |nil {q:Nat}:Bk bs q [] 0 1 1
 |plain {q:Nat} {a:Xv} {r:List Xv} {n c:Nat} {d:Int}:Pl bs a->Bk bs q r n d c->Bk bs q (a::r) (n+1) d c
 |draw {q:Nat} {nm:Str} {i s:Nat} {ws:List Int} {r:List Xv} {n c:Nat} {d:Int}:Ws bs nm i s ws->Bk bs q r n d c->Bk bs q (.tup [.str "draw",.str nm,.tup (ws.map Xv.int)]::r) (n+1) (ws.sum*d) ((xo 0 ws).length*c)
 |cond {q:Nat} {t:Xv} {a b r:List Xv} {na nb n ca cb c:Nat} {da db d:Int}:Te bs t->Bk bs q a na da ca->Bk bs q b nb db cb->Bk bs (q+1) r n d c->Bk bs (q+1) (.tup [.str "if",t,.tup a,.tup b]::r) (1+na+nb+n) (da*db*d) (max ca cb*c)
 |times {q k:Nat} {a r:List Xv} {na n ca c:Nat} {da d:Int}:k<=60->Bk bs q a na da ca->Bk bs (q+1) r n d c->Bk bs (q+1) (.tup [.str "times",.int (k:Int),.tup a]::r) (1+max 1 k*(1+na)+n) (da^k*d) (ca^k*c)
 |hand {q:Nat} {ps:List Hb} {r:List Xv} {n c:Nat} {d:Int}:2<=ps.length->ps.length<=9->(∀p∈ps,Bk bs q p.1 p.2.1 p.2.2.1 p.2.2.2)->Bk bs (q+1) r n d c->Bk bs (q+1) (.tup [.str "hand",.tup (ps.map λp=> .tup p.1)]::r) (1+Us ps+n) ((ps.length:Int)*prD ps*d) (Yy ps*c)
theorem Bk.up {q q':Nat} {a:List Xv} {n c:Nat} {d:Int} (h:Bk bs q a n d c) (hq:q<=q'):Bk bs q' a n d c:=by
 induction h generalizing q' with
 |nil=>exact .nil
 |plain hp _ ih=>exact .plain hp (ih hq)
 |draw hw _ ih=>exact .draw hw (ih hq)
 |cond ht _ _ _ ia ib ir=>
  obtain⟨k,rfl⟩:∃k,q'=k+1:=⟨q'-1,⋯⟩
  exact .cond ht (ia ⋯) (ib ⋯) (ir hq)
 |times hk _ _ ia ir=>
  obtain⟨k,rfl⟩:∃k,q'=k+1:=⟨q'-1,⋯⟩
  exact .times hk (ia ⋯) (ir hq)
 |hand h2 h9 _ _ ia ir=>
  obtain⟨k,rfl⟩:∃k,q'=k+1:=⟨q'-1,⋯⟩
  exact .hand h2 h9 (λp hp=>ia p hp ⋯) (ir hq)
theorem Bk.app {q:Nat} {a b:List Xv} {n m c f:Nat} {d e:Int} (h:Bk bs q a n d c) (g:Bk bs q b m e f):Bk bs q (a++b) (n+m) (d*e) (c*f):=by
 induction h with
 |nil=>rw[v8,BJ,Nat.one_mul];exact g
 |plain hp _ ih=>
  have:=Bk.plain hp (ih g)
  rw[tN,show ∀x,x+1+m=x+m+1 by omega]
  exact this
 |draw hw _ ih=>
  have:=Bk.draw hw (ih g)
  rw[tN,show ∀x,x+1+m=x+m+1 by omega,sC,u6]
  exact this
 |cond ht ha eR _ _ _ ih=>
  have:=Bk.cond ht ha eR (ih g)
  rw[tN,uz,sC,u6]
  exact this
 |times hk ha _ _ ih=>
  have:=Bk.times hk ha (ih g)
  rw[tN,uz,sC,u6]
  exact this
 |hand h2 h9 ha _ _ ih=>
  have:=Bk.hand h2 h9 ha (ih g)
  rw[tN,uz,sC,u6]
  exact this
theorem Bk.rep {q:Nat} {a:List Xv} {n c:Nat} {d:Int} (h:Bk bs q a n d c):∀k:Nat,Bk bs q (rN k a).flatten (k*n) (d^k) (c^k)
 |0=>by rw[Nat.zero_mul,Int.pow_zero,Nat.pow_zero];exact .nil
 |k+1=>by
  have:=h.app (h.rep k)
  rw[sJ,sY,uI,Nat.add_comm,Int.pow_succ,Nat.pow_succ,sO,Ar (c^k)]
  exact this
theorem zea:∀{ps:List Hb},(∀p∈ps,0<p.2.2.1)->0<prD ps
 |[],_=>by decide
 |p::r,h=>sU (h p (sj ..)) (zea λq hq=>h q (rT _ hq))
theorem zeb:∀{a:List Hb} {p:Hb},p∈a->p.2.2.1∣prD a
 |q::r,p,h=>by
  rcases sq.1 h with rfl|h
  ·exact⟨prD r,rfl⟩
  ·exact t8 (zeb h) ⟨q.2.2.1,by show q.2.2.1*prD r=_;rw[sO]⟩
theorem zfi:∀{ps:List Hb},(∀p∈ps,xD (1+34*p.2.1) p.2.2.1)->xD (1+ps.length+34*Us ps) (prD ps)
 |[],_=>by show (1:Int).natAbs<2^(1+0+34*0);decide
 |p::r,h=>by
  have h1:=h p (sj ..)
  have h2:=zfi λq hq=>h q (rT _ hq)
  refine (h1.mul h2).mono ?_
  unfold Us
  rw[sH,tE,rP]
  omega
theorem zjK {ps:List Hb} (h2:2<=ps.length) (h:∀p∈ps,1<=p.2.2.2):1<=Yy ps:=by
 cases ps with
 |nil=>simp at h2
 |cons p r=>
  have:=h p (sj ..)
  unfold Yy
  rw[sH,tE]
  omega
theorem zjL {n:Nat}:xD (1+n) 1:=by
 unfold xD
 show 1<2^(1+n)
 exact Nat.one_lt_two_pow ⋯
theorem zfj {n:Nat} {d:Int} (h:xD n d):∀k:Nat,xD (1+k*n) (d^k)
 |0=>by rw[Int.pow_zero];exact zjL
 |k+1=>by
  rw[Int.pow_succ]
  refine ((zfj h k).mul h).mono ?_
  rw[uI]
  omega
theorem Bk.ok {q:Nat} {a:List Xv} {n c:Nat} {d:Int} (h:Bk bs q a n d c):0<d/\1<=c/\xD (1+34*n) d:=by
 induction h with
 |nil=>exact⟨∅,rL _,by show (1:Int).natAbs<2^(1+34*0);decide⟩
 |plain _ _ ih=>exact⟨ih.1,ih.2.1,ih.2.2.mono ⋯⟩
 |draw hw _ ih=>
  obtain⟨s0,s1,_⟩:=zar hw.nn
  have hl:=hw.len
  refine⟨sU hw.pos ih.1,uT (Bo.2 (za1 0 hw.nn hw.pos)) ih.2.1,((zb7 ⟨s0,⋯⟩).mul ih.2.2).mono ⋯⟩
 |cond _ _ _ _ ia ib ir=>
  refine⟨sU (sU ia.1 ib.1) ir.1,uT (by have:=ia.2.1;omega) ir.2.1,((ia.2.2.mul ib.2.2).mul ir.2.2).mono ⋯⟩
 | @times _ k _ _ na _ _ _ _ _ hk _ _ ia ir=>
  refine⟨sU (Int.pow_pos ia.1) ir.1,uT (AZ ia.2.1) ir.2.1,((zfj ia.2.2 k).mul ir.2.2).mono ?_⟩
  have:k*(1+na)<=max 1 k*(1+na):=sM _ ⋯
  have e:k*(1+34*na)<=34*(k*(1+na)):=by
   rw[BK,BK,Nat.mul_left_comm]
   omega
  omega
 | @hand _ ps _ _ _ _ h2 h9 _ _ ia ir=>
  have gj:xD 4 (ps.length:Int):=by
   unfold xD
   rw[Bv]
   show ps.length<16
   omega
  refine⟨sU (sU ⋯ (zea λp hp=>(ia p hp).1)) ir.1,uT (zjK h2 λp hp=>(ia p hp).2.1) ir.2.1,((gj.mul (zfi λp hp=>(ia p hp).2.2)).mul ir.2.2).mono ⋯⟩
structure Lv where
 r:Lf2
 wf:List (Int×Int)
noncomputable def exD (k:Nat) (w t:Int) (v:Lv):Lv:=⟨ext k (some (wV w t)) v.r,(w,t)::v.wf⟩
noncomputable def exH (k:Nat) (n:Int) (v:Lv):Lv:=⟨ext k none v.r,(1,n)::v.wf⟩
noncomputable def kd (t:Int):Nat->List ((Nat×Int)×List Lv)->List Lv
 |_,[]=>[]
 |k,x::r=>x.2.map (exD k x.1.2 t)++kd t (k+1) r
noncomputable def kh (n:Int):Nat->List (List Xv×List Lv)->List Lv
 |_,[]=>[]
 |k,x::r=>x.2.map (exH k n)++kh n (k+1) r
inductive Ev (bs:List (Str×Nat)):List Xv->List Int->Int->List Lv->Prop
 |nil {st:List Int} {g:Int}:Ev bs [] st g [⟨⟨[],[],.tup (st.map Xv.int),.int g⟩,[]⟩]
 |pass {r:List Xv} {st:List Int} {g:Int} {l:List Lv}:Ev bs r st g l->Ev bs (.tup [.str "pass"]::r) st g l
 |gain {o:Xv} {k:Int} {r:List Xv} {st:List Int} {g:Int} {l:List Lv}:Wo bs st o k->Ev bs r st (g+k) l->Ev bs (.tup [.str "gain",o]::r) st g l
 |set {nm:Str} {e:Xv} {k:Int} {r:List Xv} {st st':List Int} {g:Int} {l:List Lv}:Re bs st e k->Pu bs st nm k st'->Ev bs r st' g l->Ev bs (.tup [.str "set",.str nm,e]::r) st g l
 |look {t:Xv} {r:List Xv} {st:List Int} {g:Int} {l:List Lv}:He bs st t true->Ev bs r st g l->Ev bs (.tup [.str "look",t]::r) st g l
 |lost {t:Xv} {r:List Xv} {st:List Int} {g:Int}:He bs st t false->Ev bs (.tup [.str "look",t]::r) st g [⟨⟨[],[],.non,.int g⟩,[]⟩]
 |cond {t:Xv} {b:Bool} {a c r:List Xv} {st:List Int} {g:Int} {l:List Lv}:He bs st t b->Ev bs ((if b then a else c)++r) st g l->Ev bs (.tup [.str "if",t,.tup a,.tup c]::r) st g l
 |times {k:Nat} {a r:List Xv} {st:List Int} {g:Int} {l:List Lv}:k<=60->Ev bs ((rN k a).flatten++r) st g l->Ev bs (.tup [.str "times",.int (k:Int),.tup a]::r) st g l
 |draw {nm:Str} {i s:Nat} {ws:List Int} {r:List Xv} {st:List Int} {g:Int} (dr:List ((Nat×Int)×List Lv)):Ws bs nm i s ws->dr.map (·.1)=xo 0 ws->(∀x∈dr,Ev bs r (st.set i ((x.1.1:Int) % (s:Int))) g x.2)->Ev bs (.tup [.str "draw",.str nm,.tup (ws.map Xv.int)]::r) st g (kd ws.sum 0 dr)
 |hand {r:List Xv} {st:List Int} {g:Int} (hl:List (List Xv×List Lv)):0<hl.length/\hl.length<=9->(∀x∈hl,Ev bs (x.1++r) st g x.2)->Ev bs (.tup [.str "hand",.tup (hl.map λx=> .tup x.1)]::r) st g (kh (hl.length:Int) 0 hl)
theorem znR (t:Int):∀(k:Nat) (dr:List ((Nat×Int)×List Lv×Xv×Int)),(kd t k (dr.map λx=>(x.1,x.2.1))).map (·.r)=vc k (dr.map λx=>(some (wV x.1.2 t),x.2.2.1,x.2.1.map (·.r),x.2.2.2))
 |_,[]=>rfl
 |k,x::r=>by
  have ih:=znR t (k+1) r
  show (x.2.1.map (exD k x.1.2 t)++kd t (k+1) (r.map λx=>(x.1,x.2.1))).map (·.r)=(x.2.1.map (·.r)).map (ext k (some (wV x.1.2 t)))++vc (k+1) (r.map λx=>(some (wV x.1.2 t),x.2.2.1,x.2.1.map (·.r),x.2.2.2))
  rw[rR,ih,t9,t9]
  rfl
theorem znS (n:Int):∀(k:Nat) (hl:List (List Xv×List Lv×Xv×Int)),(kh n k (hl.map λx=>(x.1,x.2.1))).map (·.r)=vc k (hl.map λx=>(none,x.2.2.1,x.2.1.map (·.r),x.2.2.2))
 |_,[]=>rfl
 |k,x::r=>by
  have ih:=znS n (k+1) r
  show (x.2.1.map (exH k n)++kh n (k+1) (r.map λx=>(x.1,x.2.1))).map (·.r)=(x.2.1.map (·.r)).map (ext k none)++vc (k+1) (r.map λx=>(none,x.2.2.1,x.2.1.map (·.r),x.2.2.2))
  rw[rR,ih,t9,t9]
  rfl
end
section
variable {fu:Nat} {S S' S2:Sto} {x y:Xv} {bs:List (Str×Nat)} {st:List Int} {gn:Nat}
noncomputable def wu:List Xv->Xv
 |[]=> .non
 |d::r=> .tup [d,wu r]
theorem TF {ds r:List Xv}:W (xy fu [.tup ds,wu r] S) λv S'=>v=wu (ds++r)/\S'=S:=by
 walk_at "wr";unfold VW
 refine zG (wB (zkP ?_))
 nofun
 refine xt (xs:=ds.reverse) (λi ρ S2=>∃(a2:Option Xv),ρ=[some (.tup ds),some (wu (ds.drop (ds.length-i)++r)),a2]/\S2=S) (λ_ _ _ _ _=>rfl) ?_ ?_ ?_
 ·rintro i w ρ S2 hw ⟨a2,rfl,rfl⟩
  have hi:i<ds.length:=by
   have:=(rH.1 hw).1
   rwa [uV] at this
  rw[y7 hi] at hw
  obtain⟨hj,hw⟩:=rH.1 hw
  refine .of rfl ?_
  dsimp only[rY]
  nofun
  refine⟨some w,?_,rfl⟩
  rw[show ds.length-i=ds.length-1-i+1 by omega,show ds.length-(i+1)=ds.length-1-i by omega,An hj,hw]
  rfl
 ·exact⟨none,by rw[Bw,BU];rfl,rfl⟩
 ·rintro ρ S2 ⟨a2,rfl,rfl⟩
  nofun
  rw[uV,Aw,A5]
  exact⟨rfl,rfl⟩
noncomputable def zc3 (fu:Nat) (rp rq:TwF):TwS:=(zD (zO (eOp zy (ze 1) (eC (.int 0))) (gN 4)) (zD (zO (eOp zy (ze 1) (eC (.int 1))) (gN 1)) (zD (sIf (bE (eOp (yn false) (eOp zy (ze 4) (eC (.int 0))) (eC (.str "draw")))) (ye (yI [(eC (.str "draw")),(vj "Grower" "parts_from" rp (ze 0) [(zE (VT fu) [(vo "Grower" "boxes" (ze 0)),(ze 2),(eOp zy (ze 4) (eC (.int 1))),(eOp zy (ze 4) (eC (.int 2)))]),(ze 1),(ze 3)])])) zT) (zD (sIf (bE (eOp (yn false) (eOp zy (ze 4) (eC (.int 0))) (eC (.str "hand")))) (ye (yI [(eC (.str "hand")),(vj "Grower" "trees_from" rq (ze 0) [(eOp zy (ze 4) (eC (.int 1))),(ze 1),(ze 2),(ze 3)])])) zT) (zD (sIf (zab (bE (eOp (yn false) (eOp zy (ze 4) (eC (.int 0))) (eC (.str "look")))) (wM (bE (zE (ZZ fu) [(vo "Grower" "boxes" (ze 0)),(ze 2),(eOp zy (ze 4) (eC (.int 1)))])))) (ye (vj "Grower" "counted" (yZ fu) (ze 0) [(yI [(eC (.str "lost")),(ze 3)])])) zT) (sIf (bE (eOp (yn false) (eOp zy (ze 4) (eC (.int 0))) (eC (.str "set")))) (zO (zE (vV fu) [(vo "Grower" "boxes" (ze 0)),(ze 2),(eOp zy (ze 4) (eC (.int 1))),(zE (vU fu) [(vo "Grower" "boxes" (ze 0)),(ze 2),(eOp zy (ze 4) (eC (.int 2)))])]) (gN 2)) (sIf (bE (eOp (yn false) (eOp zy (ze 4) (eC (.int 0))) (eC (.str "gain")))) (zO (eOp xZ (ze 3) (zE (Zl fu) [(vo "Grower" "boxes" (ze 0)),(ze 2),(eOp zy (ze 4) (eC (.int 1)))])) (gN 3)) (sIf (bE (eOp (yn false) (eOp zy (ze 4) (eC (.int 0))) (eC (.str "if")))) (zO (zE (xy fu) [(eIf (bE (zE (ZZ fu) [(vo "Grower" "boxes" (ze 0)),(ze 2),(eOp zy (ze 4) (eC (.int 1)))])) (eOp zy (ze 4) (eC (.int 2))) (eOp zy (ze 4) (eC (.int 3)))),(ze 1)]) (gN 1)) (sIf (bE (eOp (yn false) (eOp zy (ze 4) (eC (.int 0))) (eC (.str "times")))) (YH (iR1 (eOp zy (ze 4) (eC (.int 1)))) (gN 5) (zO (zE (xy fu) [(eOp zy (ze 4) (eC (.int 2))),(ze 1)]) (gN 1))) zT)))))))))
theorem zk7 (rt rp rq:TwF):xY fu rt rp rq=zD (sWh fu (bE (eUn Tj (ze 1))) (zc3 fu rp rq)) (ye (vj "Grower" "counted" (yZ fu) (ze 0) [(yI [(eC (.str "end")),(ze 2),(ze 3)])])):=rfl
def YY (gn:Nat) (bs:List (Str×Nat)) (c:Nat) (S:Sto):Prop:=S[gn]? =some (.ins "Grower" [("boxes",.tup (bsX bs)),("leaves",.int (c:Int))])
theorem YY.pre {c:Nat} (g:YY gn bs c S) (p:S<+:S'):YY gn bs c S':=(Kp.pre (w:=λ_=>False) p).2 _ _ g id
theorem YY.keep {c:Nat} {w:Nat->Prop} (g:YY gn bs c S) (k:Kp w S S') (h:¬w gn):YY gn bs c S':=k.2 _ _ g h
theorem zc4 {c:Nat} {leaf:Xv} (g:YY gn bs c S) (hc:c+1<=400):W (yZ fu [.ref gn,leaf] S) λv S'=>v=leaf/\YY gn bs (c+1) S'/\Kp (· =gn) S S':=by
 walk_at "wr";unfold Zm
 refine zG (zkR ?_)
 nofun
 refine⟨_,_,_,rfl,g,rfl,?_⟩
 nofun
 refine⟨_,_,rfl,g,(show (2:Nat)<1000 by decide),?_⟩
 have g2:YY gn bs (c+1) (S.set gn (.ins "Grower" (WA "leaves" (.int ((c:Int)+1)) [("boxes",.tup (bsX bs)),("leaves",.int (c:Int))]))):=wC g
 have k2:Kp (· =gn) S (S.set gn (.ins "Grower" (WA "leaves" (.int ((c:Int)+1)) [("boxes",.tup (bsX bs)),("leaves",.int (c:Int))]))):=(Kp.refl _).set (.inl rfl)
 generalize S.set gn (.ins "Grower" (WA "leaves" (.int ((c:Int)+1)) [("boxes",.tup (bsX bs)),("leaves",.int (c:Int))]))=S2 at g2 k2 ⊢
 refine zG (zS ?_)
 nofun
 refine UF ?_
 nofun
 refine⟨_,_,_,rfl,g2,rfl,?_⟩
 nofun
 refine yH (λhc=>by omega) (λhc=>zF ?_)
 nofun
 exact⟨rfl,g2,k2⟩
structure Gw (gn:Nat) (bs:List (Str×Nat)) (ds:List Xv) (st:List Int) (g:Int) (n c cn:Nat) (d:Int) (S:Sto) (v:Xv) (S':Sto) (l:List Lv) (h:Nat) (e:Int):Prop where
 ev:Ev bs ds st g l
 rt:Rt h v (l.map (·.r)) e
 hn:h<=n
 dv:e∣d
 e0:0<e
 lc:l.length<=c
 gr:YY gn bs (cn+l.length) S'
 kp:Kp (· =gn) S S'
def zgx (fu gn:Nat) (bs:List (Str×Nat)) (ds:List Xv) (n:Nat) (d:Int) (c:Nat):Prop:=∀(k m cn:Nat) (st:List Int) (g:Int) (a4 a5:Option Xv) (S:Sto),n<k->2*n<=m->cn+c<=400->SOk bs st->YY gn bs cn S->
 WS (Zu (bE (eUn Tj (ze 1))) (zc3 fu (zU fu m) (zV fu m)) k [some (.ref gn),some (wu ds),some (.tup (st.map Xv.int)),some (.int g),a4,a5] S)
  (λρ S'=>∃(st':List Int) (g':Int) (a4 a5:Option Xv),ρ=[some (.ref gn),some .non,some (.tup (st'.map Xv.int)),some (.int g'),a4,a5]/\SOk bs st'/\Ev bs ds st g [⟨⟨[],[],.tup (st'.map Xv.int),.int g'⟩,[]⟩]/\YY gn bs cn S'/\Kp (· =gn) S S')
  (λv S'=>∃l h e,Gw gn bs ds st g n c cn d S v S' l h e)
def zec (fu gn:Nat) (bs:List (Str×Nat)) (ds:List Xv) (n:Nat) (d:Int) (c:Nat):Prop:=∀(m cn:Nat) (st:List Int) (g:Int) (S:Sto),2*n<m->cn+c<=400->SOk bs st->YY gn bs cn S->
 W (zW fu m [.ref gn,wu ds,.tup (st.map Xv.int),.int g] S) λv S'=>∃l h e,Gw gn bs ds st g n c cn d S v S' l h e
theorem zed {ds:List Xv} {n c:Nat} {d:Int} (hb:BOk bs) (hw:n<fu) (nL:1<=c) (l:zgx fu gn bs ds n d c):zec fu gn bs ds n d c:=by
 intro m cn st g S hm hc hs hg
 have gQ:=hb.len
 obtain⟨m,rfl⟩:∃k,m=k+1:=⟨m-1,⋯⟩
 rw[vt]
 walk_at "wr"
 rw[zk7]
 refine zG (zcX (Vw _ (l fu m cn st g none none S hw ⋯ hc hs hg) ?_))
 rintro _ S2 ⟨st',g',a4,a5,rfl,fR,ev,g2,k2⟩
 refine xm (WC ?_)
 nofun
 refine⟨_,_,rfl,g2,rfl,?_⟩
 nofun
 refine (zc4 g2 ⋯).imp ?_
 rintro _ S3 ⟨rfl,g3,k3⟩
 exact⟨_,0,1,ev,.fin (by rw[fR.1];omega),tf _,AW _,∅,nL,g3,k2.trans k3⟩
section
variable {rp rq:TwF} {g:Int} {a4 a5:Option Xv} {r:List Xv} {N:Rho->Sto->Prop} {R:Xv->Sto->Prop} {rest:List Xv} {kd':Str} {sx:Xv}
theorem vX {k:Nat} (h:WS ((zD (sIf (bE (eOp (yn false) (eOp zy (ze 4) (eC (.int 0))) (eC (.str "draw")))) (ye (yI [(eC (.str "draw")),(vj "Grower" "parts_from" rp (ze 0) [(zE (VT fu) [(vo "Grower" "boxes" (ze 0)),(ze 2),(eOp zy (ze 4) (eC (.int 1))),(eOp zy (ze 4) (eC (.int 2)))]),(ze 1),(ze 3)])])) zT) (zD (sIf (bE (eOp (yn false) (eOp zy (ze 4) (eC (.int 0))) (eC (.str "hand")))) (ye (yI [(eC (.str "hand")),(vj "Grower" "trees_from" rq (ze 0) [(eOp zy (ze 4) (eC (.int 1))),(ze 1),(ze 2),(ze 3)])])) zT) (zD (sIf (zab (bE (eOp (yn false) (eOp zy (ze 4) (eC (.int 0))) (eC (.str "look")))) (wM (bE (zE (ZZ fu) [(vo "Grower" "boxes" (ze 0)),(ze 2),(eOp zy (ze 4) (eC (.int 1)))])))) (ye (vj "Grower" "counted" (yZ fu) (ze 0) [(yI [(eC (.str "lost")),(ze 3)])])) zT) (sIf (bE (eOp (yn false) (eOp zy (ze 4) (eC (.int 0))) (eC (.str "set")))) (zO (zE (vV fu) [(vo "Grower" "boxes" (ze 0)),(ze 2),(eOp zy (ze 4) (eC (.int 1))),(zE (vU fu) [(vo "Grower" "boxes" (ze 0)),(ze 2),(eOp zy (ze 4) (eC (.int 2)))])]) (gN 2)) (sIf (bE (eOp (yn false) (eOp zy (ze 4) (eC (.int 0))) (eC (.str "gain")))) (zO (eOp xZ (ze 3) (zE (Zl fu) [(vo "Grower" "boxes" (ze 0)),(ze 2),(eOp zy (ze 4) (eC (.int 1)))])) (gN 3)) (sIf (bE (eOp (yn false) (eOp zy (ze 4) (eC (.int 0))) (eC (.str "if")))) (zO (zE (xy fu) [(eIf (bE (zE (ZZ fu) [(vo "Grower" "boxes" (ze 0)),(ze 2),(eOp zy (ze 4) (eC (.int 1)))])) (eOp zy (ze 4) (eC (.int 2))) (eOp zy (ze 4) (eC (.int 3)))),(ze 1)]) (gN 1)) (sIf (bE (eOp (yn false) (eOp zy (ze 4) (eC (.int 0))) (eC (.str "times")))) (YH (iR1 (eOp zy (ze 4) (eC (.int 1)))) (gN 5) (zO (zE (xy fu) [(eOp zy (ze 4) (eC (.int 2))),(ze 1)]) (gN 1))) zT))))))) [some (.ref gn),some (wu r),some sx,some (.int g),some (.tup (.str kd'::rest)),a5] S) (λρ2 S2=>WS (Zu (bE (eUn Tj (ze 1))) (zc3 fu rp rq) k ρ2 S2) N R) R):WS (Zu (bE (eUn Tj (ze 1))) (zc3 fu rp rq) (k+1) [some (.ref gn),some (wu (.tup (.str kd'::rest)::r)),some sx,some (.int g),a4,a5] S) N R:=by
 refine Xd ?_
 nofun
 refine WO.of (show Tj (wu (.tup (.str kd'::rest)::r)) S=some (.bl true,S) from rfl) ?_
 refine⟨_,rfl,λ_=> ?_,nofun⟩
 unfold zc3
 nofun
 refine zP rfl (show atI [Xv.tup (.str kd'::rest),wu r] 0=some (.tup (.str kd'::rest)) from rfl) ?_
 nofun
 refine zP rfl (show atI [Xv.tup (.str kd'::rest),wu r] 1=some (wu r) from rfl) ?_
 exact h
theorem Yd {w:Str} {s t:TwS} {ρ:Rho} (hn:kd'≠w) (hρ:ρ[4]? =some (some (.tup (.str kd'::rest)))) (h:WS (t ρ S) N R):WS (sIf (bE (eOp (yn false) (eOp zy (ze 4) (eC (.int 0))) (eC (.str w)))) s t ρ S) N R:=by
 refine zS (zbF (ZW (ZW (vI hρ ?_))))
 nofun
 exact yo hn ⟨_,rfl,nofun,λ_=>h⟩
theorem zas {s t:TwS} {ρ:Rho} (hρ:ρ[4]? =some (some (.tup (.str kd'::rest)))) (h:WS (s ρ S) N R):WS (sIf (bE (eOp (yn false) (eOp zy (ze 4) (eC (.int 0))) (eC (.str kd')))) s t ρ S) N R:=by
 refine zS (zbF (ZW (ZW (vI hρ ?_))))
 nofun
 exact xl ⟨_,rfl,λ_=>h,nofun⟩
theorem zc5 {A B:TwS} {t:TwS} {ρ:Rho} (n1:kd'≠"draw") (n2:kd'≠"hand") (hρ:ρ[4]? =some (some (.tup (.str kd'::rest)))) (h:WS (t ρ S) N R):WS (zD (sIf (bE (eOp (yn false) (eOp zy (ze 4) (eC (.int 0))) (eC (.str "draw")))) A zT) (zD (sIf (bE (eOp (yn false) (eOp zy (ze 4) (eC (.int 0))) (eC (.str "hand")))) B zT) t) ρ S) N R:=
 zG (Yd n1 hρ (zF (zG (Yd n2 hρ (zF h)))))
theorem TH {t:TwS} {A:TwS} {c:TwT} {ρ:Rho} (n3:kd'≠"look") (hρ:ρ[4]? =some (some (.tup (.str kd'::rest)))) (h:WS (t ρ S) N R):WS (zD (sIf (zab (bE (eOp (yn false) (eOp zy (ze 4) (eC (.int 0))) (eC (.str "look")))) c) A zT) t ρ S) N R:=by
 refine zG (zS (Yg (zbF (ZW (ZW (vI hρ ?_))))))
 nofun
 exact yo n3 ⟨_,rfl,nofun,λ_=>⟨nofun,λ_=>zF h⟩⟩
end
theorem WS.imp2 {r:Option Fl} {N N':Rho->Sto->Prop} {R R':Xv->Sto->Prop} (h:WS r N R) (a:∀ρ S,N ρ S->N' ρ S) (b:∀x S,R x S->R' x S):WS r N' R':=by
 rcases h with⟨ρ,S,e,h⟩|⟨x,S,e,h⟩
 ·exact .inl ⟨ρ,S,e,a _ _ h⟩
 ·exact .inr ⟨x,S,e,b _ _ h⟩
theorem zb8 {ds ds':List Xv} {n n' c c' cn k m:Nat} {d d':Int} {st st':List Int} {g g':Int} {a4 a5:Option Xv} (ih:zgx fu gn bs ds' n' d' c') (hk:n'<k) (hm:2*n'<=m) (i5:c'<=c) (hc:cn+c<=400) (lG:n'<=n) (ek:d'∣d) (fR:SOk bs st') (hg:YY gn bs cn S2) (k2:Kp (· =gn) S S2)
  (ev:∀l,Ev bs ds' st' g' l->Ev bs ds st g l):
  WS (Zu (bE (eUn Tj (ze 1))) (zc3 fu (zU fu m) (zV fu m)) k [some (.ref gn),some (wu ds'),some (.tup (st'.map Xv.int)),some (.int g'),a4,a5] S2)
  (λρ S'=>∃(st':List Int) (g':Int) (a4 a5:Option Xv),ρ=[some (.ref gn),some .non,some (.tup (st'.map Xv.int)),some (.int g'),a4,a5]/\SOk bs st'/\Ev bs ds st g [⟨⟨[],[],.tup (st'.map Xv.int),.int g'⟩,[]⟩]/\YY gn bs cn S'/\Kp (· =gn) S S')
  (λv S'=>∃l h e,Gw gn bs ds st g n c cn d S v S' l h e):=by
 refine WS.imp2 (ih k m cn st' g' a4 a5 S2 hk hm ⋯ fR hg) ?_ ?_
 ·rintro ρ S3 ⟨ig,g2,b4,b5,e,s2,qo,g3,k3⟩
  exact⟨ig,g2,b4,b5,e,s2,ev _ qo,g3,k2.trans k3⟩
 ·rintro v S3 ⟨l,h,e,w⟩
  exact⟨l,h,e,ev _ w.ev,w.rt,si w.hn lG,t8 w.dv ek,w.e0,si w.lc i5,w.gr,k2.trans w.kp⟩
end
section
variable {fu:Nat} {S S' S2:Sto} {x y:Xv} {bs:List (Str×Nat)} {st:List Int} {gn:Nat}
theorem zjM (t:Int):∀(k:Nat) (dr:List ((Nat×Int)×List Lv)),(kd t k dr).length=(dr.map λx=>x.2.length).sum
 |_,[]=>rfl
 |k,x::r=>by
  show (x.2.map (exD k x.1.2 t)++kd t (k+1) r).length=_
  rw[rV,rJ,zjM t (k+1) r,sH,tE]
theorem zjN (n:Int):∀(k:Nat) (hl:List (List Xv×List Lv)),(kh n k hl).length=(hl.map λx=>x.2.length).sum
 |_,[]=>rfl
 |k,x::r=>by
  show (x.2.map (exH k n)++kh n (k+1) r).length=_
  rw[rV,rJ,zjN n (k+1) r,sH,tE]
abbrev Dr:=(Nat×Int)×List Lv×Xv×Int
noncomputable def drL (dr:List Dr):Nat:=(dr.map λx=>x.2.1.length).sum
theorem zhe (a:List Dr) (x:Dr):drL (a++[x])=drL a+x.2.1.length:=by unfold drL;rw[rR,tO];simp
structure znT (bs:List (Str×Nat)) (r:List Xv) (st:List Int) (i s:Nat) (g:Int) (n c:Nat) (d:Int) (x:Dr):Prop where
 ev:Ev bs r (st.set i ((x.1.1:Int) % (s:Int))) g x.2.1
 rt:Rt n x.2.2.1 (x.2.1.map (·.r)) x.2.2.2
 dv:x.2.2.2∣d
theorem zk8 {r:List Xv} {n c m cn wn i s:Nat} {d t g:Int} {ws:List Int} {nm:Str} (hb:BOk bs) (hs:SOk bs st) (hw:Ws bs nm i s ws) (tr:zec fu gn bs r n d c) (hm:2*n+1<m) (hc:cn+(xo 0 ws).length*c<=400) (hg:YY gn bs cn S) (e:S[wn]? =some (.lst ((xo 0 ws).map (zk5 st i s t)))) (oK:wn≠gn):
  W (zU fu m [.ref gn,.ref wn,wu r,.int g] S) λv S'=>∃dr:List Dr,v= .tup (dr.map λx=> .tup [qv (wV x.1.2 t),x.2.2.1])/\dr.map (·.1)=xo 0 ws/\(∀x∈dr,znT bs r st i s g n c d x)/\drL dr<=(xo 0 ws).length*c/\YY gn bs (cn+drL dr) S'/\Kp (· =gn) S S':=by
 obtain⟨m,rfl⟩:∃k,m=k+1:=⟨m-1,⋯⟩
 rw[vg]
 have nH:=(rH.1 hg).1
 have eW:=Ub ws 0
 have iB:=hw.len
 walk_at "wr";unfold xJ
 nofun
 refine wB (zgZ ?_)
 nofun
 have e1:=(Kp.pre (w:=λ_=>False) (rW S [Ce.lst []])).2 _ _ e id
 refine⟨_,zR e1,_,zR e1,?_⟩
 refine xt (xs:=(xo 0 ws).map (zk5 st i s t)) (λj ρ S2=>∃(dr:List Dr) (a5 a6:Option Xv),ρ=[some (.ref gn),some (.ref wn),some (wu r),some (.int g),some (.ref S.length),a5,a6]/\dr.map (·.1)=(xo 0 ws).take j/\(∀x∈dr,znT bs r st i s g n c d x)/\drL dr<=j*c/\YY gn bs (cn+drL dr) S2/\S2[S.length]? =some (.lst (dr.map λx=> .tup [qv (wV x.1.2 t),x.2.2.1]))/\Kp (· =gn) S S2) ?_ ?_ ?_ ?_
 ·rintro j ρ S2 _ ⟨dr,a5,a6,_,_,_,_,_,_,k2⟩
  exact zR (k2.2 _ _ e oK)
 ·rintro j w ρ S2 cV ⟨dr,a5,a6,rfl,eM,fi,gf,g2,e2,k2⟩
  rw[rM] at cV
  cases cR:(xo 0 ws)[j]? with
  |none=>rw[cR] at cV;cases cV
  |some p=>
   rw[cR] at cV
   cases cV
   have hj:j<(xo 0 ws).length:=(rH.1 cR).1
   have iZ:dr.length=j:=by
    have:=congrArg ug eM
    rw[rJ,sV] at this
    omega
   have jx:(j+1)*c<=(xo 0 ws).length*c:=sM _ ⋯
   rw[uI] at jx
   refine .of rfl ?_
   dsimp only[rY]
   nofun
   refine Wd ?_
   nofun
   refine⟨⟨_,zR e2⟩,?_⟩
   nofun
   refine WC ?_
   nofun
   refine⟨_,_,rfl,g2,rfl,?_⟩
   nofun
   have eO:Pu bs st nm (p.1:Int) (st.set i ((p.1:Int) % (s:Int))):=⟨i,s,hw.at_,rfl⟩
   refine (tr m (cn+drL dr) _ g S2 ⋯ ⋯ (eO.ok hb hs) g2).imp ?_
   rintro v S3 ⟨l,h,ee,gw⟩
   nofun
   have e3:=gw.kp.2 _ _ e2 (show ¬S.length=gn by omega)
   refine vR (xX e3) (zfb (by rw[rJ];omega)) ?_
   have gl:=gw.lc
   refine⟨dr++[(p,l,v,ee)],_,_,rfl,by rw[rR,eM,xg cR];rfl,λx hx=> ?_,by rw[zhe,uI];show _+l.length<=_;omega,?_,?_,(k2.trans gw.kp).set (.inr (rL _))⟩
   ·rcases sN.1 hx with hx|hx
    ·exact fi x hx
    ·rw[sD.1 hx]
     exact⟨gw.ev,gw.rt.up gw.hn,gw.dv⟩
   ·rw[zhe,<-uz]
    exact zb0 gw.gr ⋯
   ·rw[wC e3,rR];rfl
 ·exact⟨[],none,none,rfl,rfl,(λx hx=>by cases hx),tf _,hg.pre (rW _ _),yM,Kp.pre (rW _ _)⟩
 ·rintro ρ S2 ⟨dr,a5,a6,rfl,eM,fi,gf,g2,e2,k2⟩
  rw[rJ] at eM gf
  rw[sE] at eM
  nofun
  refine Yc e2 ?_
  exact⟨dr,rfl,eM,fi,gf,g2,k2⟩
abbrev Hl:=List Xv×List Lv×Xv×Int
noncomputable def hlL (hl:List Hl):Nat:=(hl.map λx=>x.2.1.length).sum
theorem zhf (a:List Hl) (x:Hl):hlL (a++[x])=hlL a+x.2.1.length:=by unfold hlL;rw[rR,tO];simp
structure znU (bs:List (Str×Nat)) (r:List Xv) (st:List Int) (g:Int) (n:Nat) (d:Int) (x:Hl):Prop where
 ev:Ev bs (x.1++r) st g x.2.1
 rt:Rt n x.2.2.1 (x.2.1.map (·.r)) x.2.2.2
 dv:x.2.2.2∣d
theorem zhP {ps:List Hb} {i:Nat} {p:Hb} (h:ps[i]? =some p):Yy (ps.take (i+1))=Yy (ps.take i)+p.2.2.2/\Yy (ps.take (i+1))<=Yy ps:=by
 have e1:Yy (ps.take (i+1))=Yy (ps.take i)+p.2.2.2:=by
  unfold Yy
  rw[xg h,rR,tO]
  simp
 refine⟨e1,?_⟩
 have:Yy ps=Yy (ps.take (i+1))+Yy (ps.drop (i+1)):=by
  unfold Yy
  rw[<-tO,<-rR,y8]
 omega
theorem zk9 {ps:List Hb} {r:List Xv} {n c m cn:Nat} {d g:Int} (hs:SOk bs st) (tr:∀p∈ps,∃n' d',zec fu gn bs (p.1++r) n' d' (p.2.2.2*c)/\n'<=n/\d'∣d) (hm:2*n+1<m) (hc:cn+Yy ps*c<=400) (hg:YY gn bs cn S) (hl:ps.length<=9):
  W (zV fu m [.ref gn,.tup (ps.map λp=> .tup p.1),wu r,.tup (st.map Xv.int),.int g] S) λv S'=>∃hl:List Hl,v= .tup (hl.map λx=>x.2.2.1)/\hl.map (·.1)=ps.map (·.1)/\(∀x∈hl,znU bs r st g n d x)/\hlL hl<=Yy ps*c/\YY gn bs (cn+hlL hl) S'/\Kp (· =gn) S S':=by
 obtain⟨m,rfl⟩:∃k,m=k+1:=⟨m-1,⋯⟩
 rw[vh]
 have nH:=(rH.1 hg).1
 walk_at "wr";unfold xK
 nofun
 refine wB (We ?_)
 nofun
 refine xt (xs:=ps.map λp=> .tup p.1) (λj ρ S2=>∃(hl:List Hl) (a6:Option Xv),ρ=[some (.ref gn),some (.tup (ps.map λp=> .tup p.1)),some (wu r),some (.tup (st.map Xv.int)),some (.int g),some (.ref S.length),a6]/\hl.map (·.1)=(ps.take j).map (·.1)/\(∀x∈hl,znU bs r st g n d x)/\hlL hl<=Yy (ps.take j)*c/\YY gn bs (cn+hlL hl) S2/\S2[S.length]? =some (.lst (hl.map λx=>x.2.2.1))/\Kp (· =gn) S S2) (λ_ _ _ _ _=>rfl) ?_ ?_ ?_
 ·rintro j w ρ S2 cV ⟨iI,a6,rfl,eM,fi,gf,g2,e2,k2⟩
  rw[rM] at cV
  cases cR:ps[j]? with
  |none=>rw[cR] at cV;cases cV
  |some p=>
   rw[cR] at cV
   cases cV
   have hj:j<ps.length:=(rH.1 cR).1
   have iZ:iI.length=j:=by
    have:=congrArg ug eM
    rw[rJ,rJ,sV] at this
    omega
   obtain⟨c1,c2⟩:=zhP cR
   have jx:Yy (ps.take (j+1))*c<=Yy ps*c:=sM _ c2
   rw[c1,BL] at jx
   obtain⟨n',d',tr',lI,jF⟩:=tr p (rX cR)
   refine .of rfl ?_
   dsimp only[rY]
   nofun
   refine Wd ?_
   nofun
   refine⟨⟨_,zR e2⟩,?_⟩
   nofun
   refine WC ?_
   nofun
   refine⟨_,_,rfl,g2,rfl,?_⟩
   nofun
   refine TF.imp ?_
   rintro _ _ ⟨rfl,rfl⟩
   nofun
   refine (tr' m (cn+hlL iI) st g _ ⋯ ⋯ hs g2).imp ?_
   rintro v S3 ⟨l,h,ee,gw⟩
   nofun
   have e3:=gw.kp.2 _ _ e2 (show ¬S.length=gn by omega)
   refine vR (xX e3) (zfb (by rw[rJ];omega)) ?_
   have gl:=gw.lc
   refine⟨iI++[(p.1,l,v,ee)],_,rfl,by rw[rR,eM,xg cR,rR];rfl,λx hx=> ?_,by rw[zhf,c1,BL];show _+l.length<=_;omega,?_,?_,(k2.trans gw.kp).set (.inr (rL _))⟩
   ·rcases sN.1 hx with hx|hx
    ·exact fi x hx
    ·rw[sD.1 hx]
     exact⟨gw.ev,gw.rt.up (si gw.hn lI),t8 gw.dv jF⟩
   ·rw[zhf,<-uz]
    exact zb0 gw.gr ⋯
   ·rw[wC e3,rR];rfl
 ·exact⟨[],none,rfl,rfl,(λx hx=>by cases hx),by show 0<=_;omega,hg.pre (rW _ _),yM,Kp.pre (rW _ _)⟩
 ·rintro ρ S2 ⟨iI,a6,rfl,eM,fi,gf,g2,e2,k2⟩
  rw[rJ,sE] at eM gf
  nofun
  refine Yc e2 ?_
  exact⟨iI,rfl,eM,fi,gf,g2,k2⟩
end
section
variable {fu:Nat} {S S' S2:Sto} {dd:Int} {x y:Xv} {ln:Nat}
theorem zla {q:Q2} (h:0<q.2) (h1:0<q.1):0<val q:=by
 unfold val
 rw[uC]
 refine Rat.mul_pos ?_ ?_
 ·exact_mod_cast h1
 ·rw[Rat.inv_pos]
  exact_mod_cast h
theorem zmP {w s:Int} (h1:1<=w) (h2:w<=s):Sh (wV w s)/\(wV w s).2∣s:=by
 have hs:0<s:=by omega
 have o:=zd2 (dd:=s) (c:=1) (t:=w) (b:=s) hs ⟨w,rfl⟩ ⋯
 have hv:val (wV w s)=(w:Rat) / (s:Rat):=za0 hs
 have n1:0<=(wV w s).1:=by
  unfold wV
  exact AK ⋯ ⋯
 have hp:0<val (wV w s):=by
  rw[hv]
  exact zla (q:=(w,s)) hs (by show 0<w;omega)
 have hl:=o.le
 refine⟨⟨o.pos,n1,⋯,o.low,hp⟩,zd4⟩
end
section
variable {fu:Nat} {S S' S2:Sto} {x y:Xv} {bs:List (Str×Nat)} {st:List Int} {gn:Nat}
theorem zee {ps:List Hb} {p:Hb} (h:p∈ps):p.2.1<=Us ps:=by
 unfold Us
 induction ps with
 |nil=>cases h
 |cons a r ih=>
  rw[sH,tE]
  rcases sq.1 h with rfl|h
  ·omega
  ·have:=ih h
   omega
theorem zb9 {a b c d:Int} (h:a∣b) (g:c∣d):a*c∣b*d:=tQ h g
theorem zjO (cW:Big fu) (hb:BOk bs):∀(M:Nat) {q:Nat} {ds:List Xv} {n c:Nat} {d:Int},n<=M->M<=200->Bk bs q ds n d c->zgx fu gn bs ds n d c:=by
 have nI:=cW.le
 intro M
 induction M with
 |zero=>
  intro q ds n c d hn _ hB
  cases hB with
  |nil=>
   intro k m cn st g a4 a5 S hk hm hc hs hg
   obtain⟨k,rfl⟩:∃q,k=q+1:=⟨k-1,⋯⟩
   refine Xd ?_
   nofun
   refine WO.of (show Tj (wu []) S=some (.bl false,S) from rfl) ?_
   exact⟨_,rfl,nofun,λ_=>⟨st,g,a4,a5,rfl,hs,.nil,hg,Kp.refl _⟩⟩
  |plain _ _=>omega
  |draw _ _=>omega
  |cond _ _ _ _=>omega
  |times _ _ _=>omega
  |hand _ _ _ _=>omega
 |succ M ih=>
  intro q0 ds n c d hn hM hB
  have hok:=hB.ok
  cases hB with
  |nil=>exact ih (q:=q0) (tf _) ⋯ .nil
  | @plain _ a r n _ _ hp hr=>
   have fO:=ih ⋯ ⋯ hr
   intro k m cn st g a4 a5 S hk hm hc hs hg
   obtain⟨k,rfl⟩:∃q,k=q+1:=⟨k-1,⋯⟩
   cases hp with
   |pass=>
    refine vX (zc5 ∅ ∅ rfl (TH ∅ rfl ?_))
    refine Yd ∅ rfl (Yd ∅ rfl (Yd ∅ rfl (Yd ∅ rfl (zF ?_))))
    exact zb8 fO ⋯ ⋯ (rL _) hc ⋯ (sX _) hs hg (Kp.refl _) λl h=> .pass h
   | @gain o ho=>
    obtain⟨q,hq⟩:=Wo.of ho hs
    refine vX (zc5 ∅ ∅ rfl (TH ∅ rfl ?_))
    refine Yd ∅ rfl (zas rfl ?_)
    nofun
    refine UF ?_
    nofun
    refine⟨_,_,_,rfl,hg,rfl,?_⟩
    nofun
    refine (Uj hb hq).imp ?_
    rintro _ S2 ⟨rfl,p2⟩
    nofun
    exact zb8 fO ⋯ ⋯ (rL _) hc ⋯ (sX _) hs (hg.pre p2) (Kp.pre p2) λl h=> .gain hq h
   | @look t ht=>
    obtain⟨q,hq⟩:=He.of ht hs
    refine vX (zc5 ∅ ∅ rfl ?_)
    refine zG (zS (Yg ?_))
    nofun
    refine xl ⟨_,rfl,λ_=> ?_,nofun⟩
    nofun
    refine UF ?_
    nofun
    refine⟨_,_,_,rfl,hg,rfl,?_⟩
    nofun
    refine (zhb hb hq).imp ?_
    rintro _ S2 ⟨rfl,p2⟩
    nofun
    have g2:=hg.pre p2
    cases q with
    |false=>
     refine⟨λ_=> ?_,nofun⟩
     refine xm (WC ?_)
     nofun
     refine⟨_,_,rfl,g2,rfl,?_⟩
     nofun
     refine (zc4 g2 (by have:=hok.2.1;omega)).imp ?_
     rintro _ S3 ⟨rfl,g3,k3⟩
     exact⟨_,0,1,.lost hq,.lost,tf _,AW _,∅,hok.2.1,g3,(Kp.pre p2).trans k3⟩
    |true=>
     refine⟨nofun,λ_=>zF ?_⟩
     refine Yd ∅ rfl (Yd ∅ rfl (Yd ∅ rfl (Yd ∅ rfl (zF ?_))))
     exact zb8 fO ⋯ ⋯ (rL _) hc ⋯ (sX _) hs g2 (Kp.pre p2) λl h=> .look hq h
   | @set nm e i s hi he=>
    obtain⟨q,hq⟩:=Re.of he hs
    have hp:Pu bs st nm q (st.set i (q % (s:Int))):=⟨i,s,hi,rfl⟩
    refine vX (zc5 ∅ ∅ rfl (TH ∅ rfl ?_))
    refine zas rfl ?_
    nofun
    refine UF ?_
    nofun
    refine⟨_,_,_,rfl,hg,rfl,?_⟩
    nofun
    refine UF ?_
    nofun
    refine⟨_,_,_,rfl,hg,rfl,?_⟩
    nofun
    refine zP rfl (show atI [Xv.str "set",.str nm,e] 2=some e from rfl) ?_
    nofun
    refine (zmN hb hs hq).imp ?_
    rintro _ S2 ⟨rfl,p2⟩
    nofun
    refine (zlF hb hs hp).imp ?_
    rintro _ S3 ⟨rfl,p3⟩
    exact zb8 fO ⋯ ⋯ (rL _) hc ⋯ (sX _) (hp.ok hb hs) (hg.pre (p2.trans p3)) (Kp.pre (p2.trans p3)) λl h=> .set hq hp h
  | @cond qq t a b r na nb n ca cb c da db d ht ha eR hr=>
   have ha:=ha.up (t5 qq)
   have eR:=eR.up (t5 qq)
   intro k m cn st g a4 a5 S hk hm hc hs hg
   obtain⟨k,rfl⟩:∃q,k=q+1:=⟨k-1,⋯⟩
   obtain⟨q,hq⟩:=He.of ht hs
   refine vX (zc5 ∅ ∅ rfl (TH ∅ rfl ?_))
   refine Yd ∅ rfl (Yd ∅ rfl (zas rfl ?_))
   refine yv (zaV (xV (zmp ?_)))
   nofun
   refine UF ?_
   nofun
   refine⟨_,_,_,rfl,hg,rfl,?_⟩
   nofun
   refine (zhb hb hq).imp ?_
   rintro _ S2 ⟨rfl,p2⟩
   have oa:=ha.ok
   have ob:=eR.ok
   have or':=hr.ok
   refine⟨_,rfl,λp8=> ?_,λp9=> ?_⟩
   ·subst p8
    nofun
    refine zP rfl (show atI [Xv.str "if",t,.tup a,.tup b] 2=some (.tup a) from rfl) ?_
    nofun
    refine TF.imp ?_
    rintro _ _ ⟨rfl,rfl⟩
    refine zb8 (ih ⋯ ⋯ (ha.app hr)) ⋯ ⋯ (sM _ ⋯) hc ⋯ (zb9 ⟨db,rfl⟩ (sX _)) hs (hg.pre p2) (Kp.pre p2) λl h=> .cond hq h
   ·subst p9
    nofun
    refine zP rfl (show atI [Xv.str "if",t,.tup a,.tup b] 3=some (.tup b) from rfl) ?_
    nofun
    refine TF.imp ?_
    rintro _ _ ⟨rfl,rfl⟩
    refine zb8 (ih ⋯ ⋯ (eR.app hr)) ⋯ ⋯ (sM _ ⋯) hc ⋯ (zb9 ⟨da,by rw[sO]⟩ (sX _)) hs (hg.pre p2) (Kp.pre p2) λl h=> .cond hq h
  | @times qq kk a r na n ca c da d pD ha hr=>
   have ha:=ha.up (t5 qq)
   intro k m cn st g a4 a5 S hk hm hc hs hg
   obtain⟨k,rfl⟩:∃q,k=q+1:=⟨k-1,⋯⟩
   have le:kk*na+n+1<=1+max 1 kk*(1+na)+n:=by
    have h1:kk*(1+na)<=max 1 kk*(1+na):=sM _ ⋯
    rw[BK] at h1
    omega
   refine vX (zc5 ∅ ∅ rfl (TH ∅ rfl ?_))
   refine Yd ∅ rfl (Yd ∅ rfl (Yd ∅ rfl (zas rfl ?_)))
   refine wB (ZC ?_)
   nofun
   refine⟨⟨⋯,⋯⟩,_,rfl,?_⟩
   refine xt (λi ρ S2=>∃a5:Option Xv,ρ=[some (.ref gn),some (wu ((rN i a).flatten++r)),some (.tup (st.map Xv.int)),some (.int g),some (.tup [.str "times",.int (kk:Int),.tup a]),a5]/\S2=S) (λ_ _ _ _ _=>rfl) ?_ ?_ ?_
   ·rintro i w' ρ S2 hw ⟨a5,rfl,rfl⟩
    refine .of rfl ?_
    dsimp only[rY]
    nofun
    refine zP rfl (show atI [Xv.str "times",.int (kk:Int),.tup a] 2=some (.tup a) from rfl) ?_
    nofun
    refine TF.imp ?_
    rintro _ _ ⟨rfl,rfl⟩
    refine⟨some w',?_,rfl⟩
    rw[sJ,sY,t6]
   ·exact⟨_,rfl,rfl⟩
   ·rintro ρ S2 ⟨a5,rfl,rfl⟩
    rw[yz,rQ]
    exact zb8 (ih ⋯ ⋯ ((ha.rep kk).app hr)) ⋯ ⋯ (rL _) hc ⋯ (sX _) hs hg (Kp.refl _) λl h=> .times pD h
  | @draw _ nm i s ws r n c d hw hr=>
   have fO:=zed hb ⋯ hr.ok.2.1 (ih ⋯ ⋯ hr)
   intro k m cn st g a4 a5 S hk hm hc hs hg
   obtain⟨k,rfl⟩:∃q,k=q+1:=⟨k-1,⋯⟩
   refine vX (zG (zas rfl ?_))
   refine xm (zdK (xV ?_))
   nofun
   refine WC ?_
   nofun
   refine⟨_,_,rfl,hg,rfl,?_⟩
   nofun
   refine UF ?_
   nofun
   refine⟨_,_,_,rfl,hg,rfl,?_⟩
   nofun
   refine zP rfl (show atI [Xv.str "draw",.str nm,.tup (ws.map Xv.int)] 2=some (.tup (ws.map Xv.int)) from rfl) ?_
   nofun
   refine (zk6 cW hb hs hw).imp ?_
   rintro _ S2 ⟨wn,rfl,qI,e2,k2⟩
   nofun
   have nH:=(rH.1 hg).1
   refine (zk8 hb hs hw fO ⋯ hc (hg.keep k2 id) e2 ⋯).imp ?_
   rintro _ S3 ⟨dr,rfl,eM,fi,gf,g3,k3⟩
   nofun
   obtain⟨s0,s1,s2⟩:=zar hw.nn
   have eW:=Ub ws 0
   have iB:=hw.len
   have iZ:dr.length=(xo 0 ws).length:=by
    have:=congrArg ug eM
    rwa [rJ] at this
   have mem:∀x∈dr,x.1∈xo 0 ws:=λx hx=>by rw[<-eM];exact sQ.2 ⟨x,hx,rfl⟩
   have lk:(kd ws.sum 0 (dr.map λx=>(x.1,x.2.1))).length=drL dr:=by
    rw[zjM,t9]
    rfl
   have rt:=Rt.draw (h:=n) (s:=ws.sum) (e:=d) (dr.map λx=>(some (wV x.1.2 ws.sum),x.2.2.1,x.2.1.map (·.r),x.2.2.2)) (λz=>by
    have:=congrArg ug z
    rw[rJ,iZ] at this
    exact za1 0 hw.nn hw.pos (uy.1 this)) (by rw[rJ];omega) hw.pos hr.ok.1 (λp hp=>by
     obtain⟨x,hx,rfl⟩:=sQ.1 hp
     exact (fi x hx).rt) (λp hp=>by
     obtain⟨x,hx,rfl⟩:=sQ.1 hp
     obtain⟨_,m2,m3⟩:=zb6 ws 0 _ (mem x hx)
     have:=s2 _ (rX m2)
     obtain⟨sh,sd⟩:=zmP (w:=x.1.2) (s:=ws.sum) ⋯ this
     exact⟨_,rfl,sh,sd,(fi x hx).dv⟩)
   rw[t9] at rt
   refine⟨kd ws.sum 0 (dr.map λx=>(x.1,x.2.1)),n+1,ws.sum*d,.draw _ hw (by rw[t9];exact eM) (λx hx=> ?_),?_,rL _,sX _,sU hw.pos hr.ok.1,by rw[lk];exact gf,by rw[lk];exact g3,(k2.mono λ_ z=>z.elim).trans k3⟩
   ·obtain⟨y,hy,rfl⟩:=sQ.1 hx
    exact (fi y hy).ev
   ·rw[znR]
    exact rt
  | @hand qq ps r n c d h2 h9 eO hr=>
   have eO:∀p∈ps,Bk bs (qq+1) p.1 p.2.1 p.2.2.1 p.2.2.2:=λp hp=>(eO p hp).up (t5 qq)
   intro k m cn st g a4 a5 S hk hm hc hs hg
   obtain⟨k,rfl⟩:∃q,k=q+1:=⟨k-1,⋯⟩
   have tr:∀p∈ps,∃n' d',zec fu gn bs (p.1++r) n' d' (p.2.2.2*c)/\n'<=Us ps+n/\d'∣prD ps*d:=λp hp=>by
    have nk:=(eO p hp).app hr
    have:=zee hp
    exact⟨_,_,zed hb ⋯ nk.ok.2.1 (ih ⋯ ⋯ nk),⋯,zb9 (zeb hp) (sX _)⟩
   refine vX (zG (Yd ∅ rfl (zF (zG (zas rfl ?_)))))
   refine xm (zdK (xV ?_))
   nofun
   refine WC ?_
   nofun
   refine⟨_,_,rfl,hg,rfl,?_⟩
   nofun
   refine (zk9 hs tr ⋯ hc hg h9).imp ?_
   rintro _ S3 ⟨hl,rfl,eM,fi,gf,g3,k3⟩
   nofun
   have iZ:hl.length=ps.length:=by
    have:=congrArg ug eM
    rwa [rJ,rJ] at this
   have lk:(kh (ps.length:Int) 0 (hl.map λx=>(x.1,x.2.1))).length=hlL hl:=by
    rw[zjN,t9]
    rfl
   have jP:0<prD ps*d:=sU (zea λp hp=>(eO p hp).ok.1) hr.ok.1
   have rt:=Rt.hand (h:=Us ps+n) (e:=prD ps*d) (hl.map λx=>(none,x.2.2.1,x.2.1.map (·.r),x.2.2.2)) (λz=>by
    have:=congrArg ug z
    rw[rJ,iZ,z6] at this
    omega) (by rw[rJ];omega) jP (λp hp=>by
     obtain⟨x,hx,rfl⟩:=sQ.1 hp
     exact (fi x hx).rt) (λp hp=>by
     obtain⟨x,hx,rfl⟩:=sQ.1 hp
     exact⟨rfl,(fi x hx).dv⟩)
   rw[t9] at rt
   have ev:=Ev.hand (bs:=bs) (r:=r) (st:=st) (g:=g) (hl.map λx=>(x.1,x.2.1)) (by rw[rJ];omega) (λx hx=>by
    obtain⟨y,hy,rfl⟩:=sQ.1 hx
    exact (fi y hy).ev)
   rw[rJ,iZ,t9] at ev
   have ex:(hl.map ((λx:List Xv×List Lv=>Xv.tup x.1) ∘ λx=>(x.1,x.2.1)))=ps.map λp=>Xv.tup p.1:=by
    have:=congrArg (tG Xv.tup) eM
    rw[t9,t9] at this
    exact this
   rw[ex] at ev
   refine⟨kh (ps.length:Int) 0 (hl.map λx=>(x.1,x.2.1)),Us ps+n+1,prD ps*d,ev,?_,⋯,⟨(ps.length:Int),by rw[sC,sO]⟩,jP,by rw[lk];exact gf,by rw[lk];exact g3,k3⟩
   rw[znS]
   exact rt
end
section
variable {fu:Nat} {S S' S2:Sto} {x y:Xv} {gn:Nat} {z:Str}
def zmQ (kd:Str) (rest:List Xv) (subs:List (List Xv)):Prop:=
 (kd="if"/\∃t a b,rest=[t,.tup a,.tup b]/\subs=[a,b])\/((kd="while"\/kd="times")/\∃t a,rest=[t,.tup a]/\subs=[a])\/(kd="hand"/\rest=[.tup (subs.map Xv.tup)])\/(kd≠"if"/\kd≠"while"/\kd≠"times"/\kd≠"hand"/\subs=[])
theorem zjP {kd:Str} {rest:List Xv} {subs:List (List Xv)} (h:zmQ kd rest subs):W (WN fu [.tup (.str kd::rest)] S) λv S'=>v= .tup (subs.map Xv.tup)/\S=S':=by
 walk_at "wr";unfold WM
 refine zG (zS ?_)
 nofun
 rcases h with⟨rfl,t,a,b,rfl,rfl⟩|⟨h,t,a,rfl,rfl⟩|⟨rfl,rfl⟩|⟨h1,h2,h3,h4,rfl⟩
 ·refine xl ⟨_,rfl,λ_=> ?_,nofun⟩
  nofun
  refine zP rfl (show atI [Xv.str "if",t,.tup a,.tup b] 2=some (.tup a) from rfl) ?_
  nofun
  refine zP rfl (show atI [Xv.str "if",t,.tup a,.tup b] 3=some (.tup b) from rfl) ?_
  nofun
  exact⟨rfl,rfl⟩
 ·refine yo (by rcases h with rfl|rfl<;>decide) ⟨_,rfl,nofun,λ_=>zF ?_⟩
  refine zG (zS (ww ?_))
  nofun
  rcases h with rfl|rfl
  ·refine xl ⟨_,rfl,λ_=>⟨λ_=> ?_,nofun⟩,nofun⟩
   nofun
   refine zP rfl (show atI [Xv.str "while",t,.tup a] 2=some (.tup a) from rfl) ?_
   nofun
   exact⟨rfl,rfl⟩
  ·refine yo ∅ ⟨_,rfl,nofun,λ_=> ?_⟩
   nofun
   refine xl ⟨_,rfl,λ_=> ?_,nofun⟩
   nofun
   refine zP rfl (show atI [Xv.str "times",t,.tup a] 2=some (.tup a) from rfl) ?_
   nofun
   exact⟨rfl,rfl⟩
 ·refine yo ∅ ⟨_,rfl,nofun,λ_=>zF ?_⟩
  refine zG (zS (ww ?_))
  nofun
  refine yo ∅ ⟨_,rfl,nofun,λ_=> ?_⟩
  nofun
  refine yo ∅ ⟨_,rfl,nofun,λ_=>zF ?_⟩
  refine zG (zS ?_)
  nofun
  refine xl ⟨_,rfl,λ_=> ?_,nofun⟩
  nofun
  exact⟨rfl,rfl⟩
 ·refine yo h1 ⟨_,rfl,nofun,λ_=>zF ?_⟩
  refine zG (zS (ww ?_))
  nofun
  refine yo h2 ⟨_,rfl,nofun,λ_=> ?_⟩
  nofun
  refine yo h3 ⟨_,rfl,nofun,λ_=>zF ?_⟩
  refine zG (zS ?_)
  nofun
  refine yo h4 ⟨_,rfl,nofun,λ_=>zF ?_⟩
  nofun
  exact⟨rfl,rfl⟩
abbrev Itm:=Str×List Xv×List (List Xv×List Str)
noncomputable def zcD (p:Itm):Xv:= .tup (.str p.1::p.2.1)
noncomputable def zat (p:Itm):List Str:=p.1::(p.2.2.map (·.2)).flatten
inductive Bl:Nat->List Xv->List Str->Prop
 |mk {h:Nat} (ag:List Itm):(∀p∈ag,zmQ p.1 p.2.1 (p.2.2.map (·.1)))->(∀p∈ag,∀q∈p.2.2,Bl h q.1 q.2)->Bl (h+1) (ag.map zcD) (ag.map zat).flatten
def Yz (L:List Xv) (hs:List Str):Prop:=∃ps:List (Str×List Xv),L=ps.map (λp=> .tup (.str p.1::p.2))/\hs=ps.map (·.1)
theorem Yz.len {L:List Xv} {hs:List Str} (h:Yz L hs):L.length=hs.length:=by
 obtain⟨ps,rfl,rfl⟩:=h
 simp
theorem Yz.app {L L':List Xv} {hs fR:List Str} (h:Yz L hs) (h':Yz L' fR):Yz (L++L') (hs++fR):=by
 obtain⟨ps,rfl,rfl⟩:=h
 obtain⟨qs,rfl,rfl⟩:=h'
 exact⟨ps++qs,by simp,by simp⟩
theorem zc6 {α β:Type} {f:α->List β} {l:List α} {i:Nat} {a:α} (h:l[i]? =some a):((l.take (i+1)).map f).flatten=((l.take i).map f).flatten++f a/\((l.take (i+1)).map f).flatten.length<=(l.map f).flatten.length:=by
 obtain⟨hi,e⟩:=rH.1 h
 refine⟨by rw[uw hi,rR,Bp,e];simp,?_⟩
 have:(l.map f).flatten=((l.take (i+1)).map f).flatten++((l.drop (i+1)).map f).flatten:=by rw[<-Bp,<-rR,y8]
 rw[this,rV]
 omega
theorem szB {n:Nat} (h:n<=2000):n<=sizeLine:=si h ∅
theorem zjQ {h:Nat} {ds:List Xv} {hs:List Str} (b:Bl h ds hs):∀(m:Nat) (S:Sto),h<=m->hs.length<=1000->W (yV fu m [.tup ds] S) λv S'=>∃n L,v= .ref n/\S'[n]? =some (.lst L)/\Yz L hs/\S.length<=n/\Kp (λ_=>False) S S':=by
 induction b with
 | @mk h ag hb _ ih=>
  intro m S hm hl
  obtain⟨m,rfl⟩:∃q,m=q+1:=⟨m-1,⋯⟩
  rw[Ya]
  walk_at "wr";unfold vC
  nofun
  refine wB (We ?_)
  nofun
  refine xt (xs:=ag.map zcD) (λi ρ S2=>∃(L:List Xv) (a2 a3:Option Xv),ρ=[some (.tup (ag.map zcD)),some (.ref S.length),a2,a3]/\Yz L ((ag.take i).map zat).flatten/\S2[S.length]? =some (.lst L)/\Kp (λ_=>False) S S2) (λ_ _ _ _ _=>rfl) ?_ ?_ ?_
  ·rintro i w ρ S2 hw ⟨L,a2,a3,rfl,hL,e2,k2⟩
   rw[rM] at hw
   cases hp:ag[i]? with
   |none=>rw[hp] at hw;cases hw
   |some p=>
    rw[hp] at hw
    cases hw
    have ed:=rX hp
    obtain⟨f1,f2⟩:=zc6 (f:=zat) hp
    rw[f1,rV] at f2
    have eW:(zat p).length=(p.2.2.map (·.2)).flatten.length+1:=by unfold zat;simp
    refine .of rfl ?_
    dsimp only[rY]
    nofun
    refine Wd ?_
    nofun
    refine⟨⟨_,zR e2⟩,?_⟩
    nofun
    have ra:=hL.len
    refine vR (xX e2) (sv (show L.length<2000 by omega) ∅) ?_
    have k3:Kp (λ_=>False) S (S2.set S.length (.lst (L++[zcD p]))):=k2.set (.inr (rL _))
    have e3:=wC (c':= .lst (L++[zcD p])) e2
    generalize S2.set S.length (.lst (L++[zcD p]))=S3 at k3 e3 ⊢
    refine wB (We ?_)
    nofun
    refine (zjP (hb p ed)).imp ?_
    rintro _ S4 ⟨rfl,rfl⟩
    refine⟨_,rfl,_,rfl,?_⟩
    refine xt (xs:=(p.2.2.map (·.1)).map Xv.tup) (λj ρ S5=>∃(L5:List Xv) (a3:Option Xv),ρ=[some (.tup (ag.map zcD)),some (.ref S.length),some (zcD p),a3]/\Yz L5 (((ag.take i).map zat).flatten++p.1::((p.2.2.take j).map (·.2)).flatten)/\S5[S.length]? =some (.lst L5)/\Kp (λ_=>False) S S5) (λ_ _ _ _ _=>rfl) ?_ ?_ ?_
    ·rintro j w ρ S5 hw ⟨L5,a3,rfl,jL,e5,k5⟩
     rw[rM,rM] at hw
     cases hq:p.2.2[j]? with
     |none=>rw[hq] at hw;cases hw
     |some q=>
      rw[hq] at hw
      cases hw
      obtain⟨f3,f4⟩:=zc6 (f:=λq:List Xv×List Str=>q.2) hq
      rw[f3,rV] at f4
      refine .of rfl ?_
      dsimp only[rY]
      nofun
      refine Wd ?_
      nofun
      refine⟨⟨_,zR e5⟩,?_⟩
      nofun
      refine (ih p ed q (rX hq) m S5 ⋯ ⋯).imp ?_
      rintro _ S6 ⟨n6,L6,rfl,e6,nO,qQ,k6⟩
      nofun
      have nY:=k6.2 _ _ e5 id
      have l5:=jL.len
      have l6:=nO.len
      rw[rV,rP] at l5
      refine WO.of (show Ys (.ref S.length) [.ref n6] S6 = some (.non, S6.set S.length (.lst (L5 ++ L6))) by
       unfold Ys
       rw[xX nY]
       dsimp only
       rw[show wN S6 (.ref n6)=some L6 from zR e6,rZ,if_pos (szB ⋯)]) ?_
      refine⟨L5++L6,_,rfl,?_,wC nY,(k5.trans k6).set (.inr (rL _))⟩
      rw[f3]
      have:=jL.app nO
      simpa using this
    ·refine⟨L++[zcD p],a3,rfl,?_,e3,k3⟩
     exact hL.app ⟨[(p.1,p.2.1)],rfl,rfl⟩
    ·rintro ρ S5 ⟨L5,a3,rfl,jL,e5,k5⟩
     rw[rJ,rJ,sE] at jL
     exact⟨L5,_,_,rfl,by rw[f1];exact jL,e5,k5⟩
  ·exact⟨[],none,none,rfl,⟨[],rfl,rfl⟩,yM,Kp.pre (rW _ _)⟩
  ·rintro ρ S2 ⟨L,a2,a3,rfl,hL,e2,k2⟩
   rw[rJ,sE] at hL
   nofun
   exact⟨_,L,rfl,e2,hL,rL _,k2⟩
theorem zc7:∀bs:List Bool,YJ (bs.map Xv.bl)=some bs
 |[]=>rfl
 |b::r=>by rw[sH];simp[YJ,zc7 r]
theorem zhQ {h:Nat} {ds:List Xv} {hs:List Str} (b:Bl h ds hs) (hh:h<=12) (hl:hs.length<=1000):W (XB fu [.tup ds] S) λv S'=>v= .bl (!decide ((Str.ofString "while")∈hs))/\Kp (λ_=>False) S S':=by
 walk_at "wr";unfold XA
 nofun
 refine W.imp (P:=λv S'=>v= .bl (decide ((Str.ofString "while")∈hs))/\Kp (λ_=>False) S S') ?_ ?_
 ·walk_at "wr";unfold WP
  refine xm (Vv (xV (xW (zgZ ?_))))
  nofun
  refine (zjQ b 12 S hh hl).imp ?_
  rintro _ S2 ⟨n,L,rfl,e2,⟨ps,rfl,rfl⟩,hn,k2⟩
  refine⟨_,zR e2,_,zR e2,?_⟩
  refine xF (by simpa using szB (by simp at hl;omega)) (λi es S3=>S3=S2/\es=((ps.take i).map λp=>decide (p.1=Str.ofString "while")).map Xv.bl) ?_ ?_ ⟨rfl,rfl⟩ ?_
  ·rintro i es _ _ ⟨rfl,_⟩
   exact zR e2
  ·rintro i w es _ hw eh ⟨rfl,rfl⟩
   rw[rM] at hw
   cases hp:ps[i]? with
   |none=>rw[hp] at hw;cases hw
   |some p=>
    rw[hp] at hw
    cases hw
    refine .of rfl ?_
    dsimp only[ZS,tG,rY]
    nofun
    refine⟨rfl,?_⟩
    nofun
    refine wG ⟨rfl,?_⟩
    obtain⟨hi,e⟩:=rH.1 hp
    rw[uw hi,rR,rR,e]
    rfl
  ·rintro es S3 _ ⟨rfl,rfl⟩
   rw[rJ,sE]
   nofun
   refine WO.of (show zi0 [.ref S3.length] _ = some (.bl ((ps.map λp => decide (p.1 = Str.ofString "while")).any id), _) by
    unfold zi0;dsimp only;rw[Wg,rZ,zc7];rfl) ?_
   refine⟨?_,k2.app⟩
   congr 1
   rw[tY,decide_eq_true_iff,Aq]
   constructor
   ·rintro⟨b,hb,jJ⟩
    obtain⟨p,hp,rfl⟩:=sQ.1 hb
    exact sQ.2 ⟨p,hp,of_decide_eq_true jJ⟩
   ·intro h
    obtain⟨p,hp,e⟩:=sQ.1 h
    exact⟨_,sQ.2 ⟨p,hp,rfl⟩,decide_eq_true e⟩
 ·rintro _ S2 ⟨rfl,k2⟩
  nofun
  exact⟨rfl,k2⟩
end
section
variable {fu:Nat} {S S' S2:Sto} {x y:Xv} {bs:List (Str×Nat)} {st:List Int}
theorem Bl.cons {h:Nat} {p:Itm} {ds:List Xv} {ws:List Str} (hp:zmQ p.1 p.2.1 (p.2.2.map (·.1))) (hs:∀q∈p.2.2,Bl h q.1 q.2) (b:Bl (h+1) ds ws):Bl (h+1) (zcD p::ds) (zat p++ws):=by
 cases b with
 |mk ag h1 h2=>
  have:=Bl.mk (h:=h) (p::ag) (λq hq=>by
   rcases sq.1 hq with rfl|hq
   ·exact hp
   ·exact h1 q hq) (λq hq=>by
   rcases sq.1 hq with rfl|hq
   ·exact hs
   ·exact h2 q hq)
  rw[sH,sH,sY] at this
  exact this
theorem Bl.nil {h:Nat}:Bl (h+1) [] []:=Bl.mk (h:=h) [] (λp hp=>by cases hp) (λp hp=>by cases hp)
noncomputable def wW:Str:="while"
theorem Bl.flat {h:Nat} {w:Str} {rest ds:List Xv} {ws:List Str} (b:Bl (h+1) ds ws) (h1:w≠"if"/\w≠"while"/\w≠"times"/\w≠"hand"):Bl (h+1) (.tup (.str w::rest)::ds) (w::ws):=
 Bl.cons (p:=(w,rest,[])) (.inr (.inr (.inr ⟨h1.1,h1.2.1,h1.2.2.1,h1.2.2.2,rfl⟩))) (λq hq=>by cases hq) b
theorem Bk.bl {q:Nat} {ds:List Xv} {n c:Nat} {d:Int} (h:Bk bs q ds n d c):∃hs,Bl (q+1) ds hs/\hs.length<=n/\wW∉hs:=by
 induction h with
 |nil=>exact⟨[],Bl.nil,rL _,by simp⟩
 | @plain q a r n c d hp _ ih=>
  obtain⟨hs,b,hl,hw⟩:=ih
  have key:∀{w:Str} {rest:List Xv},(w≠"if"/\w≠"while"/\w≠"times"/\w≠"hand")->∃hs,Bl (q+1) (.tup (.str w::rest)::r) hs/\hs.length<=n+1/\wW∉hs:=λ{w rest} h1=>⟨w::hs,b.flat h1,by rw[rP];omega,λz=>by
   rcases sq.1 z with z|z
   ·exact h1.2.1 z.symm
   ·exact hw z⟩
  cases hp with
  |pass=>exact key ∅
  |gain _=>exact key ∅
  |look _=>exact key ∅
  |set _ _=>exact key ∅
 |draw _ _ ih=>
  obtain⟨hs,b,hl,hw⟩:=ih
  refine⟨_,b.flat ∅,by rw[rP];omega,λz=> ?_⟩
  rcases sq.1 z with z|z
  ·exact absurd z ∅
  ·exact hw z
 | @cond q t a b r _ _ _ _ _ _ _ _ _ _ _ _ _ ia ib ir=>
  obtain⟨h1,b1,l1,w1⟩:=ia
  obtain⟨h2,b2,l2,w2⟩:=ib
  obtain⟨h3,b3,l3,w3⟩:=ir
  have:=Bl.cons (p:=("if",[t,.tup a,.tup b],[(a,h1),(b,h2)])) (.inl ⟨rfl,t,a,b,rfl,rfl⟩) (λq hq=>by
   rcases sq.1 hq with rfl|hq
   ·exact b1
   ·rw[sD.1 hq];exact b2) b3
  refine⟨_,this,?_,λz=> ?_⟩
  ·simp[zat];omega
  ·simp only[zat,sH,v5,sY,BV,sI,tN,sq,sN] at z
   rcases z with z|(z|z)|z
   ·exact absurd z ∅
   ·exact w1 z
   ·exact w2 z
   ·exact w3 z
 | @times q k a r _ _ _ _ _ _ _ _ _ ia ir=>
  obtain⟨h1,b1,l1,w1⟩:=ia
  obtain⟨h3,b3,l3,w3⟩:=ir
  have:=Bl.cons (p:=("times",[.int (k:Int),.tup a],[(a,h1)])) (.inr (.inl ⟨.inr rfl,_,a,rfl,rfl⟩)) (λq hq=>by rw[sD.1 hq];exact b1) b3
  refine⟨_,this,?_,λz=> ?_⟩
  ·rename_i na n _ _ _ _ _ _ _
   have hle:1*(1+na)<=max 1 k*(1+na):=sM _ ⋯
   simp[zat];omega
  ·simp only[zat,sH,v5,sY,BV,sI,tN,sq,sN] at z
   rcases z with z|z|z
   ·exact absurd z ∅
   ·exact w1 z
   ·exact w3 z
 | @hand q ps r _ _ _ h2 h9 eO _ ia ir=>
  obtain⟨h3,b3,l3,w3⟩:=ir
  have all:∃subs:List (List Xv×List Str),subs.map (·.1)=ps.map (·.1)/\(∀q'∈subs,Bl (q+1) q'.1 q'.2/\wW∉q'.2)/\((subs.map (·.2)).flatten).length<=Us ps:=by
   clear h2 h9 eO
   induction ps with
   |nil=>exact⟨[],rfl,(λq hq=>by cases hq),by simp⟩
   |cons p ps oA=>
    obtain⟨subs,e1,e2,e3⟩:=oA (λp hp=>ia p (rT _ hp))
    obtain⟨h1,b1,l1,w1⟩:=ia p (sj ..)
    refine⟨(p.1,h1)::subs,by rw[sH,sH,e1],λq' hq=> ?_,?_⟩
    ·rcases sq.1 hq with rfl|hq
     ·exact⟨b1,w1⟩
     ·exact e2 q' hq
    ·unfold Us at e3 ⊢
     rw[sH,sY,rV,sH,tE]
     dsimp only
     omega
  obtain⟨subs,e1,e2,e3⟩:=all
  have ex:(ps.map λp=>Xv.tup p.1)=(subs.map (·.1)).map Xv.tup:=by
   rw[e1,t9]
   rfl
  have:=Bl.cons (p:=("hand",[.tup (ps.map λp=> .tup p.1)],subs)) (.inr (.inr (.inl ⟨rfl,by rw[ex]⟩))) (λq' hq=>(e2 q' hq).1) b3
  refine⟨_,this,?_,λz=> ?_⟩
  ·simp only[zat,tN,rP,rV]
   omega
  ·simp only[zat,tN,sq,sN] at z
   rcases z with z|z|z
   ·exact absurd z ∅
   ·obtain⟨l,hl,hz⟩:=List.mem_flatten.1 z
    obtain⟨q',hq,rfl⟩:=sQ.1 hl
    exact (e2 q' hq).2 hz
   ·exact w3 z
theorem zjR (cW:Big fu) (hb:BOk bs) (hs:SOk bs st) {q:Nat} {ds:List Xv} {n c:Nat} {d:Int} (h:Bk bs q ds n d c) (hq:q<=10) (hn:n<=100) (hc:c<=400):W (US fu [.tup [.tup (bsX bs),.tup ds],.tup (st.map Xv.int)] S) λv S'=>∃l hh e,Ev bs ds st 0 l/\Rt hh v (l.map (·.r)) e/\hh<=n/\e∣d/\0<e/\l.length<=c/\Kp (λ_=>False) S S':=by
 obtain⟨fR,b,hl,hw⟩:=h.bl
 walk_at "wr";unfold UR
 refine zG (zS ?_)
 nofun
 refine (zhQ b ⋯ ⋯).imp ?_
 rintro _ S1 ⟨rfl,k1⟩
 rw[show decide ((Str.ofString "while")∈fR)=false from decide_eq_false hw]
 refine⟨_,rfl,nofun,λ_=>zF ?_⟩
 refine xm (WC (zkN ?_))
 nofun
 walk_at "wr";unfold vM
 refine zG (zg5 ?_)
 nofun
 refine⟨_,_,rfl,yM,(show (0:Nat)<1000 by decide),?_⟩
 have e1:((S1++[Ce.ins "Grower" []]).set S1.length (.ins "Grower" (WA "boxes" (.tup (bsX bs)) [])))[S1.length]? =some (.ins "Grower" [("boxes",.tup (bsX bs))]):=wC yM
 refine zg5 ?_
 nofun
 refine⟨_,_,rfl,e1,(show (1:Nat)<1000 by decide),?_⟩
 have g2:YY S1.length bs 0 (((S1++[Ce.ins "Grower" []]).set S1.length (.ins "Grower" (WA "boxes" (.tup (bsX bs)) []))).set S1.length (.ins "Grower" (WA "leaves" (.int 0) [("boxes",.tup (bsX bs))]))):=wC e1
 have k2:Kp (λ_=>False) S1 (((S1++[Ce.ins "Grower" []]).set S1.length (.ins "Grower" (WA "boxes" (.tup (bsX bs)) []))).set S1.length (.ins "Grower" (WA "leaves" (.int 0) [("boxes",.tup (bsX bs))]))):=(((Kp.refl _).app).set (.inr (rL _))).set (.inr (rL _))
 generalize (((S1++[Ce.ins "Grower" []]).set S1.length (.ins "Grower" (WA "boxes" (.tup (bsX bs)) []))).set S1.length (.ins "Grower" (WA "leaves" (.int 0) [("boxes",.tup (bsX bs))])))=S2 at g2 k2 ⊢
 refine⟨rfl,_,_,rfl,g2,rfl,?_⟩
 nofun
 refine (TF (r:=[])).imp ?_
 rintro _ _ ⟨rfl,rfl⟩
 rw[sI]
 nofun
 have nI:=cW.le
 refine ((zed hb ⋯ h.ok.2.1 (zjO cW hb 100 hn ∅ h)) 210 0 st 0 _ ⋯ ⋯ hs g2).imp ?_
 rintro v S3 ⟨l,hh,e,gw⟩
 refine⟨l,hh,e,gw.ev,gw.rt,gw.hn,gw.dv,gw.e0,gw.lc,?_⟩
 refine⟨si (k1.trans k2).1 gw.kp.1,λm ce em _=> ?_⟩
 have nX:=k1.2 m ce em id
 have:=(rH.1 nX).1
 exact gw.kp.2 m ce (k2.2 m ce nX id) (show ¬m=S1.length by omega)
end
section
variable {fu:Nat} {S S' S2:Sto} {x y:Xv} {bs:List (Str×Nat)} {ln k:Nat}
def Gd (ln k:Nat) (S:Sto) (P:Xv->Prop) (v:Xv) (S':Sto):Prop:=P v/\∃k',yU ln k' S'/\k'<=k/\Kp (· =ln) S S'
theorem Wk (hl:yU ln k S) (hb:BOk bs):W (xn fu [.ref ln,.tup (bsX bs)] S) (Gd ln k S (Op bs)):=by
 have gQ:=hb.len
 walk_at "wr";unfold Yh
 nofun
 refine WO.of xw ?_
 rw[ve]
 nofun
 refine (yP hl ⋯).imp ?_
 rintro _ S1 ⟨c,rfl,c0,c1,l1,k1⟩
 nofun
 refine zS ?_
 nofun
 refine yH (λh=> ?_) (λh=>zF ?_)
 ·nofun
  refine WO.of xw ?_
  rw[ve]
  refine vJ ⋯ ?_
  have h0:=tI c (show (bs.length:Int)≠0 by omega)
  have h1:=tD c (show (0:Int)<(bs.length:Int) by omega)
  obtain⟨i,hi⟩:∃i:Nat,c % (bs.length:Int)=(i:Int):=⟨(c % (bs.length:Int)).toNat,⋯⟩
  rw[hi] at h1 ⊢
  have fB:i<bs.length:=by omega
  refine zP rfl (wP ⋯ (by rw[rQ];exact zaq (rG fB))) ?_
  nofun
  refine zP rfl ZX ?_
  exact⟨.inr ⟨i,bs[i].1,bs[i].2,rfl,rG fB⟩,_,l1,⋯,k1⟩
 ·refine zG (zS ?_)
  nofun
  refine yH (λh=> ?_) (λh=>zF ?_)
  ·nofun
   refine (yP l1 ∅).imp ?_
   rintro _ S2 ⟨d,rfl,d0,d1,l2,k2⟩
   exact⟨.inl ⟨d,rfl,d0,Int.lt_of_lt_of_le d1 ∅⟩,_,l2,⋯,k1.trans k2⟩
  ·nofun
   refine (yP l1 ∅).imp ?_
   rintro _ S2 ⟨d,rfl,d0,d1,l2,k2⟩
   exact⟨.inl ⟨d,rfl,d0,⋯⟩,_,l2,⋯,k1.trans k2⟩
theorem zhg {z:Str} {n:Nat} {v:Int} (hz:z.cps.toList.length=n) (hn:n<=100) (h0:0<=v) (h1:v<(n:Int)):∃c:Nat,z.cps.toList[v.toNat]? =some c/\zeO (.str z) (.int v) S=some (.str ⟨#[c]⟩,S):=by
 have hv:v.toNat<z.cps.toList.length:=by omega
 refine⟨z.cps.toList[v.toNat],rG hv,?_⟩
 unfold zeO zmi
 dsimp only
 rw[if_pos (by
  show z.cps.size<=sizeLine
  rw[<-ux]
  exact xR ⋯),wP h0 (rG hv)]
 rfl
theorem zjS (hl:yU ln k S) (hb:BOk bs):W (Zo fu [.ref ln,.tup (bsX bs)] S) (Gd ln k S (Te bs)):=by
 walk_at "wr";unfold WT
 nofun
 refine (Wk hl hb).imp ?_
 rintro o1 S1 ⟨h1,gY,l1,fk,k1⟩
 nofun
 refine (yP l1 ∅).imp ?_
 rintro _ S2 ⟨c,rfl,c0,c1,l2,k2⟩
 obtain⟨sg,_,e⟩:=zhg (S:=S2) (z:="=<#") (n:=3) ∅ ∅ c0 c1
 refine WO.of e ?_
 nofun
 refine (Wk l2 hb).imp ?_
 rintro o2 S3 ⟨h2,eU,l3,fV,k3⟩
 nofun
 exact⟨⟨o1,o2,_,rfl,h1,h2⟩,eU,l3,⋯,k1.trans (k2.trans k3)⟩
theorem zfk {nm:Str} {i s:Nat} (hl:yU ln k S) (hb:BOk bs) (hn:bs[i]? =some (nm,s)):W (Zq fu [.ref ln,.tup (bsX bs),.str nm] S) (Gd ln k S (Rk bs)):=by
 have ho:Op bs (.str nm):= .inr ⟨i,nm,s,rfl,hn⟩
 walk_at "wr";unfold Zp
 nofun
 refine (yP hl ∅).imp ?_
 rintro _ S1 ⟨c,rfl,c0,c1,l1,k1⟩
 nofun
 refine zS ?_
 nofun
 refine yH (λh=> ?_) (λh5=>zF ?_)
 ·nofun
  refine (yP l1 ∅).imp ?_
  rintro _ S2 ⟨d,rfl,d0,d1,l2,k2⟩
  nofun
  exact⟨.inr ⟨_,_,_,rfl,ho,.inl ⟨_,rfl,⋯,⋯⟩,.inl rfl⟩,_,l2,⋯,k1.trans k2⟩
 ·nofun
  refine (Wk l1 hb).imp ?_
  rintro o1 S2 ⟨h1,eV,l2,fA,k2⟩
  nofun
  refine zS ?_
  nofun
  refine yH (λh=> ?_) (λh4=>zF ?_)
  ·nofun
   exact⟨.inr ⟨_,_,_,rfl,h1,ho,.inr (.inl rfl)⟩,_,l2,⋯,k1.trans k2⟩
  ·refine zG (zS ?_)
   nofun
   refine yH (λh=> ?_) (λh0=>zF ?_)
   ·nofun
    exact⟨.inl ⟨_,rfl,h1⟩,_,l2,⋯,k1.trans k2⟩
   ·nofun
    obtain⟨sg,es,e⟩:=zhg (S:=S2) (z:=" +-*") (n:=4) ∅ ∅ c0 ⋯
    refine WO.of e ?_
    nofun
    refine (Wk l2 hb).imp ?_
    rintro o2 S3 ⟨h2,eU,l3,fV,k3⟩
    nofun
    refine⟨.inr ⟨_,_,_,rfl,h1,h2,?_⟩,eU,l3,⋯,k1.trans (k2.trans k3)⟩
    rcases (show c=1\/c=2\/c=3 by omega) with rfl|rfl|rfl
    ·cases es;exact .inl rfl
    ·cases es;exact .inr (.inl rfl)
    ·cases es;exact .inr (.inr rfl)
theorem Uc:∀{ws:List Int} {j:Nat} {v:Int},(∀w∈ws,0<=w/\w<1000000000)->j<ws.length->0<v->0<(ws.set j v).sum
 |[],j,v,_,hj,_=>by simp at hj
 |w::r,0,v,h,_,hv=>by
  have:=(zar λw hw=>h w (rT _ hw)).1
  rw[Bx,tE]
  omega
 |w::r,j+1,v,h,hj,hv=>by
  have h1:=h w (sj ..)
  have h2:=Uc (ws:=r) (j:=j) (v:=v) (λw hw=>h w (rT _ hw)) (by simpa using hj) hv
  rw[By,tE]
  omega
theorem zjT {ws:List Int} {j:Nat} {v:Int} (h:∀w∈ws,0<=w/\w<1000000000) (hv:0<=v/\v<1000000000):∀w∈ws.set j v,0<=w/\w<1000000000:=λw hw=>by
 rcases Am hw with hw|rfl
 ·exact h w hw
 ·exact hv
theorem zfl {n i:Nat} (h:i<n):ixN n (i:Int)=some i:=by
 unfold ixN
 rw[if_pos ⋯,if_pos ⋯,rQ]
theorem zhR {nm:Str} {i s:Nat} (hl:yU ln k S) (hb:BOk bs) (hn:bs[i]? =some (nm,s)):W (Yj fu [.ref ln,.int (s:Int)] S) (Gd ln k S λv=>∃ws:List Int,v= .tup (ws.map Xv.int)/\Ws bs nm i s ws):=by
 have hJ:=hb.siz _ (rX hn)
 dsimp only at hJ
 walk_at "wr";unfold Yi
 nofun
 refine Vw (λρ S1=>∃(most:Int) (k1:Nat),0<most/\most<=1000000000/\ρ=[some (.ref ln),some (.int (s:Int)),some (.int most),none,none]/\yU ln k1 S1/\k1<=k/\Kp (· =ln) S S1) (zS ?_) ?_
 ·nofun
  refine (yP hl ∅).imp ?_
  rintro _ S1 ⟨c,rfl,c0,c1,l1,k1⟩
  nofun
  refine yH (λh=> ?_) (λh=>zF ⟨4,_,∅,∅,rfl,l1,⋯,k1⟩)
  nofun
  exact⟨_,_,∅,∅,rfl,l1,⋯,k1⟩
 rintro _ S1 ⟨most,gY,m0,m1,rfl,l1,fk,k1⟩
 refine zG (yv (xW (ZC ?_)))
 nofun
 refine⟨⟨⋯,⋯⟩,_,rfl,?_⟩
 refine xF (by rw[yz];exact xR ⋯) (λj es S2=>∃(ws:List Int) (k2:Nat),es=ws.map Xv.int/\(∀w∈ws,0<=w/\w<1000000000)/\yU ln k2 S2/\k2<=k/\Kp (· =ln) S S2) (λ_ _ _ _ _=>rfl) ?_ ⟨[],gY,rfl,(λw hw=>by cases hw),l1,fk,k1⟩ ?_
 ·rintro j w es S2 hw eh ⟨ws,eV,rfl,dX,l2,fA,k2⟩
  refine .of rfl ?_
  dsimp only[ZS,tG,rY]
  nofun
  refine⟨rfl,?_⟩
  nofun
  refine (yP l2 ⋯).imp ?_
  rintro _ S3 ⟨c,rfl,c0,c1,l3,k3⟩
  refine⟨ws++[c],_,by rw[rR];rfl,λw hw=> ?_,l3,⋯,k2.trans k3⟩
  rcases sN.1 hw with hw|hw
  ·exact dX w hw
  ·rw[sD.1 hw];omega
 rintro es S2 hlen ⟨ws,eV,rfl,dX,l2,fA,k2⟩
 rw[rJ,yz,rQ] at hlen
 have e2:=yM (S:=S2) (c:=Ce.lst (ws.map Xv.int))
 have g8:=l2.lt
 nofun
 refine (yP l2.app ⋯).imp ?_
 rintro _ S3 ⟨c,rfl,c0,c1,l3,k3⟩
 have e3:=k3.2 _ _ e2 (show ¬S2.length=ln by omega)
 have eU:Kp (· =ln) S S3:=k2.trans ((Kp.pre (rW _ _)).trans k3)
 obtain⟨j,rfl⟩:∃j:Nat,c=(j:Int):=⟨c.toNat,⋯⟩
 have hj:j<ws.length:=by omega
 have ej:(ws.map Xv.int)[j]? =some (.int ws[j]):=by rw[rM,rG hj];rfl
 have cV:=dX ws[j] (uN hj)
 refine zG (zbG ?_)
 nofun
 refine zah (zR e3) (wP ⋯ (by rw[rQ];exact ej)) ?_
 nofun
 refine⟨_,_,_,j,xX e3,rfl,zfl (by rw[rJ];exact hj),?_⟩
 have e4:=wC (c':=Ce.lst ((ws.map Xv.int).set j (.int (if ws[j]>1 then ws[j] else 1)))) e3
 refine xm (Vv (xV ?_))
 nofun
 refine Yc e4 ?_
 refine⟨⟨ws.set j (if ws[j]>1 then ws[j] else 1),by rw[Av],hn,by rw[uZ];omega,zjT dX (by split<;>omega),Uc dX hj (by split<;>omega)⟩,eV-1,?_,⋯,eU.set (.inr k2.1)⟩
 obtain⟨ns,h1,h2⟩:=l3
 exact⟨ns,h1,zb0 h2 ⋯⟩
def Sd (bs:List (Str×Nat)) (v:Xv):Prop:=Pl bs v\/∃(nm:Str) (i s:Nat) (ws:List Int),Ws bs nm i s ws/\v= .tup [.str "draw",.str nm,.tup (ws.map Xv.int)]
theorem zjU {kd:Str} (hl:yU ln k S) (hb:BOk bs):W (YU fu [.ref ln,.tup (bsX bs),.str kd] S) (Gd ln k S (Sd bs)):=by
 have gQ:=hb.len
 walk_at "wr";unfold YT
 refine zG (zS ?_)
 nofun
 refine wG ⟨_,rfl,λh=> ?_,λh=>zF ?_⟩
 ·nofun
  refine (Wk hl hb).imp ?_
  rintro o S1 ⟨h1,gY,l1,fk,k1⟩
  nofun
  exact⟨.inl (.gain h1),gY,l1,fk,k1⟩
 refine zG (zS ?_)
 nofun
 refine wG ⟨_,rfl,λh=> ?_,λh=>zF ?_⟩
 ·nofun
  refine (zjS hl hb).imp ?_
  rintro o S1 ⟨h1,gY,l1,fk,k1⟩
  nofun
  exact⟨.inl (.look h1),gY,l1,fk,k1⟩
 have ps:∀{N:Rho->Sto->Prop} {ρ:Rho},WS (ye (yI [(eC (.str "pass"))]) ρ S) N (Gd ln k S (Sd bs)):=by
  intro N ρ
  nofun
  exact⟨.inl .pass,k,hl,rL _,Kp.refl _⟩
 refine zG (zS (ww ?_))
 nofun
 refine WO.of xw ?_
 rw[ve]
 nofun
 refine yH (λh=>⟨λ_=>ps,nofun⟩) (λh0=> ?_)
 nofun
 refine wG ⟨_,rfl,λh=>ps,λh=>zF ?_⟩
 nofun
 refine WO.of xw ?_
 rw[ve]
 nofun
 refine (yP hl ⋯).imp ?_
 rintro _ S1 ⟨c,rfl,c0,c1,l1,k1⟩
 obtain⟨i,rfl⟩:∃j:Nat,c=(j:Int):=⟨c.toNat,⋯⟩
 have hi:i<bs.length:=by omega
 have ei:bs[i]? =some (bs[i].1,bs[i].2):=rG hi
 refine zP rfl (wP ⋯ (by rw[rQ];exact zaq (rG hi))) ?_
 generalize bs[i]=b at ei
 obtain⟨nm,s⟩:=b
 nofun
 refine zS ?_
 nofun
 refine wG ⟨_,rfl,λh=> ?_,λh=>zF ?_⟩
 ·nofun
  refine zP rfl ZX ?_
  nofun
  refine zP rfl ZX ?_
  nofun
  refine (zfk l1 hb ei).imp ?_
  rintro o S2 ⟨h1,eV,l2,fA,k2⟩
  nofun
  exact⟨.inl (.set ei h1),eV,l2,⋯,k1.trans k2⟩
 ·nofun
  refine zP rfl ZX ?_
  nofun
  refine zP rfl Yo ?_
  nofun
  refine (zhR l1 hb ei).imp ?_
  rintro _ S2 ⟨⟨ws,rfl,hw⟩,eV,l2,fA,k2⟩
  nofun
  exact⟨.inr ⟨_,_,_,ws,hw,rfl⟩,eV,l2,⋯,k1.trans k2⟩
end
section
variable {fu:Nat} {S S' S2:Sto} {x y:Xv} {bs:List (Str×Nat)} {ln k:Nat} {N:Rho->Sto->Prop} {R:Xv->Sto->Prop} {rest:List Xv} {kd':Str}
theorem vn {j:Nat} {w:Str} {s t:TwS} {ρ:Rho} (hn:kd'≠w) (hρ:ρ[j]? =some (some (.tup (.str kd'::rest)))) (h:WS (t ρ S) N R):WS (sIf (bE (eOp (yn false) (eOp zy (ze j) (eC (.int 0))) (eC (.str w)))) s t ρ S) N R:=by
 refine zS (zbF (ZW (ZW (vI hρ ?_))))
 nofun
 exact yo hn ⟨_,rfl,nofun,λ_=>h⟩
theorem wH {j:Nat} {s t:TwS} {ρ:Rho} (hρ:ρ[j]? =some (some (.tup (.str kd'::rest)))) (h:WS (s ρ S) N R):WS (sIf (bE (eOp (yn false) (eOp zy (ze j) (eC (.int 0))) (eC (.str kd')))) s t ρ S) N R:=by
 refine zS (zbF (ZW (ZW (vI hρ ?_))))
 nofun
 exact xl ⟨_,rfl,λ_=>h,nofun⟩
theorem xp {j:Nat} {w:Str} {s t:TwS} {ρ:Rho} (hn:kd'≠w) (hρ:ρ[j]? =some (some (.tup (.str kd'::rest)))) (h:WS (t ρ S) N R):WS (zD (sIf (bE (eOp (yn false) (eOp zy (ze j) (eC (.int 0))) (eC (.str w)))) s zT) t ρ S) N R:=zG (vn hn hρ (zF h))
theorem zhh {α:Type} {l:List α} {i:Nat} {w:α} (h:l[i]? =some w):l.drop i=w::l.drop (i+1):=by
 obtain⟨hi,rfl⟩:=rH.1 h
 exact An hi
theorem zfm {α:Type} {l:List α}:l.drop l.length=[]:=BU
def zjV (fu:Nat) (bs:List (Str×Nat)) (q:Nat):Prop:=∀(ds:List Xv) (n c:Nat) (d:Int) (m:Nat) (S:Sto),Bk bs q ds n d c->q<m->n<=1000000->W (yL fu m [.tup ds] S) λv S'=>v= .int (n:Int)/\Kp (λ_=>False) S S'
theorem zc8 {p:Hb} {ps:List Hb}:Us (p::ps)=p.2.1+Us ps:=by unfold Us;rw[sH,tE]
theorem znV {q:Nat} (ih:∀q',q'+1=q->zjV fu bs q'):zjV fu bs q:=by
 intro ds n c d m S hB hm hn
 obtain⟨m,rfl⟩:∃p,m=p+1:=⟨m-1,⋯⟩
 rw[Yp]
 walk_at "wr";unfold Zr
 nofun
 refine wB (We ?_)
 nofun
 refine xt (xs:=ds) (λi ρ S2=>∃(a:Int) (n2 c2:Nat) (d2:Int) (a2:Option Xv),ρ=[some (.tup ds),some (.int a),a2]/\Bk bs q (ds.drop i) n2 d2 c2/\0<=a/\a+(n2:Int)=(n:Int)/\Kp (λ_=>False) S S2) (λ_ _ _ _ _=>rfl) ?_ ⟨0,n,c,d,none,rfl,by rw[A5];exact hB,Int.le_refl _,tM _,Kp.refl _⟩ ?_
 ·rintro i w ρ S2 hw ⟨a,n2,c2,d2,a2,rfl,eX,ha,ec,k2⟩
  rw[zhh hw] at eX
  refine .of rfl ?_
  dsimp only[rY]
  refine zG (yv (ZW (vI rfl (zeV ?_))))
  refine Vx ?_
  dsimp only[rY]
  cases eX with
  |plain hp hr=>
   cases hp<;>exact xp ∅ rfl (xp ∅ rfl (xp ∅ rfl (vn ∅ rfl (zF ⟨_,_,_,_,_,rfl,hr,⋯,⋯,k2⟩))))
  |draw hw hr=>exact xp ∅ rfl (xp ∅ rfl (xp ∅ rfl (vn ∅ rfl (zF ⟨_,_,_,_,_,rfl,hr,⋯,⋯,k2⟩))))
  | @cond q' t u v _ na nb _ _ _ _ _ _ _ ht hu hv hr=>
   refine zG (wH rfl (yv ?_))
   nofun
   refine zP rfl (show atI [Xv.str "if",t,.tup u,.tup v] 2=some (.tup u) from rfl) ?_
   nofun
   refine (ih q' rfl _ _ _ _ m _ hu ⋯ ⋯).imp ?_
   rintro _ S3 ⟨rfl,k3⟩
   nofun
   refine zP rfl (show atI [Xv.str "if",t,.tup u,.tup v] 3=some (.tup v) from rfl) ?_
   nofun
   refine (ih q' rfl _ _ _ _ m _ hv ⋯ ⋯).imp ?_
   rintro _ S4 ⟨rfl,k4⟩
   refine Vx ?_
   dsimp only[rY]
   exact xp ∅ rfl (xp ∅ rfl (vn ∅ rfl (zF ⟨_,_,_,_,_,rfl,hr,⋯,⋯,k2.trans (k3.trans k4)⟩)))
  | @times q' kk u _ na _ _ _ _ _ hk hu hr=>
   have qP:1*(1+na)<=max 1 kk*(1+na):=sM _ ⋯
   refine xp ∅ rfl (xp ∅ rfl (zG (wH rfl (yv ?_))))
   nofun
   refine zP rfl (show atI [Xv.str "times",.int (kk:Int),.tup u] 2=some (.tup u) from rfl) ?_
   nofun
   refine (ih q' rfl _ _ _ _ m _ hu ⋯ ⋯).imp ?_
   rintro _ S3 ⟨rfl,k3⟩
   nofun
   rw[show (if (kk:Int)>1 then (kk:Int) else 1)=((max 1 kk:Nat):Int) by split<;>omega,show (1:Int)+(na:Int)=((1+na:Nat):Int) by omega]
   refine wo ?_ ?_
   ·have h1:=XS (p:=((max 1 kk:Nat):Int)) ⋯
    have h2:=XS (p:=((1+na:Nat):Int)) ⋯
    omega
   rw[<-uk]
   refine Vx ?_
   dsimp only[rY]
   exact vn ∅ rfl (zF ⟨_,_,_,_,_,rfl,hr,⋯,⋯,k2.trans k3⟩)
  | @hand q' ps _ _ _ _ h2 h9 eO hr=>
   refine xp ∅ rfl (xp ∅ rfl (xp ∅ rfl (wH rfl (yv ?_))))
   refine ZW (vI rfl (Vv (xV (xW (We ?_)))))
   nofun
   refine xF (by rw[rJ];exact xR ⋯) (λj es S3=>es=(ps.take j).map (λp=>Xv.int (p.2.1:Int))/\Kp (λ_=>False) S S3) (λ_ _ _ _ _=>rfl) ?_ ⟨rfl,k2⟩ ?_
   ·rintro j w es S3 cV eh ⟨rfl,k3⟩
    rw[rM] at cV
    cases cR:ps[j]? with
    |none=>rw[cR] at cV;cases cV
    |some p=>
     rw[cR] at cV
     cases cV
     have hU:=rX cR
     have lA:=zee hU
     refine .of rfl ?_
     dsimp only[ZS,tG,rY]
     nofun
     refine⟨rfl,?_⟩
     nofun
     refine (ih q' rfl _ _ _ _ m _ (eO p hU) ⋯ ⋯).imp ?_
     rintro _ S4 ⟨rfl,k4⟩
     exact⟨by rw[xg cR,rR];rfl,k3.trans k4⟩
   rintro es S3 eh ⟨rfl,k3⟩
   rw[rJ,sE]
   refine Vu ?_
   refine WO.of (show zeU [.ref S3.length] (S3 ++ [.lst (ps.map λp => Xv.int (p.2.1 : Int))]) = some (.int (Us ps : Nat), S3 ++ [.lst (ps.map λp => Xv.int (p.2.1 : Int))]) by
    unfold zeU
    dsimp only
    rw[zR yM,rZ,show (ps.map λp=>Xv.int (p.2.1:Int))=(ps.map λp=>(p.2.1:Int)).map Xv.int by rw[t9];rfl,ZB]
    show some (Xv.int _,_)=_
    rw[show (ps.map λp=>(p.2.1:Int)).sum=((Us ps:Nat):Int) by
     clear h2 h9 eO hr ec hw eh
     induction ps with
     |nil=>rfl
     |cons p r ih=>rw[sH,tE,zc8,ih];omega]) ?_
   nofun
   exact⟨_,_,_,_,_,rfl,hr,⋯,⋯,k3.app⟩
 ·rintro ρ S2 ⟨a,n2,c2,d2,a2,rfl,eX,ha,ec,k2⟩
  rw[zfm] at eX
  cases eX
  nofun
  exact⟨by congr 1;omega,k2⟩
theorem zca:∀q:Nat,zjV fu bs q
 |0=>znV λq' h=>by omega
 |q+1=>znV λq' h=>by
  obtain rfl:q'=q:=by omega
  exact @zca q'
end
section
variable {fu:Nat} {S S' S2:Sto} {x y:Xv} {bs:List (Str×Nat)} {ln k:Nat} {N:Rho->Sto->Prop} {R:Xv->Sto->Prop} {rest:List Xv} {kd':Str}
def Sa (a:Int) (P:Nat):Prop:=1<=P/\1<=a/\a<=9000/\(a=(P:Int)\/(1000<=a/\1000<=P))
theorem Sa.one:Sa 1 1:=⟨∅,∅,∅,.inl rfl⟩
theorem Sa.nat {P:Nat} (h1:1<=P) (h2:P<=9000):Sa (P:Int) P:=⟨h1,⋯,⋯,.inl rfl⟩
theorem Sa.mx {a b:Int} {P Q:Nat} (h:Sa a P) (g:Sa b Q):Sa (if b>a then b else a) (max P Q):=by
 unfold Sa at*
 split<;>omega
theorem Sa.mul {a b:Int} {P Q:Nat} (h:Sa a P) (g:Sa b Q):Sa (if a*b<1000 then a*b else 1000) (P*Q)/\(if a*b<1000 then a*b else 1000)<=1000:=by
 obtain⟨p1,a1,a9,ha⟩:=h
 obtain⟨q1,b1,b9,hb⟩:=g
 have gO:1<=P*Q:=uT p1 q1
 have fT:a*1<=a*b:=uD b1 ⋯
 have qf:1*b<=a*b:=u3 a1 ⋯
 have qN:P*1<=P*Q:=uY _ q1
 have pd:1*Q<=P*Q:=sM _ p1
 refine⟨⟨gO,by split<;>omega,by split<;>omega,?_⟩,by split<;>omega⟩
 rcases ha with ha|⟨ha,lZ⟩
 ·rcases hb with hb|⟨hb,eR⟩
  ·have e:a*b=((P*Q:Nat):Int):=by rw[ha,hb,uk]
   rw[e]
   split
   ·exact .inl rfl
   ·exact .inr ⟨∅,⋯⟩
  ·rw[if_neg ⋯];exact .inr ⟨∅,⋯⟩
 ·rw[if_neg ⋯];exact .inr ⟨∅,⋯⟩
theorem Sa.add {a b:Int} {P Q:Nat} (h:Sa a P) (g:Sa b Q) (hs:a+b<=9000):Sa (a+b) (P+Q):=by
 unfold Sa at*
 omega
theorem TJ {x0 x2 a5:Option Xv} {a h:Int} {P H kk:Nat} (hk:kk<=100) (ha:Sa a P) (gU:a<=1000) (hh:Sa h H) (hN:∀a' gJ,Sa a' (P*H^kk)->a'<=1000->N [x0,some (.int a'),x2,some (.int (kk:Int)),some (.int h),gJ] S):
  WS (YH (iR1 (ze 3)) (gN 5) (zO (eFn ziX [(eC (.int 1000)),(eOp wF (ze 1) (ze 4))]) (gN 1)) [x0,some (.int a),x2,some (.int (kk:Int)),some (.int h),a5] S) N R:=by
 refine wB (ZC ?_)
 nofun
 refine⟨⟨⋯,⋯⟩,_,rfl,?_⟩
 refine xt (xs:=xO 0 ((kk:Int)).toNat) (λi ρ S2=>∃a' gJ,ρ=[x0,some (.int a'),x2,some (.int (kk:Int)),some (.int h),gJ]/\Sa a' (P*H^i)/\a'<=1000/\S2=S) (λ_ _ _ _ _=>rfl) ?_ ⟨a,a5,rfl,by rw[Nat.pow_zero,AX];exact ha,gU,rfl⟩ ?_
 ·rintro i w ρ S2 hw ⟨a',gJ,rfl,h1,h2,rfl⟩
  refine .of rfl ?_
  dsimp only[rY]
  nofun
  refine wo ?_ ?_
  ·have b1:=XS (p:=a') (by have:=h1.2.1;omega)
   have b2:=XS (p:=h) (by have:=hh.2.1;have:=hh.2.2.1;omega)
   omega
  nofun
  obtain⟨g1,g2⟩:=h1.mul hh
  exact⟨_,_,rfl,by rw[Nat.pow_succ,<-u6];exact g1,g2,rfl⟩
 ·rintro ρ S2 ⟨a',gJ,rfl,h1,h2,rfl⟩
  rw[yz,rQ] at h1
  exact hN _ _ h1 h2
def zjW (fu:Nat) (bs:List (Str×Nat)) (q:Nat):Prop:=∀(ds:List Xv) (n c:Nat) (d:Int) (m:Nat) (S:Sto),Bk bs q ds n d c->q<m->W (yT fu m [.tup ds] S) λv S'=>∃a,v= .int a/\Sa a c/\a<=1000/\Kp (λ_=>False) S S'
theorem zhS {a:List Hb} {p:Hb}:Yy (a++[p])=Yy a+p.2.2.2:=by unfold Yy;rw[rR,tO];simp
theorem znW {q:Nat} (ih:∀q',q'+1=q->zjW fu bs q'):zjW fu bs q:=by
 intro ds n c d m S hB hm
 obtain⟨m,rfl⟩:∃p,m=p+1:=⟨m-1,⋯⟩
 rw[Yq]
 walk_at "wr";unfold Zs
 nofun
 refine wB (We ?_)
 nofun
 refine xt (xs:=ds) (λi ρ S2=>∃(a:Int) (P n2 c2:Nat) (d2:Int) (a2 a3 a4 a5:Option Xv),ρ=[some (.tup ds),some (.int a),a2,a3,a4,a5]/\Bk bs q (ds.drop i) n2 d2 c2/\Sa a P/\a<=1000/\P*c2=c/\Kp (λ_=>False) S S2) (λ_ _ _ _ _=>rfl) ?_ ⟨1,1,n,c,d,none,none,none,none,rfl,by rw[A5];exact hB,Sa.one,∅,Nat.one_mul _,Kp.refl _⟩ ?_
 ·rintro i w ρ S2 hw ⟨a,P,n2,c2,d2,a2,a3,a4,a5,rfl,eX,ha,gU,ec,k2⟩
  rw[zhh hw] at eX
  refine .of rfl ?_
  dsimp only[rY]
  refine zG (yv (zeV ?_))
  refine zG (yv (zeV ?_))
  dsimp only[rY]
  cases eX with
  |plain hp hr=>
   cases hp<;>exact xp ∅ rfl (xp ∅ rfl (xp ∅ rfl (xp ∅ rfl (TJ (kk:=1) ∅ ha gU Sa.one λa' gJ h1 h2=>⟨_,_,_,_,_,_,_,_,_,rfl,hr,h1,h2,by rw[B1,AX];exact ec,k2⟩))))
  | @draw _ nm bi s ws _ _ _ _ dX hr=>
   refine zG (wH rfl (yv ?_))
   refine Vv (xV (xW (We ?_)))
   nofun
   refine zP rfl (show atI [Xv.str "draw",.str nm,.tup (ws.map Xv.int)] 2=some (.tup (ws.map Xv.int)) from rfl) ?_
   refine⟨_,rfl,_,rfl,?_⟩
   have pB:=dX.len
   refine zeX (by rw[rJ];exact xR ⋯) (λj es S3=>es.length=(xo 0 (ws.take j)).length/\S3=S2) (λ_ _ _ _ _=>rfl) ?_ ⟨rfl,rfl⟩ ?_
   ·rintro j w es S3 cV eh ⟨he,rfl⟩
    rw[rM] at cV
    cases cR:ws[j]? with
    |none=>rw[cR] at cV;cases cV
    |some u=>
     rw[cR] at cV
     cases cV
     refine .of rfl ?_
     dsimp only[ZS,tG,rY]
     nofun
     refine⟨λh=> ?_,λh=> ?_⟩
     ·nofun
      refine⟨?_,rfl⟩
      rw[Wj cR,if_pos (of_decide_eq_true h),rV,rV,he]
      rfl
     ·refine⟨?_,rfl⟩
      rw[Wj cR,if_neg (of_decide_eq_false h),sI,he]
   rintro es S3 eh ⟨he,rfl⟩
   rw[rJ,sE] at he
   have eW:=Ub ws 0
   have lA:=Bo.2 (za1 0 dX.nn dX.pos)
   refine Vu ?_
   refine UE (zR yM) ?_
   rw[he]
   dsimp only[rY]
   exact xp ∅ rfl (xp ∅ rfl (xp ∅ rfl (TJ (kk:=1) ∅ ha gU (Sa.nat lA ⋯) λa' gJ h1 h2=>⟨_,_,_,_,_,_,_,_,_,rfl,hr,h1,h2,by rw[B1,u6];exact ec,k2.app⟩)))
  | @cond q' t u v _ na nb _ _ _ _ _ _ _ ht hu hv hr=>
   refine xp ∅ rfl (zG (wH rfl (yv ?_)))
   nofun
   refine zP rfl (show atI [Xv.str "if",t,.tup u,.tup v] 2=some (.tup u) from rfl) ?_
   nofun
   refine (ih q' rfl _ _ _ _ m _ hu ⋯).imp ?_
   rintro _ S3 ⟨b1,rfl,gj,_,k3⟩
   nofun
   refine zP rfl (show atI [Xv.str "if",t,.tup u,.tup v] 3=some (.tup v) from rfl) ?_
   nofun
   refine (ih q' rfl _ _ _ _ m _ hv ⋯).imp ?_
   rintro _ S4 ⟨b2,rfl,jJ,_,k4⟩
   refine Vu (zi6 ?_)
   dsimp only[rY]
   exact xp ∅ rfl (xp ∅ rfl (TJ (kk:=1) ∅ ha gU (gj.mx jJ) λa' gJ h1 h2=>⟨_,_,_,_,_,_,_,_,_,rfl,hr,h1,h2,by rw[B1,u6];exact ec,k2.trans (k3.trans k4)⟩))
  | @times q' kk u _ na _ _ _ _ _ hk hu hr=>
   refine xp ∅ rfl (xp ∅ rfl (xp ∅ rfl (zG (wH rfl (zG (yv ?_))))))
   refine ZW (vI rfl (zeV (zi8 ?_)))
   dsimp only[rY]
   refine yv ?_
   nofun
   refine zP rfl (show atI [Xv.str "times",.int (kk:Int),.tup u] 2=some (.tup u) from rfl) ?_
   nofun
   refine (ih q' rfl _ _ _ _ m _ hu ⋯).imp ?_
   rintro _ S3 ⟨b1,rfl,gj,_,k3⟩
   dsimp only[rY]
   exact TJ ⋯ ha gU gj λa' gJ h1 h2=>⟨_,_,_,_,_,_,_,_,_,rfl,hr,h1,h2,by rw[u6];exact ec,k2.trans k3⟩
  | @hand q' ps _ _ _ _ h2 h9 eO hr=>
   refine xp ∅ rfl (xp ∅ rfl (zG (wH rfl (yv ?_))))
   refine Vv (xV (xW (We ?_)))
   nofun
   refine xF (by rw[rJ];exact xR ⋯) (λj es S3=>∃ns:List Int,es=ns.map Xv.int/\ns.sum<=1000*j/\(j=0\/Sa ns.sum (Yy (ps.take j)))/\(j=0->ns=[])/\Kp (λ_=>False) S S3) (λ_ _ _ _ _=>rfl) ?_ ⟨[],rfl,∅,.inl rfl,λ_=>rfl,k2⟩ ?_
   ·rintro j w es S3 cV eh ⟨ns,rfl,iY,dZ,nh,k3⟩
    rw[rM] at cV
    cases cR:ps[j]? with
    |none=>rw[cR] at cV;cases cV
    |some p=>
     rw[cR] at cV
     cases cV
     have hU:=rX cR
     have hj:=(rH.1 cR).1
     refine .of rfl ?_
     dsimp only[ZS,tG,rY]
     nofun
     refine⟨rfl,?_⟩
     nofun
     refine (ih q' rfl _ _ _ _ m _ (eO p hU) ⋯).imp ?_
     rintro _ S4 ⟨b1,rfl,gj,gQ,k4⟩
     have es:(ns++[b1]).sum=ns.sum+b1:=by rw[tO];simp
     refine⟨ns++[b1],by rw[rR];rfl,by rw[es];omega,.inr ?_,(λh=>by omega),k3.trans k4⟩
     rw[es,xg cR,zhS]
     rcases dZ with rfl|dZ
     ·rw[nh rfl]
      show Sa (0+b1) (0+p.2.2.2)
      rw[tM,v8]
      exact gj
     ·exact dZ.add gj ⋯
   rintro es S3 eh ⟨ns,rfl,iY,dZ,nh,k3⟩
   rw[rJ] at iY dZ
   rw[sE] at dZ
   have p5:Sa ns.sum (Yy ps):=dZ.resolve_left ⋯
   refine Vu ?_
   refine WO.of (show zeU [.ref S3.length] (S3 ++ [.lst (ns.map Xv.int)]) = some (.int ns.sum, S3 ++ [.lst (ns.map Xv.int)]) by
    unfold zeU
    dsimp only
    rw[zR yM,rZ,ZB]
    rfl) ?_
   dsimp only[rY]
   exact xp ∅ rfl (TJ (kk:=1) ∅ ha gU p5 λa' gJ h1 h2=>⟨_,_,_,_,_,_,_,_,_,rfl,hr,h1,h2,by rw[B1,u6];exact ec,k3.app⟩)
 ·rintro ρ S2 ⟨a,P,n2,c2,d2,a2,a3,a4,a5,rfl,eX,ha,gU,ec,k2⟩
  rw[zfm] at eX
  cases eX
  nofun
  rw[AX] at ec
  subst ec
  exact⟨ha,gU,k2⟩
theorem zfn:∀q:Nat,zjW fu bs q
 |0=>znW λq' h=>by omega
 |q+1=>znW λq' h=>by
  obtain rfl:q'=q:=by omega
  exact zfn q'
end
section
variable {fu:Nat} {S S' S2:Sto} {x y:Xv} {bs:List (Str×Nat)} {ln kn k:Nat} {N:Rho->Sto->Prop} {R:Xv->Sto->Prop} {rest:List Xv} {kd':Str}
noncomputable def Bn:Nat->Nat
 |0=>1
 |q+1=>61*(1+3*Bn q)
theorem zjX:∀q,1<=Bn q
 |0=>rL _
 |q+1=>by show 1<=61*(1+3*Bn q);omega
noncomputable def Uk:List Str:=["draw","set","hand","gain","if","look","times","draw","set","pass"]
def KAt (kn:Nat) (S:Sto):Prop:=S[kn]? =some (.lst (Uk.map Xv.str))
theorem KAt.keep (h:KAt kn S) (q:Kp (· =ln) S S') (z:ln≠kn):KAt kn S':=q.2 _ _ h (λe=>z e.symm)
def Dd (bs:List (Str×Nat)) (q:Nat) (v:Xv):Prop:=∃n c d,Bk bs q [v] n d c/\n<=Bn q
def Bb (bs:List (Str×Nat)) (q:Nat) (v:Xv):Prop:=∃ds n c d,v= .tup ds/\Bk bs q ds n d c/\n<=3*Bn q
theorem Sd.dd {v:Xv} {q:Nat} (h:Sd bs v):Dd bs q v:=by
 have:=zjX q
 rcases h with h|⟨nm,i,s,ws,hw,rfl⟩
 ·exact⟨_,_,_,.plain h .nil,this⟩
 ·exact⟨_,_,_,.draw hw .nil,this⟩
def zcb (fu:Nat) (bs:List (Str×Nat)) (ln kn q m:Nat):Prop:=∀(k:Nat) (S:Sto),yU ln k S->KAt kn S->W (yC fu m [.ref ln,.tup (bsX bs),.ref kn,.int (q:Int)] S) λv S'=>Dd bs q v/\∃k',yU ln k' S'/\k'<=k/\(0<k->k'<k)/\Kp (· =ln) S S'
def ZI (fu:Nat) (bs:List (Str×Nat)) (ln kn q m:Nat):Prop:=∀(k:Nat) (S:Sto),yU ln k S->KAt kn S->W (yF fu m [.ref ln,.tup (bsX bs),.ref kn,.int (q:Int)] S) (Gd ln k S (Bb bs q))
theorem zef {q m:Nat} (hz:ln≠kn) (dk:zcb fu bs ln kn q m):ZI fu bs ln kn q (m+1):=by
 intro k S hl hk
 rw[YV]
 walk_at "wr";unfold ZO
 refine xm (Vv (xV (xW (ZC ?_))))
 nofun
 refine (yP hl ∅).imp ?_
 rintro _ S1 ⟨c,rfl,c0,c1,l1,k1⟩
 refine⟨c,rfl,⟨⋯,⋯⟩,_,rfl,?_⟩
 refine xF (by rw[yz];exact xR ⋯) (λj es S2=>∃n c d k2,Bk bs q es n d c/\n<=j*Bn q/\yU ln k2 S2/\k2<=k/\Kp (· =ln) S S2) (λ_ _ _ _ _=>rfl) ?_ ⟨0,1,1,k-1,.nil,tf _,l1,⋯,k1⟩ ?_
 ·rintro j w es S2 hw eh ⟨n,c,d,eV,hB,hn,l2,fA,k2⟩
  refine .of rfl ?_
  dsimp only[ZS,tG,rY]
  nofun
  refine⟨rfl,?_⟩
  nofun
  refine (dk eV S2 l2 (hk.keep k2 hz)).imp ?_
  rintro v S3 ⟨⟨n3,c3,d3,mh,nA⟩,eU,l3,fV,_,k3⟩
  exact⟨_,_,_,_,hB.app mh,by rw[uI];omega,l3,⋯,k2.trans k3⟩
 rintro es S2 eh ⟨n,c2,d,eV,hB,hn,l2,fA,k2⟩
 rw[yz] at hn
 nofun
 refine Yc yM ?_
 exact⟨⟨es,n,c2,d,rfl,hB,si hn (sM _ ⋯)⟩,eV,l2.app,fA,k2.app⟩
theorem zjY {P:Xv->Sto->Prop} {a b:List Xv} (h1:yD S x=some a) (h2:yD S y=some b) (h:a.length+b.length<=sizeLine) (k:P (.ref S.length) (S++[.lst (a++b)])):WO (zeS x y S) P:= .of (by unfold zeS;rw[h1,h2];exact if_pos h) k
theorem zfo {b:Nat}:∀{ps:List Hb},(∀p∈ps,p.2.1<=b)->Us ps<=ps.length*b
 |[],_=>tf _
 |p::r,h=>by
  have h1:=h p (sj ..)
  have h2:=zfo λq hq=>h q (rT _ hq)
  rw[zc8,rP,uI]
  omega
theorem zfp:∀w∈Uk,w="hand"\/w="if"\/w="times"\/([Xv.str "if",.str "while",.str "times",.str "hand"].any λz=>zcp z (.str w))=false:=by decide
theorem zjZ {q m:Nat} (hz:ln≠kn) (hb:BOk bs) (qM:q<=6) (nj:∀q',q'+1=q->3*Bn q'<=1000000) (bk:∀q',q'+1=q->ZI fu bs ln kn q' m) (b0:0<q->ZI fu bs ln kn 0 m):zcb fu bs ln kn q (m+1):=by
 intro k S hl hk
 rw[Xo]
 walk_at "wr";unfold Yw
 nofun
 refine UE (zR hk) ?_
 nofun
 refine (yP hl ∅).imp ?_
 rintro _ S1 ⟨c,rfl,c0,c1,l1,k1⟩
 have rE:c<10:=c1
 have fk:=hk.keep k1 hz
 have nK:c.toNat<Uk.length:=by show c.toNat<10;omega
 have n9:=uN nK
 refine zah (zR fk) (wP c0 (by rw[rM,rG nK];rfl)) ?_
 generalize Uk[c.toNat]=w at n9
 have dq:∀{S2:Sto} {N:Rho->Sto->Prop} {R:Xv->Sto->Prop} {t:TwS},yU ln (k-1) S2->KAt kn S2->Kp (· =ln) S S2->(∀z S2,Dd bs q z->yU ln (k-1) S2->Kp (· =ln) S S2->R z S2)->(∀q',q'+1=q->∀u S3 k3,Bb bs q' u->yU ln k3 S3->k3<=k-1->Kp (· =ln) S S3->WS (t [some (.ref ln),some (.tup (bsX bs)),some (.ref kn),some (.int (q:Int)),some (.str w),some u,none,none,none,none] S3) N R)->WS ((zD (sIf (bE (eOp ZT (ze 3) (eC (.int 0)))) (ye (yI [(eC (.str "pass"))])) zT) (zD (zO (zE (yF fu m) [(ze 0),(ze 1),(ze 2),(eOp zdB (ze 3) (eC (.int 1)))]) (gN 5)) t)) [some (.ref ln),some (.tup (bsX bs)),some (.ref kn),some (.int (q:Int)),some (.str w),none,none,none,none,none] S2) N R:=by
  intro S2 N R t l2 fA k2 hR ht
  refine zG (zS ?_)
  nofun
  refine yH (λh=> ?_) (λh=>zF ?_)
  ·nofun
   exact hR _ _ (Sd.dd (.inl .pass)) l2 k2
  obtain⟨q',rfl⟩:∃q',q=q'+1:=⟨q-1,⋯⟩
  refine zG (yv ?_)
  nofun
  rw[show ((q'+1:Nat):Int)-1=(q':Int) by omega]
  refine (bk q' rfl _ S2 l2 fA).imp ?_
  rintro u S3 ⟨hu,eU,l3,fV,k3⟩
  dsimp only[rY]
  exact ht q' rfl u S3 eU hu l3 fV (k2.trans k3)
 refine zG (zS ?_)
 nofun
 refine zlE (l:=[.str "if",.str "while",.str "times",.str "hand"]) (show wN _ _=_ from zR yM) rfl ?_
 rcases zfp w n9 with rfl|rfl|rfl|h
 ·refine⟨_,rfl,nofun,λ_=>zF ?_⟩
  refine dq l1.app (fk.keep (ln:=ln) (Kp.pre (rW _ _)) hz) k1.app (λz S2 h1 h2 h3=>⟨h1,_,h2,⋯,(λh=>by omega),h3⟩) ?_
  intro q' fS u S3 eU hu l3 fV k3
  subst fS
  obtain⟨du,nu,cu,jd,rfl,j9,js⟩:=hu
  refine zG (zS ?_)
  nofun
  refine yo ∅ ⟨_,rfl,nofun,λ_=>zF ?_⟩
  refine zG (zS ?_)
  nofun
  refine yo ∅ ⟨_,rfl,nofun,λ_=>zF ?_⟩
  refine zG (yv ?_)
  nofun
  rw[show ((q'+1:Nat):Int)-1=(q':Int) by omega]
  refine (bk q' rfl eU S3 l3 (hk.keep k3 hz)).imp ?_
  rintro _ S4 ⟨⟨dv,nv,cv,jQ,rfl,md,nz⟩,mH,l4,lN,k4⟩
  dsimp only[rY]
  refine zG (zS ?_)
  nofun
  refine yo ∅ ⟨_,rfl,nofun,λ_=>zF ?_⟩
  nofun
  refine (yP l4 ∅).imp ?_
  rintro _ S5 ⟨e,rfl,e0,e1,l5,k5⟩
  have jX:Kp (· =ln) S (S5++[Ce.lst [Xv.tup du,.tup dv]]):=(k3.trans (k4.trans k5)).app
  refine zG (yv (ZW ?_))
  refine zi3 (xV (vI rfl (xV (vI rfl (Vu ?_)))))
  refine xW (ZC ?_)
  nofun
  have pS:(if e-3>0 then e-3 else 0)=(((e-3).toNat:Nat):Int):=by split<;>omega
  rw[pS]
  refine⟨⟨⋯,⋯⟩,_,rfl,?_⟩
  have rg:Bn 0<=Bn q':=zjX q'
  refine xF (by rw[yz];exact xR ⋯) (λj es S2=>∃(ps:List Hb) (k2:Nat),es=ps.map (λp=>Xv.tup p.1)/\(∀p∈ps,Bk bs q' p.1 p.2.1 p.2.2.1 p.2.2.2/\p.2.1<=3*Bn q')/\yU ln k2 S2/\k2<=mH/\Kp (· =ln) (S5++[Ce.lst [Xv.tup du,.tup dv]]) S2) (λ_ _ _ _ _=>rfl) ?_ ⟨[],_,rfl,(λp hp=>by cases hp),l5.app,⋯,Kp.refl _⟩ ?_
  ·rintro j w es S6 hw eh ⟨ps,kG,rfl,eO,l6,pG,k6⟩
   refine .of rfl ?_
   dsimp only[ZS,tG,rY]
   nofun
   refine⟨rfl,?_⟩
   nofun
   refine (b0 ⋯ kG S6 l6 (hk.keep (jX.trans k6) hz)).imp ?_
   rintro _ S7 ⟨⟨dw,nw,cw,qx,rfl,m8,qO⟩,oz,l7,qW,k7⟩
   refine⟨ps++[(dw,nw,qx,cw)],oz,by rw[rR];rfl,λp hp=> ?_,l7,⋯,k6.trans k7⟩
   rcases sN.1 hp with hp|hp
   ·exact eO p hp
   ·rw[sD.1 hp]
    exact⟨m8.up (tf _),by dsimp only;omega⟩
  rintro es S6 eh ⟨ps,kG,rfl,eO,l6,pG,k6⟩
  rw[yz,rJ] at eh
  have e6:S6[S5.length]? =some (Ce.lst [Xv.tup du,.tup dv]):=k6.2 _ _ yM (by have:=l5.lt;omega)
  refine zjY (a:=[Xv.tup du,.tup dv]) (b:=ps.map λp=>Xv.tup p.1) (zR ((Kp.pre (w:=λ_=>False) (rW _ _)).2 _ _ e6 id)) (zR yM) (by rw[rJ];exact xR (show 2+ps.length<=100 by omega)) ?_
  nofun
  refine Yc yM ?_
  nofun
  have gS:∀p∈(du,nu,jd,cu)::(dv,nv,jQ,cv)::ps,Bk bs q' p.1 p.2.1 p.2.2.1 p.2.2.2/\p.2.1<=3*Bn q':=by
   intro p hp
   rcases sq.1 hp with rfl|hp
   ·exact⟨j9,js⟩
   rcases sq.1 hp with rfl|hp
   ·exact⟨md,nz⟩
   ·exact eO p hp
  have hlen:((du,nu,jd,cu)::(dv,nv,jQ,cv)::ps).length<=9:=by simp only[rP];omega
  refine⟨⟨_,_,_,Bk.hand (ps:=(du,nu,jd,cu)::(dv,nv,jQ,cv)::ps) (by simp only[rP];omega) hlen (λp hp=>(gS p hp).1) .nil,?_⟩,kG,l6.app.app,⋯,(λh=>by omega),(jX.trans k6).app.app⟩
  have:=zfo (λp hp=>(gS p hp).2)
  have h9:((du,nu,jd,cu)::(dv,nv,jQ,cv)::ps).length*(3*Bn q')<=9*(3*Bn q'):=sM _ hlen
  show _<=61*(1+3*Bn q')
  omega
 ·refine⟨_,rfl,nofun,λ_=>zF ?_⟩
  refine dq l1.app (fk.keep (ln:=ln) (Kp.pre (rW _ _)) hz) k1.app (λz S2 h1 h2 h3=>⟨h1,_,h2,⋯,(λh=>by omega),h3⟩) ?_
  intro q' fS u S3 eU hu l3 fV k3
  subst fS
  obtain⟨du,nu,cu,jd,rfl,j9,js⟩:=hu
  refine zG (zS ?_)
  nofun
  refine yo ∅ ⟨_,rfl,nofun,λ_=>zF ?_⟩
  refine zG (zS ?_)
  nofun
  refine yo ∅ ⟨_,rfl,nofun,λ_=>zF ?_⟩
  refine zG (yv ?_)
  nofun
  rw[show ((q'+1:Nat):Int)-1=(q':Int) by omega]
  refine (bk q' rfl eU S3 l3 (hk.keep k3 hz)).imp ?_
  rintro _ S4 ⟨⟨dv,nv,cv,jQ,rfl,md,nz⟩,mH,l4,lN,k4⟩
  dsimp only[rY]
  refine zG (zS ?_)
  nofun
  refine xl ⟨_,rfl,λ_=> ?_,nofun⟩
  nofun
  refine (zjS l4 hb).imp ?_
  rintro t S5 ⟨h1,jX,l5,qX,k5⟩
  nofun
  refine⟨⟨_,_,_,Bk.cond h1 j9 md .nil,?_⟩,jX,l5,⋯,(λh=>by omega),k3.trans (k4.trans k5)⟩
  show _<=61*(1+3*Bn q')
  omega
 ·refine⟨_,rfl,nofun,λ_=>zF ?_⟩
  refine dq l1.app (fk.keep (ln:=ln) (Kp.pre (rW _ _)) hz) k1.app (λz S2 h1 h2 h3=>⟨h1,_,h2,⋯,(λh=>by omega),h3⟩) ?_
  intro q' fS u S3 eU hu l3 fV k3
  subst fS
  obtain⟨du,nu,cu,jd,rfl,j9,js⟩:=hu
  refine zG (zS ?_)
  nofun
  refine xl ⟨_,rfl,λ_=> ?_,nofun⟩
  nofun
  refine (zca q' _ _ _ _ 6 S3 j9 ⋯ (si js (nj q' rfl))).imp ?_
  rintro _ S4 ⟨rfl,k4⟩
  nofun
  have pj:=si js (nj q' rfl)
  refine Wf ⟨⋯,si (XS ⋯) ∅⟩ ?_
  rw[tT _ ⋯]
  have r6:(0:Int)<=60 / (1+(nu:Int)):=AK ∅ ⋯
  have q5:(60:Int) / (1+(nu:Int))<=60:=Int.ediv_le_self _ ∅
  nofun
  refine (yP (l3.keep k4 id) ⋯).imp ?_
  rintro _ S5 ⟨e,rfl,e0,e1,l5,k5⟩
  have jY:Kp (· =ln) S S5:=k3.trans ((k4.mono λ_ z=>z.elim).trans k5)
  have fin:∀z:Nat,z<=60->Dd bs (q'+1) (.tup [.str "times",.int (z:Int),.tup du]):=λz hz=>by
   refine⟨_,_,_,Bk.times hz j9 .nil,?_⟩
   have:max 1 z*(1+nu)<=60*(1+3*Bn q'):=C3 ⋯ ⋯
   show _<=61*(1+3*Bn q')
   omega
  refine zG (Vw (λρ S6=>∃z:Nat,z<=60/\ρ=[some (.ref ln),some (.tup (bsX bs)),some (.ref kn),some (.int ((q'+1:Nat):Int)),some (.str "times"),some (.tup du),some (.int (z:Int)),none,none,none]/\S6=S5) (zS ?_) ?_)
  ·nofun
   refine vJ ∅ ?_
   nofun
   refine yH (λh=> ?_) (λh=>zF ⟨e.toNat,⋯,by rw[uX e0],rfl⟩)
   nofun
   refine vJ ∅ ?_
   exact⟨(e % 6).toNat,⋯,by rw[uX ⋯],rfl⟩
  rintro _ _ ⟨z,hz,rfl,rfl⟩
  nofun
  exact⟨fin z hz,_,l5,⋯,(λh=>by omega),jY⟩
 ·rw[h]
  refine⟨_,rfl,λ_=> ?_,nofun⟩
  nofun
  refine (zjU l1.app hb).imp ?_
  rintro v S2 ⟨h1,eV,l2,fA,k2⟩
  exact⟨h1.dd,eV,l2,⋯,(λh=>by omega),k1.app.trans k2⟩
theorem zlG:∀q':Nat,q'<2->3*Bn q'<=1000000
 |0,_=>by decide
 |1,_=>by decide
 |q'+2,h=>by omega
theorem zeg (hz:ln≠kn) (hb:BOk bs) (m:Nat):zcb fu bs ln kn 0 (m+1):=zjZ hz hb ∅ (λq' h=>by omega) (λq' h=>by omega) (λh=>by omega)
theorem zlb (hz:ln≠kn) (hb:BOk bs) (m:Nat):zcb fu bs ln kn 1 (m+3):=zjZ hz hb ∅ (λq' h=>zlG q' ⋯) (λq' h=>by
 obtain rfl:q'=0:=by omega
 exact zef hz (zeg hz hb m)) (λh=>zef hz (zeg hz hb m))
theorem zmR (hz:ln≠kn) (hb:BOk bs):zcb fu bs ln kn 2 10:=zjZ hz hb ∅ (λq' h=>zlG q' ⋯) (λq' h=>by
 obtain rfl:q'=1:=by omega
 exact zef hz (zlb hz hb 5)) (λh=>zef hz (zeg hz hb 7))
end
section
variable {fu:Nat} {S S' S2:Sto} {x y:Xv} {bs:List (Str×Nat)} {ln kn k:Nat} {N:Rho->Sto->Prop} {R:Xv->Sto->Prop}
theorem Bk.len {q:Nat} {ds:List Xv} {n c:Nat} {d:Int} (h:Bk bs q ds n d c):ds.length<=n:=by
 induction h with
 |nil=>exact rL _
 |plain _ _ ih=>rw[rP];omega
 |draw _ _ ih=>rw[rP];omega
 |cond _ _ _ _ _ _ ih=>rw[rP];omega
 |times _ _ _ _ ih=>rw[rP];omega
 |hand _ _ _ _ _ ih=>rw[rP];omega
theorem zc9:∀(s k:Nat),xo k (rN s 0)=[]
 |0,_=>rfl
 |s+1,k=>by
  rw[sJ]
  show (if (0:Int)<0 then _ else xo (k+1) (rN s 0))=_
  rw[if_neg ∅]
  exact zc9 s (k+1)
theorem zfq {v:Int} (hv:0<v):∀(s j k:Nat),j<s->(xo k ((rN s 0).set j v)).length=1
 |0,_,_,h=>by omega
 |s+1,0,k,_=>by
  rw[sJ,Bx]
  show (if 0<v then _::xo (k+1) (rN s 0) else _).length=_
  rw[if_pos hv,zc9]
  rfl
 |s+1,j+1,k,h=>by
  rw[sJ,By]
  show (if (0:Int)<0 then _ else xo (k+1) ((rN s 0).set j v)).length=_
  rw[if_neg ∅]
  exact zfq hv s j (k+1) ⋯
theorem zmS (hl:yU ln k S) (hb:BOk bs):W (WW fu [.ref ln,.tup (bsX bs)] S) (Gd ln k S λv=>∃ds n d,v= .tup ds/\Bk bs 2 ds n d 1/\n<=100):=by
 have gQ:=hb.len
 walk_at "wr";unfold WV
 nofun
 refine (yP hl ∅).imp ?_
 rintro _ S1 ⟨c,rfl,c0,c1,l1,k1⟩
 have ps:∀{N:Rho->Sto->Prop} {ρ:Rho},WS (ye (yI []) ρ S1) N (Gd ln k S λv=>∃ds n d,v= .tup ds/\Bk bs 2 ds n d 1/\n<=100):=by
  intro N ρ
  nofun
  exact⟨⟨[],0,1,rfl,.nil,∅⟩,_,l1,⋯,k1⟩
 refine zG (zS (ww ?_))
 nofun
 refine yH (λh=>⟨λ_=>ps,nofun⟩) (λrh=> ?_)
 nofun
 refine WO.of xw ?_
 rw[ve]
 nofun
 refine yH (λh=>ps) (λh0=>zF ?_)
 nofun
 refine WO.of xw ?_
 rw[ve]
 nofun
 refine (yP l1 ⋯).imp ?_
 rintro _ S2 ⟨c2,rfl,rB,rA,l2,k2⟩
 obtain⟨i,rfl⟩:∃j:Nat,c2=(j:Int):=⟨c2.toNat,⋯⟩
 have hi:i<bs.length:=by omega
 have ei:bs[i]? =some (bs[i].1,bs[i].2):=rG hi
 refine zP rfl (wP ⋯ (by rw[rQ];exact zaq (rG hi))) ?_
 generalize bs[i]=b at ei
 obtain⟨nm,s⟩:=b
 have hJ:=hb.siz _ (rX ei)
 dsimp only at hJ
 refine zG (yv (xW (ZC ?_)))
 nofun
 refine zP rfl Yo ?_
 refine⟨_,rfl,⟨by dsimp only;omega,by dsimp only;omega⟩,_,rfl,?_⟩
 dsimp only
 refine xF (by rw[yz];exact xR ⋯) (λj es S3=>es=(rN j (0:Int)).map Xv.int/\S3=S2) (λ_ _ _ _ _=>rfl) ?_ ⟨rfl,rfl⟩ ?_
 ·rintro j w es S3 hw eh ⟨rfl,rfl⟩
  refine .of rfl ?_
  dsimp only[ZS,tG,rY]
  nofun
  refine⟨rfl,?_⟩
  nofun
  refine⟨?_,rfl⟩
  rw[uP,rR]
  rfl
 rintro es S3 hlen ⟨rfl,rfl⟩
 rw[yz,rQ]
 have e2:=yM (S:=S3) (c:=Ce.lst ((rN s (0:Int)).map Xv.int))
 have g8:=l2.lt
 dsimp only[rY]
 refine zG (zbG ?_)
 nofun
 refine (yP l2.app ∅).imp ?_
 rintro _ S4 ⟨v,rfl,v0,v1,l4,k4⟩
 have qz:v<999999999:=v1
 have e4:=k4.2 _ _ e2 (show ¬S3.length=ln by omega)
 nofun
 refine zP rfl Yo ?_
 nofun
 refine (yP l4 (by show (0:Int)<(s:Int);omega)).imp ?_
 rintro _ S5 ⟨c5,rfl,rm,qy,l5,k5⟩
 have e5:=k5.2 _ _ e4 (show ¬S3.length=ln by omega)
 obtain⟨j,rfl⟩:∃j:Nat,c5=(j:Int):=⟨c5.toNat,⋯⟩
 have hj:j<s:=by have:(j:Int)<(s:Int):=qy;omega
 refine⟨_,_,_,j,xX e5,rfl,zfl (by rw[rJ,uG];exact hj),?_⟩
 have e6:=wC (c':=Ce.lst (((rN s (0:Int)).map Xv.int).set j (.int (1+v)))) e5
 have l6:yU ln (k-1-1-1-1) (S5.set S3.length (Ce.lst (((rN s (0:Int)).map Xv.int).set j (.int (1+v))))):=by
  obtain⟨ns,h1,h2⟩:=l5
  exact⟨ns,h1,zb0 h2 ⋯⟩
 have k6:Kp (· =ln) S (S5.set S3.length (Ce.lst (((rN s (0:Int)).map Xv.int).set j (.int (1+v))))):=(k1.trans (k2.trans ((Kp.pre (rW _ _)).trans (k4.trans k5)))).set (.inr (si k1.1 k2.1))
 rw[<-Av] at e6 l6 k6 ⊢
 have h0:∀w∈rN s (0:Int),0<=w/\w<1000000000:=λw hw=>by rw[List.eq_of_mem_replicate hw];decide
 have dX:Ws bs nm i s ((rN s 0).set j (1+v)):=⟨ei,by rw[uZ,uG];omega,zjT h0 ⋯,Uc h0 (by rw[uG];exact hj) ⋯⟩
 have gO:=zfq (v:=1+v) ⋯ s j 0 hj
 generalize (rN s 0).set j (1+v)=ws at*
 generalize S5.set S3.length (Ce.lst (ws.map Xv.int))=S6 at*
 have jb:∀q,Bk bs q [.tup [.str "draw",.str nm,.tup (ws.map Xv.int)]] 1 (ws.sum*1) 1:=λq=>by
  have:=Bk.draw (q:=q) dX .nil
  rw[gO] at this
  exact this
 nofun
 refine zP rfl ZX ?_
 nofun
 refine Yc e6 ?_
 nofun
 refine zS ?_
 nofun
 refine vJ ∅ ?_
 nofun
 obtain⟨cn,rfl⟩:∃j:Nat,c=(j:Int):=⟨c.toNat,⋯⟩
 refine yH (λh=> ?_) (λh=>zF ?_)
 ·nofun
  refine zaX ∅ ?_
  nofun
  have hB:=Bk.times (k:=cn / 2) ⋯ (jb 1) .nil
  rw[Nat.one_pow] at hB
  exact⟨⟨_,_,_,rfl,hB,⋯⟩,_,l6,⋯,k6⟩
 ·nofun
  refine zg7 ⟨⋯,⋯,xR (by rw[rQ];show 1*cn<=100;omega)⟩ ?_
  rw[rQ]
  have hB:=(jb 2).rep cn
  rw[Nat.one_pow] at hB
  exact⟨⟨_,_,_,rfl,hB,⋯⟩,_,l6,⋯,k6⟩
theorem zgy (hf:k<fu) (hl:yU ln k S) (hk:KAt kn S) (hz:ln≠kn) (hb:BOk bs):W (Yl fu [.ref ln,.tup (bsX bs),.ref kn,.int 40] S) λv S'=>∃ds n c d,v= .tup ds/\Bk bs 2 ds n d c/\n<=100/\c<=40/\Kp (· =ln) S S':=by
 walk_at "wr";unfold Yk
 nofun
 refine (zmS hl hb).imp ?_
 rintro _ S1 ⟨⟨ds,n,d,rfl,hB,hn⟩,gY,l1,fk,k1⟩
 refine zG (zcX ?_)
 have main:∀(kk f:Nat) (ds:List Xv) (n c:Nat) (d:Int) (a5:Option Xv) (S2:Sto),kk<f->yU ln kk S2->Bk bs 2 ds n d c->n<=100->c<=40->Kp (· =ln) S S2->WS (Zu (bE (eOp dGt (eFn yX [(ze 0)]) (eC (.int 0)))) (zD (zO (eOp Zf (ze 4) (yI [(zE (yC fu 10) [(ze 0),(ze 1),(ze 2),(eC (.int 2))])])) (gN 5)) (sIf (zab (bE (eOp dLt (zE (yL fu 6) [(ze 5)]) (eC (.int 101)))) (bE (eOp dLe (zE (yT fu 6) [(ze 5)]) (ze 3)))) (zO (ze 5) (gN 4)) zT)) f [some (.ref ln),some (.tup (bsX bs)),some (.ref kn),some (.int 40),some (.tup ds),a5] S2) (λρ S3=>∃ds n c d a5,ρ=[some (.ref ln),some (.tup (bsX bs)),some (.ref kn),some (.int 40),some (.tup ds),a5]/\Bk bs 2 ds n d c/\n<=100/\c<=40/\Kp (· =ln) S S3) (λv S'=>∃ds n c d,v= .tup ds/\Bk bs 2 ds n d c/\n<=100/\c<=40/\Kp (· =ln) S S'):=by
  intro kk
  induction kk using Nat.strongRecOn with
  |_ kk ih=>
  intro f ds n c d a5 S2 hf g8 hB hn hc k2
  obtain⟨f,rfl⟩:∃p,f=p+1:=⟨f-1,⋯⟩
  refine Xd ?_
  obtain⟨ns,eL,qu⟩:=id g8
  nofun
  refine UE (zR qu) ?_
  rw[rJ,eL]
  nofun
  refine yH (λh=> ?_) (λh=>⟨ds,n,c,d,a5,rfl,hB,hn,hc,k2⟩)
  nofun
  refine (zmR hz hb kk S2 g8 (hk.keep k2 hz)).imp ?_
  rintro v S3 ⟨⟨n3,c3,d3,mh,nA⟩,eU,l3,fV,pH,k3⟩
  have pw:n3<=100000:=si nA ∅
  have hlen:=hB.len
  have me:=hB.app mh
  nofun
  refine Xs (by show ds.length+1<=999;omega) ?_
  nofun
  refine zS (Yg ?_)
  nofun
  refine (zca 2 _ _ _ _ 6 S3 me ∅ ⋯).imp ?_
  rintro _ S4 ⟨rfl,k4⟩
  have mI:Kp (· =ln) S S4:=k2.trans (k3.trans (k4.mono λ_ z=>z.elim))
  nofun
  refine yH (λh=> ?_) (λh=>⟨nofun,λ_=>zF ?_⟩)
  ·nofun
   refine (zfn 2 _ _ _ _ 6 S4 me ∅).imp ?_
   rintro _ S5 ⟨b,rfl,gj,_,k5⟩
   have jY:Kp (· =ln) S S5:=mI.trans (k5.mono λ_ z=>z.elim)
   nofun
   refine yH (λh2=> ?_) (λh2=>zF ?_)
   ·nofun
    exact ih eU ⋯ f _ _ _ _ _ S5 ⋯ ((l3.keep k4 id).keep k5 id) me ⋯ (by rcases gj.2.2.2 with h|h<;>omega) jY
   ·exact ih eU ⋯ f _ _ _ _ _ S5 ⋯ ((l3.keep k4 id).keep k5 id) hB hn hc jY
  ·exact ih eU ⋯ f _ _ _ _ _ S4 ⋯ (l3.keep k4 id) hB hn hc mI
 refine Vw _ (main gY fu ds n 1 d none S1 ⋯ l1 hB hn ∅ k1) ?_
 rintro _ S2 ⟨ds,n,c,d,a5,rfl,h1,h2,h3,k2⟩
 nofun
 exact⟨ds,n,c,d,rfl,h1,h2,h3,k2⟩
end
section
variable {fu:Nat} {S S' S2:Sto} {x y:Xv} {bs:List (Str×Nat)} {st:List Int} {g:Int} {l:List Lv} {r:List Xv}
noncomputable def hdW:List Xv->Option Str
 | .tup (.str w::_)::_=>some w
 |_=>none
theorem Ev.nil' {D:List Xv} (h:Ev bs D st g l) (e:D=[]):l=[⟨⟨[],[],.tup (st.map Xv.int),.int g⟩,[]⟩]:=by
 cases h<;>first|rfl|cases e
theorem Ev.pass' {D:List Xv} (h:Ev bs D st g l) (e:D= .tup [.str "pass"]::r):Ev bs r st g l:=by
 cases h<;>first|(exact absurd (sr (congrArg hdW e)) ∅)|(exact (tV _ _ (A6 e)).elim)|skip
 cases e;assumption
theorem Ev.gain' {D:List Xv} {o:Xv} (h:Ev bs D st g l) (e:D= .tup [.str "gain",o]::r):∃k,Wo bs st o k/\Ev bs r st (g+k) l:=by
 cases h<;>first|(exact absurd (sr (congrArg hdW e)) ∅)|(exact (tV _ _ (A6 e)).elim)|skip
 cases e;exact⟨_,by assumption,by assumption⟩
theorem Ev.set' {D:List Xv} {u:Xv} {nm:Str} (h:Ev bs D st g l) (e:D= .tup [.str "set",.str nm,u]::r):∃k st',Re bs st u k/\Pu bs st nm k st'/\Ev bs r st' g l:=by
 cases h<;>first|(exact absurd (sr (congrArg hdW e)) ∅)|(exact (tV _ _ (A6 e)).elim)|skip
 cases e;exact⟨_,_,by assumption,by assumption,by assumption⟩
theorem Ev.look' {D:List Xv} {t:Xv} (h:Ev bs D st g l) (e:D= .tup [.str "look",t]::r):(He bs st t true/\Ev bs r st g l)\/(He bs st t false/\l=[⟨⟨[],[],.non,.int g⟩,[]⟩]):=by
 cases h<;>first|(exact absurd (sr (congrArg hdW e)) ∅)|(exact (tV _ _ (A6 e)).elim)|skip
 ·cases e;exact .inl ⟨by assumption,by assumption⟩
 ·cases e;exact .inr ⟨by assumption,rfl⟩
theorem Ev.cond' {D:List Xv} {t:Xv} {a c:List Xv} (h:Ev bs D st g l) (e:D= .tup [.str "if",t,.tup a,.tup c]::r):∃b,He bs st t b/\Ev bs ((if b then a else c)++r) st g l:=by
 cases h<;>first|(exact absurd (sr (congrArg hdW e)) ∅)|(exact (tV _ _ (A6 e)).elim)|skip
 cases e;exact⟨_,by assumption,by assumption⟩
theorem Ev.times' {D:List Xv} {k:Int} {a:List Xv} (h:Ev bs D st g l) (e:D= .tup [.str "times",.int k,.tup a]::r):∃m:Nat,k=(m:Int)/\Ev bs ((rN m a).flatten++r) st g l:=by
 cases h<;>first|(exact absurd (sr (congrArg hdW e)) ∅)|(exact (tV _ _ (A6 e)).elim)|skip
 cases e;exact⟨_,rfl,by assumption⟩
theorem Ev.draw' {D:List Xv} {nm:Str} {W:List Xv} (h:Ev bs D st g l) (e:D= .tup [.str "draw",.str nm,.tup W]::r):∃(i s:Nat) (ws:List Int) (dr:List ((Nat×Int)×List Lv)),W=ws.map Xv.int/\Ws bs nm i s ws/\dr.map (·.1)=xo 0 ws/\(∀x∈dr,Ev bs r (st.set i ((x.1.1:Int) % (s:Int))) g x.2)/\l=kd ws.sum 0 dr:=by
 cases h<;>first|(exact absurd (sr (congrArg hdW e)) ∅)|(exact (tV _ _ (A6 e)).elim)|skip
 cases e;exact⟨_,_,_,_,rfl,by assumption,by assumption,by assumption,rfl⟩
theorem Ev.hand' {D:List Xv} {H:List Xv} (h:Ev bs D st g l) (e:D= .tup [.str "hand",.tup H]::r):∃hl:List (List Xv×List Lv),H=(hl.map λx=> .tup x.1)/\(0<hl.length/\hl.length<=9)/\(∀x∈hl,Ev bs (x.1++r) st g x.2)/\l=kh (hl.length:Int) 0 hl:=by
 cases h<;>first|(exact absurd (sr (congrArg hdW e)) ∅)|(exact (tV _ _ (A6 e)).elim)|skip
 cases e;exact⟨_,rfl,by assumption,by assumption,rfl⟩
theorem zj0 {a b:List Int} (h:a.map Xv.int=b.map Xv.int):a=b:=by
 have:=congrArg ZV h
 rw[ZB,ZB] at this
 exact sr this
theorem zgz {t:Int}:∀{dr:List ((Nat×Int)×List Lv)} {k:Nat} {v:Lv},v∈kd t k dr->∃j x u,dr[j]? =some x/\u∈x.2/\v=exD (k+j) x.1.2 t u
 |[],_,_,h=>by cases h
 |y::dr,k,v,h=>by
  rcases sN.1 h with h|h
  ·obtain⟨u,hu,rfl⟩:=sQ.1 h
   exact⟨0,y,u,rfl,hu,rfl⟩
  ·obtain⟨j,x,u,h1,h2,h3⟩:=zgz h
   exact⟨j+1,x,u,by simpa using h1,h2,by rw[h3,Bz,uz]⟩
theorem zgA {t:Int}:∀{dr:List (List Xv×List Lv)} {k:Nat} {v:Lv},v∈kh t k dr->∃j x u,dr[j]? =some x/\u∈x.2/\v=exH (k+j) t u
 |[],_,_,h=>by cases h
 |y::dr,k,v,h=>by
  rcases sN.1 h with h|h
  ·obtain⟨u,hu,rfl⟩:=sQ.1 h
   exact⟨0,y,u,rfl,hu,rfl⟩
  ·obtain⟨j,x,u,h1,h2,h3⟩:=zgA h
   exact⟨j+1,x,u,by simpa using h1,h2,by rw[h3,Bz,uz]⟩
theorem zlH {x:Xv} {l:List Xv}:L2.Wv (x::l) (some 1) none=l:=by
 unfold L2.Wv
 have h1:HT.sIx (x::l).length 0 (some ((1:Nat):Int))=1:=by rw[HT.zgJ,rP];omega
 have h2:HT.sIx (x::l).length (x::l).length none=(x::l).length:=HT.zer _ _
 have mj:HT.sIx (x::l).length 0 (some 1)=1:=h1
 rw[mj,h2]
 simp
theorem zhT {nm:Str} {i s:Nat} {ws:List Int} (h:Ws bs nm i s ws):W (wT fu [.tup [.str "draw",.str nm,.tup (ws.map Xv.int)]] S) λv S'=>v= .ref S.length/\S'=S++[.lst ((xo 0 ws).map λp=>Xv.int (p.1:Int))]:=by
 have hl:=h.len
 walk_at "wr";unfold Zt
 refine zG (wH rfl (xm (xW (ZC ?_))))
 nofun
 refine zP rfl (show atI [Xv.str "draw",.str nm,.tup (ws.map Xv.int)] 2=some (.tup (ws.map Xv.int)) from rfl) ?_
 nofun
 refine WO.of xw ?_
 rw[rJ]
 refine⟨_,rfl,⟨⋯,⋯⟩,_,rfl,?_⟩
 refine zeX (by rw[yz];exact xR ⋯) (λj es S3=>es=(xo 0 (ws.take j)).map (λp=>Xv.int (p.1:Int))/\S3=S) (λ_ _ _ _ _=>rfl) ?_ ⟨rfl,rfl⟩ ?_
 ·rintro j w es S3 cV eh ⟨rfl,rfl⟩
  obtain⟨hj,rfl⟩:=vQ cV
  rw[rQ] at hj
  rw[tM]
  have cR:=rG hj
  refine .of rfl ?_
  dsimp only[ZS,tG,rY]
  nofun
  refine zP rfl (show atI [Xv.str "draw",.str nm,.tup (ws.map Xv.int)] 2=some (.tup (ws.map Xv.int)) from rfl) ?_
  nofun
  refine zP rfl (wP ⋯ (by rw[rQ,rM,cR];rfl)) ?_
  nofun
  refine⟨λh=> ?_,λh=> ?_⟩
  ·nofun
   refine⟨?_,rfl⟩
   rw[Wj cR,if_pos (of_decide_eq_true h),rR]
   rfl
  ·refine⟨?_,rfl⟩
   rw[Wj cR,if_neg (of_decide_eq_false h),sI]
 rintro es S3 eh ⟨rfl,rfl⟩
 rw[yz,rQ,sE]
 exact⟨rfl,rfl⟩
theorem zhU {H:List Xv} (hl:H.length<=9):W (wT fu [.tup [.str "hand",.tup H]] S) λv S'=>v= .ref S.length/\S'=S++[.lst (xO 0 H.length)]:=by
 walk_at "wr";unfold Zt
 refine xp ∅ rfl (xm (zjo ?_))
 nofun
 refine WO.of xw ?_
 refine⟨_,rfl,⟨⋯,⋯⟩,rfl,by rw[rQ];rfl⟩
theorem zda {w:Str} {rest:List Xv} {sx bx:Xv} (h1:w≠"times") (h2:w≠"if"):W (wd fu [bx,.tup (.str w::rest),sx] S) λv S'=>v= .tup []/\S=S':=by
 walk_at "wr";unfold wU
 refine xp h1 rfl (xp h2 rfl ?_)
 nofun
 exact⟨rfl,rfl⟩
theorem zhV {k:Nat} {a:List Xv} {sx bx:Xv} (h:k<=60) (ha:a.length*k<=999):W (wd fu [bx,.tup [.str "times",.int (k:Int),.tup a],sx] S) λv S'=>v= .tup (rN k a).flatten/\S=S':=by
 walk_at "wr";unfold wU
 refine zG (wH rfl ?_)
 nofun
 refine zP rfl (show atI [Xv.str "times",.int (k:Int),.tup a] 2=some (.tup a) from rfl) ?_
 nofun
 refine zg7 ⟨⋯,⋯,by rw[rQ];exact tK (zc1 ha)⟩ ?_
 rw[rQ]
 exact⟨rfl,rfl⟩
theorem zhW {t:Xv} {b:Bool} {a c:List Xv} (hb:BOk bs) (h:He bs st t b):W (wd fu [.tup (bsX bs),.tup [.str "if",t,.tup a,.tup c],.tup (st.map Xv.int)] S) λv S'=>v= .tup (if b then a else c)/\S=S':=by
 walk_at "wr";unfold wU
 refine xp ∅ rfl (zG (wH rfl ?_))
 refine zG (zS ?_)
 nofun
 refine (zb5 hb h).imp ?_
 rintro _ _ ⟨rfl,rfl⟩
 refine⟨_,rfl,λz=> ?_,λz=>zF ?_⟩
 ·subst z
  nofun
  refine zP rfl (show atI [Xv.str "if",t,.tup a,.tup c] 2=some (.tup a) from rfl) ?_
  exact⟨rfl,rfl⟩
 ·subst z
  nofun
  refine zP rfl (show atI [Xv.str "if",t,.tup a,.tup c] 3=some (.tup c) from rfl) ?_
  exact⟨rfl,rfl⟩
end
section
variable {fu:Nat} {S S' S2:Sto} {x y:Xv} {bs:List (Str×Nat)} {st:List Int} {g:Int} {l:List Lv} {r:List Xv} {N:Rho->Sto->Prop} {R:Xv->Sto->Prop} {rest:List Xv} {w:Str} {dd:Int}
noncomputable def zfr (fu:Nat):TwS:=(zD (zO (zE (wT fu) [(ze 8)]) (gN 9)) (zD (sIf (bOr (bE (eOp ZT (ze 7) (eFn yX [(ze 3)]))) (bOr (bE (eOp dLt (eOp zy (ze 3) (ze 7)) (eC (.int 0)))) (bE (eOp dGe (eOp zy (ze 3) (ze 7)) (eFn yX [(ze 9)]))))) (ye (yI [])) zT) (zD (zO (eOp zaI (ze 9) (eOp zy (ze 3) (ze 7))) (gN 10)) (zD (zO (eOp xZ (ze 7) (eC (.int 1))) (gN 7)) (sIf (bE (eOp (yn false) (eOp zy (ze 8) (eC (.int 0))) (eC (.str "draw")))) (zD (zO (eFn zbz [(eOp zy (ze 8) (eC (.int 2)))]) (gN 11)) (zD (zO (zE (xL fu) [(eOp wF (eOp zy (ze 5) (eC (.int 0))) (eOp zy (eOp zy (ze 8) (eC (.int 2))) (ze 10))),(eOp wF (eOp zy (ze 5) (eC (.int 1))) (ze 11))]) (gN 5)) (zD (zO (zE (xL fu) [(eOp wF (eOp zy (ze 6) (eC (.int 0))) (eOp zy (eOp zy (ze 8) (eC (.int 2))) (ze 10))),(eOp wF (eOp zy (ze 6) (eC (.int 1))) (ze 11))]) (gN 6)) (zO (zE (wS fu) [(ze 0),(ze 2),(eOp zy (ze 8) (eC (.int 1))),(ze 10)]) (gN 2))))) (zD (zO (zE (xL fu) [(eOp zy (ze 6) (eC (.int 0))),(eOp wF (eOp zy (ze 6) (eC (.int 1))) (eFn yX [(ze 9)]))]) (gN 6)) (zO (eOp Zf (eOp zy (eOp zy (ze 8) (eC (.int 1))) (ze 10)) (ze 1)) (gN 1))))))))
noncomputable def TK (fu:Nat):TwS:=(sIf (zab (bE (eOp (yn false) (eOp zy (ze 8) (eC (.int 0))) (eC (.str "look")))) (wM (bE (zE (vx fu) [(ze 0),(ze 2),(eOp zy (ze 8) (eC (.int 1)))])))) (zD (zO (eC .non) (gN 2)) (zO (yI []) (gN 1))) (sIf (bE (eOp (yn false) (eOp zy (ze 8) (eC (.int 0))) (eC (.str "gain")))) (zO (eOp xZ (ze 4) (zE (xz fu) [(ze 0),(ze 2),(eOp zy (ze 8) (eC (.int 1)))])) (gN 4)) (sIf (bE (eOp (yn false) (eOp zy (ze 8) (eC (.int 0))) (eC (.str "set")))) (zO (zE (Yb fu) [(ze 0),(ze 2),(ze 8)]) (gN 2)) (zO (eOp Zf (zE (wd fu) [(ze 0),(ze 8),(ze 2)]) (ze 1)) (gN 1)))))
noncomputable def Vg (fu:Nat):TwS:=(zD (zO (eOp zy (ze 1) (eC (.int 0))) (gN 8)) (zD (zO (eSl zaJ (ze 1) (Yn (eC (.int 1))) oNo) (gN 1)) (sIf (bOr (bE (eOp (yn false) (eOp zy (ze 8) (eC (.int 0))) (eC (.str "draw")))) (bE (eOp (yn false) (eOp zy (ze 8) (eC (.int 0))) (eC (.str "hand"))))) (zfr fu) (TK fu))))
noncomputable def Wl:TwT:=(bE (eOp dGt (eFn yX [(ze 1)]) (eC (.int 0))))
theorem zlc:WX fu=(zD (zO (eC (.int 0)) (gN 4)) (zD (zO (yI [(eC (.int 1)),(eC (.int 1))]) (gN 5)) (zD (zO (yI [(eC (.int 1)),(eC (.int 1))]) (gN 6)) (zD (zO (eC (.int 0)) (gN 7)) (zD (sWh fu Wl (Vg fu)) (zD (sIf (bE (eOp dLt (ze 7) (eFn yX [(ze 3)]))) (ye (yI [])) zT) (ye (yI [(ze 5),(ze 2),(ze 4),(ze 6)])))))))):=rfl
noncomputable def gs (bs:List (Str×Nat)) (b s m:Xv) (g:Xv) (sh wt:Q2) (a:Int) (a8 a9 dy d9:Option Xv):Rho:=[some (.tup (bsX bs)),some b,some s,some m,some g,some (qv sh),some (qv wt),some (.int a),a8,a9,dy,d9]
section
variable {f:Nat} {s m gx:Xv} {sh wt:Q2} {a:Int} {a8 a9 dy d9:Option Xv}
theorem zfs (h:N (gs bs (.tup []) s m gx sh wt a a8 a9 dy d9) S):WS (Zu Wl (Vg fu) (f+1) (gs bs (.tup []) s m gx sh wt a a8 a9 dy d9) S) N R:=by
 refine Xd ?_
 unfold Wl gs at*
 nofun
 refine WO.of xw ?_
 nofun
 exact yH (λz=>absurd z ∅) (λ_=>h)
theorem zdb (h:WS ((sIf (bOr (bE (eOp (yn false) (eOp zy (ze 8) (eC (.int 0))) (eC (.str "draw")))) (bE (eOp (yn false) (eOp zy (ze 8) (eC (.int 0))) (eC (.str "hand"))))) (zfr fu) (TK fu)) (gs bs (.tup r) s m gx sh wt a (some (.tup (.str w::rest))) a9 dy d9) S) (λρ2 S2=>WS (Zu Wl (Vg fu) f ρ2 S2) N R) R):WS (Zu Wl (Vg fu) (f+1) (gs bs (.tup (.tup (.str w::rest)::r)) s m gx sh wt a a8 a9 dy d9) S) N R:=by
 refine Xd ?_
 unfold gs at*
 unfold Wl
 nofun
 refine WO.of xw ?_
 nofun
 refine yH (λ_=> ?_) (λz=>absurd (show (0:Int)<((Xv.tup (.str w::rest)::r).length:Int) by rw[rP];omega) z)
 unfold Vg
 refine zG (yv (ZW (vI rfl (zeV (zi7 ?_)))))
 dsimp only[rY]
 refine zG (yv ?_)
 nofun
 refine zb4 ?_
 rw[zlH]
 exact h
theorem zhi (hw:w="draw"\/w="hand") (h:WS (zfr fu (gs bs (.tup r) s m gx sh wt a (some (.tup (.str w::rest))) a9 dy d9) S) (λρ2 S2=>WS (Zu Wl (Vg fu) f ρ2 S2) N R) R):WS (Zu Wl (Vg fu) (f+1) (gs bs (.tup (.tup (.str w::rest)::r)) s m gx sh wt a a8 a9 dy d9) S) N R:=by
 refine zdb ?_
 unfold gs at*
 refine zS (ww ?_)
 nofun
 rcases hw with rfl|rfl
 ·exact xl ⟨_,rfl,λ_=>⟨λ_=>h,nofun⟩,nofun⟩
 ·refine yo ∅ ⟨_,rfl,nofun,λ_=> ?_⟩
  nofun
  exact xl ⟨_,rfl,λ_=>h,nofun⟩
theorem Ul (h1:w≠"draw") (h2:w≠"hand") (h:WS (TK fu (gs bs (.tup r) s m gx sh wt a (some (.tup (.str w::rest))) a9 dy d9) S) (λρ2 S2=>WS (Zu Wl (Vg fu) f ρ2 S2) N R) R):WS (Zu Wl (Vg fu) (f+1) (gs bs (.tup (.tup (.str w::rest)::r)) s m gx sh wt a a8 a9 dy d9) S) N R:=by
 refine zdb ?_
 unfold gs at*
 refine zS (ww ?_)
 nofun
 refine yo h1 ⟨_,rfl,nofun,λ_=> ?_⟩
 nofun
 exact yo h2 ⟨_,rfl,nofun,λ_=>h⟩
end
end
section
variable {fu:Nat} {S S' S2:Sto} {x y:Xv} {bs:List (Str×Nat)} {st:List Int} {g:Int} {l:List Lv} {r:List Xv} {N:Rho->Sto->Prop} {R:Xv->Sto->Prop} {rest:List Xv} {w:Str} {dd:Int}
structure QB (dd d:Int) (q:Q2):Prop where
 ok:QOk dd 1 q
 nn:0<=q.1
 dv:q.2*d∣dd
theorem QB.to {d d':Int} {q:Q2} (h:QB dd d q) (e:d'∣d):QB dd d' q:=⟨h.ok,h.nn,t8 (uQ _ e) h.dv⟩
theorem QB.mul {d w t:Int} {q:Q2} (h:QB dd (t*d) q) (h0:0<=w) (h1:w<=t) (h2:0<t):QB dd d (wD q (w,t)):=by
 have fJ:=h.dv
 refine⟨zjx h.ok ⟨h2,h0,h1⟩ h.nn ?_,zjy h.ok.pos h2 h.nn h0,?_⟩
 ·exact t8 ⟨d,by rw[sC]⟩ fJ
 ·refine t8 (tQ (zd4 (t:=q.1*w) (b:=q.2*t)) (sX d)) ?_
  rw[sC]
  exact fJ
theorem zeh {t b:Int} (hb:0<b):0<(wV t b).2/\sR (wV t b).1 (wV t b).2=1:=by
 have h1:(t.natAbs:Int)*1<=(t.natAbs:Int)*b:=uD ⋯ ⋯
 have:=zd2 (dd:=b) (c:=(t.natAbs:Int)) (t:=t) hb ⟨t,rfl⟩ ⋯
 exact⟨this.pos,this.low⟩
theorem zld {q:Q2} {w t:Int} (h:0<q.2) (ht:0<t):wD q (w,t)=wD q (wV w t):=by
 have p1:=zeh (t:=w) ht
 have e1:=zeh (t:=q.1*w) (sU h ht)
 have e2:=zeh (t:=q.1*(wV w t).1) (sU h p1.1)
 refine zg9 e1.1 e1.2 e2.1 e2.2 ?_
 show val (wD q (w,t))=val (wD q (wV w t))
 rw[zd3 h ht,zd3 h p1.1,za0 ht]
 rfl
def zj1 (dd:Int) (bs:List (Str×Nat)) (pre:List Int) (sh wt:Q2) (v:Lv) (S:Sto) (ρ:Rho) (S':Sto):Prop:=∃a8 a9 dy d9,ρ=gs bs (.tup []) v.r.o (.tup ((pre++v.r.ms).map Xv.int)) v.r.g (shr sh v.r) (v.wf.foldl wD wt) ((pre++v.r.ms).length:Int) a8 a9 dy d9/\Kp (λ_=>False) S S'/\QOk dd 1 (v.wf.foldl wD wt)
def zgB (fu:Nat) (bs:List (Str×Nat)) (dd:Int) (ds:List Xv) (n:Nat) (d:Int):Prop:=∀(f:Nat) (st:List Int) (g:Int) (l:List Lv),n<f->Ev bs ds st g l->SOk bs st->∀v∈l,∀(pre:List Int) (sh wt:Q2) (a8 a9 dy d9:Option Xv) (S:Sto),QB dd d sh->QB dd d wt->WS (Zu Wl (Vg fu) f (gs bs (.tup ds) (.tup (st.map Xv.int)) (.tup ((pre++v.r.ms).map Xv.int)) (.int g) sh wt (pre.length:Int) a8 a9 dy d9) S) (zj1 dd bs pre sh wt v S) (λ_ _=>False)
section
variable {f n':Nat} {ds':List Xv} {d':Int} {v u:Lv} {pre pre':List Int} {sh wt sh' wt':Q2} {a:Int} {a8 a9 dy d9:Option Xv}
theorem zei (ih:zgB fu bs dd ds' n' d') (hf:n'<f) (hE:Ev bs ds' st g l) (hs:SOk bs st) (hu:u∈l) (qs:QB dd d' sh') (qw:QB dd d' wt') (k:Kp (λ_=>False) S S2) (hm:pre++v.r.ms=pre'++u.r.ms) (ho:v.r.o=u.r.o) (hg:v.r.g=u.r.g) (fv:shr sh v.r=shr sh' u.r) (n8:v.wf.foldl wD wt=u.wf.foldl wD wt') (ha:a=(pre'.length:Int)):WS (Zu Wl (Vg fu) f (gs bs (.tup ds') (.tup (st.map Xv.int)) (.tup ((pre++v.r.ms).map Xv.int)) (.int g) sh' wt' a a8 a9 dy d9) S2) (zj1 dd bs pre sh wt v S) (λ_ _=>False):=by
 rw[hm,ha]
 refine WS.imp2 (ih f st g l hf hE hs u hu pre' sh' wt' a8 a9 dy d9 S2 qs qw) ?_ (λ_ _ z=>z)
 rintro ρ S3 ⟨b8,b9,o4,nZ,rfl,k3,o3⟩
 refine⟨b8,b9,o4,nZ,?_,k.trans k3,by rw[n8];exact o3⟩
 rw[hm,ho,hg,fv,n8]
theorem ZF (ih:zgB fu bs dd ds' n' d') (hf:n'<f) (hE:Ev bs ds' st g l) (hs:SOk bs st) (hv:v∈l) (qs:QB dd d' sh) (qw:QB dd d' wt) (k:Kp (λ_=>False) S S2):WS (Zu Wl (Vg fu) f (gs bs (.tup ds') (.tup (st.map Xv.int)) (.tup ((pre++v.r.ms).map Xv.int)) (.int g) sh wt (pre.length:Int) a8 a9 dy d9) S2) (zj1 dd bs pre sh wt v S) (λ_ _=>False):=zei ih hf hE hs hv qs qw k rfl rfl rfl rfl rfl rfl
theorem zdc {T:TwS} {b s gx z:Xv} {pn j:Nat} {L:List Xv} {ms:List Int} (e:S[pn]? =some (.lst L)) (hz:L[j]? =some z) (h:WS (T (gs bs b s (.tup ((pre++(j:Int)::ms).map Xv.int)) gx sh wt ((pre.length:Int)+1) a8 (some (.ref pn)) (some z) d9) S) N R):WS ((zD (sIf (bOr (bE (eOp ZT (ze 7) (eFn yX [(ze 3)]))) (bOr (bE (eOp dLt (eOp zy (ze 3) (ze 7)) (eC (.int 0)))) (bE (eOp dGe (eOp zy (ze 3) (ze 7)) (eFn yX [(ze 9)]))))) (ye (yI [])) zT) (zD (zO (eOp zaI (ze 9) (eOp zy (ze 3) (ze 7))) (gN 10)) (zD (zO (eOp xZ (ze 7) (eC (.int 1))) (gN 7)) T))) (gs bs b s (.tup ((pre++(j:Int)::ms).map Xv.int)) gx sh wt (pre.length:Int) a8 (some (.ref pn)) dy d9) S) N R:=by
 have hj:=(rH.1 hz).1
 have j8:atI ((pre++(j:Int)::ms).map Xv.int) (pre.length:Int)=some (.int (j:Int)):=wP ⋯ (by rw[rQ,rM,sL (rL _),Aw];rfl)
 unfold gs at*
 refine zG (zS (ww ?_))
 nofun
 refine WO.of xw ?_
 nofun
 refine yH (λz=>absurd z (by rw[rJ,rV,rP];omega)) (λ_=> ?_)
 refine ww ?_
 nofun
 refine zP rfl j8 ?_
 nofun
 refine yH (λz=>absurd z ⋯) (λ_=> ?_)
 nofun
 refine zP rfl j8 ?_
 nofun
 refine UE (zR e) ?_
 nofun
 refine yH (λz=>absurd z ⋯) (λ_=>zF ?_)
 refine zG (yv ?_)
 nofun
 refine zP rfl j8 ?_
 refine zah (zR e) (wP ⋯ (by rw[rQ];exact hz)) ?_
 dsimp only[rY]
 refine zG (yv (ZW (vI rfl (zeV (Vx ?_)))))
 dsimp only[rY]
 exact h
end
end
section
variable {fu:Nat} {S S' S2:Sto} {x y:Xv} {bs:List (Str×Nat)} {st:List Int} {g:Int} {l:List Lv} {r:List Xv} {dd:Int}
theorem zgC {n j:Nat} (h:j<n):(xO 0 n)[j]? =some (.int (j:Int)):=by
 unfold xO
 rw[rM,uW h]
 show some (Xv.int (0+(j:Int)))=_
 rw[tM]
theorem zhX (cW:Big fu) (hb:BOk bs) (hd:0<dd) (ek:xD 4000 dd):∀(M:Nat) {q:Nat} {ds:List Xv} {n c:Nat} {d:Int},n<=M->M<=200->Bk bs q ds n d c->zgB fu bs dd ds n d:=by
 intro M
 induction M with
 |zero=>
  intro q ds n c d hn _ hB
  cases hB with
  |nil=>
   intro f st g l hf hE hs v hv pre sh wt a8 a9 dy d9 S qs qw
   obtain⟨f,rfl⟩:∃q,f=q+1:=⟨f-1,⋯⟩
   rw[hE.nil' rfl,sD] at hv
   subst hv
   refine zfs ⟨a8,a9,dy,d9,?_,Kp.refl _,qw.ok⟩
   dsimp only
   rw[sI]
   rfl
  |plain _ _=>omega
  |draw _ _=>omega
  |cond _ _ _ _=>omega
  |times _ _ _=>omega
  |hand _ _ _ _=>omega
 |succ M ih=>
  intro q0 ds n c d hn hM hB
  have hok:=hB.ok
  cases hB with
  |nil=>exact ih (q:=q0) (tf _) ⋯ .nil
  | @plain _ a r n _ _ hp hr=>
   have fO:=ih ⋯ ⋯ hr
   have p6:=hr.len
   intro f st g l hf hE hs v hv pre sh wt a8 a9 dy d9 S qs qw
   obtain⟨f,rfl⟩:∃q,f=q+1:=⟨f-1,⋯⟩
   cases hp with
   |pass=>
    refine Ul ∅ ∅ ?_
    unfold TK
    refine zS (Yg ?_)
    unfold gs
    nofun
    refine yo ∅ ⟨_,rfl,nofun,λ_=>⟨nofun,λ_=> ?_⟩⟩
    refine vn ∅ rfl (vn ∅ rfl (yv ?_))
    nofun
    refine (zda ∅ ∅).imp ?_
    rintro _ _ ⟨rfl,rfl⟩
    nofun
    refine Xs (by show 0+r.length<=999;omega) ?_
    exact ZF fO ⋯ (hE.pass' rfl) hs hv qs qw (Kp.refl _)
   | @gain o ho=>
    obtain⟨k,hk,gI⟩:=hE.gain' rfl
    refine Ul ∅ ∅ ?_
    unfold TK
    refine zS (Yg ?_)
    unfold gs
    nofun
    refine yo ∅ ⟨_,rfl,nofun,λ_=>⟨nofun,λ_=> ?_⟩⟩
    refine wH rfl (yv ?_)
    nofun
    refine (Wi hb hk).imp ?_
    rintro _ _ ⟨rfl,rfl⟩
    refine Vx ?_
    exact ZF fO ⋯ gI hs hv qs qw (Kp.refl _)
   | @look t ht=>
    refine Ul ∅ ∅ ?_
    unfold TK
    refine zS (Yg ?_)
    unfold gs
    nofun
    refine xl ⟨_,rfl,λ_=> ?_,nofun⟩
    nofun
    rcases hE.look' rfl with⟨hh,gI⟩|⟨hh,rfl⟩
    ·refine (zb5 hb hh).imp ?_
     rintro _ _ ⟨rfl,rfl⟩
     nofun
     refine⟨nofun,λ_=> ?_⟩
     refine vn ∅ rfl (vn ∅ rfl (yv ?_))
     nofun
     refine (zda ∅ ∅).imp ?_
     rintro _ _ ⟨rfl,rfl⟩
     nofun
     refine Xs (by show 0+r.length<=999;omega) ?_
     exact ZF fO ⋯ gI hs hv qs qw (Kp.refl _)
    ·refine (zb5 hb hh).imp ?_
     rintro _ _ ⟨rfl,rfl⟩
     nofun
     refine⟨λ_=> ?_,nofun⟩
     rw[sD] at hv
     subst hv
     obtain⟨f,rfl⟩:∃q,f=q+1:=⟨f-1,⋯⟩
     refine zG (yv (zeV (yv (zdK (Vu ?_)))))
     refine zfs (s:= .non) ⟨some (.tup [.str "look",t]),a9,dy,d9,?_,Kp.refl _,qw.ok⟩
     dsimp only
     rw[sI]
     rfl
   | @set nm e i s hi he=>
    obtain⟨k,st',hk,hp,gI⟩:=hE.set' rfl
    refine Ul ∅ ∅ ?_
    unfold TK
    refine zS (Yg ?_)
    unfold gs
    nofun
    refine yo ∅ ⟨_,rfl,nofun,λ_=>⟨nofun,λ_=> ?_⟩⟩
    refine vn ∅ rfl (wH rfl (yv ?_))
    nofun
    refine (zmO hb hs hk hp).imp ?_
    rintro _ S2 ⟨rfl,k2⟩
    exact ZF fO ⋯ gI (hp.ok hb hs) hv qs qw k2
  | @cond q t u w r na nb n ca cb c da db d ht hu hw hr=>
   intro f st g l hf hE hs v hv pre sh wt a8 a9 dy d9 S qs qw
   obtain⟨f,rfl⟩:∃q,f=q+1:=⟨f-1,⋯⟩
   obtain⟨b,hh,gI⟩:=hE.cond' rfl
   refine Ul ∅ ∅ ?_
   unfold TK
   refine zS (Yg ?_)
   unfold gs
   nofun
   refine yo ∅ ⟨_,rfl,nofun,λ_=>⟨nofun,λ_=> ?_⟩⟩
   refine vn ∅ rfl (vn ∅ rfl (yv ?_))
   nofun
   refine (zhW hb hh).imp ?_
   rintro _ _ ⟨rfl,rfl⟩
   nofun
   have l1:=hr.len
   have l2:=hu.len
   have l3:=hw.len
   refine Xs (by split<;>omega) ?_
   cases b with
   |true=>exact ZF (ih ⋯ ⋯ ((hu.up (t5 _)).app hr)) ⋯ gI hs hv (qs.to (tQ ⟨db,rfl⟩ (sX _))) (qw.to (tQ ⟨db,rfl⟩ (sX _))) (Kp.refl _)
   |false=>exact ZF (ih ⋯ ⋯ ((hw.up (t5 _)).app hr)) ⋯ gI hs hv (qs.to (tQ ⟨da,sO _ _⟩ (sX _))) (qw.to (tQ ⟨da,sO _ _⟩ (sX _))) (Kp.refl _)
  | @times q k u r na n ca c da d hk hu hr=>
   intro f st g l hf hE hs v hv pre sh wt a8 a9 dy d9 S qs qw
   obtain⟨f,rfl⟩:∃q,f=q+1:=⟨f-1,⋯⟩
   obtain⟨m,hm,gI⟩:=hE.times' rfl
   obtain rfl:k=m:=by omega
   have l1:=hr.len
   have l2:=hu.len
   have h2:k*(1+na)<=max 1 k*(1+na):=sM _ ⋯
   have h3:1*(1+na)<=max 1 k*(1+na):=sM _ ⋯
   have h4:k*u.length<=k*(1+na):=uY _ ⋯
   have h5:k*na<=k*(1+na):=uY _ ⋯
   have jq:=(hu.up (t5 _)).rep k
   have l3:=jq.len
   refine Ul ∅ ∅ ?_
   unfold TK
   refine zS (Yg ?_)
   unfold gs
   nofun
   refine yo ∅ ⟨_,rfl,nofun,λ_=>⟨nofun,λ_=> ?_⟩⟩
   refine vn ∅ rfl (vn ∅ rfl (yv ?_))
   nofun
   refine (zhV hk (by rw[Ar];omega)).imp ?_
   rintro _ _ ⟨rfl,rfl⟩
   nofun
   refine Xs ⋯ ?_
   exact ZF (ih ⋯ ⋯ (jq.app hr)) ⋯ gI hs hv qs qw (Kp.refl _)
  | @draw q nm i s ws r n c d dX hr=>
   have fO:=ih ⋯ ⋯ hr
   intro f st g l hf hE hs v hv pre sh wt a8 a9 dy d9 S qs qw
   obtain⟨f,rfl⟩:∃q,f=q+1:=⟨f-1,⋯⟩
   obtain⟨i',s',ws',dr,hW,kX,eM,fi,rfl⟩:=hE.draw' rfl
   obtain rfl:=zj0 hW
   obtain⟨j,x,u,hj,hu,rfl⟩:=zgz hv
   obtain⟨s0,s1,s2⟩:=zar dX.nn
   have iB:=dX.len
   have iW:(xo 0 ws)[j]? =some x.1:=by rw[<-eM,rM,hj];rfl
   obtain⟨_,iA,qH⟩:=zb6 ws 0 x.1 (rX iW)
   rw[Bw] at iA
   have qG:=s2 _ (rX iA)
   refine zhi (.inl rfl) ?_
   unfold zfr gs
   refine zG (yv ?_)
   nofun
   refine (zhT dX).imp ?_
   rintro _ _ ⟨rfl,rfl⟩
   dsimp only[rY]
   rw[v8]
   refine zdc (bs:=bs) (z:= .int (x.1.1:Int)) (j:=j) (ms:=u.r.ms) yM (by rw[rM,iW];rfl) ?_
   unfold gs
   refine wH rfl ?_
   have jb:=qs.ok.bits hd ek ∅ ∅
   have eX:=qw.ok.bits hd ek ∅ ∅
   have ja:=zb7 (b:=ws.sum) ⟨⋯,⋯⟩
   have m8:=zb7 (b:=x.1.2) ⟨⋯,⋯⟩
   have b1:=jb.1.le
   have b2:=jb.2.le
   have b3:=eX.1.le
   have b4:=eX.2.le
   have b5:=ja.le
   have b6:=m8.le
   have j8:atI (ws.map Xv.int) (x.1.1:Int)=some (.int x.1.2):=zjI iA
   refine zG (yv ?_)
   nofun
   refine zP rfl (show atI [Xv.str "draw",.str nm,.tup (ws.map Xv.int)] 2=some (.tup (ws.map Xv.int)) from rfl) ?_
   nofun
   refine WO.of (show zbz [Xv.tup (ws.map Xv.int)] _ = some (.int ws.sum, _) by
    show ((Xv.tupOf (.tup (ws.map Xv.int))).bind ZV).map _=_
    show ((ZV (ws.map Xv.int))).map _=_
    rw[ZB];rfl) ?_
   dsimp only[rY]
   refine zG (yv ?_)
   nofun
   refine zP rfl ZX ?_
   nofun
   refine zP rfl (show atI [Xv.str "draw",.str nm,.tup (ws.map Xv.int)] 2=some (.tup (ws.map Xv.int)) from rfl) ?_
   nofun
   refine zP rfl j8 ?_
   refine wo ⋯ ?_
   nofun
   refine zP rfl Yo ?_
   nofun
   refine wo ⋯ ?_
   nofun
   refine (TD cW (sU qs.ok.pos dX.pos) ((jb.2.mul ja).mono ∅)).imp ?_
   rintro _ _ ⟨rfl,rfl⟩
   dsimp only[rY]
   refine zG (yv ?_)
   nofun
   refine zP rfl ZX ?_
   nofun
   refine zP rfl (show atI [Xv.str "draw",.str nm,.tup (ws.map Xv.int)] 2=some (.tup (ws.map Xv.int)) from rfl) ?_
   nofun
   refine zP rfl j8 ?_
   refine wo ⋯ ?_
   nofun
   refine zP rfl Yo ?_
   nofun
   refine wo ⋯ ?_
   nofun
   refine (TD cW (sU qw.ok.pos dX.pos) ((eX.2.mul ja).mono ∅)).imp ?_
   rintro _ _ ⟨rfl,rfl⟩
   dsimp only[rY]
   refine yv ?_
   nofun
   have hp:Pu bs st nm (x.1.1:Int) (st.set i' ((x.1.1:Int) % (s':Int))):=⟨i',s',kX.at_,rfl⟩
   refine (zjJ hb hs hp).imp ?_
   rintro _ S2 ⟨rfl,k2⟩
   refine zei (f:=f) (v:=exD j x.1.2 ws.sum u) (pre:=pre) (sh:=sh) (wt:=wt) (pre':=pre++[(j:Int)]) (sh':=wD sh (x.1.2,ws.sum)) (wt':=wD wt (x.1.2,ws.sum)) fO ⋯ (fi x (rX hj)) (hp.ok hb hs) hu (qs.mul ⋯ ⋯ dX.pos) (qw.mul ⋯ ⋯ dX.pos) ((Kp.pre (rW _ _)).trans k2) ?_ rfl rfl ?_ rfl ?_
   ·rw[t6];rfl
   ·rw[zld qs.ok.pos dX.pos];exact zd7 _ _ _ _
   ·rw[rV];rfl
  | @hand q ps r n c d h2 h9 eO hr=>
   intro f st g l hf hE hs v hv pre sh wt a8 a9 dy d9 S qs qw
   obtain⟨f,rfl⟩:∃q,f=q+1:=⟨f-1,⋯⟩
   obtain⟨hl,hH,pB,pO,rfl⟩:=hE.hand' rfl
   obtain⟨j,x,u,hj,hu,rfl⟩:=zgA hv
   have hlen:ps.length=hl.length:=by
    have:=congrArg ug hH
    rw[rJ,rJ] at this
    exact this
   have kl:j<ps.length:=by rw[hlen];exact (rH.1 hj).1
   have cR:=rG kl
   have lz:ps[j].1=x.1:=by
    have:=congrArg (λl:List Xv=>l[j]?) hH
    rw[rM,rM,hj,cR] at this
    exact Xv.tup.inj (sr this)
   generalize ps[j]=p at cR lz
   have hU:=rX cR
   have nQ:=eO p hU
   have lA:=zee hU
   have l1:=hr.len
   have l2:=nQ.len
   have nR:=(nQ.up (t5 _)).app hr
   rw[lz] at nR l2
   refine zhi (.inr rfl) ?_
   unfold zfr gs
   refine zG (yv ?_)
   nofun
   refine (zhU (by rw[rJ];exact h9)).imp ?_
   rintro _ _ ⟨rfl,rfl⟩
   dsimp only[rY]
   rw[v8,rJ]
   refine zdc (bs:=bs) (z:= .int (j:Int)) (j:=j) (ms:=u.r.ms) yM (zgC kl) ?_
   unfold gs
   refine vn ∅ rfl ?_
   have eX:=qw.ok.bits hd ek ∅ ∅
   have ja:=zb7 (b:=(ps.length:Int)) ⟨⋯,⋯⟩
   have b3:=eX.1.le
   have b4:=eX.2.le
   have b5:=ja.le
   refine zG (yv ?_)
   nofun
   refine zP rfl ZX ?_
   nofun
   refine zP rfl Yo ?_
   nofun
   refine UE (zR yM) ?_
   rw[yz]
   refine wo ⋯ ?_
   nofun
   refine (TD cW (sU qw.ok.pos ⋯) ((eX.2.mul ja).mono ∅)).imp ?_
   rintro _ _ ⟨rfl,rfl⟩
   dsimp only[rY]
   refine yv ?_
   nofun
   refine zP rfl (wP ⋯ (by rw[rQ,rM,cR];rfl)) ?_
   nofun
   rw[show (λp:Hb=>Xv.tup p.1) p= .tup x.1 by rw[<-lz]]
   refine Xs ⋯ ?_
   rw[show wV wt.1 (wt.2*(ps.length:Int))=wD wt (1,(ps.length:Int)) by unfold wD;rw[AQ]]
   have fJ:p.2.2.1*d∣prD ps*d:=tQ (zeb hU) (sX _)
   have qw':QB dd ((ps.length:Int)*(prD ps*d)) wt:=by rw[<-sC];exact qw
   have qs':QB dd ((ps.length:Int)*(prD ps*d)) sh:=by rw[<-sC];exact qs
   refine zei (f:=f) (v:=exH j (hl.length:Int) u) (pre:=pre) (sh:=sh) (wt:=wt) (pre':=pre++[(j:Int)]) (sh':=sh) (wt':=wD wt (1,(ps.length:Int))) (ih ⋯ ⋯ nR) ⋯ (pO x (rX hj)) hs hu (qs'.to (t8 fJ ⟨(ps.length:Int),sO _ _⟩)) ((qw'.mul ∅ ⋯ ⋯).to fJ) (Kp.pre (rW _ _)) ?_ rfl rfl ?_ ?_ ?_
   ·rw[t6];rfl
   ·exact zd7 _ _ _ _
   ·rw[hlen];rfl
   ·rw[rV];rfl
end
section
variable {fu:Nat} {S S' S2:Sto} {x y:Xv} {bs:List (Str×Nat)} {st:List Int} {g:Int} {l:List Lv} {r:List Xv} {dd:Int} {sn:Nat}
theorem zmT (cW:Big fu) (hb:BOk bs) (hs:SOk bs st) (hd:0<dd) (ek:xD 4000 dd) {q:Nat} {ds:List Xv} {n c:Nat} (hB:Bk bs q ds n dd c) (hn:n<=100) (hE:Ev bs ds st 0 l) {v:Lv} (hv:v∈l):W (WY fu [.tup (bsX bs),.tup ds,.tup (st.map Xv.int),.tup (v.r.ms.map Xv.int)] S) λx S'=>x= .tup [qv (shr (1,1) v.r),v.r.o,v.r.g,qv (v.wf.foldl wD (1,1))]/\QOk dd 1 (v.wf.foldl wD (1,1))/\Kp (λ_=>False) S S':=by
 walk_at "wr"
 rw[zlc]
 nofun
 refine zcX ?_
 have qb:QB dd dd (1,1):=⟨zgs hd,∅,by show 1*dd∣dd;rw[BJ];exact sX _⟩
 have hf:=cW.le
 have key:=zhX cW hb hd ek n (rL _) ⋯ hB fu st 0 l ⋯ hE hs v hv [] (1,1) (1,1) none none none none S qb qb
 refine WS.imp2 key ?_ (λ_ _ z=>z.elim)
 rintro ρ S2 ⟨b8,b9,o4,nZ,rfl,k2,o2⟩
 unfold gs
 rw[z9]
 refine zG (zS ?_)
 nofun
 refine WO.of xw ?_
 rw[rJ]
 nofun
 refine yH (λz=>absurd z ⋯) (λ_=>zF ?_)
 nofun
 exact⟨rfl,o2,k2⟩
theorem Ud {i:Int}:W (xQ fu [.int i] S) λv S'=>v= .bl true/\S=S':=by
 walk_at "wr";unfold XM
 refine xm (Wz ?_)
 nofun
 refine xh (v:=true) rfl ?_
 refine⟨_,rfl,λ_=> ?_,λz=>(by cases z)⟩
 nofun
 refine xh (v:=false) rfl ?_
 exact⟨_,rfl,rfl,rfl⟩
theorem zmU {q:Q2}:W (Yx fu [qv q] S) λv S'=>v= .bl true/\S=S':=by
 walk_at "wr";unfold WZ
 refine xm (Wz ?_)
 nofun
 refine xh (v:=true) rfl ?_
 refine⟨_,rfl,λ_=> ?_,λz=>(by cases z)⟩
 refine Wz ?_
 nofun
 refine WO.of (show yX [qv q] S=some (.int 2,S) from rfl) ?_
 nofun
 refine⟨λ_=> ?_,λz=>absurd z ∅⟩
 refine Wz ?_
 nofun
 refine zP rfl (show atI [Xv.int q.1,.int q.2] 0=some (.int q.1) from rfl) ?_
 nofun
 refine Ud.imp ?_
 rintro _ _ ⟨rfl,rfl⟩
 refine⟨_,rfl,λ_=> ?_,λz=>(by cases z)⟩
 nofun
 refine zP rfl (show atI [Xv.int q.1,.int q.2] 1=some (.int q.2) from rfl) ?_
 nofun
 exact Ud
theorem zj2 {ms:List Int} {a b c:Xv} (hl:ms.length<=999):W (XR fu [.tup [.tup (ms.map Xv.int),a,b,c]] S) λv S'=>v= .bl true/\Kp (λ_=>False) S S':=by
 walk_at "wr";unfold XQ
 refine zG (zS (ww ?_))
 nofun
 refine xh (v:=true) rfl ?_
 refine⟨_,rfl,nofun,λ_=> ?_⟩
 refine ww ?_
 nofun
 refine WO.of (show yX [Xv.tup [.tup (ms.map Xv.int),a,b,c]] S=some (.int 4,S) from rfl) ?_
 nofun
 refine⟨nofun,λ_=> ?_⟩
 nofun
 refine xh (v:=true) rfl ?_
 refine⟨_,rfl,nofun,λ_=>zF ?_⟩
 refine xm (Vv (xV (xW (We ?_))))
 nofun
 refine xF (by rw[rJ];exact tK (zc1 hl)) (λj es S3=>es=(rN j true).map Xv.bl/\S3=S) (λ_ _ _ _ _=>rfl) ?_ ⟨rfl,rfl⟩ ?_
 ·rintro j w es S3 cV eh ⟨rfl,rfl⟩
  rw[rM] at cV
  cases cR:ms[j]? with
  |none=>rw[cR] at cV;cases cV
  |some u=>
   rw[cR] at cV
   cases cV
   refine .of rfl ?_
   dsimp only[ZS,tG,rY]
   nofun
   refine⟨rfl,?_⟩
   nofun
   refine Ud.imp ?_
   rintro _ _ ⟨rfl,rfl⟩
   refine⟨?_,rfl⟩
   rw[uP,rR]
   rfl
 rintro es S3 eh ⟨rfl,rfl⟩
 refine Vu ?_
 refine WO.of (show zdF [.ref S3.length] (S3 ++ [.lst ((rN (ms.map Xv.int).length true).map Xv.bl)]) = some (.bl true, S3 ++ [.lst ((rN (ms.map Xv.int).length true).map Xv.bl)]) by
  unfold zdF
  dsimp only
  rw[zR yM,rZ,zhM]
  show some (Xv.bl _,_)=_
  rw[show ((rN (ms.map Xv.int).length true).all id)=true by simp]) ?_
 exact⟨rfl,Kp.pre (rW _ _)⟩
end
section
variable {fu:Nat} {S S' S2:Sto} {x y:Xv} {sn:Nat}
abbrev Ti:=Xv×Nat×List Lf2
noncomputable def tiL (ts:List Ti):Nat:=(ts.map λt=>t.2.2.length).sum
noncomputable def tiM (ts:List Ti):Nat:=(ts.map λt=>t.2.2.length*(t.2.1+1)).sum
theorem TL (a b:List Ti):tiL (a++b)=tiL a+tiL b:=by unfold tiL;rw[rR,tO]
theorem za2 (a b:List Ti):tiM (a++b)=tiM a+tiM b:=by unfold tiM;rw[rR,tO]
theorem za3 (t:Ti):tiL [t]=t.2.2.length:=by simp[tiL]
theorem zej (t:Ti):tiM [t]=t.2.2.length*(t.2.1+1):=by simp[tiM]
def zle (ts:List Ti):Prop:=∀t∈ts,∃d,Rt t.2.1 t.1 t.2.2 d
theorem zj3:∀{ts:List Ti},zle ts->ts.length<=tiL ts
 |[],_=>tf _
 |t::ts,h=>by
  obtain⟨d,hd⟩:=h t (sj ..)
  have h1:=hd.one
  have h2:=zj3 (ts:=ts) λu hu=>h u (rT _ hu)
  rw[show t::ts=[t]++ts from rfl,TL,za3,rV,uH]
  omega
noncomputable def zcE (h:Nat) (p:Pt2):Ti:=(p.2.1,h,p.2.2.1)
theorem zgD (h:Nat):∀(ps:List Pt2) (k:Nat),tiL (ps.map (zcE h))=(vc k ps).length/\tiM (ps.map (zcE h))=(vc k ps).length*(h+1)
 |[],k=>⟨rfl,by show 0=0*(h+1);rw[Nat.zero_mul]⟩
 |p::ps,k=>by
  obtain⟨h1,h2⟩:=zgD h ps (k+1)
  rw[sH,show zcE h p::ps.map (zcE h)=[zcE h p]++ps.map (zcE h) from rfl,TL,za2,za3,zej,h1,h2]
  show p.2.2.1.length+_=(p.2.2.1.map (ext k p.1)++vc (k+1) ps).length/\p.2.2.1.length*(h+1)+_=(p.2.2.1.map (ext k p.1)++vc (k+1) ps).length*(h+1)
  rw[rV,rJ,BL]
  exact⟨rfl,rfl⟩
noncomputable def zhj (fu:Nat):TwS:=(zD (zO (eMt zdy (ze 1) []) (gN 2)) (zD (sIf (bOr (wM (bE (eUn (Zv "tuple") (ze 2)))) (bOr (bE (eOp dLt (eFn yX [(ze 2)]) (eC (.int 2)))) (bE (eOp (dIn true) (eOp zy (ze 2) (eC (.int 0))) (Wt [(eC (.str "end")),(eC (.str "lost")),(eC (.str "draw")),(eC (.str "hand"))]))))) (ye (eC (.bl false))) zT) (zD (sIf (bE (eOp Tm (eFn yX [(ze 2)]) (eOp xZ (eC (.int 2)) (eFn zbK [(eOp (yn false) (eOp zy (ze 2) (eC (.int 0))) (eC (.str "end")))])))) (ye (eC (.bl false))) zT) (sIf (bOr (bE (eOp (yn false) (eOp zy (ze 2) (eC (.int 0))) (eC (.str "end")))) (bE (eOp (yn false) (eOp zy (ze 2) (eC (.int 0))) (eC (.str "lost"))))) (sIf (wM (bE (zE (xQ fu) [(eOp zy (ze 2) (eUn zgc (eC (.int 1))))]))) (ye (eC (.bl false))) zT) (sIf (wM (bE (eUn (Zv "tuple") (eOp zy (ze 2) (eC (.int 1)))))) (ye (eC (.bl false))) (sIf (bE (eOp (yn false) (eOp zy (ze 2) (eC (.int 0))) (eC (.str "hand")))) (ZR (eMt Ys (ze 1) [(eOp zy (ze 2) (eC (.int 1)))])) (YH (iT (eOp zy (ze 2) (eC (.int 1)))) (gN 3) (zD (sIf (bOr (wM (bE (eUn (Zv "tuple") (ze 3)))) (bOr (bE (eOp Tm (eFn yX [(ze 3)]) (eC (.int 2)))) (wM (bE (zE (Yx fu) [(eOp zy (ze 3) (eC (.int 0)))]))))) (ye (eC (.bl false))) zT) (ZR (eMt va (ze 1) [(eOp zy (ze 3) (eC (.int 1)))]))))))))))
theorem zj4:XN fu=(zD (zO (Wt [(ze 0)]) (gN 1)) (zD (sWh fu (bE (eOp dGt (eFn yX [(ze 1)]) (eC (.int 0)))) (zhj fu)) (ye (eC (.bl true))))):=rfl
theorem Um {T:TwS} {w:Str} {rest:List Xv} {x0 x1 x3:Option Xv} {N:Rho->Sto->Prop} {R:Xv->Sto->Prop} (hw:(w="end"/\rest.length=2)\/((w="lost"\/w="draw"\/w="hand")/\rest.length=1)) (h:∀c,WS (T [x0,x1,some (.tup (.str w::rest)),x3] (S++[c])) N R):WS ((zD (sIf (bOr (wM (bE (eUn (Zv "tuple") (ze 2)))) (bOr (bE (eOp dLt (eFn yX [(ze 2)]) (eC (.int 2)))) (bE (eOp (dIn true) (eOp zy (ze 2) (eC (.int 0))) (Wt [(eC (.str "end")),(eC (.str "lost")),(eC (.str "draw")),(eC (.str "hand"))]))))) (ye (eC (.bl false))) zT) (zD (sIf (bE (eOp Tm (eFn yX [(ze 2)]) (eOp xZ (eC (.int 2)) (eFn zbK [(eOp (yn false) (eOp zy (ze 2) (eC (.int 0))) (eC (.str "end")))])))) (ye (eC (.bl false))) zT) T)) [x0,x1,some (.tup (.str w::rest)),x3] S) N R:=by
 have hl:((Xv.str w::rest).length:Int)=2+(if w="end" then 1 else 0):=by
  rw[rP]
  rcases hw with⟨rfl,hh⟩|⟨rfl|rfl|rfl,hh⟩<;>rw[hh]<;>rfl
 have lY:([Xv.str "end",.str "lost",.str "draw",.str "hand"].any λz=>zcp z (.str w))=true:=by
  rcases hw with⟨rfl,_⟩|⟨rfl|rfl|rfl,_⟩<;>decide
 refine zG (zS (ww ?_))
 nofun
 refine xh (v:=true) rfl ?_
 refine⟨_,rfl,nofun,λ_=> ?_⟩
 refine ww ?_
 nofun
 refine WO.of xw ?_
 nofun
 refine yH (λz=>absurd z (by rw[hl];split<;>omega)) (λ_=> ?_)
 nofun
 refine zlE (l:=[.str "end",.str "lost",.str "draw",.str "hand"]) (show wN _ _=_ from zR yM) rfl ?_
 rw[lY]
 refine⟨_,rfl,nofun,λ_=>zF ?_⟩
 refine zG (zS ?_)
 nofun
 refine WO.of xw ?_
 nofun
 refine wG ?_
 nofun
 refine WO.of (show zbK [.bl (decide (w = "end"))] _ = some (.int (if w = "end" then 1 else 0), _) by
  unfold zbK
  by_cases hh:w="end"
  ·rw[decide_eq_true hh,if_pos hh];rfl
  ·rw[decide_eq_false hh,if_neg hh];rfl) ?_
 nofun
 rw[hl,decide_eq_true rfl]
 exact⟨nofun,λ_=>zF (h _)⟩
theorem zgE:∀(f:Nat) (ts:List Ti) (x0:Xv) (a2 a3:Option Xv) (S:Sto),tiM ts<f->zle ts->tiL ts<=500->S[sn]? =some (.lst (ts.map (·.1)))->
  WS (Zu (bE (eOp dGt (eFn yX [(ze 1)]) (eC (.int 0)))) (zhj fu) f [some x0,some (.ref sn),a2,a3] S) (λρ S'=>∃a2 a3,ρ=[some x0,some (.ref sn),a2,a3]/\Kp (· =sn) S S') (λ_ _=>False):=by
 intro f
 induction f with
 |zero=>intro ts x0 a2 a3 S h;omega
 |succ f ih=>
  intro ts x0 a2 a3 S hM ng hL e
  refine Xd ?_
  nofun
  refine UE (zR e) ?_
  nofun
  rw[rJ]
  refine yH (λi5=> ?_) (λi5=>⟨a2,a3,rfl,Kp.refl _⟩)
  have ef:ts≠[]:=λq=>by rw[q] at i5;simp at i5
  obtain⟨r,t,rfl⟩:∃r t,ts=r++[t]:=⟨ts.dropLast,ts.getLast ef,(List.dropLast_concat_getLast ef).symm⟩
  obtain⟨d,ht⟩:=ng t (sT _ (sD.2 rfl))
  have hr:zle r:=λt h=>ng t (y9 _ h)
  have p6:=zj3 hr
  rw[za2,zej] at hM
  rw[TL,za3] at hL
  unfold zhj
  refine zG (zmr (Wd ?_))
  nofun
  refine⟨⟨_,zR e⟩,?_⟩
  nofun
  refine WO.of (show zdy (.ref sn) [] S = some (t.1, S.set sn (.lst (r.map (·.1)))) by
   unfold zdy
   rw[xX e]
   dsimp only
   rw[rR,sH,v5,rV,uH,Nat.add_sub_cancel,sL (rL _),Aw,List.dropLast_concat]
   rfl) ?_
  have e2:=wC (c':= .lst (r.map (·.1))) e
  have k2:Kp (· =sn) S (S.set sn (.lst (r.map (·.1)))):=(Kp.refl _).set (.inl rfl)
  generalize S.set sn (.lst (r.map (·.1)))=S2 at e2 k2 ⊢
  refine .of rfl ?_
  dsimp only[rY]
  have qK:=(rH.1 e2).1
  have go:∀{S3:Sto} {ts:List Ti} {b2 b3:Option Xv},tiM ts<f->zle ts->tiL ts<=500->S3[sn]? =some (.lst (ts.map (·.1)))->Kp (· =sn) S S3->WS (Zu (bE (eOp dGt (eFn yX [(ze 1)]) (eC (.int 0)))) (zhj fu) f [some x0,some (.ref sn),b2,b3] S3) (λρ S'=>∃a2 a3,ρ=[some x0,some (.ref sn),a2,a3]/\Kp (· =sn) S S') (λ_ _=>False):=λh1 h2 h3 h4 k=>WS.imp2 (ih _ x0 _ _ _ h1 h2 h3 h4) (λ_ _ ⟨a2,a3,h,k'⟩=>⟨a2,a3,h,k.trans k'⟩) (λ_ _ z=>z)
  obtain⟨x,h,l⟩:=t
  dsimp only at ht hM hL
  have nE:=ht.one
  have r9:l.length*h+l.length=l.length*(h+1):=by rw[Nat.mul_succ]
  cases ht with
  | @fin _ st g _=>
   refine Um (.inl ⟨rfl,rfl⟩) λc=> ?_
   refine zS (ww ?_)
   nofun
   refine xl ⟨_,rfl,λ_=>⟨λ_=> ?_,nofun⟩,nofun⟩
   refine zS ?_
   nofun
   refine zP rfl (show atI [Xv.str "end",.tup (st.map Xv.int),.int g] (-1)=some (.int g) from rfl) ?_
   nofun
   refine Ud.imp ?_
   rintro _ _ ⟨rfl,rfl⟩
   refine⟨_,rfl,nofun,λ_=>zF ?_⟩
   exact go ⋯ hr ⋯ ((Kp.pre (w:=λ_=>False) (rW _ _)).2 _ _ e2 id) k2.app
  | @lost _ g=>
   refine Um (.inr ⟨.inl rfl,rfl⟩) λc=> ?_
   refine zS (ww ?_)
   nofun
   refine yo ∅ ⟨_,rfl,nofun,λ_=> ?_⟩
   nofun
   refine xl ⟨_,rfl,λ_=> ?_,nofun⟩
   refine zS ?_
   nofun
   refine zP rfl (show atI [Xv.str "lost",.int g] (-1)=some (.int g) from rfl) ?_
   nofun
   refine Ud.imp ?_
   rintro _ _ ⟨rfl,rfl⟩
   refine⟨_,rfl,nofun,λ_=>zF ?_⟩
   exact go ⋯ hr ⋯ ((Kp.pre (w:=λ_=>False) (rW _ _)).2 _ _ e2 id) k2.app
  | @draw h s ee ps ef eW lu jC lx hp=>
   obtain⟨L1,L2⟩:=zgD h ps 0
   refine Um (.inr ⟨.inr (.inl rfl),rfl⟩) λc=> ?_
   refine zS (ww ?_)
   nofun
   refine yo ∅ ⟨_,rfl,nofun,λ_=> ?_⟩
   nofun
   refine yo ∅ ⟨_,rfl,nofun,λ_=> ?_⟩
   refine zS ?_
   nofun
   refine xh (v:=true) rfl ?_
   refine⟨_,rfl,nofun,λ_=> ?_⟩
   refine vn ∅ rfl ?_
   refine wB (We ?_)
   nofun
   refine xt (xs:=ps.map ptY) (λi ρ S3=>∃a3,ρ=[some x0,some (.ref sn),some (.tup [.str "draw",.tup (ps.map ptY)]),a3]/\S3[sn]? =some (.lst ((r++(ps.take i).map (zcE h)).map (·.1)))/\Kp (· =sn) S S3) (λ_ _ _ _ _=>rfl) ?_ ⟨a3,rfl,by rw[List.take_zero,v5,sI];exact (Kp.pre (w:=λ_=>False) (rW _ _)).2 _ _ e2 id,k2.app⟩ ?_
   ·rintro i w ρ S3 hw ⟨b3,rfl,e3,k3⟩
    rw[rM] at hw
    cases fw:ps[i]? with
    |none=>rw[fw] at hw;cases hw
    |some p=>
     rw[fw] at hw
     cases hw
     obtain⟨q,eq,hq⟩:=hp p (rX fw)
     have ep:ptY p= .tup [qv q,p.2.1]:=by unfold ptY;rw[eq]
     have fB:=(rH.1 fw).1
     rw[ep]
     refine .of rfl ?_
     dsimp only[rY]
     refine zG (zS (ww ?_))
     nofun
     refine xh (v:=true) rfl ?_
     refine⟨_,rfl,nofun,λ_=> ?_⟩
     refine ww ?_
     nofun
     refine WO.of (show yX [Xv.tup [qv q,p.2.1]] _=some (.int 2,_) from rfl) ?_
     nofun
     refine⟨nofun,λ_=> ?_⟩
     nofun
     refine zmU.imp ?_
     rintro _ _ ⟨rfl,rfl⟩
     refine⟨_,rfl,nofun,λ_=>zF ?_⟩
     refine zaW (Wd ?_)
     nofun
     refine⟨⟨_,zR e3⟩,?_⟩
     nofun
     refine vR (xX e3) (zd8 (by rw[rJ,rV,rJ,sV];omega)) ?_
     refine⟨_,rfl,?_,k3.set (.inl rfl)⟩
     rw[wC e3,xg fw,rR (f:=zcE h),<-t6,rR (l₂:=[p].map (zcE h))]
     rfl
   ·rintro ρ S3 ⟨b3,rfl,e3,k3⟩
    rw[rJ,sE] at e3
    refine go ?_ ?_ ?_ e3 k3
    ·rw[za2,L2];omega
    ·intro t ht
     rcases sN.1 ht with ht|ht
     ·exact hr t ht
     ·obtain⟨p,gO,rfl⟩:=sQ.1 ht
      exact⟨_,lx p gO⟩
    ·rw[TL,L1];omega
  | @hand h ee ps ef eW jC lx hp=>
   obtain⟨L1,L2⟩:=zgD h ps 0
   have ep:ps.map ptY=(ps.map (zcE h)).map (·.1):=by
    rw[t9]
    refine Bm λp gO=> ?_
    unfold ptY
    rw[(hp p gO).1]
    rfl
   refine Um (.inr ⟨.inr (.inr rfl),rfl⟩) λc=> ?_
   refine zS (ww ?_)
   nofun
   refine yo ∅ ⟨_,rfl,nofun,λ_=> ?_⟩
   nofun
   refine yo ∅ ⟨_,rfl,nofun,λ_=> ?_⟩
   refine zS ?_
   nofun
   refine xh (v:=true) rfl ?_
   refine⟨_,rfl,nofun,λ_=> ?_⟩
   refine wH rfl ?_
   have e3:=(Kp.pre (w:=λ_=>False) (rW S2 [c])).2 _ _ e2 id
   have k3:Kp (· =sn) S (S2++[c]):=k2.app
   generalize S2++[c]=S3 at e3 k3 ⊢
   refine zaW (Wd ?_)
   nofun
   refine⟨⟨_,zR e3⟩,?_⟩
   nofun
   refine WO.of (show Ys (.ref sn) [.tup (ps.map ptY)] S3 = some (.non, S3.set sn (.lst (r.map (·.1) ++ ps.map ptY))) by
    unfold Ys
    rw[xX e3]
    dsimp only
    rw[show wN S3 (.tup (ps.map ptY))=some (ps.map ptY) from rfl,rZ,if_pos (szB (by rw[rJ,rJ];omega))]) ?_
   rw[ep,<-rR]
   refine go ?_ ?_ ?_ (wC e3) (k3.set (.inl rfl))
   ·rw[za2,L2];omega
   ·intro t ht
    rcases sN.1 ht with ht|ht
    ·exact hr t ht
    ·obtain⟨p,gO,rfl⟩:=sQ.1 ht
     exact⟨_,lx p gO⟩
   ·rw[TL,L1];omega
theorem zlf {h:Nat} {l:List Lf2} {d:Int} (hf:l.length*(h+1)<fu) (hl:l.length<=500) (ht:Rt h x l d):W (XO fu [x] S) λv S'=>v= .bl true/\Kp (λ_=>False) S S':=by
 walk_at "wr"
 rw[zj4]
 nofun
 refine zcX ?_
 refine WS.imp2 (zgE (sn:=S.length) fu [(x,h,l)] x none none (S++[.lst [x]]) (by rw[zej];exact hf) (λt oU=>by rw[sD.1 oU];exact⟨_,ht⟩) (by rw[za3];exact hl) yM) ?_ (λ_ _ z=>z.elim)
 rintro ρ S2 ⟨a2,a3,rfl,k2⟩
 nofun
 exact⟨rfl,⟨si (by simp) k2.1,λm c e _=>k2.2 m c ((Kp.pre (w:=λ_=>False) (rW _ _)).2 m c e id) (λq=>by have:=(rH.1 e).1;omega)⟩⟩
end
section
variable {bs:List (Str×Nat)} {st:List Int} {g:Int} {l:List Lv} {dd:Int}
noncomputable def wvL:List Q2->Rat
 |[]=>1
 |p::r=>val p*wvL r
noncomputable def ZG:List Lv->Rat
 |[]=>0
 |v::r=>wvL v.wf+ZG r
theorem TM:∀a b:List Lv,ZG (a++b)=ZG a+ZG b
 |[],b=>by show ZG b=0+ZG b;rw[Rat.zero_add]
 |v::a,b=>by
  show wvL v.wf+ZG (a++b)=wvL v.wf+ZG a+ZG b
  rw[TM a b,Rat.add_assoc]
theorem zj5 (v:Lv):ZG [v]=wvL v.wf:=by show wvL v.wf+0=_;rw[Rat.add_zero]
theorem zft (k:Nat) (w t:Int):∀l:List Lv,ZG (l.map (exD k w t))=val (w,t)*ZG l
 |[]=>by show (0:Rat)=val (w,t)*0;rw[Rat.mul_zero]
 |v::r=>by
  show val (w,t)*wvL v.wf+ZG (r.map (exD k w t))=val (w,t)*(wvL v.wf+ZG r)
  rw[zft k w t r,Rat.mul_add]
theorem zfu (k:Nat) (n:Int):∀l:List Lv,ZG (l.map (exH k n))=val (1,n)*ZG l
 |[]=>by show (0:Rat)=val (1,n)*0;rw[Rat.mul_zero]
 |v::r=>by
  show val (1,n)*wvL v.wf+ZG (r.map (exH k n))=val (1,n)*(wvL v.wf+ZG r)
  rw[zfu k n r,Rat.mul_add]
theorem zj6 (t:Int):∀(dr:List ((Nat×Int)×List Lv)) (k:Nat),(∀x∈dr,ZG x.2=1)->ZG (kd t k dr)=((((dr.map (·.1)).map (·.2)).sum:Int):Rat)*(t:Rat)⁻¹
 |[],_,_=>by show (0:Rat)=((0:Int):Rat)*_;rw[Ax,BD]
 |x::dr,k,h=>by
  show ZG (x.2.map (exD k x.1.2 t)++kd t (k+1) dr)=(((x.1.2+((dr.map (·.1)).map (·.2)).sum:Int)):Rat)*_
  rw[TM,zft,h x (sj ..),zj6 t dr (k+1) λy hy=>h y (rT _ hy),AY,AJ,Rat.add_mul]
  show (x.1.2:Rat) / (t:Rat)+_=_
  rw[uC]
theorem zj7 (n:Int):∀(hl:List (List Xv×List Lv)) (k:Nat),(∀x∈hl,ZG x.2=1)->ZG (kh n k hl)=((hl.length:Int):Rat)*(n:Rat)⁻¹
 |[],_,_=>by show (0:Rat)=((0:Int):Rat)*_;rw[Ax,BD]
 |x::hl,k,h=>by
  show ZG (x.2.map (exH k n)++kh n (k+1) hl)=_
  rw[TM,zfu,h x (sj ..),zj7 n hl (k+1) λy hy=>h y (rT _ hy),AY,rP,show ((hl.length+1:Nat):Int)=1+(hl.length:Int) by omega,AJ,Rat.add_mul]
  show ((1:Int):Rat) / (n:Rat)+_=_
  rw[uC]
theorem zfv:∀(ws:List Int) (k:Nat),(∀w∈ws,0<=w/\w<1000000000)->((xo k ws).map (·.2)).sum=ws.sum
 |[],_,_=>rfl
 |w::r,k,h=>by
  have h1:=zfv r (k+1) λu hu=>h u (rT _ hu)
  have h2:=h w (sj ..)
  show ((if 0<w then (k,w)::xo (k+1) r else xo (k+1) r).map (·.2)).sum=w+r.sum
  split
  ·show w+((xo (k+1) r).map (·.2)).sum=_
   rw[h1]
  ·rw[h1];omega
def WfP (l:List Lv):Prop:=∀v∈l,∀p∈v.wf,0<p.2
theorem znX {t:Int} (ht:0<t) {dr:List ((Nat×Int)×List Lv)} (h:∀x∈dr,WfP x.2):WfP (kd t 0 dr):=by
 intro v hv p hp
 obtain⟨j,x,u,hj,hu,rfl⟩:=zgz hv
 rcases sq.1 hp with rfl|hp
 ·exact ht
 ·exact h x (rX hj) u hu p hp
theorem znY {t:Int} (ht:0<t) {dr:List (List Xv×List Lv)} (h:∀x∈dr,WfP x.2):WfP (kh t 0 dr):=by
 intro v hv p hp
 obtain⟨j,x,u,hj,hu,rfl⟩:=zgA hv
 rcases sq.1 hp with rfl|hp
 ·exact ht
 ·exact h x (rX hj) u hu p hp
theorem Ev.one {D:List Xv} (h:Ev bs D st g l):WfP l/\ZG l=1:=by
 have base:∀o:Lf2,WfP [⟨o,[]⟩]/\ZG [⟨o,[]⟩]=1:=λo=>⟨(λv hv p hp=>by rw[sD.1 hv] at hp;cases hp),by show (1:Rat)+0=1;rw[Rat.add_zero]⟩
 induction h with
 |nil=>exact base _
 |lost _=>exact base _
 |pass _ ih=>exact ih
 |gain _ _ ih=>exact ih
 |set _ _ _ ih=>exact ih
 |look _ _ ih=>exact ih
 |cond _ _ ih=>exact ih
 |times _ _ ih=>exact ih
 |draw dr dX eM _ ih=>
  refine⟨znX dX.pos λx hx=>(ih x hx).1,?_⟩
  rw[zj6 _ dr 0 λx hx=>(ih x hx).2,eM,zfv _ 0 dX.nn]
  exact uB _ (vD (by have:=dX.pos;omega))
 |hand hl h0 _ ih=>
  refine⟨znY ⋯ λx hx=>(ih x hx).1,?_⟩
  rw[zj7 _ hl 0 λx hx=>(ih x hx).2]
  exact uB _ (vD ⋯)
theorem zfw:∀(wf:List Q2) (q:Q2),0<q.2->(∀p∈wf,0<p.2)->val (wf.foldl wD q)=val q*wvL wf
 |[],q,_,_=>by show val q=val q*1;rw[AY]
 |p::r,q,hq,h=>by
  have hp:=h p (sj ..)
  have:=zeh (t:=q.1*p.1) (sU hq hp)
  show val (r.foldl wD (wD q p))=val q*(val p*wvL r)
  rw[zfw r (wD q p) this.1 λu hu=>h u (rT _ hu),zd3 hq hp,Rat.mul_assoc]
variable {S:Sto} {x y:Xv}
theorem zj8 {n:Nat} {l:List Int} (h:l.length<=999):SmX S (n+1) (.tup (l.map Xv.int)) (.tup (l.map Xv.int)):=by
 refine .tup rfl rfl rfl (by rw[rJ];exact h) λi a b ha hb=> ?_
 rw[ha] at hb
 cases hb
 rw[rM] at ha
 cases hl:l[i]? with
 |none=>rw[hl] at ha;cases ha
 |some u=>rw[hl] at ha;cases ha;exact .int _
theorem znZ {n:Nat} {q:Q2} (hx:QX x q) (hy:QX y q):SmX S (n+1) x y:=by
 refine .tup hx hy rfl (by show 2<=999;decide) λi a b ha hb=> ?_
 match i with
 |0=>cases ha;cases hb;exact .int _
 |1=>cases ha;cases hb;exact .int _
 |i+2=>cases ha
theorem zhY {n:Nat} {q:Q2} {sh o gx:Xv} (hx:QX sh q) (hg:∃g,gx= .int g) (ho:o= .non\/∃st:List Int,o= .tup (st.map Xv.int)/\st.length<=100):SmX S (n+2) (.tup [sh,o,gx]) (.tup [qv q,o,gx]):=by
 refine .tup rfl rfl rfl (by show 3<=999;decide) λi a b ha hb=> ?_
 match i with
 |0=>cases ha;cases hb;exact znZ hx (QX.qv q)
 |1=>
  cases ha;cases hb
  rcases ho with rfl|⟨st,rfl,hs⟩
  ·exact .non
  ·exact zj8 ⋯
 |2=>
  cases ha;cases hb
  obtain⟨g,rfl⟩:=hg
  exact .int _
 |i+3=>cases ha
end
section
variable {fu:Nat} {S S' S2:Sto} {x y:Xv} {bs:List (Str×Nat)} {st:List Int} {l:List Lv} {dd:Int}
theorem zlg {P:Xv->Sto->Prop} {l:List Xv} (h:yD S x=some l) (k:P (.ref S.length) (S++[.lst l.reverse])):WO (Vt x S) P:= .of (by unfold Vt;rw[h];rfl) k
theorem zhZ {l:List Int} (hl:l.length<=63) (lo hi:Option Int):∃m:List Int,L2.Wv (l.map Xv.int) lo hi=m.map Xv.int/\m.length<=63:=by
 unfold L2.Wv
 rw[<-List.map_drop,<-List.map_take]
 refine⟨_,rfl,?_⟩
 rw[sV,uM]
 omega
theorem Vs {a:Nat} {l:List Xv} (h:S[a]? =some (.lst l)):zbB "list" S (.ref a)=some true:=by
 unfold zbB
 first|(rw[zR h];rfl)|(simp[zR h])|rfl
theorem zj9 {l:List Xv} {a:Xv}:atI (l++[a]) (-1)=some a:=by
 unfold atI ixN
 rw[if_neg ∅,rV,uH]
 rw[if_pos ⋯]
 show (l++[a])[_]? =_
 rw[show (-1+((l.length+1:Nat):Int)).toNat=l.length by omega,sL (rL _),Aw]
 rfl
theorem zn9 {a b c d:Xv}:L2.Wv [a,b,c,d] none (some 3)=[a,b,c]:=by
 unfold L2.Wv
 have h1:HT.sIx [a,b,c,d].length [a,b,c,d].length (some ((3:Nat):Int))=3:=by rw[HT.zgJ];rfl
 have h2:HT.sIx [a,b,c,d].length 0 none=0:=HT.zer _ _
 have mj:HT.sIx [a,b,c,d].length [a,b,c,d].length (some 3)=3:=h1
 rw[mj,h2]
 rfl
theorem zn0 (cW:Big fu) (ns:List Int) (hl:ns.length<=63):W (zgq fu [.ref 0] [.frz (ns.map Xv.int)]) λv _=>v= .bl true:=by
 have nI:=cW.le
 walk_at "wr";unfold zgp;nofun
 refine zmz (l:=ns.map Xv.int) rfl ?_
 obtain⟨ms,em,ju⟩:=zhZ hl none (some 200)
 rw[em]
 refine zlg Wg ?_
 rw[<-List.map_reverse]
 have l0:yU _ ms.length (([Ce.frz (ns.map Xv.int)]++[Ce.lst (ms.map Xv.int)])++[Ce.lst (ms.reverse.map Xv.int)]):=⟨ms.reverse,uV,yM⟩
 generalize ([Ce.frz (ns.map Xv.int)]++[Ce.lst (ms.map Xv.int)]).length=ln at l0 ⊢
 generalize (([Ce.frz (ns.map Xv.int)]++[Ce.lst (ms.map Xv.int)])++[Ce.lst (ms.reverse.map Xv.int)])=S0 at l0 ⊢
 nofun
 refine (yP l0.app ∅).imp ?_
 rintro _ S1 ⟨c1,rfl,rD,rC,l1,k1⟩
 have e1:=k1.2 _ _ (yM (S:=S0)) (show ¬S0.length=ln by have:=l0.lt;omega)
 obtain⟨most,px,lK⟩:∃most:Int,atI [Xv.int 27,.int 1000] c1=some (.int most)/\(1<=most/\most<=1000):=by
  rcases (show c1=0\/c1=1 by omega) with rfl|rfl
  ·exact⟨27,rfl,∅⟩
  ·exact⟨1000,rfl,∅⟩
 refine zah (zR e1) px ?_
 nofun
 refine (zk1 lK l1).imp ?_
 rintro _ S2 ⟨bs,eV,rfl,hb,l2,fA,k2⟩
 nofun
 refine (zk2 l2 hb).imp ?_
 rintro _ S3 ⟨st,eU,rfl,hs,l3,fV,k3⟩
 nofun
 have pF:KAt S3.length (S3++[Ce.lst (Uk.map Xv.str)]):=yM
 have l4:yU ln eU (S3++[Ce.lst (Uk.map Xv.str)]):=l3.app
 have hz:ln≠S3.length:=by have:=l3.lt;omega
 refine (zgy ⋯ l4 pF hz hb).imp ?_
 rintro _ S5 ⟨ds,n,c,d,rfl,hB,hn,hc,_⟩
 obtain⟨hd,nL,pZ⟩:=hB.ok
 have ek:xD 4000 d:=pZ.mono ⋯
 nofun
 refine (zjR cW hb hs hB ∅ hn ⋯).imp ?_
 rintro tr S6 ⟨l,hh,e,hE,hR,qY,pT,jC,qU,_⟩
 have pU:xD 4000 e:=tu (show e.natAbs<=d.natAbs by have:=Af hd pT;omega) ek
 have fj:(l.map (·.r)).length=l.length:=rJ ..
 nofun
 refine (zjF cW jC pU hR ⋯ (by rw[fj];omega)).imp ?_
 rintro _ S7 ⟨fn,es,rfl,km,e7,iK,_⟩
 obtain⟨oM,lC⟩:=hE.one
 obtain⟨ly,_⟩:=hR.ris
 have m6:=hR.ok
 have jB:=iK.len
 rw[fj] at jB
 refine zG (zS (ww ?_))
 nofun
 have hmul:(l.map (·.r)).length*(hh+1)<=40*101:=C3 (by rw[fj];omega) ⋯
 refine (zlf ⋯ (by rw[fj];omega) hR).imp ?_
 rintro _ S8 ⟨rfl,k8⟩
 have e8:=k8.2 _ _ e7 id
 have pQ:=(rH.1 e8).1
 refine⟨_,rfl,nofun,λ_=> ?_⟩
 nofun
 refine xh (v:=true) (Vs e8) ?_
 refine⟨_,rfl,nofun,λ_=>zF ?_⟩
 nofun
 have e9:=(Kp.pre (w:=λ_=>False) (rW S8 [Ce.lst []])).2 _ _ e8 id
 have m9:=yM (S:=S8) (c:=Ce.lst [])
 have nJ:fn≠S8.length:=by omega
 generalize S8.length=mn at m9 nJ ⊢
 generalize S8++[Ce.lst []]=S9 at e9 m9 ⊢
 refine wB (zgZ ?_)
 nofun
 refine⟨_,zR e9,_,zR e9,?_⟩
 refine xt (xs:=es) (λi ρ S3'=>∃(wh:Q2) (dy d9 ku kr:Option Xv),ρ=[some (.ref 0),some (.ref ln),some (.tup (bsX bs)),some (.tup (st.map Xv.int)),some (.ref S3.length),some (.tup ds),some tr,some (.ref fn),some (qv wh),some (.ref mn),dy,d9,ku,kr]/\QOk d (i:Int) wh/\val wh=ZG (l.take i)/\S3'[fn]? =some (.lst es)/\S3'[mn]? =some (.lst ((l.take i).map λv=>Xv.tup (v.r.ms.map Xv.int)))) ?_ ?_ ⟨(0,1),none,none,none,none,rfl,QOk.nil,by show ((0:Int):Rat) / ((1:Int):Rat)=0;rw[uC,Ax,BD],e9,m9⟩ ?_
 ·rintro i ρ S4 _ ⟨_,_,_,_,_,_,_,_,h,_⟩
  exact zR h
 ·rintro i w ρ SA hw ⟨wh,dy,d9,ku,kr,rfl,iq,jS,eA,mA⟩
  obtain⟨r,hr,sh,rfl,fv⟩:=iK.at hw
  rw[rM] at hr
  cases hv:l[i]? with
  |none=>rw[hv] at hr;cases hr
  |some v=>
   rw[hv] at hr
   cases hr
   have kZ:=rX hv
   have fB:=(rH.1 hv).1
   obtain⟨qJ,oP,oO⟩:=m6 v.r (List.mem_map_of_mem kZ)
   rw[z9]
   refine .of rfl ?_
   dsimp only[rY]
   refine zG (Vw (λρ SB=>ρ=[some (.ref 0),some (.ref ln),some (.tup (bsX bs)),some (.tup (st.map Xv.int)),some (.ref S3.length),some (.tup ds),some tr,some (.ref fn),some (qv wh),some (.ref mn),some (.tup [.tup (v.r.ms.map Xv.int),sh,v.r.o,v.r.g]),d9,ku,kr]/\Kp (λ_=>False) SA SB) (zS (ww ?_)) ?_)
   ·nofun
    refine (zj2 ⋯).imp ?_
    rintro _ SB ⟨rfl,kB⟩
    refine⟨_,rfl,nofun,λ_=> ?_⟩
    refine Yg ?_
    nofun
    have mB:=(kB.app (T:=[Ce.lst []])).2 _ _ mA id
    refine zi9 (zR mB) (zR yM) ?_
    cases i with
    |zero=>exact⟨_,rfl,nofun,λ_=>⟨nofun,λ_=>zF ⟨rfl,kB.app⟩⟩⟩
    |succ i=>
     have jz:i<l.length:=by omega
     have kg:=rG jz
     have jv:atI ((l.take (i+1)).map λv=>Xv.tup (v.r.ms.map Xv.int)) (-1)=some (.tup (l[i].r.ms.map Xv.int)):=by
      rw[xg kg,rR]
      exact zj9
     have iH:ltL l[i].r.ms v.r.ms=true:=by
      have hp:=uq.1 ly i (i+1) (by rw[fj];exact jz) (by rw[fj];exact fB) ⋯
      rw[t4,t4] at hp
      rw[<-(rH.1 hv).2]
      exact hp
     rw[show (true !=List.isEmpty ((l.take (i+1)).map λv=>Xv.tup (v.r.ms.map Xv.int)))=true by
      rw[xg kg,rR]
      simp]
     refine⟨_,rfl,λ_=> ?_,nofun⟩
     nofun
     refine zah (zR mB) jv ?_
     nofun
     refine zmH (zcZ _) (zcZ _) ?_
     rw[iH]
     exact⟨_,rfl,nofun,λ_=>zF ⟨rfl,kB.app⟩⟩
   rintro _ SB ⟨rfl,kB⟩
   have eB:=kB.2 _ _ eA id
   have mB:=kB.2 _ _ mA id
   refine zG (zaW (Wd ?_))
   nofun
   refine⟨⟨_,zR mB⟩,?_⟩
   nofun
   refine vR (xX mB) (zd8 (by rw[rJ,sV];omega)) ?_
   have eC:=zb0 (c':= .lst (((l.take i).map λv=>Xv.tup (v.r.ms.map Xv.int))++[.tup (v.r.ms.map Xv.int)])) eB (uE nJ)
   have mC:=wC (c':= .lst (((l.take i).map λv=>Xv.tup (v.r.ms.map Xv.int))++[.tup (v.r.ms.map Xv.int)])) mB
   generalize SB.set mn _=SC at eC mC ⊢
   nofun
   refine (zmT cW hb hs hd ek hB hn hE kZ).imp ?_
   rintro _ SD ⟨rfl,oD,kD⟩
   have eD:=kD.2 _ _ eC id
   have mD:=kD.2 _ _ mC id
   refine zG (zS (ww ?_))
   nofun
   refine WO.of xw ?_
   nofun
   refine yH (λz=>absurd z (by show ¬(4:Int)=0;decide)) (λ_=> ?_)
   nofun
   refine zb4 ?_
   rw[zlH]
   nofun
   refine zb4 ?_
   rw[zn9]
   nofun
   refine (zkY (n:=9) (zhY (n:=7) fv oP oO) (Kp.refl _)).imp ?_
   rintro _ SE ⟨rfl,pE⟩
   have kE:Kp (λ_=>False) SD SE:=Kp.pre pE
   refine⟨_,rfl,nofun,λ_=>zF ?_⟩
   have eE:=kE.2 _ _ eD id
   have mE:=kE.2 _ _ mD id
   have kW:=zfw v.wf (1,1) ∅ (oM v kZ)
   rw[show val (1,1)=1 by show ((1:Int):Rat) / ((1:Int):Rat)=1;rw[uC];exact uB _ (vD ∅),Rat.one_mul] at kW
   generalize v.wf.foldl wD (1,1)=wt at oD kW ⊢
   obtain⟨p1,p2⟩:=iq.bits hd ek ⋯ ⋯
   obtain⟨p3,p4⟩:=oD.bits hd ek ∅ ∅
   have b1:=p1.le
   have b2:=p2.le
   have b3:=p3.le
   have b4:=p4.le
   refine zG (yv ?_)
   nofun
   refine zP rfl (show atI [qv (shr (1,1) v.r),v.r.o,v.r.g,qv wt] 3=some (qv wt) from rfl) ?_
   dsimp only[rY]
   refine zG (yv ?_)
   nofun
   refine zP rfl ZX ?_
   nofun
   refine zP rfl Yo ?_
   refine wo ⋯ ?_
   nofun
   refine zP rfl ZX ?_
   nofun
   refine zP rfl Yo ?_
   refine wo ⋯ ?_
   refine Vx ?_
   dsimp only[rY]
   refine yv ?_
   nofun
   refine zP rfl Yo ?_
   nofun
   refine zP rfl Yo ?_
   refine wo ⋯ ?_
   nofun
   refine (TD cW (sU iq.pos oD.pos) ((p2.mul p4).mono ∅)).imp ?_
   rintro _ _ ⟨rfl,rfl⟩
   refine⟨zkV wh wt,_,_,_,_,rfl,?_,?_,eE,?_⟩
   ·have:=zmJ iq oD
    rw[show ((i+1:Nat):Int)=(i:Int)+1 by omega]
    exact this
   ·rw[zkW iq.pos oD.pos,xg hv,TM,zj5,jS,kW]
   ·rw[mE,xg hv,rR]
    rfl
 ·rintro ρ SA ⟨wh,dy,d9,ku,kr,rfl,iq,jS,eA,mA⟩
  rw[jB,sE,lC] at jS
  have:wh=(1,1):=zg9 iq.pos iq.low ∅ ∅ (by rw[jS];show (1:Rat)=((1:Int):Rat) / ((1:Int):Rat);rw[uC];exact (uB _ (vD ∅)).symm)
  subst this
  nofun
  refine zmC (b:=true) rfl rfl rfl rfl ?_
  rfl
theorem zn1 (cW:Big fu) (ns:List Int) (hl:ns.length<=63):∃S,zgq fu [.ref 0] [.frz (ns.map Xv.int)]=some (.ok (.bl true) S):=by
 obtain⟨v,S,e,rfl⟩:=zn0 cW ns hl
 exact⟨S,e⟩
end
end
noncomputable def zek:Nat:=2^9000
theorem zfx:Big zek:=by unfold Big zek;exact rL _
theorem zmV {P:Program} {w:World} {K:rF} {mg:Str->Option Value} {base:Heap} (T:Tx K mg):yA P w K mg base (CXE P w) 216 T.dY.a T.dY.fd ["_law_script"] (zbx K):=zmk (zkT (fu:=zek) T) λns hl=>zn1 zfx ns hl
noncomputable def zn2 {K:rF} {h:Heap} {mg:Str->Option Value} (X:K.In h) (G:h.Ns mainGlobals mg)
  {bg:Addr}  {aH:Addr} {aP:Addr} {aG:Addr} {aF:Addr} {fZ:Addr} {ip:Option Addr} {il:Nat} {ik:Array (Option Value)} {fY:Tok} {fX:Tok} {eF:Tok}
  (aU:se K mainGlobals "Grower"=some (some (.ref bg)))
  (H0:FL K "is_whole" UG)
  (H1:FL K "common_part" Xw)
  (H2:FL K "lowest" zbL)
  (H3:FL K "fraction" UH)
  (H4:FL K "times" zdL)
  (H5:FL K "place_of" WD)
  (H6:FL K "worth" zdM)
  (H7:FL K "reckoned" UI)
  (H8:FL K "holds" zdN)
  (H9:FL K "put_into" UJ)
  (H10:FL K "drawn" zdO)
  (H11:FL K "blocks_of" Vy)
  (H12:FL K "deeds_within" YN)
  (H13:FL K "stands_in" Xe)
  (H14:FL K "is_bounded" WE)
  (H15:FL K "tree_of" zaj)
  (H16:FL K "ahead_of" UK)
  (H17:ML K bg "__init__" "Grower.__init__" Zg)
  (H18:ML K bg "counted" "Grower.counted" ZD)
  (H19:ML K bg "tree_from" "Grower.tree_from" vK)
  (H20:ML K bg "parts_from" "Grower.parts_from" vk)
  (H21:ML K bg "trees_from" "Grower.trees_from" vm)
  (H22:FL K "runs_of" zak)
  (H23:FL K "add_runs" UL)
  (H24:FL K "parts_of" WF)
  (H25:FL K "_law_take" Vz)
  (H26:FL K "_law_word" VA)
  (H27:FL K "_law_names" vb)
  (H28:FL K "_law_boxes" WG)
  (H29:FL K "_law_state" Yt)
  (H30:FL K "_law_operand" YO)
  (H31:FL K "_law_test" VB)
  (H32:FL K "_law_reckoning" ZE)
  (H33:FL K "_law_weights" Zh)
  (H34:FL K "_law_simple" Xx)
  (H35:FL K "_law_length" ZL)
  (H36:FL K "_law_block" Yu)
  (H37:FL K "_law_deed" Xf)
  (H38:FL K "_law_leaves" vq)
  (H39:FL K "_law_long" Xg)
  (H40:FL K "_law_bounded" YQ)
  (H41:FL K "_law_worth" WH)
  (H42:FL K "_law_holds" WI)
  (H43:FL K "_law_put" UM)
  (H44:FL K "_law_set" UN)
  (H45:FL K "_law_low" UO)
  (H46:FL K "_law_whole" WJ)
  (H47:FL K "_law_same" ZY)
  (H48:FL K "_law_places" ZM)
  (H49:FL K "_law_turned" Xy)
  (H50:FL K "_law_gone" VC)
  (H51:FL K "_law_pair" VD)
  (H52:FL K "_law_kinds" WK)
  (H53:FL K "_law_marks" Yv)
  (H54:FL K "law" zjp)
  (dP:uL K bg Str.empty=true) (dO:w9 K bg=true) (dM:Ah K bg=true) (dJ:sf K (.ref bg) "__setattr__"=some (some (.builtin "object.__setattr__"))) (eK:AB K bg=true) (eH:ua K (.ref bg)=true)
  (au:sf K (.ref bg) "boxes"=some none)
  (aN:sf K (.ref bg) "leaves"=some none)
  (gD:se K mainGlobals "abs"=some none)
  (gC:se K mainGlobals "all"=some none)
  (gB:se K mainGlobals "any"=some none)
  (fD:se K mainGlobals "bool"=some none)
  (d8:se K mainGlobals "enumerate"=some none)
  (gA:se K mainGlobals "int"=some none)
  (cU:se K mainGlobals "isinstance"=some none)
  (gy:se K mainGlobals "len"=some none)
  (fC:se K mainGlobals "list"=some none)
  (gv:se K mainGlobals "max"=some none)
  (gu:se K mainGlobals "min"=some none)
  (f6:se K mainGlobals "range"=some none)
  (dz:se K mainGlobals "reversed"=some none)
  (gq:se K mainGlobals "str"=some none)
  (gm:se K mainGlobals "sum"=some none)
  (eZ:se K mainGlobals "tuple"=some none)
  (iU:x5 K (.builtin "object.__class__") "__get__"=some (some (.builtin "getset_descriptor.__get__"))) (iS:AF K (.builtin "object.__class__")=some true)
  (aD:se K mainGlobals "LotsError"=some (some (.ref aH))) (cz:uS K aH [.type "ValueError",.type "Exception",.type "BaseException",.type "object"] "ValueError.__new__"=true) (cY:sf K (.ref aH) "__getattribute__"=some (some (.builtin "BaseException.__getattribute__"))) (cX:sf K (.ref aH) "__getattr__"=some none) (d7:A0 K aH=true) (d6:sf K (.ref aH) "__class__"=some (some (.builtin "object.__class__"))) (cZ:rS K aH (.type "object")=some true) (cB:tW K (.ref aH)=some (.type "type")) (cj:rS K aH (.type "BaseException")=some true) (cA:rS K aH (.type "ValueError")=some true)
  (aK:se K mainGlobals "NoNumber"=some (some (.ref aP))) (cI:uS K aP [.type "ValueError",.type "Exception",.type "BaseException",.type "object"] "ValueError.__new__"=true) (df:sf K (.ref aP) "__getattribute__"=some (some (.builtin "BaseException.__getattribute__"))) (de:sf K (.ref aP) "__getattr__"=some none) (dm:A0 K aP=true) (dj:sf K (.ref aP) "__class__"=some (some (.builtin "object.__class__"))) (dg:rS K aP (.type "object")=some true) (cK:tW K (.ref aP)=some (.type "type")) (cq:rS K aP (.type "BaseException")=some true) (cJ:rS K aP (.type "ValueError")=some true)
  (ax:se K mainGlobals "NoBound"=some (some (.ref aG))) (cF:uS K aG [.type "ValueError",.type "Exception",.type "BaseException",.type "object"] "ValueError.__new__"=true) (dE:sf K (.ref aG) "__getattribute__"=some (some (.builtin "BaseException.__getattribute__"))) (dC:sf K (.ref aG) "__getattr__"=some none) (dS:A0 K aG=true) (dI:sf K (.ref aG) "__class__"=some (some (.builtin "object.__class__"))) (dG:rS K aG (.type "object")=some true) (cQ:tW K (.ref aG)=some (.type "type")) (cH:rS K aG (.type "BaseException")=some true) (cO:rS K aG (.type "ValueError")=some true)
  (aw:se K mainGlobals "TooMany"=some (some (.ref aF))) (cE:uS K aF [.type "ValueError",.type "Exception",.type "BaseException",.type "object"] "ValueError.__new__"=true) (dD:sf K (.ref aF) "__getattribute__"=some (some (.builtin "BaseException.__getattribute__"))) (dB:sf K (.ref aF) "__getattr__"=some none) (dR:A0 K aF=true) (dH:sf K (.ref aF) "__class__"=some (some (.builtin "object.__class__"))) (dF:rS K aF (.type "object")=some true) (cP:tW K (.ref aF)=some (.type "type")) (cG:rS K aF (.type "BaseException")=some true) (cN:rS K aF (.type "ValueError")=some true)
  (aY:rS K aG (.ref aH)=some true)
  (bf:rS K aG (.ref aP)=some false)
  (bt:rS K aG (.ref aG)=some true)
  (bq:rS K aG (.ref aF)=some false)
  (aX:rS K aF (.ref aH)=some true)
  (bb:rS K aF (.ref aP)=some false)
  (bp:rS K aF (.ref aG)=some false)
  (bo:rS K aF (.ref aF)=some true)
  (dA:se K mainGlobals "ONE"=some (some (.ref fZ)))
  (g6:K.lookup fZ=some ⟨.type "tuple",ip,.seq #[.int 1 fY,.int 1 fX] il,ik⟩)
  (cM:se K mainGlobals "MOST_LEAVES"=some (some (.int 400 eF))):Tx K mg:={bB:=H0.to X G (λ_ _ _ _ _ _=>at_ λ_=>at0 rfl),bC:=H1.to X G (λ_ _ _ _ _ _=>at_ λ_=>at_ λ_=>at0 rfl),c4:=H2.to X G (λ_ _ _ _ _ _=>at_ λ_=>at_ λ_=>at0 rfl),cf:=H3.to X G (λ_ _ _ _ _ _=>at_ λ_=>at_ λ_=>at0 rfl),cS:=H4.to X G (λ_ _ _ _ _ _=>at_ λ_=>at_ λ_=>at0 rfl),bA:=H5.to X G (λ_ _ _ _ _ _=>at_ λ_=>at_ λ_=>at0 rfl),aZ:=H6.to X G (λ_ _ _ _ _ _=>at_ λ_=>at_ λ_=>at_ λ_=>at0 rfl),c7:=H7.to X G (λ_ _ _ _ _ _=>at_ λ_=>at_ λ_=>at_ λ_=>at0 rfl),cy:=H8.to X G (λ_ _ _ _ _ _=>at_ λ_=>at_ λ_=>at_ λ_=>at0 rfl),bz:=H9.to X G (λ_ _ _ _ _ _=>at_ λ_=>at_ λ_=>at_ λ_=>at_ λ_=>at0 rfl),cT:=H10.to X G (λ_ _ _ _ _ _=>at_ λ_=>at_ λ_=>at_ λ_=>at_ λ_=>at0 rfl),bS:=H11.to X G (λ_ _ _ _ _ _=>at_ λ_=>at0 rfl),av:=H12.to X G (λ_ _ _ _ _ _=>at_ λ_=>at0 rfl),bR:=H13.to X G (λ_ _ _ _ _ _=>at_ λ_=>at_ λ_=>at0 rfl),bK:=H14.to X G (λ_ _ _ _ _ _=>at_ λ_=>at0 rfl),ck:=H15.to X G (λ_ _ _ _ _ _=>at_ λ_=>at_ λ_=>at0 rfl),aB:=H16.to X G (λ_ _ _ _ _ _=>at_ λ_=>at_ λ_=>at0 rfl),aV:=H17.to (λ_ _ _ _ _ _=>at_ λ_=>at_ λ_=>at0 rfl),eQ:=⟨eK,(H17.to (ps:=["self","boxes"]) (λ_ _ _ _ _ _=>at_ λ_=>at_ λ_=>at0 rfl)).mt.at_,(H17.to (ps:=["self","boxes"]) (λ_ _ _ _ _ _=>at_ λ_=>at_ λ_=>at0 rfl)).mt.fn,eH⟩,aJ:=H18.to (λ_ _ _ _ _ _=>at_ λ_=>at_ λ_=>at0 rfl),ak:=H19.to (λ_ _ _ _ _ _=>at_ λ_=>at_ λ_=>at_ λ_=>at_ λ_=>at0 rfl),aM:=H20.to (λ_ _ _ _ _ _=>at_ λ_=>at_ λ_=>at_ λ_=>at_ λ_=>at0 rfl),aL:=H21.to (λ_ _ _ _ _ _=>at_ λ_=>at_ λ_=>at_ λ_=>at_ λ_=>at_ λ_=>at0 rfl),cm:=H22.to X G (λ_ _ _ _ _ _=>at_ λ_=>at0 rfl),aW:=H23.to X G (λ_ _ _ _ _ _=>at_ λ_=>at_ λ_=>at_ λ_=>at_ λ_=>at0 rfl),c9:=H24.to X G (λ_ _ _ _ _ _=>at_ λ_=>at0 rfl),ae:=H25.to X G (λ_ _ _ _ _ _=>at_ λ_=>at_ λ_=>at0 rfl),b7:=H26.to X G (λ_ _ _ _ _ _=>at_ λ_=>at_ λ_=>at0 rfl),bM:=H27.to X G (λ_ _ _ _ _ _=>at_ λ_=>at_ λ_=>at0 rfl),bP:=H28.to X G (λ_ _ _ _ _ _=>at_ λ_=>at_ λ_=>at0 rfl),bL:=H29.to X G (λ_ _ _ _ _ _=>at_ λ_=>at_ λ_=>at0 rfl),ai:=H30.to X G (λ_ _ _ _ _ _=>at_ λ_=>at_ λ_=>at0 rfl),aI:=H31.to X G (λ_ _ _ _ _ _=>at_ λ_=>at_ λ_=>at0 rfl),aQ:=H32.to X G (λ_ _ _ _ _ _=>at_ λ_=>at_ λ_=>at_ λ_=>at0 rfl),bh:=H33.to X G (λ_ _ _ _ _ _=>at_ λ_=>at_ λ_=>at0 rfl),bG:=H34.to X G (λ_ _ _ _ _ _=>at_ λ_=>at_ λ_=>at_ λ_=>at0 rfl),af:=H35.to X G (λ_ _ _ _ _ _=>at_ λ_=>at0 rfl),aA:=H36.to X G (λ_ _ _ _ _ _=>at_ λ_=>at_ λ_=>at_ λ_=>at_ λ_=>at0 rfl),aO:=H37.to X G (λ_ _ _ _ _ _=>at_ λ_=>at_ λ_=>at_ λ_=>at_ λ_=>at0 rfl),ah:=H38.to X G (λ_ _ _ _ _ _=>at_ λ_=>at0 rfl),bU:=H39.to X G (λ_ _ _ _ _ _=>at_ λ_=>at_ λ_=>at0 rfl),bj:=H40.to X G (λ_ _ _ _ _ _=>at_ λ_=>at_ λ_=>at_ λ_=>at_ λ_=>at0 rfl),ao:=H41.to X G (λ_ _ _ _ _ _=>at_ λ_=>at_ λ_=>at_ λ_=>at0 rfl),aR:=H42.to X G (λ_ _ _ _ _ _=>at_ λ_=>at_ λ_=>at_ λ_=>at0 rfl),bH:=H43.to X G (λ_ _ _ _ _ _=>at_ λ_=>at_ λ_=>at_ λ_=>at_ λ_=>at0 rfl),cg:=H44.to X G (λ_ _ _ _ _ _=>at_ λ_=>at_ λ_=>at_ λ_=>at0 rfl),aC:=H45.to X G (λ_ _ _ _ _ _=>at_ λ_=>at_ λ_=>at0 rfl),aq:=H46.to X G (λ_ _ _ _ _ _=>at_ λ_=>at0 rfl),ay:=H47.to X G (λ_ _ _ _ _ _=>at_ λ_=>at_ λ_=>at0 rfl),bI:=H48.to X G (λ_ _ _ _ _ _=>at_ λ_=>at0 rfl),bF:=H49.to X G (λ_ _ _ _ _ _=>at_ λ_=>at_ λ_=>at_ λ_=>at0 rfl),bV:=H50.to X G (λ_ _ _ _ _ _=>at_ λ_=>at_ λ_=>at_ λ_=>at_ λ_=>at0 rfl),bT:=H51.to X G (λ_ _ _ _ _ _=>at_ λ_=>at0 rfl),bO:=H52.to X G (λ_ _ _ _ _ _=>at_ λ_=>at0 rfl),bN:=H53.to X G (λ_ _ _ _ _ _=>at_ λ_=>at0 rfl),dY:=H54.to X G (λ_ _ _ _ _ _=>at_ λ_=>at0 rfl),aU:=bg,fg:=tq X G aU,aE:=⟨dP,dO,dM,dJ⟩,az:=aU,au:=au,aN:=aN,fH:=sG X G gD,fG:=sG X G gC,gX:=sG X G gB,eT:=sG X G fD,d4:=sG X G d8,fc:=sG X G gA,aj:=sG X G cU,aT:=sG X G gy,di:=sG X G fC,f9:=sG X G gv,g4:=sG X G gu,bw:=sG X G f6,dh:=sG X G dz,fF:=sG X G gq,f7:=sG X G gm,bu:=sG X G eZ,aD:=aH,fe:=tq X G aD,cz:=⟨tq X G aD,cz⟩,fh:=⟨cY,cX,cj,d7,d6,iU,iS,cZ⟩,cB:=cB,cj:=cj,cA:=cA,aK:=aP,fq:=tq X G aK,cI:=⟨tq X G aK,cI⟩,ft:=⟨df,de,cq,dm,dj,iU,iS,dg⟩,cK:=cK,cq:=cq,cJ:=cJ,ax:=aG,fN:=tq X G ax,cF:=⟨tq X G ax,cF⟩,fQ:=⟨dE,dC,cH,dS,dI,iU,iS,dG⟩,cQ:=cQ,cH:=cH,cO:=cO,aw:=aF,fM:=tq X G aw,cE:=⟨tq X G aw,cE⟩,fP:=⟨dD,dB,cG,dR,dH,iU,iS,dF⟩,cP:=cP,cG:=cG,cN:=cN,eJ:=ax,aY:=aY,bf:=bf,bt:=bt,bq:=bq,eI:=aw,aX:=aX,bb:=bb,bp:=bp,bo:=bo,dA:=fZ,g5:=tq X G dA,gk:=λH=> .inr ⟨_,_,_,g6,rfl,rfl,by show 2<=sizeLine;decide,(.cons ⟨_,rfl⟩ (.cons ⟨_,rfl⟩ .nil))⟩,dc:=⟨_,tq X G cM⟩}
theorem zmW {l:AH} {w:World} {K:rF} {mg:Str->Option Value} {fa:Addr} (pR:mg "law"=some (.ref fa)) (T:Tx K mg):
  ∃fd:FuncData,(∀(s:Shared) (v:Value),BindsTo s fd ⟨[v],[]⟩ [("_law_script",v)])/\∀base:Heap,K.In base->base.Ns mainGlobals mg->yA l.prog w K mg base (CXE l.prog w) 216 fa fd ["_law_script"] (zbx K):=by
 have e:=zmI T.dY (λ_ _=>trivial) pR
 subst e
 exact⟨_,λs v=>by
  obtain⟨_,_,_,_,_,_,_,_,_,e,_⟩:=T.dY.F.ex
  rw[e]
  exact .of_eq rfl,λbase _ _=>zmV T⟩
theorem zoa {l:AH} {q:Program} {loose:List Str} {XP:(Str->Option Value)->Heap->Prop} {YP:World->Heap->Prop} {d:DefRec} {K:Params->rF} (hn:l.most=some 63) (jD:d.params.defaults=[])
  (hY:∀(w:World) (h:Heap),YP w h->(K w.params).In h)
  (F:∀(w:World) (mg:Str->Option Value) (fa:Addr) (h:Heap),(K w.params).In h->h.Ns mainGlobals mg->mg d.name=some (.ref fa)->
   ∃fd:FuncData,(∀(s:Shared) (u:Value),BindsTo s fd ⟨[u],[]⟩ [("_law_script",u)])/\∀base:Heap,(K w.params).In base->base.Ns mainGlobals mg->yA l.prog w (K w.params) mg base (CXE l.prog w) 216 fa fd ["_law_script"] (zbx (K w.params))):
  C4 q loose XP YP l.row.toRowW d [] (λf vs=>BX f vs):=
 L2.zkr (n:=63) (k:=216) (x:="_law_script") (CX:=λw=>CXE l.prog w) (sp:=λw=>zbx (K w.params)) hn ∅ jD ⟨rfl,∅,∅,rfl⟩ hY F (λ_ _ a ns hl hO hS=>⟨a,ns,rfl,hO,hS,hl,λ_=>rfl⟩) λ_ _ _ _ _ ⟨_,_,_,_,_,z⟩=>z
end Prf
open PySem PySem.W PyProof.Rows
local macro_rules | `(tactic| walk_at "fl") => `(tactic| exact Prf.znO (by k_is) (by k_is) (by k_is) (by k_is))
local macro_rules | `(tactic| walk_at "ml") => `(tactic| exact Prf.znP (by k_is) (by k_is) (by k_is) (by k_is) (by k_is))
set_option maxRecDepth 100000 in
set_option maxHeartbeats 0 in
theorem PySem.Challenge.cw_lots_k31_whole_runs_walked_holds : PySem.Challenge.rw_lots_k31_whole_runs_walked.Holds := by
 w_on;o_law;k_head;(case hw=>w_witness2)
 k_fill
 refine Prf.zoa (l:=PySem.Challenge.rw_lots_k31_whole_runs_walked) rfl rfl (λw h Y=>C2 Y) ?F
 case F=>
  intro w mg fa h KX G iG
  refine' Prf.zmW iG (Prf.zn2 KX G ?aU ?H0 ?H1 ?H2 ?H3 ?H4 ?H5 ?H6 ?H7 ?H8 ?H9 ?H10 ?H11 ?H12 ?H13 ?H14 ?H15 ?H16 ?H17 ?H18 ?H19 ?H20 ?H21 ?H22 ?H23 ?H24 ?H25 ?H26 ?H27 ?H28 ?H29 ?H30 ?H31 ?H32 ?H33 ?H34 ?H35 ?H36 ?H37 ?H38 ?H39 ?H40 ?H41 ?H42 ?H43 ?H44 ?H45 ?H46 ?H47 ?H48 ?H49 ?H50 ?H51 ?H52 ?H53 ?H54 ?dP ?dO ?dM ?dJ ?eK ?eH ?au ?aN ?gD ?gC ?gB ?fD ?d8 ?gA ?cU ?gy ?fC ?gv ?gu ?f6 ?dz ?gq ?gm ?eZ ?iU ?iS ?aD ?cz ?cY ?cX ?d7 ?d6 ?cZ ?cB ?cj ?cA ?aK ?cI ?df ?de ?dm ?dj ?dg ?cK ?cq ?cJ ?ax ?cF ?dE ?dC ?dS ?dI ?dG ?cQ ?cH ?cO ?aw ?cE ?dD ?dB ?dR ?dH ?dF ?cP ?cG ?cN ?aY ?bf ?bt ?bq ?aX ?bb ?bp ?bo ?dA ?g6 ?cM)
  (case aU=>k_is);(case H0=>walk_at "fl");(case H1=>walk_at "fl");(case H2=>walk_at "fl");(case H3=>walk_at "fl");(case H4=>walk_at "fl")
  (case H5=>walk_at "fl");(case H6=>walk_at "fl");(case H7=>walk_at "fl");(case H8=>walk_at "fl");(case H9=>walk_at "fl");(case H10=>walk_at "fl")
  (case H11=>walk_at "fl");(case H12=>walk_at "fl");(case H13=>walk_at "fl");(case H14=>walk_at "fl");(case H15=>walk_at "fl");(case H16=>walk_at "fl")
  (case H17=>walk_at "ml");(case H18=>walk_at "ml");(case H19=>walk_at "ml");(case H20=>walk_at "ml");(case H21=>walk_at "ml");(case H22=>walk_at "fl")
  (case H23=>walk_at "fl");(case H24=>walk_at "fl");(case H25=>walk_at "fl");(case H26=>walk_at "fl");(case H27=>walk_at "fl");(case H28=>walk_at "fl")
  (case H29=>walk_at "fl");(case H30=>walk_at "fl");(case H31=>walk_at "fl");(case H32=>walk_at "fl");(case H33=>walk_at "fl");(case H34=>walk_at "fl")
  (case H35=>walk_at "fl");(case H36=>walk_at "fl");(case H37=>walk_at "fl");(case H38=>walk_at "fl");(case H39=>walk_at "fl");(case H40=>walk_at "fl")
  (case H41=>walk_at "fl");(case H42=>walk_at "fl");(case H43=>walk_at "fl");(case H44=>walk_at "fl");(case H45=>walk_at "fl");(case H46=>walk_at "fl")
  (case H47=>walk_at "fl");(case H48=>walk_at "fl");(case H49=>walk_at "fl");(case H50=>walk_at "fl");(case H51=>walk_at "fl");(case H52=>walk_at "fl")
  (case H53=>walk_at "fl");(case H54=>walk_at "fl");(case dP=>k_is);(case dO=>k_is);(case dM=>k_is);(case dJ=>k_is)
  (case eK=>k_is);(case eH=>k_is);(case au=>k_is);(case aN=>k_is);(case gD=>k_is);(case gC=>k_is)
  (case gB=>k_is);(case fD=>k_is);(case d8=>k_is);(case gA=>k_is);(case cU=>k_is);(case gy=>k_is)
  (case fC=>k_is);(case gv=>k_is);(case gu=>k_is);(case f6=>k_is);(case dz=>k_is);(case gq=>k_is)
  (case gm=>k_is);(case eZ=>k_is);(case iU=>k_is);(case iS=>k_is);(case aD=>k_is);(case cz=>k_exc)
  (case cY=>k_is);(case cX=>k_is);(case d7=>k_is);(case d6=>k_is);(case cZ=>k_is);(case cB=>k_is)
  (case cj=>k_is);(case cA=>k_is);(case aK=>k_is);(case cI=>k_exc);(case df=>k_is);(case de=>k_is)
  (case dm=>k_is);(case dj=>k_is);(case dg=>k_is);(case cK=>k_is);(case cq=>k_is);(case cJ=>k_is)
  (case ax=>k_is);(case cF=>k_exc);(case dE=>k_is);(case dC=>k_is);(case dS=>k_is);(case dI=>k_is)
  (case dG=>k_is);(case cQ=>k_is);(case cH=>k_is);(case cO=>k_is);(case aw=>k_is);(case cE=>k_exc)
  (case dD=>k_is);(case dB=>k_is);(case dR=>k_is);(case dH=>k_is);(case dF=>k_is);(case cP=>k_is)
  (case cG=>k_is);(case cN=>k_is);(case aY=>k_is);(case bf=>k_is);(case bt=>k_is);(case bq=>k_is)
  (case aX=>k_is);(case bb=>k_is);(case bp=>k_is);(case bo=>k_is);(case dA=>k_is);(case g6=>k_is)
  (case cM=>k_is)
