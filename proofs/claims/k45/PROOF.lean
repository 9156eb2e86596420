import PyProof.Rows.All
import Wide.All
import OpenK.AllK
import Wide.FinOn
import Lean
import PyProof.EqAt
import PyProof.EqKinds
import PyProof.TupleCall
import PySem.Challenge.RW_lots_k45_one_deed_folded_back
set_option Elab.async false
set_option linter.all false
set_option tactic.hygienic false
set_option maxRecDepth 100000
set_option compiler.extract_closed false
abbrev kh.{u}(a:Type u):=List a
abbrev mw.{u}(a:Type u):=Option a
abbrev oJ:=PySem.Value
abbrev oM:=PySem.Shared
abbrev oN:=PySem.Addr
open Option renaming some->eO,none->fX
open Bool renaming true->gP,false->kb
local macro_rules|`(tactic|omega)=>`(tactic|first|with_reducible assumption | lia | omega +splitDisjunctions)
def zGp(s:Lean.Syntax):kh Lean.Term:=
 let x:=s[s.getNumArgs-1]
 let r:=if x.isOfKind `Lean.Parser.Term.tuple then x[1][0]::x[1][2].getSepArgs.toList else [x]
 (if s.getNumArgs==3 then s[0]::r else r).map (.mk ·)
set_option hygiene false in
def zGa(a:kh Lean.Term)(t:String):Lean.MacroM Lean.Term:=do
 let l:=String.ofList t.toList.tail
 match t.front with
 |'_'=>`(_)
 |'*'=>`(?_)
 |'?'=>`(by walk_at $(Lean.Syntax.mkStrLit l))
 |'F'=>`(fun _ _=>rfl)
 |'L'=>`(fun C s₀ H₀ fp=>$((a[l.toNat!]!)))
 |'@'=>return .mk (.node .none `Lean.Parser.Term.explicit (.mk [Lean.mkAtom "@",Lean.mkIdent l.toName]))
 |'.'=>return .mk (.node .none `Lean.Parser.Term.dotIdent (.mk [Lean.mkAtom ".",Lean.mkIdent l.toName]))
 |c=>if c.isDigit then return (l.splitOn ".").tail.foldl (fun f n=>.mk (.node .none `Lean.Parser.Term.proj (.mk [f.raw,Lean.mkAtom ".",Lean.mkIdent (.mkSimple n)]))) (a[c.toNat-48]!) else return Lean.mkIdent t.toName
def zGb(a:kh Lean.Term)(t:String):Lean.MacroM Lean.Term:=do
 match t.splitOn "=" with
 |[x,y]=>return .mk (.node .none `Lean.Parser.Term.namedArgument (.mk [Lean.mkAtom "(",Lean.mkIdent (.mkSimple x),Lean.mkAtom ":=",<-zGa a y,Lean.mkAtom ")"]))
 |_=>zGa a t
def zGc(s:String)(g:String->Lean.MacroM Lean.Term)(t:String):Lean.MacroM Lean.Term:=do
 match <-(t.splitOn s).mapM g with
 |f::l=>return Lean.Syntax.mkApp f l.toArray
 |_=>Lean.Macro.throwUnsupported
def zGd(a:kh Lean.Term):String->Lean.MacroM Lean.Term:=zGc " " (zGc ";" (zGb a))
def zGs(s:Lean.Syntax)(t:String):Lean.MacroM Lean.Syntax:=do return (<-zGd (zGp s) t).raw
def zGr(t:String):Lean.MacroM Lean.Syntax:=do return (<-zGd [] t).raw
def zGn(s:Lean.Syntax):Bool:=s[0].isOfKind `num
abbrev zGT:=Lean.TSyntax `tactic
abbrev zGS:=Array (Lean.TSyntax ``Lean.Parser.Tactic.tacticSeq)
def zTt(c:String)(t:Lean.Syntax):zGT:=.mk (.node .none (.str `Lean.Parser.Tactic c) (.mk [Lean.mkAtom c,t]))
def zTs(t:zGT):Lean.TSyntax ``Lean.Parser.Tactic.tacticSeq:=.mk (.node .none ``Lean.Parser.Tactic.tacticSeq (.mk [.node .none ``Lean.Parser.Tactic.tacticSeq1Indented (.mk [Lean.mkNullNode (.mk [t.raw])])]))
def zTn(c p s:String):Lean.MacroM zGS:=(s.splitOn ",").toArray.mapM fun n=>return zTs (zTt c (<-zGd [] (n++p)))
def zTg(a:zGS):Lean.MacroM zGT:=`(tactic|first $[| $a]*)
def zTw(a:zGS):Lean.MacroM zGT:=do `(tactic|with_reducible $(<-zTg a):tactic)
def zTr(a:zGS):Lean.MacroM zGT:=do `(tactic|repeat $(<-zTg a):tactic)
def zTp(a:Array zGT):Lean.MacroM zGT:=`(tactic|($[$a]*))
def zTk(s:String):Lean.MacroM zGT:=`(tactic|walk_at $(Lean.Syntax.mkStrLit s))
set_option hygiene false in
local macro_rules(kind:=PyProof.Rows.tacticWalk_at_)|s=>do
 let g(s:String):=(s.splitOn " ").toArray.map fun n=>(Lean.mkIdent (.mkSimple n):Lean.Term)
 let i(s:String):Lean.MacroM zGT:=`(tactic|intro $(g s)*)
 let r(s f x:String):Lean.MacroM _:=do`(tactic|($(<-i s);rcases $((g f)[0]!) e with⟨$(Lean.mkIdent (.mkSimple x)):ident,S1,e1,e⟩|⟨c,S1,e1,rfl⟩))
 match s[1].isStrLit?.getD "" with
 |"!a"=>r "F j σ H ρ S r Q En0 e k" "zK" "x"
 |"!b"=>do`(tactic|($(<-i "X hP hw hK hc i pins s σ H E I hf st hg");subst hP hw hK))
 |"!d"=>r "F j σ H ρ S r R En0 e k" "zK" "x"
 |"!e"=>r "F j σ H ρ S r Q En0 e k" "zK" "xs"
 |"!f"=>i "F j σ H ρ S S' xs z vs Q E1 hv h k"
 |"!h"=>i "F j σ H ρ S S' x y z u v Q E1 hx hy h k"
 |"!k"=>r "F j D' σ H ρ S fl E0 e k" "xY" "x"
 |"q1"=>`(tactic|first|exact .inl rfl|exact .inr rfl|assumption)
 |"q2"=>`(tactic|((try simp only [Nat.add_eq]);omega))
 |"q3"=>do zTw (<-zTn "refine" "" "zfI,zm5,zpw,zhl,zpu,zpv,zfH,zm4")
 |"q4"=>`(tactic|(dsimp only [xO, zmK];decide +kernel))
 |"q5"=>do zTr ((<-zTn "exact" "" "zlx rfl,zly,ziW")++.mk [zTs (<-zTw (<-zTn "apply" "" "zmN,ziV"))])
 |"q6"=>`(tactic|first|exact nd|walk_at "q4")
 |"rf"=>`(tactic|rfl)
 |"de"=>`(tactic|decide)
 |"dk"=>`(tactic|decide +kernel)
 |"om"=>`(tactic|omega)
 |"k"=>`(tactic|k_is)
 |"sc"=>`(tactic|exact#[rfl,rfl,rfl, *...*,rfl, *...*, *...*])
 |"ba"=>`(tactic|(intro _ _ _ _ _ _;repeat first|exact Prf.at0 rfl|refine Prf.at_ fun _=>?_))
 |"fl"=>return zTt "exact" (<-zGr "Prf.ztU ?k ?k ?k ?k")
 |"ml"=>return zTt "exact" (<-zGr "Prf.ztV ?k ?k ?k ?k ?k")
 |_=>Lean.Macro.throwUnsupported
open List renaming getElem?_eq_some_iff->uF,getElem?_eq_getElem->uH,prefix_append->uI,mem_of_getElem?->uJ,getElem?_map->uK,length_map->uM,getElem?_append_left->uN,set->uO,getElem?_append_right->uQ,mem_cons_of_mem->uR,size_toArray->uS,mem_cons->uU,length_cons->uW,getD_eq_getElem?_getD->uX,mem_cons_self->uY,length_append->uZ,replicate->w5,getElem?_eq_none->x8,map_cons->y4,mem_singleton->y7,getElem_mem->y8,find?_cons->z0,take_succ_eq_append_getElem->z4,getElem?_of_mem->z6,map_append->z7,range->z8,mem_map->z9,prefix_refl->A0,take_length->A3,getElem?_set->A4,length_nil->A6,mem_append_right->A9,map->Ae,length_take->Ak,lookup_cons->An,all_eq_true->Ao,replicate_succ->Aq,flatten_cons->Au,append_nil->Aw,cons_append->AA,take_of_length_le->AH,mem_range->AV,take_succ->AW,mem_append->AX,nodup_cons->AY,findIdx?_eq_some_iff_getElem->B6,length_set->B9,any_cons->Bc,any_eq_true->Bg,getElem?_set_self->Bj,lookup->Bm,append_assoc->Bt,map_map->Bz,filterMap_cons->BD,of_mem_zip->BE,append->BJ,ext_getElem?->BM,sum_cons->BV,length_reverse->BW,getElem?_zip_eq_some->BZ,lookup_append->C1,getElem?_replicate->C5,length_eq_zero_iff->C7,getElem?_cons_succ->C8,reverse_cons->Cb,length_range->Cg,all_cons->Cm,getElem_inj->Cp,getElem?_reverse->Cr,mem_append_left->Ct,getElem?_set_ne->Cu,foldl_cons->Cz,range_succ->CB,getElem?_range->CH,foldl_append->D9,drop_eq_getElem_cons->Dg,mem_or_eq_of_mem_set->Dk,length_drop->Dn,drop_length->Du,filter_cons_of_pos->Dx,forIn_cons->DC,nil_append->DG,length->DK,dropLast_eq_take->DP,nodup_nil->DR,forIn_nil->DS,getElem?_zipWith->DT,length_dropLast->DU,mem_iff_getElem->DV,contains_eq_mem->DX,replicate_succ'->DY,length_zipWith->Ee,flatten_append->Ef,mem_filterMap->Eh,find?_eq_none->Ep,getElem_range->Ey,any_eq_false->EA,take_add_one->EE,flatMap_cons->EF,isEmpty_iff->EJ,map_reverse->EK,zipIdx_cons->EL,flatten_nil->EV,mem_filter->EW,zipIdx_nil->EZ,take_zero->F7,drop_zero->F9,drop->Fc,map_nil->Fu,any_map->Fx,map_set->Fy
open PySem.W renaming Frag->uG,nsIn->v5,findIn->x5,mg_none_of->A1,mroIn->A2,kitOne->Ad,emptyDict->AI,mg_of->AU,instObj->B8,kla_obj->Ba,keepIn->Bf,fnOf->Bo,kitMeta->Br,typeIn->Bv,cellsFrom_some->BH,tabObj->BO,plainGet->BQ,codeHdIn->BR,codeIn->C3,hasDictIn->C9,specialIn->Ca,isFn->Cw,looks_findIn->Cy,plainGet_of->CF,lookIn->CJ,InstAt->CK,callWith_K->CT,codeRec_of->CU,excIn->CY,subIn->CZ,methodObj->D6,plainOver->D7,kitx_list->D8,envX->Dq,takerIn->Dy,makesIn->Dz,takesIn->DB,findObj->DE,OpenLaw->DI,isClsIn->DJ,kitCls->DN,clsIn->E9,codeHd_of_K->Ed,kitx_tuple->Ek,kitx_dict->ED,handedIn->EG,kla_fn->F6,WalkO->Fd,KitX->Fv
open Nat renaming le_refl->uL,le_trans->uP,lt_of_le_of_lt->uT,mul_le_mul_right->x3,lt_of_lt_of_le->x9,ne_of_lt->y6,le_of_lt->z5,lt_trichotomy->Af,succ_mul->Am,sub_self->As,lt_succ_self->Az,lt_irrefl->AB,le_succ->AG,add_le_add_left->AJ,le_of_eq->B5,add_le_add->B7,mul_le_mul_left->Bd,gcd->Bi,pow_le_pow_right->Bu,mul_le_mul->Bw,le_add_right->By,lt_succ_of_lt->BK,zero_le->Ci,ne_of_gt->Cv,mul_pos->CN,pow_pos->CP,eq_zero_or_pos->CW,mod_lt->Dh,lt_or_ge->Dt,gcd_comm->Dv,add_assoc->Ec,add_comm->Ei,mul_comm->El,zero_add->Eo,sub_zero->Er,mul_zero->Es,not_lt->F0,div_add_mod->F1,div_le_self->F5,mul_assoc->Fe
open Option renaming map_eq_some_iff->uV,bind_some->y0,bind_eq_some_iff->Aa,isSome_iff_exists->Al,getD_some->Ap,map_some->AZ,bind->BI,isSome_map->Cd,isSome_some->Ej,getD_none->EH
open Int renaming toNat_natCast->x4,emod_nonneg->Ac,emod_lt_of_pos->Aj,fdiv_eq_ediv_of_nonneg->AF,zero_add->AQ,toNat_of_nonneg->Be,gcd->Bh,mul_pos->Bn,mul_ediv_cancel_left->C2,gcd_pos_of_ne_zero_right->CM,ofNat_inj->D4,ediv_pos_of_pos_of_dvd->D5,gcd_dvd_right->Dc,gcd_ediv_gcd_ediv_gcd->Di,natAbs_ediv_le_natAbs->Dj,gcd_dvd_left->Dw,natCast_mul->DH,natAbs_ediv_of_dvd->DL,natAbs_of_nonneg->DZ,le_of_lt->Eu,mul_comm->Ew,natCast_emod->ER,natCast_add->F4,natAbs_mul->F8,mul_assoc->Ff
open Bool renaming false_ne_true->y3,and_eq_true->A5,eq_iff_iff->Av,noConfusion->Cq,or_eq_true_iff->CG,false_eq_true->CV,or_eq_true->DF,beq_eq_decide_eq->DM,false_bne->DQ,and_eq_true_iff->DW,true_bne->Eb,eq_false_iff->EC
open Option.some renaming inj->y9,injEq->A8
open PySem renaming wpAny_bind->qx,wpAny_pure->qH,mainGlobals->tP,sizeLine->FC,starEach->FD,wpAny_callSpecial?_slot->FE,wpAny_newObj_type->FG,wpAny_call_entry->FH,wpAny_field->FI,cellsFrom->FJ,wpAny_setField_rec->FK,wpAny_seqItems->FN,wpAny_typeNameOfWhole_keyiter->FO,builtinLookup_eq_fast->FP,sysModules->FQ,wpAny_holding->FR,wpAny_specialOf->FT,wpAny_mono->FU,wpAny_Call_Name_kw->FV,FuncData->FW,wpAny_isInstance->FY,wpAny_attempt->FZ,NameKind->Ga,wpAny_of_eq->Gb,rawInt->Gc,wpAny_truthy_bool->Gd,wpAny_pyIter_list->Ge,wpAny_passesOwn->Gf,wpAny_ite_split->Gg,typeLookup_type->Gh,isSubtype_type->Gi,binaryOp->Gj,Builtin->Gk,wpAny_newFunctionEnv_cells->Gm,firstArgMember->Gn,GenState->Gp,compareOp->Gq,attributeBase->Gr,IsPair->Gs,sliceBounds->Gu
open PySem renaming mem_of_lookup->z3,intBits_le_iff->Ai,Expr->BG,frameOf->E8,Within->Eg,seqSlot_of->EI,call->EY
open Rat renaming intCast_mul->A7,intCast_add->CD,divInt_eq_div->Dd,num_divInt_den->Et,add_zero->Ez
open PySem.F renaming plainAttrs_list->Ab,slot_list_append->AK,type_list_append->AO,args_tuple_add_2->C0,entry_tuple_add->C6,slot_tuple_add->Cj,slot_dict_getitem->De,slot_list_extend->Dr,type_list_extend->Ds
open False renaming elim->Ah
open PyProof.Rows renaming slot_tuple_getitem->Ar,callWith_type1->Ax
open True renaming intro->Ay
open Ne renaming symm->B3
open Array renaming length_toList->B4,getElem?_toList->Bq,getElem?_eq_some_iff->BU,toList_append->CI,append_assoc->CQ,getElem?_eq_getElem->Df,forIn_toList->Em,toList->Fo
open HAppend renaming hAppend->Bb
open Append renaming append->Bs
open ForInStep renaming yield->BF
open And renaming intro->BP
open Classical renaming byContradiction->BX,propDecidable->C4
open PySem.Builtin.Str renaming strSliceIndices->Ck
open Prod.mk renaming injEq->D3,inj->Fz
open Sum renaming inl->Dl,inr->Dm
open List.Pairwise renaming nil->EB,imp_of_mem->Fw
open PySem.EqMixed renaming eq_bool_str->Fg,eq_str_bool->Fh,ne_bool_str->Fj,ne_str_bool->Fk,eq_int_str->Fp,eq_str_int->Fq,ne_int_str->Fs,ne_str_int->Ft
open PySem.W.Looks renaming here->FA
open PySem PySem.Spec PyProof.Rows
noncomputable section
local macro_rules(kind:=«term∅»)|s=>zGr "?de"
local macro_rules(kind:=Lean.Parser.Term.omission)|s=>zGr "?om"
local macro_rules|`(nofun)=>`(fun z=>by cases z)
local macro_rules(kind:=Std.«term*...*»)|s=>zGr "?dk"
structure PySem.W.Fast:Prop where(tw10040996612196140668 tw10064811884080559294 tw10074703964375611375 tw10090322076413672435 tw10141940545628097797 tw1017607789186001986 tw10188390272711544687 tw10204937113710111462 tw1022880993480070574 tw1027514414706995627 tw10279431048918942713 tw10314353725841643675 tw10320655686582514565 tw10377333530418073493 tw10408084876963198469 tw104267534797608618 tw10445835997001552555 tw10473081242316694371 tw10500819191451393047 tw10508343408994025123 tw10548281845719167376 tw10660883370589080273 tw10694867308765677085 tw10730315167664345137 tw10754406884598066064 tw10799002086177405292 tw10815325273718397473 tw10845336979778787830 tw10866436612656439649 tw10892563614565679531 tw10921378471124767161 tw10924797955412753882 tw10948872635098190551 tw10961138889532458175 tw10962387716283768647 tw11026293476435078122 tw11042102136556417020 tw11103744585116684129 tw1112734735108848768 tw11148894100036084553 tw11195109955246485189 tw11205768048450223718 tw11226735019335918758 tw11250174537554946582 tw11293086454789737942 tw11299149798100826330 tw11331857892237797006 tw11339126757788048979 tw11366470756478964396 tw11383441767137528067 tw11443042154162226263 tw11454660799726111527 tw11511035922214587593 tw11512576011688492555 tw11537217886223852673 tw11537511665501022082 tw1156199826984134691 tw11567815964436109841 tw11621070287103360282 tw11717322372990890823 tw11742787553965065066 tw11775142476987076084 tw11793713546114416023 tw11937468344339539127 tw1195001416309466999 tw11982763078907026076 tw1199060040101046855 tw12000402797837373717 tw12060502303203578169 tw12131696810793608688 tw12153028541494339838 tw12169042365237061295 tw12187200282567277673 tw12214512682912863961 tw12297975579344986733 tw12325007976949614376 tw12333080525949888385 tw12347925209134262717 tw12379735842532399361 tw12403849511591881123 tw12411290647882509329 tw12429074500759643747 tw12458350736703310389 tw12461736497033887402 tw12495806870886595655 tw12532376506937125366 tw12540643879726437757 tw12541677029265084556 tw12598873082478369506 tw12611806826327022517 tw12631750014609943140 tw12632810551266758233 tw12641339489677474370 tw12645040401754894590 tw12690066612597976080 tw12691675222449263524 tw127395371762201876 tw12749604285870148541 tw12783487134210506777 tw12796688023417295668 tw12811406575072378328 tw12901732983948944573 tw12922543869807077944 tw12945747626200013585 tw12955242006230675260 tw12987639676531923748 tw13032588144735120951 tw13090356344686351371 tw13129977630280621912 tw13131410878259532556 tw13140724715853530247 tw13168587793807252064 tw13209416384984270113 tw13242598374237562893 tw13253059958048556389 tw13264010814274950109 tw13321552258180354076 tw13359154657001887811 tw13374037235778062443 tw13425789888209817845 tw13516735962781393922 tw13521104503558377132 tw13643136883716360230 tw13659013264130285879 tw13671860100698738828 tw13677247894224586864 tw13703027419811359077 tw1370625760925925730 tw13728034099227089183 tw1373812724389739110 tw13780965311133341095 tw13781836527449616162 tw13820639961023135097 tw13821388624327301824 tw1383578548521784264 tw13836122395599361970 tw1385854763839336019 tw13861802768093517046 tw138771823170415871 tw13904229932716029517 tw13920239851793327435 tw1393744768334082720 tw13959541522773470330 tw13980641843935561799 tw14023683706562558862 tw14057594628777602288 tw14068445171732202306 tw14080433792230016447 tw14093460893478011347 tw14098992783344269496 tw14105268155283526647 tw14119684207248355308 tw14156458168262025461 tw14175783859631397399 tw14205831590842438909 tw1422012547264992512 tw14256473676838667199 tw14271339281660059808 tw1427316837558490283 tw1431316368489777066 tw14375697165922777870 tw14384355932192459360 tw14385968425643996139 tw1444952991048463757 tw14450508440138945452 tw14489776426162838578 tw1449555445492822266 tw14510611884033233979 tw14525142368007748714 tw14534927740590443687 tw14537121430861395057 tw14629478128117523378 tw14633605524136665629 tw14646319517354935604 tw14652175159465559239 tw14748626091705403641 tw14760208364550059644 tw14770349155403002665 tw14786397282620275775 tw14788677309392917519 tw1479502452349849268 tw14806351383253057419 tw14819158593393780509 tw1483076490249202793 tw14932545147138440150 tw14966261418482169283 tw14972407518438671495 tw14989478337850685099 tw15003780182203642592 tw15136743093273540475 tw15147963760014188748 tw15161576400053985589 tw1519500309807207299 tw15203131961894402496 tw15246812046251499595 tw15340863595979116019 tw15346898034624812800 tw15359743697621640957 tw15374918593244944773 tw15376820748080209115 tw15380106637240858383 tw15422682428309736402 tw15454087932868306970 tw15506015267535021216 tw15552286153376628151 tw15698639683934027056 tw15704139114064307446 tw15740508058733326147 tw15758308225799799508 tw1579199533527069988 tw15810478783176602210 tw15847294444289972957 tw15854572077536930582 tw15867448406229218837 tw15874749612719883405 tw15904341155377162356 tw15904988383311293185 tw15945253813514704297 tw15946452273285808482 tw15960534467293222983 tw16074570614688002380 tw16082969448264675077 tw16112446016353775522 tw16174336186353492220 tw16194312904053749792 tw16204132483453184616 tw16246343933950126676 tw16249503895870309731 tw16264933930406161926 tw16275081465002456584 tw16277555387763650696 tw16279770674441710274 tw16287676413341632650 tw16518778176376242308 tw16534942322317643902 tw16606767633186011953 tw1661862704815653803 tw16648369464467989648 tw16651329584163547259 tw16654318308880059127 tw16709357424452118759 tw16711237857163332733 tw16726338878574881271 tw16728325232824164044 tw16750689173280028244 tw16772689392603350937 tw16783298297598498514 tw16870653990200970666 tw16899494622951229037 tw16911801324279040444 tw16948702210261827209 tw16992744725964919368 tw16998840236376645221 tw17024000699415689825 tw17038999551723534651 tw17070508457648140031 tw17085357257078541189 tw17168782025240080046 tw17181569800481655922 tw17185413254354512571 tw17189735273572163512 tw1721139715097354547 tw17252710402319958124 tw17359281920396467130 tw17387068550655331173 tw17405034739916433092 tw17442216001445359985 tw17483083325195333103 tw17497824113993649470 tw17538880615520613639 tw17596859216350359228 tw17619874880448189501 tw17681474315781121978 tw17691373125816637041 tw17721677639783253357 tw17789615203797133341 tw17819984012925159647 tw17849437822623227670 tw17853335914650491436 tw17879365424027450711 tw17904382971721186410 tw17912320145871050235 tw17979102274189791749 tw17981517081846267145 tw18003215307040178467 tw18008098410300430107 tw18067869696420786941 tw18080673831951474129 tw1814535577363263134 tw18166512576434931305 tw18197178741967185751 tw18197571710885081749 tw18214536693556518477 tw18215477261026891775 tw18306639207136684283 tw18332572177577738428 tw18348597642117852696 tw18391801674098667031 tw184007430004100658 tw1847016551449553384 tw1852802858616407313 tw1899336846746710282 tw1916101590211159674 tw1936619038462760953 tw1965686576186986459 tw2044889363503203065 tw2110857150965993207 tw2119794576891701256 tw2142322935393644417 tw2143754063245665385 tw2144268911520868050 tw2182401833633690994 tw2200531836447129929 tw2254699871814662801 tw2309366384845669909 tw2325949825967474035 tw2340042079165562153 tw2358033929066948554 tw2360118904608599164 tw2388289912602426346 tw2422903185371610998 tw2424164657346361831 tw2539822345897004705 tw2544391457596353267 tw2569712122692150337 tw2575255257711481358 tw2575513283528730750 tw2598710949465733532 tw2620560335280328242 tw2623451391043416467 tw2643735727732212798 tw2659033867498941679 tw2694694358952062327 tw2753111167992390995 tw2829797988977130236 tw2854639397700404344 tw2868012753923909137 tw2949724892344418294 tw3005234402223611957 tw3006813277800430982 tw3062867673398797364 tw3079320840707552257 tw3118235699469676764 tw3157353138876998208 tw3195254102891707911 tw3200348229094009076 tw320758314534989427 tw3321964591924825303 tw3343110038559584482 tw3355638897912709985 tw3377546020975828982 tw338553846035202146 tw3407114724756123979 tw3425980975022001360 tw3454815673656830463 tw3468507635178699187 tw3471784647677893982 tw3508490366369009084 tw3524866152920192683 tw3534976214722473050 tw3541358774836229902 tw3550735100300324937 tw3570673489817007519 tw3613191457069489590 tw3733559181717707062 tw3750063164395604269 tw3755863905686456777 tw3760985089976936972 tw3789420538194862980 tw3828721639154408861 tw3833716366738350818 tw3866972800045271531 tw3881167182452605905 tw3926760665681425829 tw3992328890337067455 tw407297391837904842 tw4073635831091761967 tw4190010021769557154 tw4195030378714706931 tw4217926539755223927 tw4244311105016086446 tw4320968832615946646 tw4358399596909567502 tw4364387420478279124 tw4381447085246326302 tw4448917239498478196 tw4526711756727755062 tw4558439572445838049 tw4565616243686106166 tw4591888279806258141 tw459222407642510047 tw461571639102594550 tw4625845018712802005 tw4630660989923027427 tw4637793391314499540 tw4638868301273010050 tw4659986183593953733 tw4681977125319437337 tw4684197074201231170 tw4687046011404775902 tw4769201877364023294 tw4771873727392492777 tw4812079535860462352 tw4849435377467637182 tw4877282130994919261 tw4923498806217591917 tw4939946570882488158 tw4940935364469040912 tw4958273656019653311 tw5019273323118884926 tw5070337844095306109 tw5152710918966533536 tw5217508740943476591 tw5226110643176774582 tw5247755431366102146 tw5256057021470581243 tw5263561024854852648 tw5274454465791103894 tw5279796799772077515 tw5316350531784772469 tw5318374316879024128 tw5350334926218279278 tw5381233707215930715 tw5403936552365479142 tw5428331768151571938 tw543734798711908004 tw5439528075383747482 tw5442982615280770808 tw547890653390168617 tw5521362934770509441 tw5524077492722626022 tw5555185967964377759 tw5600522094490512615 tw5603431132917109237 tw5635030446434131499 tw5657170797493845207 tw570499875899547878 tw5755391353151227818 tw5760143967690997323 tw5841642001325762876 tw5877105291171136230 tw5877691871820293493 tw589180477749621727 tw590859239465976610 tw5940407206724383291 tw5947169846256506644 tw5973741527661631810 tw5980120508445004443 tw6024746413957986598 tw6031636854386492898 tw6032000157918683812 tw6033437117646048600 tw604321479670960827 tw6044770302321392558 tw6076824854350531567 tw6092864785234525070 tw6096119551726556923 tw6115156596751182112 tw6155728411006048780 tw6186102037917048463 tw6198758279090223990 tw6229457429026979282 tw6231189116058692093 tw6266210804083462086 tw6287188834525188043 tw6294462570993297923 tw6334804353525891906 tw6342732214476678927 tw6379469457989013671 tw6379585505059422710 tw6379692350035555514 tw6428331225932321451 tw645403525579742915 tw6464850706398457974 tw6551949717957280935 tw6596446632284315771 tw6601277367247309669 tw6606672906786523953 tw667766592640821523 tw6696958605487644094 tw6726065513109467626 tw6771602385195907993 tw6781496438337455467 tw6812139387848206286 tw6864813513244472155 tw6874414478846202060 tw6881767399137657349 tw6889005938520041566 tw6934106975322829274 tw6937315940378473194 tw700210174694633640 tw7024574070470018392 tw7059821707708643553 tw707278966696628108 tw7094290212011696583 tw7136635844696943413 tw7168515638396523966 tw725693803247461652 tw7257589077980662668 tw7260074407620777620 tw728777931475592872 tw7298848146190443325 tw7321020769534678340 tw7321774589733344924 tw7325206114557620576 tw7368325532934230161 tw7396113035633506928 tw739754613983978997 tw7399514214087912310 tw7458563094028358047 tw7492847787910712900 tw749819068169659291 tw7512254859621464722 tw7518630163597182023 tw76052266124730459 tw7612059920899115068 tw7646482062768292624 tw76710864634990161 tw7690733657130908121 tw7695830383004030635 tw7712207224720161047 tw7779332205752238026 tw7785561877030086295 tw7812810149220716655 tw7814959679247127399 tw7858691579326899699 tw7976742675397684578 tw7994734618516687497 tw8000228225204643219 tw800143828802512707 tw801606210697109316 tw8028520636664650706 tw804187412819258498 tw8098978789617618506 tw8122164050920482696 tw8123126357128995808 tw8126372562193626297 tw8148429846661153326 tw8158354176450906567 tw8231893799742284062 tw8258605778844590730 tw8258842397128329730 tw83388878735974914 tw8347818815241559923 tw8379942551137054862 tw8384420388765958123 tw8420903986933511316 tw8428354551524284728 tw8440348743129324166 tw845326050331776514 tw8485648825592738260 tw8517582987132376618 tw8550073088619652675 tw8591864938209161698 tw8597793753140068220 tw8605657917255253912 tw8635833504307470750 tw8638238843282438024 tw8643362859938753011 tw8708900015701257290 tw8714984118059409871 tw8738828125170760014 tw8803897110004094496 tw8819134133465809292 tw8820005144229271651 tw8825019454890280777 tw8868775525330753472 tw8869164509589839523 tw8876675075717573170 tw899113130374480609 tw9031960670618151066 tw9037910221419232536 tw9082229065504844635 tw9222922486477231609 tw9239441794412199693 tw9254769225491832730 tw9277159962085054573 tw9308202493876386159 tw9393511290249802540 tw9426726000989879066 tw9427541528289506726 tw9433878482824119977 tw9443899453998413536 tw9476867566776400994 tw9505432372762306354 tw9507325823136099248 tw9508502531537345658 tw9520605519237536111 tw9539148724880398424 tw9585996243297060149 tw9670761831264362132 tw9707460842411507879 tw972234191735879981 tw9739158428096774371 tw9743365750557462306 tw9746348984384335409 tw9775673800206667598 tw9786835042857885906 tw9798991180079766306 tw9804988220491245668 tw9873651436780906631 tw9884666890018138002 tw9897029331778783012 tw9926703910127568112 tw9930740819670503749 tw9972507492086468472:True)
section
theorem zY3{a b c P:Prop}(h:a/\b/\c)(k:a->b->c->P):P:=k h.1 h.2.1 h.2.2
theorem zY4{a b c d P:Prop}(h:a/\b/\c/\d)(k:a->b->c->d->P):P:=k h.1 h.2.1 h.2.2.1 h.2.2.2
theorem zY5{a b c d e P:Prop}(h:a/\b/\c/\d/\e)(k:a->b->c->d->e->P):P:=k h.1 h.2.1 h.2.2.1 h.2.2.2.1 h.2.2.2.2
theorem zY6{a b c d e f P:Prop}(h:a/\b/\c/\d/\e/\f)(k:a->b->c->d->e->f->P):P:=k h.1 h.2.1 h.2.2.1 h.2.2.2.1 h.2.2.2.2.1 h.2.2.2.2.2
theorem zY7{a b c d e f g P:Prop}(h:a/\b/\c/\d/\e/\f/\g)(k:a->b->c->d->e->f->g->P):P:=k h.1 h.2.1 h.2.2.1 h.2.2.2.1 h.2.2.2.2.1 h.2.2.2.2.2.1 h.2.2.2.2.2.2
theorem zY8{a b c d e f g m P:Prop}(h:a/\b/\c/\d/\e/\f/\g/\m)(k:a->b->c->d->e->f->g->m->P):P:=k h.1 h.2.1 h.2.2.1 h.2.2.2.1 h.2.2.2.2.1 h.2.2.2.2.2.1 h.2.2.2.2.2.2.1 h.2.2.2.2.2.2.2
theorem zY9{a b c d e f g m n P:Prop}(h:a/\b/\c/\d/\e/\f/\g/\m/\n)(k:a->b->c->d->e->f->g->m->n->P):P:=k h.1 h.2.1 h.2.2.1 h.2.2.2.1 h.2.2.2.2.1 h.2.2.2.2.2.1 h.2.2.2.2.2.2.1 h.2.2.2.2.2.2.2.1 h.2.2.2.2.2.2.2.2
def zCN(q:String)(i:Nat)(t:Lean.Term):Lean.Ident:=if t.raw.isIdent&&t.raw.getId != `rfl then .mk t.raw else Lean.mkIdent (.mkSimple s!"{q}{i}")
def zTi(c:String)(a:kh Lean.Ident):Lean.TSyntax `tactic:=zTt c (Lean.mkNullNode (.mk (a.map (·.raw))))
set_option hygiene false in
def zCS(h:Lean.Ident)(q:String):List Lean.Ident->Lean.MacroM (Lean.TSyntax `tactic)
 |a::l=>do
  let g<-(a::l).toArray.mapM fun x=>`(Lean.Parser.Tactic.rcasesPatLo|$x:ident)
  let o<-`(tactic|rcases $h:ident with ⟨$g,*⟩)
  let n:=l.length+1
  if n<3 then return o
  let k:=Lean.mkIdent (.mkSimple (q++"k"))
  let r<-zCS k (q++"k") l
  let x<-`(tactic|try clear $h)
  let y:kh Lean.Term:=[h,<-`(fun $a $k=>?_)]
  zTg (.mk [zTs (<-zTp (.mk [zTt "refine" (<-zGd y s!"zY{n} 0 *"),x,zTi "intro" (a::l)])),zTs (<-zTp (.mk [<-zTg (.mk [zTs (zTt "refine" (<-zGd y "Exists.elim 0 1")),zTs (zTt "refine" (<-zGd y "And.elim 1 0"))]),x,r])),zTs o])
 |[]=>Lean.Macro.throwUnsupported
def zCI(t:Lean.Term):Bool:=if t.raw.isIdent then t.raw.getId != `rfl else t.raw.isOfKind `Lean.Parser.Term.hole
def zCL(t:Lean.Term):Option (kh Lean.Term):=if t.raw.isOfKind `«term#[_,]» then some (t.raw[1].getSepArgs.toList.map (.mk ·)) else none
set_option hygiene false in
def zCP:Nat->String->Lean.Ident->List Lean.Term->Lean.MacroM (List (Lean.TSyntax `tactic))
 |0,_,_,_=>Lean.Macro.throwUnsupported
 |_,_,_,[]=>return []
 |n+1,q,h,[t]=>do
  if let some a:=zCL t then return (<-zCP n q h a)
  if t.raw.isIdent then
   let i:Lean.Ident:=.mk t.raw
   if i.getId==`rfl then return [<-`(tactic|rcases $h:ident with rfl)]
   if i.getId==h.getId then return []
   return [zTi "revert" [h],zTi "intro" [i]]
  return []
 |n+1,q,h,p=>do
  let x:=(p.takeWhile zCI).length
  let l:=p.mapIdx fun i x=>zCN s!"{q}{i}_" i x
  if x+1<p.length then
   let k:=Lean.mkIdent (.mkSimple (q++"u"))
   return (<-zCS h q (l.take (x+1)++[k]))::(<-zCP n (q++"v") ((l.drop x).headD k) ((p.drop x).take 1))++(<-zCP n (q++"w") k (p.drop (x+1)))
  let e<-(p.zip l).mapM fun (x,i)=>if zCI x then pure [] else zCP n (toString i.getId) i [x]
  return (<-zCS h q l)::e.flatten
def zCQ(i:Nat)(t:Lean.Term):Lean.MacroM (List (Lean.TSyntax `tactic)):=do
 let h:=zCN s!"zr{i}" 0 t
 if t.raw.isOfKind `Lean.Parser.Term.hole then return [zTi "intro" [.mk t.raw]]
 return zTi "intro" [h]::(<-zCP 20 s!"zr{i}" h [t])
def zCM(a:kh Lean.Term):Lean.MacroM (List (Lean.TSyntax `tactic)):=do return (<-(a.mapIdx zCQ).mapM id).flatten
set_option hygiene false in
local macro_rules|`(tactic|have #[$a,*]:=$e)=>do
 let p:=a.getElems.toList
 if e.raw.isIdent then zTp (<-zCP 20 "zq" (.mk e.raw) p).toArray else zTp ((<-`(tactic|have zqh:=$e))::(<-zCP 20 "zq" (Lean.mkIdent `zqh) p)).toArray
local macro_rules(kind:=Lean.Parser.Tactic.intro)|s=>do
 let a:=s[1].getArgs.toList.map fun x=>.mk x
 if a.any fun x=>(zCL x).isSome then zTp (<-zCM a).toArray else Lean.Macro.throwUnsupported
set_option hygiene false in
local macro_rules|`(tactic|let #[$a,*]:=$e)=>do
 let a:=a.getElems.toList
 let o<-zTp (zTt "refine" (<-zGd [e] "0.imp *")::(<-zCM a)).toArray
 let mut r:=o
 if let [_,g,t]:=a then
  if let some p:=zCL t then
   let x:=(p.takeWhile zCI).length
   if x+1<p.length&&x<3 then
    let k:=Lean.mkIdent `zrh
    r:=<-zTg (.mk [zTs (<-zTp (zTt "refine" (<-zGd [e] s!"0.zW{x} *")::zTi "intro" ((p.take x).mapIdx (fun i x=>zCN s!"zs{i}_" i x)++[zCN "zt" 0 g,k])::(<-zCP 20 "zs" k (p.drop (x+1)))).toArray),zTs o])
 zTp (.mk [<-zTk "w",r])
local macro_rules|`(#[$a,*])=>`(⟨$a,*⟩)
local macro_rules(kind:=Lean.Parser.Tactic.show)|s=>return (zTt "refine" s[1]).raw
local macro_rules(kind:=Lean.calcTactic)|s=>do zTp (.mk [<-zTk "w",zTt "refine" s[1][0][0]])
local macro_rules|`(tactic|delta $x:ident)=>do zTp (.mk [<-zTk "wr",<-`(tactic|unfold $x:ident)])
local macro_rules(kind:=Vector.«term#v[_,]»)|s=>match s[1].getSepArgs.toList with
 |[x]=>if x.isOfKind `num then zGr "?q2" else return (<-zGd [.mk x] "0.heap.objs.size").raw
 |_=>zGr "?sc"
theorem Gv.{u}{c:Prop}{i:Decidable c}(h:c){α:Sort u}{t e:α}:ite c t e=t:=if_pos h
theorem Gw.{u}{c:Prop}{i:Decidable c}(h:¬c){α:Sort u}{t e:α}:ite c t e=e:=if_neg h
namespace L2
abbrev Key:=Sum Int Str
noncomputable def zez:Key->oJ->Bool
 | .inl k,v=>Value.isInt k v
 | .inr x,v=>Value.isStrOf x v
noncomputable def ziB(w:World):Key->Int
 | .inl k=>hashInt k
 | .inr x=>hashStr w x
theorem xX:∀{k:Key} {v:oJ},zez k v=gP->(∃i t,k=Dl i/\v=Value.int i t)\/(∃x t,k=Dm x/\v=Value.str x t)
 | .inl i,v,h=>by
  have#[t,e]:=Value.isInt_shape (k:=i) (v:=v) h;show .inl #[i,t,rfl,e]
 | .inr x,v,h=>by
  have#[t,e]:=Value.isStrOf_shape (x:=x) (v:=v) h;show .inr #[x,t,rfl,e]
def zlj(i:Int)(t:Tok):zez (.inl i) (.int i t)=gP:=by simp[zez,Value.isInt]
def zlk(x:Str)(t:Tok):zez (.inr x) (.str x t)=gP:=by simp[zez,Value.isStrOf]
def zrg(a b:Int):decide ((Dl a:Key)=Dl b)=(a==b):=by
 by_cases e:a=b;subst e;simp;have h:¬(Dl a:Key)=Dl b:=λq=>e (Sum.inl.inj q);rw[decide_eq_false h];show(beq_eq_false_iff_ne.mpr e).symm
def zrh(a b:Str):decide ((Dm a:Key)=Dm b)=decide (a=b):=by
 by_cases e:a=b;subst e;simp;have h:¬(Dm a:Key)=Dm b:=λq=>e (Sum.inr.inj q);rw[decide_eq_false h,decide_eq_false e]
def zri(a:Int)(b:Str):decide ((Dl a:Key)=Dm b)=kb:=decide_eq_false (λq=>nomatch q)
def zrj(a:Str)(b:Int):decide ((Dm a:Key)=Dl b)=kb:=decide_eq_false (λq=>nomatch q)
noncomputable def vf(prog:Program)(w:World):PySem.KeyKind prog w Key where
 is:=zez
 hash:=ziB w
 inj:=λv a b ha hb=>by
  rcases xX ha with⟨i,t,rfl,rfl⟩|⟨x,t,rfl,rfl⟩
  .rcases xX hb with⟨j,u,rfl,e⟩|⟨y,u,rfl,e⟩
   .injection e with e1 _;rw[e1]
   show nomatch e
  rcases xX hb with⟨j,u,rfl,e⟩|⟨y,u,rfl,e⟩
  .show nomatch e
  injection e with e1 _;rw[e1]
 byValue:=λk v h=>by
  rcases xX h with⟨i,t,rfl,rfl⟩|⟨x,t,rfl,rfl⟩<;>rfl
 pyHash:=λhv h=>by
  rcases xX hv with⟨i,t,rfl,rfl⟩|⟨x,t,rfl,rfl⟩
  .show wpAny_pyHash_int h
  show wpAny_pyHash_str h
 eqBool:=λhu hv h=>by
  rcases xX hu with⟨i,t,rfl,rfl⟩|⟨x,t,rfl,rfl⟩
  .rcases xX hv with⟨j,u,rfl,rfl⟩|⟨y,u,rfl,rfl⟩
   .rw[zrg] at h;show wpAny_eqBool_int h
   rw[zri] at h;show SeqAt.EqAt.int_str i t y u _ _ _ _ h
  rcases xX hv with⟨j,u,rfl,rfl⟩|⟨y,u,rfl,rfl⟩
  .rw[zrj] at h;show SeqAt.EqAt.str_int x t j u _ _ _ _ h
  rw[zrh] at h;show wpAny_eqBool_str h
 «strs» :=λk x t v h=>by
  rcases xX h with⟨i,u,rfl,e⟩|⟨y,u,rfl,e⟩
  .show nomatch e
  injection e with e1 _
  subst e1;cases v<;>rfl
def zgT(prog:Program)(w:World)(i:Int)(t:Tok):(vf prog w).is (.inl i) (.int i t)=gP:=zlj i t
def zgU(prog:Program)(w:World)(x:Str)(t:Tok):(vf prog w).is (.inr x) (.str x t)=gP:=zlk x t
inductive V where
 |non|bl (b:Bool)|int (i:Int)|str (x:Str)|byt (b:Array UInt8)|flt (b:UInt64)|ref (a:Addr)|ty (n:String)
 deriving DecidableEq
def yp:V->oJ->Prop
 | .non,u=>u=Value.none
 | .bl b,u=>u=Value.bool b
 | .int i,u=>∃t,u=Value.int i t
 | .str x,u=>∃t,u=Value.str x t
 | .byt b,u=>∃t,u=Value.bytes b t
 | .flt b,u=>∃t,u=Value.float b t
 | .ref a,u=>u=Value.ref a
 | .ty n,u=>u=Value.type n
noncomputable abbrev yk:kh V->kh oJ->Prop:=Paired yp
def yk.length(r:yk xs us):xs.length=us.length:=Paired.length r
theorem yk.get:∀{xs:kh V} {us:kh oJ} {i:Nat} {x:V},yk xs us->xs[i]? =eO x->∃u,us[i]? =eO u/\yp x u
 |_,_,_,_,.nil,e=>by simp at e
 |_,_,0,_,.cons r _,e=>by simp at e;subst e;show#[_,rfl,r]
 |_,_,i+1,x,.cons _ t,e=>by
  have#[u,h1,h2]:=yk.get (i:=i) (x:=x) t (by simpa using e);show#[u,by simpa using h1,h2]
theorem yk.set(r:yp x u):∀{xs:kh V} {us:kh oJ} (i:Nat),yk xs us->yk (xs.set i x) (us.set i u)
 |_,_,_,.nil=> .nil
 |_,_,0,.cons _ t=> .cons r t
 |_,_,i+1,.cons q t=> .cons q (yk.set r i t)
def yk.append(h:yk xs us)(k:yk ys ws):yk (xs++ys) (us++ws):=by
 induction h with
 |nil=>show k
 |cons r _ ih=>show .cons r ih
theorem yk.take:∀{xs:kh V} {us:kh oJ} (n:Nat),yk xs us->yk (xs.take n) (us.take n)
 |_,_,0,_=> .nil
 |_,_,_+1,.nil=> .nil
 |_,_,n+1,.cons r t=> .cons r (yk.take n t)
theorem yk.drop:∀{xs:kh V} {us:kh oJ} (n:Nat),yk xs us->yk (xs.drop n) (us.drop n)
 |_,_,0,r=>r
 |_,_,_+1,.nil=> .nil
 |_,_,n+1,.cons _ t=>yk.drop n t
def WT:mw V->mw oJ->Prop
 |some v,eO u=>yp v u
 |none,fX=>True
 |_,_=>False
def KV{κ:Type}:kh (κ×V)->kh (κ×oJ)->Prop:=Paired λ(p:κ×V) (q:κ×oJ)=>p.1=q.1/\yp p.2 q.2
noncomputable def kV:Key->V
 | .inl i=> .int i
 | .inr x=> .str x
inductive NK where
 |int (i:Int)|str (x:Str)|tup (l:List NK)
noncomputable instance:DecidableEq NK:=λa b=>C4 (a=b)
mutual
noncomputable def VL(w:World):NK->Int
 | .int i=>ziB w (.inl i)
 | .str x=>ziB w (.inr x)
 | .tup l=>reduceHash (Builtin.Tuple.tupleHashOf (XV w l))
noncomputable def XV(w:World):kh NK->kh Int
 |[]=>[]
 |k::r=>VL w k::XV w r
end
mutual
noncomputable def Zu:NK->Nat
 | .int _=>0
 | .str _=>0
 | .tup l=>VM l+1
noncomputable def VM:kh NK->Nat
 |[]=>0
 |k::r=>max (Zu k) (VM r)
end
noncomputable def zrk(w:World)(x:NK×oN×oJ):DictEntry:={hash:=VL w x.1,key:= .ref x.2.1,val:=x.2.2}
inductive HO where
 |lst (xs:List V)
 |tup (xs:List V)
 |dK (af:List (Key×V))|dT (af:List (List Key×V))
 |dN (ks:List (NK×Addr×V))
 |set (S:Int->Bool) (n:Nat)
 |ins (C dx:Addr) (fs:List (Str×V))
 |own (x:Addr)
 |xd (fs:List (Str×V))
 |met (f x:Addr)
 |rng (lo hi:Int)
 |frz (o:Obj) (u:HO)
 |tbl (ps:Array Value)
 |ext (φ:Heap->Prop)
abbrev Hp:=oN->mw HO
noncomputable def upd(H:Hp)(a:oN)(o:HO):Hp:=λb=>if b=a then eO o else H b
def zW{H:Hp}:upd H a o a=eO o:=by unfold upd;rw[Gv rfl]
def zT{H:Hp}(h:b≠a):upd H a o b=H b:=by unfold upd;rw[Gw h]
def zsW{H:Hp}(h:H a=eO o)(h':H b=eO u)(d:o≠u):a≠b:=by
 intro e;subst e;rw[h] at h';show d (y9 h')
def Zv{H:Hp}(h:H a=eO o)(h':H b=fX):a≠b:=by
 intro e;subst e;rw[h] at h';cases h'
def YI(h:Heap)(a:oN)(items:Array oJ):Prop:=∃o,h.get? a=eO o/\o.cls= .type "tuple"/\∃n,o.data= .seq items n/\o.dict=fX
def YI.tup{h:Heap}{a:oN}{items:Array oJ}(x:YI h a items):IsTup h a items:=by
 have#[o,e,c,n,d,_]:=x;show#[o,e,c,n,d]
def YI.new(h:Heap)(items:Array oJ):YI (h.push {cls:= .type "tuple",data:= .seq items}) h.objs.size items:=#[_,Heap.get?_push_size _ rfl,rfl,_,rfl,rfl]
section
variable(P:Program)(w:World)
def yW(H:Hp)(h:Heap)(a:oN):HO->Prop
 | .lst xs=>xs.length<=FC/\∃(ah:kh oJ) (n:Nat),yk xs ah/\h.get? a=eO {cls:= .type "list",data:= .seq ah.toArray n}
 | .tup xs=>xs.length<=FC/\∃ah:kh oJ,yk xs ah/\YI h a ah.toArray
 | .dK af=>af.length<=FC/\(a==FQ)=kb/\∃vs,KV af vs/\h.DictOf (vf P w) a vs
 | .dT af=>af.length<=FC/\(a==FQ)=kb/\∃xs:kh (kh Key×oN×oJ),
   Paired (λ(p:kh Key×V) (q:kh Key×oN×oJ)=>p.1=q.1/\H q.2.1=eO (.tup (p.1.map kV))/\yp p.2 q.2.2) af xs/\
   ∃o es ep,h.get? a=eO o/\o.ExactDict/\o.data= .dict es ep/\es.toList=xs.map (entryOfKey (tupleKind (vf P w)))/\(xs.map (·.1)).Nodup
 | .dN ks=>ks.length<=FC/\(a==FQ)=kb/\∃xs:kh (NK×oN×oJ),Paired (λ(p:NK×oN×V) (q:NK×oN×oJ)=>p.1=q.1/\p.2.1=q.2.1/\yp p.2.2 q.2.2) ks xs/\
   ∃o es ep,h.get? a=eO o/\o.ExactDict/\o.data= .dict es ep/\es.toList=xs.map (zrk w)/\(xs.map (·.1)).Nodup
 | .set S n=>h.SetOf (intKind P w) a S n
 | .ins C dx fs=>H dx=eO (.own a)/\fs.length<=1000/\dx≠a/\h.get? a=eO (B8 C dx)/\
   ∃mA,h.Ns1 dx mA/\(∀f,WT (fs.lookup f) (mA f))/\Eg mA (fs.map (·.1))
 | .own _=>∃o,h.get? a=eO o
 | .xd fs=>∃mA,h.Ns1 a mA/\∀f,WT (fs.lookup f) (mA f)
 | .rng lo hi=>∃t u v,h.get? a=eO {cls:= .type "range",data:= .fields [.int lo t,.int hi u,.int 1 v].toArray}
 | .frz o u=>h.get? a=eO o/\yW H h a u
 | .tbl ps=>h.get? a=eO {cls:= .none,data:= .fields ps}
 | .met f x=>h.get? a=eO (D6 (.ref f) (.ref x))
 | .ext φ=>φ h/\(∃o,h.get? a=eO o)/\∀h1 h2:Heap,φ h1->(∀o,h1.get? a=eO o->h2.get? a=eO o)->φ h2
def HOk(H:Hp)(h:Heap):Prop:=∀a o,H a=eO o->yW P w H h a o
end
section
variable{P:Program}{w:World}{H H':Hp}{h h':Heap}{a:oN}{o:HO}
def yW.lt(x:yW P w H h a o):a<h.objs.size:=by
 cases o with
 |lst xs=>have#[_,_,_,_,e]:=x;show Heap.lt_size e
 |tup xs=>have#[_,_,_,p]:=x;show p.tup.lt
 |dK af=>have#[_,_,_,_,o,_,_,e,_]:=x;show Heap.lt_size e
 |dT af=>have#[_,_,_,_,o,_,_,e,_]:=x;show Heap.lt_size e
 |dN ks=>have#[_,_,_,_,o,_,_,e,_]:=x;show Heap.lt_size e
 |set S n=>have#[o,_,_,_,e,_]:=x;show Heap.lt_size e
 |ins C dx fs=>have#[_,_,_,e,_]:=x;show Heap.lt_size e
 |own y=>have#[_,e]:=x;show Heap.lt_size e
 |xd fs=>have#[_,#[_,_,_,e,_],_]:=x;show Heap.lt_size e
 |rng lo hi=>have#[_,_,_,e]:=x;show Heap.lt_size e
 |frz ob u=>have#[e,_]:=x;show Heap.lt_size e
 |tbl ps=>show Heap.lt_size (show h.get? a=eO _ from x)
 |met f y=>show Heap.lt_size (show h.get? a=eO _ from x)
 |ext φ=>have#[_,#[_,e],_]:=x;show Heap.lt_size e
def Paired.mapP{α β:Type}{F G:α->β->Prop}{l₁:kh α}{l₂:kh β}(h:Paired F l₁ l₂)(f:∀a b,F a b->G a b):Paired G l₁ l₂:=by
 induction h with
 |nil=>show .nil
 |cons r _ ih=>show .cons (f _ _ r) ih
def yW.stay(x:yW P w H h a o)(k:∀b u,(b=a\/H b=eO (.own a))->h.get? b=eO u->h'.get? b=eO u)
  (ho:∀b,H b=eO (.own a)->H' b=eO (.own a)) (ht:∀b xs,H b=eO (.tup xs)->H' b=eO (.tup xs)):yW P w H' h' a o:=by
 induction o with
 |lst xs=>have#[z,ah,n,r,e]:=x;show#[z,ah,n,r,k _ _ (.inl rfl) e]
 |tup xs=>have#[z,ah,r,ob,e,c]:=x;show#[z,ah,r,ob,k _ _ (.inl rfl) e,c]
 |dK af=>have#[z,y,vs,r,ob,es,ep,e,c]:=x;show#[z,y,vs,r,ob,es,ep,k _ _ (.inl rfl) e,c]
 |dT af=>
  have#[z,y,xs,r,ob,es,ep,e,c]:=x;show#[z,y,xs,Paired.mapP r λp q z=>#[z.1,ht _ _ z.2.1,z.2.2],ob,es,ep,k _ _ (.inl rfl) e,c]
 |dN ks=>have#[z,y,xs,r,ob,es,ep,e,c]:=x;show#[z,y,xs,r,ob,es,ep,k _ _ (.inl rfl) e,c]
 |set S n=>have#[ob,es,ep,t,e,c]:=x;show#[ob,es,ep,t,k _ _ (.inl rfl) e,c]
 |ins C dx fs=>
  have#[d,z,ne,e,mA,#[od,es,ep,e2,c],r]:=x;show#[ho _ d,z,ne,k _ _ (.inl rfl) e,mA,#[od,es,ep,k _ _ (.inr d) e2,c],r]
 |own y=>have#[ob,e]:=x;show#[ob,k _ _ (.inl rfl) e]
 |xd fs=>have#[mA,#[od,es,ep,e,c],r]:=x;show#[mA,#[od,es,ep,k _ _ (.inl rfl) e,c],r]
 |rng lo hi=>have#[t,u,v,e]:=x;show#[t,u,v,k _ _ (.inl rfl) e]
 |frz ob u ih=>have#[e,q]:=x;show#[k _ _ (.inl rfl) e,ih q]
 |tbl ps=>
  have e:h.get? a=eO {cls:= .none,data:= .fields ps}:=x;change h'.get? a=eO {cls:= .none,data:= .fields ps};show k a _ (.inl rfl) e
 |met f y=>
  have e:h.get? a=eO (D6 (.ref f) (.ref y)):=x;change h'.get? a=eO (D6 (.ref f) (.ref y));show k a _ (.inl rfl) e
 |ext φ=>have#[p,#[o,e],st]:=x;show#[st _ _ p λo q=>k _ _ (.inl rfl) q,#[o,k _ _ (.inl rfl) e],st]
def HOk.lt(x:HOk P w H h)(e:H a=eO o):a<h.objs.size:=(x a o e).lt
def HOk.fresh(x:HOk P w H h)(e:h.objs.size<=a):H a=fX:=by
 cases q:H a with
 |none=>rfl
 |some u=>show absurd (x9 (x.lt q) e) (AB _)
def HOk.kept(x:HOk P w H h)(k:∀b u,h.get? b=eO u->h'.get? b=eO u):HOk P w H h':=λa o e=>
 (x a o e).stay (λb u _ q=>k b u q) (λ_ q=>q) λ_ _ q=>q
def HOk.laid(x:HOk P w H h)(k:∀b u,h.get? b=eO u->h'.get? b=eO u)(hp:h.objs.size<=a)(new:yW P w (upd H a o) h' a o):HOk P w (upd H a o) h':=λb u e=>by
 have hn:=x.fresh hp;by_cases hb:b=a;subst hb;rw[zW] at e;cases e;show new
 rw[zT hb] at e;show(x b u e).stay (λc v _ q=>k c v q) (λc q=>by rw[zT (Zv q hn)];show q) λc xs q=>by rw[zT (Zv q hn)];show q
end
def Rd(H:Hp)(a:oN)(u:HO):Prop:=H a=eO u\/∃o,H a=eO (.frz o u)
def Rd.ok{P:Program}{H:Hp}(r:Rd H a u)(x:HOk P w H h):yW P w H h a u:=by
 rcases r with r|⟨o,r⟩
 .show x a u r
 have#[_,q]:=x a _ r;show q
def Mut:mw HO->Prop
 |some (.lst _)=>True
 |some (.dK _)=>True
 |some (.dT _)=>True
 |some (.dN _)=>True
 |some (.set _ _)=>True
 |some (.ins _ _ _)=>True
 |some (.ext _)=>True
 |_=>False
section
variable{P:Program}{H:Hp}
def HOk.write(ok:HOk P w H h)(mu:Mut (H x))(he:e=x\/H e=eO (.own x))(k:∀b u,b≠e->h.get? b=eO u->h'.get? b=eO u)(jY:∃u,h'.get? e=eO u)
  (new:yW P w (upd H x o') h' x o'):HOk P w (upd H x o') h':=λb u q=>by
 have ku:∀c y,H c=eO (.own y)->c≠x:=λc y r z=>by subst z;rw[r] at mu;show mu
 have mJ:∀c xs,H c=eO (.tup xs)->c≠x:=λc xs r z=>by subst z;rw[r] at mu;show mu
 by_cases hb:b=x;subst hb;rw[zW] at q;cases q;show new;rw[zT hb] at q;by_cases jK:b=e
 .have q':H b=eO (.own x):=by
   rcases he with z|z;show absurd (jK.trans z) hb;rw[jK];show z
  rw[q] at q';cases q';have#[v,hv]:=jY;show#[v,by rw[jK];show hv]
 show (ok b u q).stay (λc v hc r=>k c v ?_ r) (λc r=>by rw[zT (ku c b r)];show r) λc xs r=>by rw[zT (mJ c xs r)];show r
 rcases hc with rfl|hc;show jK;rintro rfl;rcases he with z|z;show ku c b hc z;rw[hc] at z;cases z;show hb rfl
end
structure Un(fs ex:kh oN)(H H':Hp)(h h':Heap):Prop where
 keep:∀b o,h.get? b=eO o->H b=fX->b∉fs->b∉ex->h'.get? b=eO o
 slot:∀b o,h.get? b=eO o->H b=fX->b∈fs->b∉ex->∃sl,h'.get? b=eO {o with slots:=sl}
 free:∀b o,h.get? b=eO o->H b=fX->b∉ex->H' b=fX
 there:∀b o,h.get? b=eO o->b∉ex->∃o',h'.get? b=eO o'
 tups:∀b xs,H b=eO (.tup xs)->H' b=eO (.tup xs)
 frzs:∀b o u,H b=eO (.frz o u)->H' b=eO (.frz o u)
 tbls:∀b ps,H b=eO (.tbl ps)->∃more,H' b=eO (.tbl (ps++more))
section
variable{H H1 H2:Hp}
def Un.any(u:Un fs ex H H1 h h1)(q:h.get? b=eO ob)(n:H b=fX)(hx:b∉ex):∃sl,h1.get? b=eO {ob with slots:=sl}:=by
 by_cases hb:b∈fs;show u.slot b ob q n hb hx;show#[ob.slots,u.keep b ob q n hb hx]
def Un.trans(a:Un fs ex H H1 h h1)(b:Un fs ex H1 H2 h1 h2):Un fs ex H H2 h h2 where
 keep:=λc ob q n hc hx=>b.keep c ob (a.keep c ob q n hc hx) (a.free c ob q n hx) hc hx
 slot:=λc ob q n hc hx=>by
  have#[sl,e1]:=a.slot c ob q n hc hx;have#[sl',e2]:=b.slot c _ e1 (a.free c ob q n hx) hc hx;show#[sl',e2]
 free:=λc ob q n hx=>by
  have#[o',e1]:=a.there c ob q hx;show b.free c o' e1 (a.free c ob q n hx) hx
 there:=λc ob q hx=>by
  have#[o',e1]:=a.there c ob q hx;show b.there c o' e1 hx
 tups:=λc xs q=>b.tups c xs (a.tups c xs q)
 frzs:=λc ob xs q=>b.frzs c ob xs (a.frzs c ob xs q)
 tbls:=λc ps q=>by
  have#[m1,e1]:=a.tbls c ps q;have#[m2,e2]:=b.tbls c _ e1;show#[m1++m2,by rw[e2,CQ]]
def Un.kept(k:∀b u,h.get? b=eO u->h'.get? b=eO u):Un fs ex H H h h':=
 #[λb ob q _ _ _=>k b ob q,λb ob q _ _ _=>#[ob.slots,k b ob q],λ_ _ _ n _=>n,λb ob q _=>#[ob,k b ob q],λ_ _ q=>q,λ_ _ _ q=>q,λ_ ps q=>#[[].toArray,by rw[q];simp]]
def Un.refl:Un fs ex H H h h:=Un.kept λ_ _ q=>q
def Un.laid(k:∀b u,h.get? b=eO u->h'.get? b=eO u)(hp:h.objs.size<=a)(hn:H a=fX):Un fs ex H (upd H a o) h h' where
 keep:=λb u q _ _ _=>k b u q
 slot:=λb u q _ _ _=>#[u.slots,k b u q]
 free:=λb u q n _=>by rw[zT (y6 (x9 (Heap.lt_size q) hp))];show n
 there:=λb u q _=>#[u,k b u q]
 tups:=λb xs q=>by rw[zT (Zv q hn)];show q
 frzs:=λb u xs q=>by rw[zT (Zv q hn)];show q
 tbls:=λb ps q=>#[[].toArray,by rw[zT (Zv q hn),q];simp]
def Un.write(mu:Mut (H x))(he:e=x\/H e=eO (.own x))(k:∀b u,b≠e->h.get? b=eO u->h'.get? b=eO u)(jY:∃u,h'.get? e=eO u):Un fs ex H (upd H x o) h h':=by
 have hx:∀b,H b=fX->b≠x:=λb n z=>by subst z;rw[n] at mu;show mu
 have hb:∀b,H b=fX->b≠e:=λb n z=>by
  subst z;rcases he with r|r;show hx b n r;rw[n] at r;cases r
 have hm:∀b u,H b=eO u->¬Mut (eO u)->b≠x:=λb u q nm z=>by subst z;rw[q] at mu;show nm mu
 show#[λb u q n _ _=>k b u (hb b n) q,λb u q n _ _=>#[u.slots,k b u (hb b n) q],λb u q n _=>by rw[zT (hx b n)];show n,λb u q _=> ?_,
  λb xs q=>by rw[zT (hm b _ q λz=>z)];show q,λb u xs q=>by rw[zT (hm b _ q λz=>z)];show q,λb ps q=>#[[].toArray,by rw[zT (hm b _ q λz=>z),q];simp]]
 by_cases jK:b=e;subst jK;show jY;show#[u,k b u jK q]
end
noncomputable def trk(h:Heap)(H:Hp):kh oN:=(z8 h.objs.size).filter λa=>(H a).isSome
noncomputable def zfo(h:Heap)(H:Hp):Heap:=PySem.W.hideAll h (trk h H)
def zll(h:Heap)(H:Hp):(zfo h H).objs.size=h.objs.size:=PySem.W.hideAll_size _ _
def zmk{H:Hp}(e:h.get? b=eO o)(n:H b=fX):(zfo h H).get? b=eO o:=
 PySem.W.hideAll_get _ e λhm=>by
  have q:(H b).isSome=gP:=(EW.mp hm).2;rw[n] at q;simp at q
def zo0{H:Hp}(e:(zfo h H).get? b=eO o):h.get? b=eO o/\H b=fX:=by
 have e':h.get? b=eO o:=PySem.W.of_hideAll (trk h H) e;show#[e',?_];cases q:H b with
 |none=>rfl
 |some x=>
  have hm:b∈trk h H:=EW.mpr #[AV.mpr (Heap.lt_size e'),by simp[q]];have z:(zfo h H).get? b=fX:=PySem.W.hideAll_none (trk h H) hm;rw[z] at e;cases e
structure Mod(P:Program)(K:uG)(mg:Str->mw oJ)(base:Heap):Prop where
 kin:K.In base
 glob:base.Ns tP mg
 blt:∃mb,base.Ns builtinsNs mb/\∀x:Str,x≠"__name__"->mb x=bootBuiltins x
 nolimit:base.NoLimit
 bmn:∃bm ob,mg "__builtins__"=eO (.ref bm)/\bm≠builtinsNs/\base.get? bm=eO ob/\ob.cls= .type "module"/\ob.dict=eO builtinsNs/\ob.data= .plain
 seer:base.NoSeer
 tree:P.given.tree=fX
structure Cx where
 prog:Program
 w:World
 K:uG
 mg:Str->mw oJ
 base:Heap
 A:Around
 N:kh Str
 s₀:oM
 H₀:Hp
 env:Env
 outer:kh Env
 stack:kh Env
 ex:kh oN
 fn:Str->Bool
 zn:Str->Bool
 calm:Bool
 pn:kh (oN×Obj)
 xe:oJ->oM->Prop
noncomputable def frs(l:kh Env):kh oN:=l.filterMap (·.frame)
noncomputable abbrev Cx.fs(X:Cx):kh oN:=frs X.outer
def Vis(sc:Scope)(x:Str):Prop:=sc.names.lookup x=eO .local\/sc.names.lookup x=eO .cell\/sc.names.lookup x=eO .free
def Loc(sc:Scope)(x:Str):Prop:=sc.names.lookup x=eO .local\/sc.names.lookup x=eO .cell
def zuu(env:Env)(h:Heap)(m:Str->mw oJ)(x:Str)(u:oJ):Prop:=
 (env.kindOf x=eO .local/\m x=eO u)\/((env.kindOf x=eO .cell\/env.kindOf x=eO .free)/\∃c,env.cells.lookup x=eO c/\h.IsCell c (eO u))
structure Cx.Ok(X:Cx):Prop where
 mod:Mod X.prog X.K X.mg X.base
 kind:X.env.scope.kind= .function
 glob:X.env.globals=tP
 blt:X.env.builtins=builtinsNs
 above:X.s₀.heap.objs.size<=X.env.locals
 inj:∀x y c,X.env.cells.lookup x=eO c->X.env.cells.lookup y=eO c->x=y
 has:∀x,(X.env.kindOf x=eO .cell\/X.env.kindOf x=eO .free)->∃c,X.env.cells.lookup x=eO c
 cab:∀x c,(X.fn x=gP\/X.zn x=gP)->X.env.cells.lookup x=eO c->X.s₀.heap.objs.size<=c
 hd:X.calm=gP->X.A.handled=fX
 frames:X.A.frames=eO X.stack
 stk:X.stack=X.outer\/(X.stack=X.env::X.outer/\X.env.frame=eO X.env.locals)
 exf:∀b∈X.ex,b≠X.env.locals/\∀x c,X.env.cells.lookup x=eO c->c≠b
 bs:∀b o,X.base.get? b=eO o->X.s₀.heap.get? b=eO o/\X.H₀ b=fX
 bsz:X.base.objs.size<=X.s₀.heap.objs.size
 noex:∀b o,X.base.get? b=eO o->b∉X.ex
 exfs:∀b∈X.ex,b∉X.fs
 funs:X.s₀.heap.FunFrames X.base X.outer
 frf:∀b∈X.fs,X.H₀ b=fX
structure Inv(X:Cx)(pins:kh (oN×Obj))(σ:kh (mw V))(H:Hp)(s:oM):Prop where
 ok:X.Ok
 os:s.os=X.s₀.os
 bare:AllBare s.gens
 base:Un X.fs X.ex X.H₀ H X.s₀.heap s.heap
 loc:∃m,s.heap.Ns X.env.locals m/\∀(i:Nat) (x:Str) (v:V),X.N[i]? =eO x->σ[i]? =eO (eO v)->Vis X.env.scope x->∃u,yp v u/\zuu X.env s.heap m x u
 cell:∀x c,X.env.cells.lookup x=eO c->∃v,s.heap.IsCell c v
 free:H X.env.locals=fX
 freeC:∀x c,X.env.cells.lookup x=eO c->H c=fX\/(X.fn x=kb/\∃o,H c=eO (.frz o (.own 0)))
 pin:∀p∈X.pn++pins,s.heap.get? p.1=eO p.2/\H p.1=fX/\p.1≠X.env.locals/\p.1∉X.fs/\∀v,p.2.data≠ .cell v
 hok:HOk X.prog X.w H s.heap
 len:σ.length=X.N.length
section
variable{X:Cx}{pins:kh (oN×Obj)}{σ:kh (mw V)}{H H':Hp}{s:oM}
def Cx.Ok.nofr(ok:X.Ok)(e:X.base.get? b=eO o):b∉X.fs:=λhb=>by
 have:=(ok.funs.mem hb).1;rw[e] at this;cases this
def Inv.bs(I:Inv X pins σ H s):∀b o,X.base.get? b=eO o->s.heap.get? b=eO o/\H b=fX:=λb o e=>
 #[I.base.keep b o (I.ok.bs b o e).1 (I.ok.bs b o e).2 (I.ok.nofr e) (I.ok.noex b o e),I.base.free b o (I.ok.bs b o e).1 (I.ok.bs b o e).2 (I.ok.noex b o e)]
def Inv.bk(I:Inv X pins σ H s):∀b o,X.base.get? b=eO o->s.heap.get? b=eO o:=λb o e=>(I.bs b o e).1
def Inv.mod(I:Inv X pins σ H s):Mod X.prog X.K X.mg X.base:=I.ok.mod
def Inv.kIn(I:Inv X pins σ H s):X.K.In s.heap:=I.ok.mod.kin.keeps I.bk
def Inv.nolimit(I:Inv X pins σ H s):s.heap.NoLimit:=I.ok.mod.nolimit.keeps I.bk
def Inv.lt(I:Inv X pins σ H s):X.env.locals<#v[s]:=let ⟨_,hn,_⟩:=I.loc;hn.lt
def Inv.sz(I:Inv X pins σ H s):X.s₀.heap.objs.size<=#v[s]:=uP I.ok.above (z5 I.lt)
def Inv.nofs(I:Inv X pins σ H s){a:oN}(h:#v[s]<=a):a∉X.fs:=λhb=>by
 have#[_,o,ho,_]:=I.ok.funs.mem hb;show absurd (x9 (Heap.lt_size ho) (uP I.sz h)) (AB _)
def Inv.cne(I:Inv X pins σ H s):∀x c,X.env.cells.lookup x=eO c->c≠X.env.locals:=λx c e z=>by
 have#[v,o,ho,hd]:=I.cell x c e;have#[m,#[o',es,ep,iq,gM,_],_]:=I.loc;rw[z,iq] at ho;cases ho;rw[gM] at hd;cases hd
def Inv.funs(I:Inv X pins σ H s):s.heap.FunFrames X.base X.outer:=by
 have all:∀(l:kh Env),(∀b∈frs l,b∈X.fs)->X.s₀.heap.FunFrames X.base l->s.heap.FunFrames X.base l:=by
  intro l
  induction l with
  |nil=>intro _ _;trivial
  |cons env r ih=>
   intro hs hl;have#[hk,#[L,o,hf,hn,ho,hd],hr]:=hl;have hL:L∈X.fs:=hs L (by unfold frs;rw[BD,hf];show uY);have#[sl,e]:=I.base.slot L o ho (I.ok.frf L hL) hL λz=>I.ok.exfs L z hL;show#[hk,#[L,_,hf,hn,e,hd],ih (λb hb=>hs b (by unfold frs;rw[BD,hf];show uR _ hb)) hr]
 show all X.outer (λ_ hb=>hb) I.ok.funs
def Inv.stack(I:Inv X pins σ H s):s.heap.FunFrames X.base X.stack:=by
 rcases I.ok.stk with e|⟨e,hf⟩
 .rw[e];show I.funs
 rw[e];have#[m,hn,_]:=I.loc;show .cons (by rw[I.ok.kind];decide) hf hn ?_ I.funs;show Heap.get?_none_of_le (uP I.ok.bsz I.ok.above)
def Inv.stkSub(I:Inv X pins σ H s):∀b∈frs X.stack,b∈X.env.locals::X.fs:=λb hb=>by
 rcases I.ok.stk with e|⟨e,hf⟩
 .rw[e] at hb;show uR _ hb
 rw[e] at hb;unfold frs at hb;rw[BD,hf] at hb;show hb
def Inv.stkFree(I:Inv X pins σ H s):∀b∈frs X.stack,H b=fX:=λb hb=>by
 rcases uU.mp (I.stkSub b hb) with e|hb;rw[e];show I.free;have#[_,o,ho,_]:=I.ok.funs.mem hb;show I.base.free b o ho (I.ok.frf b hb) λz=>I.ok.exfs b z hb
def Inv.step{g':Array Gp}{t':Nat}{d':Drawn}{ch:kh oN}(I:Inv X pins σ H s)
  (iz:∀b∈ch,(b∈X.ex\/X.s₀.heap.objs.size<=b)/\b≠X.env.locals/\(∀x c,X.env.cells.lookup x=eO c->c≠b)/\∀p∈X.pn++pins,p.1≠b)
  (keep:∀b o,b≠X.env.locals->b∉X.fs->b∉ch->s.heap.get? b=eO o->H b=fX->h'.get? b=eO o)
  (slot:∀b o,b≠X.env.locals->b∈X.fs->b∉ch->s.heap.get? b=eO o->H b=fX->∃sl,h'.get? b=eO {o with slots:=sl}) (free:∀b o,b∉ch->s.heap.get? b=eO o->H b=fX->H' b=fX)
  (there:∀b o,b∉ch->s.heap.get? b=eO o->∃o',h'.get? b=eO o')
  (tups:∀b xs,H b=eO (.tup xs)->H' b=eO (.tup xs)) (frzs:∀b o u,H b=eO (.frz o u)->H' b=eO (.frz o u)) (tbls:∀b ps,H b=eO (.tbl ps)->∃more,H' b=eO (.tbl (ps++more)))
  (ns:∀m,s.heap.Ns X.env.locals m->h'.Ns X.env.locals m) (hok:HOk X.prog X.w H' h') (hg:AllBare g'):
  Inv X pins σ H' {s with heap:=h',gens:=g',drawn:=d',toks:=t'}:=by
 have oW:∀b o,X.s₀.heap.get? b=eO o->b≠X.env.locals:=λb o e=>y6 (x9 (Heap.lt_size e) I.ok.above);have lR:∀b o,X.s₀.heap.get? b=eO o->b∉X.ex->b∉ch:=λb o e hx hb=>by
  rcases(iz b hb).1 with z|z;show hx z;show absurd (x9 (Heap.lt_size e) z) (AB _)
 have cellK:∀x c,X.env.cells.lookup x=eO c->∀v,s.heap.IsCell c v->h'.IsCell c v:=λx c e v ⟨o,ho,hd⟩=>by
  have ky:c∉ch:=λz=>(iz c z).2.2.1 x c e rfl;rcases I.freeC x c e with hf|⟨_,o',hf⟩
  .by_cases hc:c∈X.fs;have#[sl,q]:=slot c o (I.cne x c e) hc ky ho hf;show#[_,q,hd];show#[o,keep c o (I.cne x c e) hc ky ho hf,hd]
  have h1:=(I.hok c _ hf).1;rw[ho] at h1;cases h1;show#[o,(hok c _ (frzs c _ _ hf)).1,hd]
 show#[I.ok,I.os,hg,#[λb o e n hb hx=> ?_,λb o e n hb hx=> ?_,λb o e n hx=> ?_,λb o e hx=> ?_,λb xs e=>tups b xs (I.base.tups b xs e),λb o xs e=>frzs b o xs (I.base.frzs b o xs e),λb ps e=> ?_],?_,λx c e=> ?_,?_,λx c e=> ?_,λp hp=> ?_,hok,I.len];show keep b o (oW b o e) hb (lR b o e hx) (I.base.keep b o e n hb hx) (I.base.free b o e n hx);have#[sl,e1]:=I.base.slot b o e n hb hx;have#[sl',e2]:=slot b _ (oW b o e) hb (lR b o e hx) e1 (I.base.free b o e n hx);show#[sl',e2];have#[o',e1]:=I.base.there b o e hx;show free b o' (lR b o e hx) e1 (I.base.free b o e n hx);have#[o',e1]:=I.base.there b o e hx;show there b o' (lR b o e hx) e1;have#[m1,e1]:=I.base.tbls b ps e;have#[m2,e2]:=tbls b _ e1;show#[m1++m2,by rw[e2,CQ]]
 .obtain⟨m,hn,hl⟩:=I.loc;show#[m,ns m hn,λi x v e1 e2 e3=> ?_];have#[u,r,l]:=hl i x v e1 e2 e3;show#[u,r,?_];rcases l with l|⟨k,c,e,z⟩
  .show .inl l
  show .inr #[k,c,e,cellK x c e _ z]
 .obtain⟨v,z⟩:=I.cell x c e;show#[v,cellK x c e v z]
 .obtain⟨m,⟨o,_,_,ho,_⟩,_⟩:=I.loc;show free _ o (λz=>(iz _ z).2.1 rfl) ho I.free
 .obtain⟨v,o,ho,hd⟩:=I.cell x c e;rcases I.freeC x c e with hf|⟨z,o',hf⟩
  .show .inl (free c o (λz=>(iz c z).2.2.1 x c e rfl) ho hf)
  show .inr #[z,o',frzs c _ _ hf]
 have#[e,n,ne,nf,d]:=I.pin p hp;have ky:p.1∉ch:=λz=>(iz p.1 z).2.2.2 p hp rfl;show#[keep p.1 p.2 ne nf ky e n,free p.1 p.2 ky e n,ne,nf,d]
def Inv.un(I:Inv X pins σ H s)(u:Un X.fs [] H H' s.heap h')(hok:HOk X.prog X.w H' h'):Inv X pins σ H' {s with heap:=h',toks:=t'}:=by
 have#[m,#[o,es,ep,ho,r],_]:=id I.loc;have#[sl,hL]:=u.any ho I.free (by simp)
 show I.step (g':=s.gens) (d':=s.drawn) (ch:=[]) (λ_ z=>nomatch z) (λb o _ hb _ e n=>u.keep b o e n hb (by simp)) (λb o _ hb _ e n=>u.slot b o e n hb (by simp)) (λb o _ e n=>u.free b o e n (by simp)) (λb o _ e=>u.there b o e (by simp)) u.tups u.frzs u.tbls (λm' hm=>by
  have#[o',es',ep',iq,r']:=hm;rw[ho] at iq;cases iq
  show#[_,es',ep',hL,r']) hok I.bare
def Inv.call(I:Inv X pins σ H s)(u:Un (frs X.stack) ch H H' s.heap h')(hok:HOk X.prog X.w H' h')(hg:AllBare g')
  (iz:∀b∈ch,(b∈X.ex\/X.s₀.heap.objs.size<=b)/\b≠X.env.locals/\(∀x c,X.env.cells.lookup x=eO c->c≠b)/\∀p∈X.pn++pins,p.1≠b):
  Inv X pins σ H' {s with heap:=h',gens:=g',drawn:=d',toks:=t'}:=by
 have#[m,#[o,es,ep,ho,r],_]:=id I.loc;have#[sl,hL]:=u.any ho I.free λz=>(iz _ z).2.1 rfl
 show I.step (ch:=ch) iz (λb o hL hb hc e n=>u.keep b o e n (λz=>(uU.mp (I.stkSub b z)).elim hL hb) hc) (λb o _ _ hc e n=>u.any e n hc) (λb o hc e n=>u.free b o e n hc) (λb o hc e=>u.there b o e hc) u.tups u.frzs u.tbls (λm' hm=>by
  have#[o',es',ep',iq,r']:=hm;rw[ho] at iq;cases iq
  show#[_,es',ep',hL,r']) hok hg
def Inv.turned(I:Inv X pins σ H s)(k:∀b o,b≠it->s.heap.get? b=eO o->h'.get? b=eO o)(hn:H it=fX)(hL:it≠X.env.locals)
  (h1:it∈X.ex\/X.s₀.heap.objs.size<=it) (h2:∀x c,X.env.cells.lookup x=eO c->c≠it) (h3:∀p∈X.pn++pins,p.1≠it):Inv X pins σ H {s with heap:=h',toks:=t'}:=by
 have kx:∀b u,H b=eO u->b≠it:=λb u e z=>by rw[z,hn] at e;cases e
 show I.step (g':=s.gens) (d':=s.drawn) (ch:=[it]) (λb hb=> ?_) (λb o _ _ hc e _=>k b o (λz=>hc (by simp[z])) e) (λb o _ _ hc e _=>#[o.slots,k b o (λz=>hc (by simp[z])) e]) (λ_ _ _ _ n=>n)
  (λb o hc e=>#[o,k b o (λz=>hc (by simp[z])) e]) (λ_ _ e=>e) (λ_ _ _ e=>e) (λb ps e=>#[[].toArray,by rw[e];simp]) (λm hm=> ?_) (λb u e=> ?_) I.bare
 .have e:b=it:=by simpa using hb
  subst e;show#[h1,hL,h2,h3]
 .obtain⟨o,es,ep,ho,r⟩:=hm;show#[o,es,ep,k _ o (B3 hL) ho,r]
 show (I.hok b u e).stay (λc v hc q=>k c v ?_ q) (λ_ q=>q) λ_ _ q=>q;rcases hc with z|z;rw[z];show kx b u e;show kx c _ z
def Inv.tok(I:Inv X pins σ H s)(t:Nat):Inv X pins σ H {s with toks:=t}:=I.un (h':=s.heap) (t':=t) Un.refl I.hok
def Inv.kept(I:Inv X pins σ H s)(k:∀b u,s.heap.get? b=eO u->h'.get? b=eO u):Inv X pins σ H {s with heap:=h',toks:=t'}:=I.un (Un.kept k) (I.hok.kept k)
def Inv.laid{a:oN}(I:Inv X pins σ H s)(k:∀b u,s.heap.get? b=eO u->h'.get? b=eO u)(hp:#v[s]<=a)(new:yW X.prog X.w (upd H a o) h' a o):
  Inv X pins σ (upd H a o) {s with heap:=h',toks:=t'}:=I.un (Un.laid k hp (I.hok.fresh hp)) (I.hok.laid k hp new)
def Inv.write(I:Inv X pins σ H s)(mu:Mut (H x))(he:e=x\/H e=eO (.own x))(k:∀b u,b≠e->s.heap.get? b=eO u->h'.get? b=eO u)(jY:∃u,h'.get? e=eO u)
  (new:yW X.prog X.w (upd H x o) h' x o):Inv X pins σ (upd H x o) {s with heap:=h',toks:=t'}:=I.un (Un.write mu he k jY) (I.hok.write mu he k jY new)
def Inv.weak(I:Inv X pins σ H s)(hl:σ'.length=σ.length)(w:∀(i:Nat) v,σ'[i]? =eO (eO v)->σ[i]? =eO (eO v)):Inv X pins σ' H s:=
 #[I.ok,I.os,I.bare,I.base,let ⟨m,hn,iu⟩:=I.loc;#[m,hn,λi x v e1 e2 e3=>iu i x v e1 (w i v e2) e3],I.cell,I.free,I.freeC,I.pin,I.hok,hl.trans I.len]
def Inv.pins_of(I:Inv X pins σ H s)(h:∀p∈pins',s.heap.get? p.1=eO p.2/\H p.1=fX/\p.1≠X.env.locals/\p.1∉X.fs/\∀v,p.2.data≠ .cell v):Inv X pins' σ H s:=
 #[I.ok,I.os,I.bare,I.base,I.loc,I.cell,I.free,I.freeC,λp hp=>(AX.mp hp).elim (λz=>I.pin p (Ct _ z)) (h p),I.hok,I.len]
def zgV{N:kh Str}(hN:N.Nodup){i j:Nat}{x:Str}(a:N[i]? =eO x)(b:N[j]? =eO x):i=j:=by
 have#[h1,e1]:=uF.mp a;have#[h2,e2]:=uF.mp b;show(Cp hN).mp (e1.trans e2.symm)
def zeA{A:Around}{E:oJ->oM->Prop}{Q:Unit->oM->Prop}(I:Inv X pins σ H s)(hN:X.N.Nodup)(hi:X.N[i]? =eO x)(hx:Loc X.env.scope x)(r:yp v u)
  (h:∀s',Inv X pins (σ.set i (eO v)) H s'->(∃a,Heap.SameBut a s.heap s'.heap/\(a=X.env.locals\/X.env.cells.lookup x=eO a))->Q () s') (hf:X.fn x=gP\/X.env.scope.names.lookup x=eO .local:=by walk_at "q1"):wpAny M A (storeName X.env x u) Q E s:=by
 have#[m,hn,hl]:=id I.loc;have o3:(X.env.scope.kind== .class||(X.env.scope.kind== .module&&X.env.locals !=X.env.globals))=kb:=by rw[I.ok.kind];rfl
 have hiσ:i<σ.length:=by rw[I.len];show(uF.mp hi).1
 have cne:=I.cne;have tracked:∀{a:oN} {h':Heap},(∃o,s.heap.get? a=eO o/\H a=fX)->Heap.SameBut a s.heap h'->HOk X.prog X.w H h':=λ{a h'} ha hs b ob e=>by
  have#[_,_,jg]:=ha;show(I.hok b ob e).stay (λc w' hc q=>(hs.2 c ?_).trans q) (λ_ q=>q) λ_ _ q=>q;rintro rfl;rcases hc with rfl|hc;rw[jg] at e;cases e;rw[jg] at hc;cases hc
 rcases hx with hk|hk
 .show wpAny_storeName_local hk hn (λh' sq hs=> ?_) o3;have#[oL,_,_,rY,_]:=id hn;show h _ #[I.ok,I.os,I.bare,#[λb o e n hb hx=> ?_,λb o e n hb hx=> ?_,I.base.free,λb o e hx=> ?_,I.base.tups,I.base.frzs,I.base.tbls],#[_,sq,λj y v' e1 e2 e3=> ?_],λy c e=> ?_,I.free,I.freeC,λp hp=> ?_,tracked #[oL,rY,I.free] hs,by simpa using I.len] #[_,hs,.inl rfl];show (hs.2 b (y6 (x9 (Heap.lt_size e) I.ok.above))).trans (I.base.keep b o e n hb hx);have#[sl,e1]:=I.base.slot b o e n hb hx;show#[sl,(hs.2 b (y6 (x9 (Heap.lt_size e) I.ok.above))).trans e1];have#[o',e1]:=I.base.there b o e hx;show#[o',(hs.2 b (y6 (x9 (Heap.lt_size e) I.ok.above))).trans e1]
  .by_cases hj:j=i;subst hj;rw[hi] at e1;cases e1;rw[Bj hiσ] at e2;cases e2;show#[u,r,.inl #[hk,by simp]]
   rw[Cu (B3 hj)] at e2;have#[u',r',q]:=hl j y v' e1 e2 e3;show#[u',r',?_];rcases q with⟨k,e⟩|⟨k,c,e,z⟩
   .show .inl #[k,?_];have:y≠x:=λe=>hj (zgV hN e1 (e ▸ hi));simp[this,e]
   show .inr #[k,c,e,z.sameBut hs (cne y c e)]
  .obtain⟨w',z⟩:=I.cell y c e;show#[w',z.sameBut hs (cne y c e)]
  have#[e,n,ne,nf,d]:=I.pin p hp;show#[(hs.2 p.1 ne).trans e,n,ne,nf,d]
 have me:X.fn x=gP:=by
  rcases hf with z|z;show z;rw[z] at hk;cases hk
 have#[c,hc]:=I.ok.has x (.inl hk);have sQ:H c=fX:=(I.freeC x c hc).elim (λz=>z) λz=>by rw[me] at z;cases z.1
 have#[w',z]:=I.cell x c hc;show wpAny_storeName_cell I.ok.kind hk hc z (λh' iB hs=> ?_);have#[oc,m5,nD]:=id z;show h {s with heap:=h'} #[I.ok,I.os,I.bare,#[λb o e n hb hx=> ?_,λb o e n hb hx=> ?_,I.base.free,λb o e hx=> ?_,I.base.tups,I.base.frzs,I.base.tbls],#[m,hn.sameBut hs (B3 (cne x c hc)),λj y v' e1 e2 e3=> ?_],λy c' e=> ?_,I.free,I.freeC,λp hp=> ?_,tracked #[oc,m5,sQ] hs,by simpa using I.len] #[c,hs,.inr hc];show (hs.2 b (y6 (x9 (Heap.lt_size e) (I.ok.cab x c (.inl me) hc)))).trans (I.base.keep b o e n hb hx);have#[sl,e1]:=I.base.slot b o e n hb hx;show#[sl,(hs.2 b (y6 (x9 (Heap.lt_size e) (I.ok.cab x c (.inl me) hc)))).trans e1];have#[o',e1]:=I.base.there b o e hx;show#[o',(hs.2 b (y6 (x9 (Heap.lt_size e) (I.ok.cab x c (.inl me) hc)))).trans e1]
 .by_cases hj:j=i;subst hj;rw[hi] at e1;cases e1;rw[Bj hiσ] at e2;cases e2;show#[u,r,.inr #[.inl hk,c,hc,iB]]
  rw[Cu (B3 hj)] at e2;have#[u',r',q]:=hl j y v' e1 e2 e3;show#[u',r',?_];rcases q with q|⟨k,c',e,z'⟩
  .show .inl q
  show .inr #[k,c',e,z'.sameBut hs ?_];rintro rfl;show hj (zgV hN e1 (I.ok.inj _ _ _ e hc ▸ hi))
 .by_cases mn:c'=c;subst mn;show#[_,iB];have#[w2,z2]:=I.cell y c' e;show#[w2,z2.sameBut hs mn]
 have#[e,n,ne,nf,d]:=I.pin p hp;show#[(hs.2 p.1 ?_).trans e,n,ne,nf,d];intro q;rw[q,m5] at e;have q':oc=p.2:=y9 e;show d w' (by rw[<-q'];show nD)
def zgW{A:Around}{E:oJ->oM->Prop}{Q:Unit->oM->Prop}(I:Inv X pins σ H s)(hN:X.N.Nodup)(hi:X.N[i]? =eO x)(hx:Loc X.env.scope x)(r:yp v u)
  (h:∀s',Inv X pins (σ.set i (eO v)) H s'->Q () s') (hf:X.fn x=gP\/X.env.scope.names.lookup x=eO .local:=by walk_at "q1"):wpAny M A (storeName X.env x u) Q E s:=
 zeA I hN hi hx r (λs' I' _=>h s' I') hf
def Inv.call'(I:Inv X pins σ H s)(ho:s'.os=s.os)(u:Un (frs X.stack) ch H H' s.heap s'.heap)(hok:HOk X.prog X.w H' s'.heap)(hg:AllBare s'.gens)
  (iz:∀b∈ch,(b∈X.ex\/X.s₀.heap.objs.size<=b)/\b≠X.env.locals/\(∀x c,X.env.cells.lookup x=eO c->c≠b)/\∀p∈X.pn++pins,p.1≠b):Inv X pins σ H' s':=by
 have#[h',g',d',t',o']:=s';have e:o'=s.os:=ho;subst e;show I.call (g':=g') (t':=t') (d':=d') u hok hg iz
end
abbrev XK:=oJ->mw oN->Hp->Prop
abbrev St:=kh (mw V)
variable{prog:PySem.Program}{A:PySem.Around}{E:PySem.Value->PySem.Shared->Prop}{X:L2.Cx}{K:uG}{pins:kh (PySem.Addr×PySem.Obj)}{σ:L2.St}{H:L2.Hp}{s:PySem.Shared}{Q:PySem.Value->PySem.Shared->Prop}
abbrev VK:=V->Hp->Prop
abbrev TE:=St->Hp->VK->Prop
abbrev TT:=St->Hp->(Bool->Hp->Prop)->Prop
abbrev TA:=St->Hp->(kh V->Hp->Prop)->Prop
structure zaG where
 nx:St->Hp->Prop
 rt:VK
 bk:St->Hp->Prop:=λ_ _=>False
 ct:St->Hp->Prop:=λ_ _=>False
noncomputable abbrev TS:=zaG->St->Hp->Prop
def EP(X:Cx)(pins:kh (oN×Obj))(σ:St)(Q:VK)(u:oJ)(s':oM):Prop:=∃v H',Inv X pins σ H' s'/\yp v u/\Q v H'
def TP(X:Cx)(pins:kh (oN×Obj))(σ:St)(Q:Bool->Hp->Prop)(b:Bool)(s':oM):Prop:=∃H',Inv X pins σ H' s'/\Q b H'
def AP(X:Cx)(pins:kh (oN×Obj))(σ:St)(Q:kh V->Hp->Prop)(us:kh oJ)(s':oM):Prop:=∃vs H',Inv X pins σ H' s'/\yk vs us/\Q vs H'
def SP(X:Cx)(pins:kh (oN×Obj))(D:zaG)(f:Flow)(s':oM):Prop:=
 match f with
 | .next=>∃σ' H',Inv X pins σ' H' s'/\D.nx σ' H'
 | .brk=>∃σ' H',Inv X pins σ' H' s'/\D.bk σ' H'
 | .cont=>∃σ' H',Inv X pins σ' H' s'/\D.ct σ' H'
 | .ret u=>∃v σ' H',Inv X pins σ' H' s'/\yp v u/\D.rt v H'
def PE(X:Cx)(e:Expr)(t:TE):Prop:=
 ∀(pins:kh (oN×Obj)) (s:oM) (σ:St) (H:Hp) (Q:VK),Inv X pins σ H s->t σ H Q->wpAny (model X.prog X.w) X.A (eval e X.env) (EP X pins σ Q) X.xe s
def PT(X:Cx)(e:Expr)(t:TT):Prop:=
 ∀(pins:kh (oN×Obj)) (s:oM) (σ:St) (H:Hp) (Q:Bool->Hp->Prop),Inv X pins σ H s->t σ H Q->wpAny (model X.prog X.w) X.A (isTrue e X.env (eval e X.env)) (TP X pins σ Q) X.xe s
def PW(X:Cx)(e:Expr)(t:TT):Prop:=
 ∀(whole:Sem oJ) (pins:kh (oN×Obj)) (s:oM) (σ:St) (H:Hp) (Q:Bool->Hp->Prop),Inv X pins σ H s->t σ H Q->wpAny (model X.prog X.w) X.A (isTrue e X.env whole) (TP X pins σ Q) X.xe s
def PW.pt(h:PW X e t):PT X e t:=h _
def PA(X:Cx)(es:kh Expr)(t:TA):Prop:=
 ∀(pos:Pos) (pins:kh (oN×Obj)) (s:oM) (σ:St) (H:Hp) (Q:kh V->Hp->Prop),Inv X pins σ H s->t σ H Q->wpAny (model X.prog X.w) X.A (spliced (backTo pos (FD es X.env))) (AP X pins σ Q) X.xe s
def PS(X:Cx)(st:Stmt)(t:TS):Prop:=
 ∀(pins:kh (oN×Obj)) (s:oM) (σ:St) (H:Hp) (D:zaG),Inv X pins σ H s->t D σ H->wpAny (model X.prog X.w) X.A (exec st X.env) (SP X pins D) X.xe s
def PSs(X:Cx)(st:kh Stmt)(t:TS):Prop:=
 ∀(pins:kh (oN×Obj)) (s:oM) (σ:St) (H:Hp) (D:zaG),Inv X pins σ H s->t D σ H->wpAny (model X.prog X.w) X.A (execs st X.env) (SP X pins D) X.xe s
def thn{α:Type}{t:Sem α}{Q Q':α->oM->Prop}(h:wpAny M A t Q E s)(hQ:∀a s,Q a s->Q' a s):wpAny M A t Q' E s:=FU h hQ λ_ _ x=>x
section
def bin(ha:PE X a ta)(hb:PE X b tb){R:V->V->Hp->Prop}(I:Inv X pins σ H s)(h:ta σ H λx H1=>tb σ H1 λy H2=>R x y H2)
  {α:Type} {Q:α->oM->Prop} {f:oJ->oJ->Sem α}
  (hf:∀v u s2 x y H2,Inv X pins σ H2 s2->yp x v->yp y u->R x y H2->wpAny (model X.prog X.w) X.A (f v u) Q X.xe s2):
  wpAny (model X.prog X.w) X.A (eval a X.env) (λv s₁=>wpAny (model X.prog X.w) X.A (eval b X.env) (λu s₂=>wpAny (model X.prog X.w) X.A (f v u) Q X.xe s₂) X.xe s₁) X.xe s:=by
 show thn (ha pins s σ H _ I h) ?_;intro v s1 #[x,H1,I1,r1,q1];show thn (hb pins s1 σ H1 _ I1 q1) ?_;intro u s2 #[y,H2,I2,r2,q2];show hf v u s2 x y H2 I2 r1 r2 q2
def zrl(i:Nat):TE:=λσ H Q=>∃v,σ[i]? =eO (eO v)/\Q v H
def tC(v:V):TE:=λ_ H Q=>Q v H
def zml{i:Nat}{x:Str}{pos:Pos}(hN:X.N[i]? =eO x)(hv:Vis X.env.scope x)(hd:(x==("__debug__":Str))=kb:=by decide)(dA:(x==("__classdict__":Str))=kb:=by decide):PE X (.Name x pos) (zrl i):=by
 intro pins s σ H Q I h;have#[v,e,h]:=h;have#[m,hn,hl]:=I.loc;have#[u,r,l]:=hl i x v hN e hv;have fin:EP X pins σ Q u s:=#[v,H,I,r,h];rcases l with⟨hk,hm⟩|⟨hk,c,hc,jh⟩
 .show wpAny_Name (wpAny_loadName_local I.ok.kind hk hn hm fin) hd
 rcases hk with hk|hk;show wpAny_Name (wpAny_loadName_cell I.ok.kind hk hc jh fin) hd;show wpAny_Name (wpAny_loadName_free I.ok.kind hk hc jh fin dA) hd
def zk{i j pos}:PE X (.Constant (.int i) j pos) (tC (.int i)):=λ_ _ _ H _ I h=>wpAny_Constant_int #[.int i,H,I.tok _,#[_,rfl],h]
def zkd{b j pos}:PE X (.Constant (.bool b) j pos) (tC (.bl b)):=λ_ _ _ H _ I h=>Constant_bool #[.bl b,H,I,rfl,h]
def zmm{j pos}:PE X (.Constant .none j pos) (tC .non):=λ_ _ _ H _ I h=>Constant_none #[.non,H,I,rfl,h]
def zD{x j pos}:PE X (.Constant (.str x) j pos) (tC (.str x)):=λ_ _ _ H _ I h=>Calls.Constant_str #[.str x,H,I.tok _,#[_,rfl],h]
def Gl(X:Cx)(x:Str):Prop:=X.env.kindOf x=eO .globalImplicit
def zfp(I:Inv X pins σ H s)(hg:Gl X x)(hm:X.mg x=eO u)(h:Q u s)
  (hd:(x==("__debug__":Str))=kb:=by decide):wpAny (model X.prog X.w) X.A (eval (.Name x pos) X.env) Q E s:=
 Calls.Name_function_global I.ok.kind hg (Calls.loadGlobal_global (by rw[I.ok.glob];show I.mod.glob.keeps I.bk) hm h) hd
def Ud{x:Str}{u:oJ}{pos:Pos}(I:Inv X pins σ H s)(hg:Gl X x)(hm:X.mg x=fX)(hv:bootBuiltins x=eO u)(h:Q u s)
  (hn:x≠"__name__":=by decide) (hd:(x==("__debug__":Str))=kb:=by decide):wpAny (model X.prog X.w) X.A (eval (.Name x pos) X.env) Q E s:=by
 have#[mb,h1,h2]:=I.mod.blt;show Calls.Name_function_global I.ok.kind hg (Calls.loadGlobal_builtin (by rw[I.ok.glob];show I.mod.glob.keeps I.bk) hm (by rw[I.ok.blt];show h1.keeps I.bk) ((h2 x hn).trans hv) h) hd
def zfq(hg:Gl X x)(hm:X.mg x=eO u)(r:yp v u)(hd:(x==("__debug__":Str))=kb:=by decide):PE X (.Name x pos) (tC v):=
 λ_ _ _ H _ I h=>zfp I hg hm #[v,H,I,r,h] hd
def vg{x:Str}{v:V}{u:oJ}{pos:Pos}(hg:Gl X x)(hm:X.mg x=fX)(hv:bootBuiltins x=eO u)(r:yp v u)(hn:x≠"__name__":=by decide)(hd:(x==("__debug__":Str))=kb:=by decide):PE X (.Name x pos) (tC v):=
 λ_ _ _ H _ I h=>Ud I hg hm hv #[v,H,I,r,h] hn hd
def t2I(ta tb:TE)(k:Int->Int->Hp->Prop):St->Hp->Prop:=λσ H=>ta σ H λx H1=>tb σ H1 λy H2=>∃i j,x= .int i/\y= .int j/\k i j H2
def PC(X:Cx)(op:CmpOp)(a b:Expr)(t:TE):Prop:=
 ∀(pins:kh (oN×Obj)) (s:oM) (σ:St) (H:Hp) (Q:VK),Inv X pins σ H s->t σ H Q->
  wpAny (model X.prog X.w) X.A (eval a X.env) (λv s₁=>wpAny (model X.prog X.w) X.A (eval b X.env) (λu s₂=>wpAny (model X.prog X.w) X.A (Gq op v u) (EP X pins σ Q) X.xe s₂) X.xe s₁) X.xe s
def zgX(b:Expr)(h:op≠ .In)(h2:op≠ .NotIn):behindInMarks op b=kb:=by
 have e1:(op==CmpOp.In)=kb:=by cases op<;>first|rfl|exact absurd rfl h
 have e2:(op==CmpOp.NotIn)=kb:=by cases op<;>first|rfl|exact absurd rfl h2
 cases b<;>first|rfl|(change(_&&(_||_)&&_)=kb;rw[e1,e2];simp)
def zgY(p:Int->Int->Bool)(ta tb:TE):TE:=λσ H Q=>t2I ta tb (λi j H2=>Q (.bl (p i j)) H2) σ H
noncomputable abbrev tLt:TE->TE->TE:=zgY λi j=>decide (i<j)
noncomputable abbrev tGt:TE->TE->TE:=zgY λi j=>decide (j<i)
noncomputable abbrev tGe:TE->TE->TE:=zgY λi j=>decide (j<=i)
noncomputable abbrev zsX:TE->TE->TE:=zgY λi j=>decide (i=j)
noncomputable abbrev zsY:TE->TE->TE:=zgY λi j=> !decide (i=j)
def zcP{p:Int->Int->Bool}(ha:PE X a ta)(hb:PE X b tb)
  (rule:∀(i j:Int) (t u:Tok) (Q:oJ->oM->Prop) (s:oM),Q (.bool (p i j)) s->wpAny (model X.prog X.w) X.A (Gq op (.int i t) (.int j u)) Q X.xe s):PC X op a b (zgY p ta tb):=by
 intro pins s σ H Q I h;show bin ha hb I h λv u s2 x y H2 I2 rx ry q=> ?_;have#[i,j,rfl,rfl,q]:=q;have#[t,rfl]:=rx;have#[t',rfl]:=ry;show rule i j t t' _ s2 #[.bl _,H2,I2,rfl,q]
def zb2(ha:PE X a ta)(hb:PE X b tb):PC X .Lt a b (tLt ta tb):=zcP ha hb λ_ _ _ _ _ _ h=>lt_int h
def zb3(ha:PE X a ta)(hb:PE X b tb):PC X .Gt a b (tGt ta tb):=zcP ha hb λ_ _ _ _ _ _ h=>gt_int h
def zsZ(ha:PE X a ta)(hb:PE X b tb):PC X .GtE a b (tGe ta tb):=zcP ha hb λ_ _ _ _ _ _ h=>ge_int h
def xu(ha:PE X a ta)(hb:PE X b tb):PC X .Eq a b (zsX ta tb):=zcP ha hb λ_ _ _ _ _ _ h=>eq_int (by rw[DM];show h)
def zac(ha:PE X a ta)(hb:PE X b tb):PC X .NotEq a b (zsY ta tb):=zcP ha hb λ_ _ _ _ _ _ h=>ne_int (by rw[bne,DM];show h)
def zs0(ta:TE):TE:=λσ H Q=>ta σ H λx H1=>Q (.bl (decide (x= .non))) H1
def yp.none_iff(r:yp x v):(v==Value.none)=decide (x= .non):=by
 cases x with
 |non=>cases r;rfl
 |bl _=>cases r;rfl
 |int _=>have#[t,rfl]:=r;rfl
 |str _=>have#[t,rfl]:=r;rfl
 |byt _=>have#[t,rfl]:=r;rfl
 |flt _=>have#[t,rfl]:=r;rfl
 |ref _=>cases r;rfl
 |ty _=>cases r;rfl
def ziC{j pos'}(ha:PE X a ta):PC X .Is a (.Constant .none j pos') (zs0 ta):=by
 intro pins s σ H Q I h;show thn (ha pins s σ H _ I h) ?_;intro v s1 #[x,H1,I1,r1,q1];show Constant_none (is_none_gen #[.bl _,H1,I1,by rw[r1.none_iff];rfl,q1])
def tB(t:TE):TT:=λσ H Q=>t σ H λx H1=>∃c,x= .bl c/\Q c H1
def Zw(h:PC X op a b t)(h1:behindInMarks op b=kb:=by (first|exact zgX _ ∅ ∅|rfl)):PE X (.Compare a [op] [b] pos) t:=λpins s σ H Q I hw=>wpAny_Compare1 (h pins s σ H Q I hw) h1
def yr(h:PC X op a b t)(h1:behindInMarks op b=kb:=by (first|exact zgX _ ∅ ∅|rfl)):PT X (.Compare a [op] [b] pos) (tB t):=by
 intro pins s σ H Q I hw;show wpAny_isTrue_Compare1 (thn (h pins s σ H _ I hw) λv s1 h1=>thn h1 λu s2 h2=>thn h2 ?_) h1;intro c s3 #[x,H1,I1,r1,q1];have#[d,rfl,q]:=q1;cases r1;show Gd #[H1,I1,q]
def wu(h:PE X e t)(he:∀whole,isTrue e X.env whole=(do let v <-whole;standAt e.pos;holding [v] (truthy v)):=by intro _;rfl):PT X e (tB t):=by
 intro pins s σ H Q I hw;show isTrue_plain (thn (h pins s σ H _ I hw) ?_) (he _);intro v s1 #[x,H1,I1,r1,q1];have#[d,rfl,q]:=q1;cases r1;show Gd #[H1,I1,q]
def zs1(t u:TT):TT:=λσ H Q=>t σ H λc H1=>if c=gP then u σ H1 Q else Q kb H1
def tOr(t u:TT):TT:=λσ H Q=>t σ H λc H1=>if c=gP then Q gP H1 else u σ H1 Q
def zs2(t:TT):TT:=λσ H Q=>t σ H λc H1=>Q (!c) H1
def WU(ha:PT X a tA):PW X (.BoolOp .And [a] pos) tA:=by
 intro wh pins s σ H Q I h;show isTrue_and (thn (ha pins s σ H Q I h) λc s1 e=> ?_);cases c with
 |true=>show isTrue_and_nil e
 |false=>show e
def zbw(ha:PT X a tA):PW X (.BoolOp .Or [a] pos) tA:=by
 intro wh pins s σ H Q I h;show isTrue_or (thn (ha pins s σ H Q I h) λc s1 e=> ?_);cases c with
 |false=>show isTrue_or_nil e
 |true=>show e
def Ue(ha:PT X a tA)(hb:PW X (.BoolOp .And (b::rest) pos) tB'):PW X (.BoolOp .And (a::b::rest) pos) (zs1 tA tB'):=by
 intro wh pins s σ H Q I h;show isTrue_and (thn (ha pins s σ H _ I h) ?_);intro c s1 #[H1,I1,q1];cases c with
 |true=>show hb wh pins s1 σ H1 Q I1 q1
 |false=>show#[H1,I1,q1]
def zeB(ha:PT X a tA)(hb:PW X (.BoolOp .Or (b::rest) pos) tB'):PW X (.BoolOp .Or (a::b::rest) pos) (tOr tA tB'):=by
 intro wh pins s σ H Q I h;show isTrue_or (thn (ha pins s σ H _ I h) ?_);intro c s1 #[H1,I1,q1];cases c with
 |true=>show#[H1,I1,q1]
 |false=>show hb wh pins s1 σ H1 Q I1 q1
def Uf(ha:PT X a tA):PT X (.UnaryOp .Not a pos) (zs2 tA):=by
 intro pins s σ H Q I h;show isTrue_not (ha pins s σ H (λc H1=>Q (!c) H1) I h)
def zqO(ta tb:TE):TE:=λσ H Q=>ta σ H λx H1=>∃c,x= .bl c/\if c=gP then tb σ H1 Q else Q (.bl kb) H1
def zqP(ta:TE):TE:=λσ H Q=>ta σ H λx H1=>∃c,x= .bl c/\Q (.bl (!c)) H1
def zbx{op}(h:PE X a t):PE X (.BoolOp op [a] pos) t:=λpins s σ H Q I hw=>BoolOp_one (h pins s σ H Q I hw)
def Ug(ha:PE X a ta)(hb:PE X (.BoolOp .And (b::rest) pos) tb):PE X (.BoolOp .And (a::b::rest) pos) (zqO ta tb):=by
 intro pins s σ H Q I h;show BoolOp_and (thn (ha pins s σ H _ I h) ?_);intro v s1 #[x,H1,I1,r1,q1];have#[c,rfl,q1]:=q1;cases r1;show Gd ?_;cases c with
 |true=>show hb pins s1 σ H1 Q I1 q1
 |false=>show#[.bl kb,H1,I1,rfl,q1]
def zfr(ha:PE X a ta):PE X (.UnaryOp .Not a pos) (zqP ta):=by
 intro pins s σ H Q I h;show UnaryOp_ (thn (ha pins s σ H _ I h) ?_);intro v s1 #[x,H1,I1,r1,q1];have#[c,rfl,q1]:=q1;cases r1;show not_of (Gd #[.bl (!c),H1,I1,rfl,q1])
def tIf(t:TT)(ta tb:TE):TE:=λσ H Q=>t σ H λc H1=>if c=gP then ta σ H1 Q else tb σ H1 Q
def YJ(hc:PT X c tA)(ha:PE X a ta)(hb:PE X b tb):PE X (.IfExp c a b pos) (tIf tA ta tb):=by
 intro pins s σ H Q I h;show wpAny_IfExp (thn (hc pins s σ H _ I h) ?_);intro d s1 #[H1,I1,q1];cases d with
 |true=>show ha pins s1 σ H1 Q I1 q1
 |false=>show hb pins s1 σ H1 Q I1 q1
end
def SqL(K:uG)(H:Hp)(a:oN)(xs:kh V):Prop:=
 Rd H a (.lst xs)\/
  ∃(o:Obj) (ah:Array oJ) (n:Nat),K.lookup a=eO o/\o.cls= .type "list"/\o.dict=fX/\o.data= .seq ah n/\ah.size<=FC/\yk xs ah.toList
def SqT(K:uG)(H:Hp)(a:oN)(xs:kh V):Prop:=
 Rd H a (.tup xs)\/
  ∃(o:Obj) (ah:Array oJ) (n:Nat),K.lookup a=eO o/\o.cls= .type "tuple"/\o.data= .seq ah n/\ah.size<=FC/\yk xs ah.toList
def SqX(K:uG)(H:Hp)(a:oN)(xs:kh V):Prop:=
 Rd H a (.lst xs)\/∃(ah:Array oJ) (n:Nat),K.lookup a=eO {cls:= .type "list",data:= .seq ah n}/\ah.size<=FC/\yk xs ah.toList
def SqX.sql{K:uG}{H:Hp}{a:oN}{xs:kh V}(h:SqX K H a xs):SqL K H a xs:=by
 rcases h with h|⟨ah,n,hk,hz,r⟩
 .show .inl h
 show .inr #[_,ah,n,hk,rfl,rfl,rfl,hz,r]
def SqX.of(h:H a=eO (.lst xs)):SqX K H a xs:= .inl (.inl h)
noncomputable def zuv:oJ->mw V
 | .none=>eO .non
 | .bool b=>eO (.bl b)
 | .int i _=>eO (.int i)
 | .str x _=>eO (.str x)
 | .bytes b _=>eO (.byt b)
 | .float b _=>eO (.flt b)
 | .ref a=>eO (.ref a)
 | .type n=>eO (.ty n)
 |_=>fX
def yp.abs(r:yp x u):zuv u=eO x:=by
 cases x with
 |non=>cases r;rfl
 |bl _=>cases r;rfl
 |int _=>have#[t,rfl]:=r;rfl
 |str _=>have#[t,rfl]:=r;rfl
 |byt _=>have#[t,rfl]:=r;rfl
 |flt _=>have#[t,rfl]:=r;rfl
 |ref _=>cases r;rfl
 |ty _=>cases r;rfl
def yp.inj(r:yp x u)(q:yp y u):x=y:=y9 (r.abs.symm.trans q.abs)
def yk.inj(h:yk xs us)(k:yk ys us):xs=ys:=by
 induction h generalizing ys with
 |nil=>cases k;rfl
 |cons r _ ih=>
  cases k with
  |cons r' t'=>rw[r.inj r',ih t']
section
def SqT.of(h:H a=eO (.tup xs)):SqT K H a xs:= .inl (.inl h)
def Inv.list(I:Inv X pins σ H s)(h:SqL X.K H a xs):∃ah:kh oJ,yk xs ah/\PlainL s.heap a ah.toArray/\xs.length<=FC:=by
 rcases h with h|⟨o,ah,n,hk,hc,hd,hs,hz,r⟩
 .obtain⟨z,ah,n,r,e⟩:=h.ok I.hok;show#[ah,r,#[_,n,e,rfl,rfl,rfl],z]
 show#[ah.toList,r,#[o,n,I.kIn a o hk,hc,hd,by simpa using hs],?_];have e:=r.length;simp only[B4] at e;omega
def Inv.tuple(I:Inv X pins σ H s)(h:SqT X.K H a xs):∃ah:kh oJ,yk xs ah/\IsTup s.heap a ah.toArray/\xs.length<=FC:=by
 rcases h with h|⟨o,ah,n,hk,hc,hs,hz,r⟩
 .obtain⟨z,ah,r,p⟩:=h.ok I.hok;show#[ah,r,p.tup,z]
 show#[ah.toList,r,#[o,I.kIn a o hk,hc,n,by simpa using hs],?_];have e:=r.length;simp only[B4] at e;omega
def Inv.list_inj(I:Inv X pins σ H s)(h:SqL X.K H a xs)(h':SqL X.K H a ys):xs=ys:=by
 have#[ah,r,#[o,n,e,_,_,d],_]:=I.list h;have#[its',r',#[o',n',e',_,_,d'],_]:=I.list h';rw[e] at e';cases e';rw[d] at d';injection d' with d1 _
 have:ah=its':=by simpa using congrArg Fo d1
 subst this;show r.inj r'
def Inv.tuple_inj(I:Inv X pins σ H s)(h:SqT X.K H a xs)(h':SqT X.K H a ys):xs=ys:=by
 have#[ah,r,#[o,e,_,n,d],_]:=I.tuple h;have#[its',r',#[o',e',_,n',d'],_]:=I.tuple h';rw[e] at e';cases e';rw[d] at d';injection d' with d1 _
 have:ah=its':=by simpa using congrArg Fo d1
 subst this;show r.inj r'
end
section
variable{st:Stmt}{rest:kh Stmt}{t u:TS}{e:Expr}{te:TE}{pos:Pos}
def zqQ:TS:=λD σ H=>D.nx σ H
def zrm(t u:TS):TS:=λD σ H=>t {D with nx:=u D} σ H
def zC:PSs X [] zqQ:=λ_ _ σ H _ I h=>wpAny_execs_nil #[σ,H,I,h]
def zmn(h1:PS X st t)(h2:PSs X rest u):PSs X (st::rest) (zrm t u):=by
 intro pins s σ H D I h;show wpAny_execs_cons (thn (h1 pins s σ H {D with nx:=u D} I h) λf s1 q=> ?_);cases f with
 |next=>
  have#[σ',H',I',q]:=q;show h2 pins s1 σ' H' D I' q
 |ret v=>show q
 |brk=>show q
 |cont=>show q
def zo1(h1:PS X st t):PSs X [st] t:=by
 intro pins s σ H D I h;show wpAny_execs_cons (thn (h1 pins s σ H D I h) λf s1 q=> ?_);cases f with
 |next=>show wpAny_execs_nil q
 |ret v=>show q
 |brk=>show q
 |cont=>show q
def Inv.quiet(I:Inv X pins σ H s):interactive X.env=kb:=by simp[interactive,I.ok.kind]
def zqR(te:TE):TS:=λD σ H=>te σ H λ_ H1=>D.nx σ H1
def Xs(he:PE X e te)(hs:swapsWith e fX pos.line X.env=pure kb:=by rfl):PS X (.Expr e pos) (zqR te):=by
 intro pins s σ H D I h;show wpAny_Expr_any (thn (he pins s σ H _ I h) ?_) I.quiet hs;intro v s1 #[x,H1,I1,r1,q1];show#[σ,H1,I1,q1]
def zs3(te:TE):TS:=λD σ H=>te σ H D.rt
def zrn(he:PE X e te):PS X (.Return (eO e) pos) (zs3 te):=by
 intro pins s σ H D I h;show wpAny_Return_some (thn (he pins s σ H _ I h) ?_);intro v s1 #[x,H1,I1,r1,q1];show#[x,σ,H1,I1,r1,q1]
def zs4(c:TT)(t u:TS):TS:=λD σ H=>c σ H λb H1=>if b=gP then t D σ H1 else u D σ H1
def zU(hc:PT X c tc)(ha:PSs X a t)(hb:PSs X b u):PS X (.If c a b pos) (zs4 tc t u):=by
 intro pins s σ H D I h;show wpAny_If (thn (hc pins s σ H _ I h) ?_);intro d s1 #[H1,I1,q1];cases d with
 |true=>show ha pins s1 σ H1 D I1 q1
 |false=>show hb pins s1 σ H1 D I1 q1
end
abbrev TG:=V->St->Hp->(St->Hp->Prop)->Prop
abbrev TGs:=kh V->St->Hp->(St->Hp->Prop)->Prop
def PG(X:Cx)(target:Expr)(t:TG):Prop:=
 ∀(pins:kh (oN×Obj)) (s:oM) (σ:St) (H:Hp) (v:V) (u:oJ) (Q:St->Hp->Prop),Inv X pins σ H s->yp v u->t v σ H Q->
  wpAny (model X.prog X.w) X.A (assign target X.env u) (λ_ s'=>∃σ' H',Inv X pins σ' H' s'/\Q σ' H') X.xe s
def PGs(X:Cx)(ts:kh Expr)(t:TGs):Prop:=
 ∀(pins:kh (oN×Obj)) (s:oM) (σ:St) (H:Hp) (vs:kh V) (us:kh oJ) (Q:St->Hp->Prop),Inv X pins σ H s->yk vs us->t vs σ H Q->
  wpAny (model X.prog X.w) X.A (assignInOrder ((assignEach ts X.env).map (·.2)) us) (λ_ s'=>∃σ' H',Inv X pins σ' H' s'/\Q σ' H') X.xe s
abbrev zro:=V->V->V->Hp->(Hp->Prop)->Prop
def zs5(X:Cx)(t:zro):Prop:=
 ∀(pins:kh (oN×Obj)) (s:oM) (σ:St) (H:Hp) (o i v:V) (ov iv u:oJ) (Q:Hp->Prop),Inv X pins σ H s->yp o ov->yp i iv->yp v u->t o i v H Q->
  wpAny (model X.prog X.w) X.A (setItem ov iv u) (λ_ s'=>∃H',Inv X pins σ H' s'/\Q H') X.xe s
section
variable{pos:Pos}
def zeC(i:Nat):TG:=λv σ H Q=>Q (σ.set i (eO v)) H
def zo2(hN:X.N.Nodup)(hi:X.N[i]? =eO x)(hx:Loc X.env.scope x)(hf:X.fn x=gP\/X.env.scope.names.lookup x=eO .local:=by walk_at "q1"):PG X (.Name x pos) (zeC i):=by
 intro pins s σ H v u Q I r h;show wpAny_assign_Name (zgW I hN hi hx r (λs' I'=>#[_,H,I',h]) hf)
def zrp:TGs:=λvs σ H Q=>vs=[]/\Q σ H
def zmo(t:TG)(u:TGs):TGs:=λvs σ H Q=>∃v r,vs=v::r/\t v σ H λσ' H'=>u r σ' H' Q
def zo3:PGs X [] zrp:=by
 intro pins s σ H vs us Q I r h;have#[e,h]:=h;subst e;cases r;show assignInOrder_nil #[σ,H,I,h]
def zgZ(h1:PG X e t)(h2:PGs X es u)
  (hs:(assignEach (e::es) X.env).map (·.2)=assign e X.env::(assignEach es X.env).map (·.2):=by rfl):PGs X (e::es) (zmo t u):=by
 intro pins s σ H vs us Q I r h;have#[v,vr,e1,h]:=h;subst e1;cases r with
 |cons r rr=>
  rw[hs];show assignInOrder_cons (thn (h1 pins s σ H _ _ _ I r h) ?_);intro _ s1 #[σ1,H1,I1,q1];show h2 pins s1 σ1 H1 _ _ Q I1 rr q1
def zo4(K:uG)(n:Nat)(t:TGs):TG:=λv σ H Q=>∃a xs,v= .ref a/\SqT K H a xs/\xs.length=n/\t xs σ H Q
def zrq{es:kh Expr}{k:Nat}{t:TGs}{n:Nat}(hc:X.calm=gP)(h:PGs X es t)
  (hn:(assignEach es X.env).length=n:=by rfl) (ft:(assignEach es X.env).findIdx? (·.1)=fX:=by rfl):PG X (.Tuple es k pos) (zo4 X.K n t):=by
 intro pins s σ H v u Q I r hw;have#[a,xs,e1,hq,hl,hw]:=hw;subst e1;cases r;have#[ah,rv,ht,hz]:=I.tuple hq;show assign_Tuple_tuple (I.ok.hd hc) ht (by simp[hn,<-hl,rv.length]) ft λh' hx=> ?_;have I1:Inv X pins σ H {s with heap:=h'}:=I.kept (t':=s.toks) λb o e=>hx b o (y6 (Heap.lt_size e)) e;show h pins _ σ H xs _ Q I1 (by simpa using rv) hw
def zs6(to ti:TE)(t:zro):TG:=λv σ H Q=>to σ H λo H1=>ti σ H1 λi H2=>t o i v H2 λH3=>Q σ H3
def ziD(ho:PE X o to)(hi:PE X i ti)(hs:zs5 X t)
  (ha:∀v,assign (.Subscript o i pos) X.env v=(do
   let ov <-holding [v] (eval o X.env)
   let iv <-holding [v,ov] (eval i X.env)
   standAt pos
   holding [v,ov,iv] (setItem ov iv v)
   release [v,ov,iv] []):=by intro _;rfl):PG X (.Subscript o i pos) (zs6 to ti t):=by
 intro pins s σ H v u Q I r h;rw[ha];show qx (FR (thn (ho pins s σ H _ I h) ?_));intro ov s1 #[x,H1,I1,r1,q1];show qx (FR (thn (hi pins s1 σ H1 _ I1 q1) ?_));intro iv s2 #[y,H2,I2,r2,q2];show qx (wpAny_standAt (qx (FR (thn (hs pins s2 σ H2 x y v ov iv u _ I2 r1 r2 r q2) ?_))));intro _ s3 #[H3,I3,q3];show wpAny_release #[σ,H3,I3,q3]
def zrr(te:TE)(g:TG):TS:=λD σ H=>te σ H λx H1=>g x σ H1 D.nx
def ziE(he:PE X e te)(hg:PG X tg g)(hs:swapsWithSole [tg] e pos.line X.env=pure kb:=by rfl)(hw:swappedStores [tg] e X.env=pure fX:=by rfl)
  (h1:(assignEach [tg] X.env).map (·.2)=[assign tg X.env]:=by rfl):PS X (.Assign [tg] e pos) (zrr te g):=by
 intro pins s σ H D I h;show wpAny_Assign_stores (thn (he pins s σ H _ I h) ?_) hs hw;intro v s1 #[x,H1,I1,r1,q1];rw[h1];show thn (hg pins s1 σ H1 x v _ I1 r1 q1) λ_ s2 q=>q
def zmp{i:Nat}{x:Str}{e:Expr}{te:TE}{pos':Pos}(hN:X.N.Nodup)(hi:X.N[i]? =eO x)(hx:Loc X.env.scope x)(he:PE X e te)(hs:swapsWith e (eO (.Name x pos')) pos.line X.env=pure kb:=by rfl)(hf:X.fn x=gP\/X.env.scope.names.lookup x=eO .local:=by walk_at "q1"):
  PS X (.Assign [.Name x pos'] e pos) (zrr te (zeC i)):=by
 intro pins s σ H D I h;show wpAny_Assign_Name (thn (he pins s σ H _ I h) ?_) hs;intro v s1 #[y,H1,I1,r1,q1];show zgW I1 hN hi hx r1 (λs2 I2=>#[_,H1,I2,q1]) hf
def zmq(c:TT)(tb:TS):TS:=λD σ H=>∃W:Nat->St->Hp->Prop,(∃m,W m σ H)/\∀m σ H,W m σ H->
 c σ H λb H1=>if b=gP then ∃N:St->Hp->Prop,(∀σ' H',N σ' H'->∃m',m'<m/\W m' σ' H')/\tb {D with nx:=N,ct:=N,bk:=D.nx} σ H1 else D.nx σ H1
def zaH(hp:PassesOwn (model X.prog X.w) X.A X.env X.xe)(hc:PT X c tc)(hb:PSs X body tb):PS X (.While c body [] pos) (zmq tc tb):=by
 intro pins s σ H D I h;have#[W,#[m0,w0],turn]:=h;show wpAny_While (codeAny_whileLoop (λn s'=>∃σ' H',Inv X pins σ' H' s'/\W n σ' H') ?_ m0 #[σ,H,I,w0]);intro n s1 #[σ1,H1,I1,w1];show Gf hp (thn (hc pins s1 σ1 H1 _ I1 (turn n σ1 H1 w1)) ?_);intro b s2 #[H2,I2,q2];cases b with
 |true=>
  have#[N,hN,q2]:=q2;rw[Gv rfl];show Gf hp (thn (hb pins s2 σ1 H2 _ I2 q2) λf s3 q3=> ?_);cases f with
  |next=>
   have#[σ3,H3,I3,n3]:=q3;have#[m',hm,w3]:=hN σ3 H3 n3;show#[m',hm,σ3,H3,I3,w3]
  |cont=>
   have#[σ3,H3,I3,n3]:=q3;have#[m',hm,w3]:=hN σ3 H3 n3;show#[m',hm,σ3,H3,I3,w3]
  |brk=>show q3
  |ret v=>show q3
 |false=>
  rw[Gw y3];show wpAny_execs_nil #[σ1,H2,I2,q2]
end
structure It where
 go:Nat->Hp->Prop
 yld:Nat->Hp->V->Hp->Prop
 stop:Nat->Hp->Prop
def zd3(X:Cx)(pins:kh (oN×Obj))(H:Hp)(b:oN):Prop:=
 H b=fX/\b≠X.env.locals/\b∉X.fs/\(b∈X.ex\/X.s₀.heap.objs.size<=b)/\(∀x c,X.env.cells.lookup x=eO c->c≠b)/\∀p∈X.pn++pins,p.1≠b
def Inv.fpOk{b:oN}(I:Inv X pins σ H s)(hb:#v[s]<=b)(hn:H' b=fX):zd3 X pins H' b:=by
 show#[hn,Cv (x9 I.lt hb),I.nofs hb,.inr (uP I.sz hb),λx c e z=> ?_,λp hp z=> ?_];have#[v,q]:=I.cell x c e;show absurd (x9 q.lt (by rw[z];show hb)) (AB _);show absurd (x9 (Heap.lt_size (I.pin p hp).1) (by rw[z];show hb)) (AB _)
structure ziF(P:Program)(w:World)(K:uG)(tg:Expr)(J:It)(fp:kh oN)(it:oN)(tn:Nat->Heap->Prop):Prop where
 mem:it∈fp
 obj:∀i h,tn i h->∀b∈fp,∃o,h.get? b=eO o/\∀v,o.data≠ .cell v
 keep:∀i h h',tn i h->(∀b∈fp,∀o,h.get? b=eO o->h'.get? b=eO o)->tn i h'
 item:∀(X:Cx),X.prog=P->X.w=w->X.K=K->X.calm=gP->∀(i:Nat) (pins:kh (oN×Obj)) (s:oM) (σ:St) (H:Hp) (E:oJ->oM->Prop),Inv X pins σ H s->(∀b∈fp,zd3 X pins H b)->tn i s.heap->J.go i H->
  wpAny (model P w) X.A (pyNext (.ref it)) (λr s1=>∃u,r=eO u/\
   wpAny (model P w) X.A (letOwnedTupleGo tg (.ref it) u) (λ_ s2=>∃x H',Inv X pins σ H' s2/\yp x u/\J.yld i H x H'/\tn (i+1) s2.heap/\∀b∈fp,H' b=fX) E s1) E s
 done:∀(X:Cx),X.prog=P->X.w=w->X.K=K->X.calm=gP->∀(i:Nat) (pins:kh (oN×Obj)) (s:oM) (σ:St) (H:Hp) (E:oJ->oM->Prop),Inv X pins σ H s->(∀b∈fp,zd3 X pins H b)->tn i s.heap->J.stop i H->
  wpAny (model P w) X.A (pyNext (.ref it)) (λr s1=>r=fX/\Inv X pins σ H s1) E s
 self:∀(A:Around) (i:Nat) (s:oM) (Q:oJ->oM->Prop) (E:oJ->oM->Prop),tn i s.heap->Q (.ref it) s->wpAny (model P w) A (pyIter (.ref it)) Q E s
abbrev TI:=St->Hp->(It->Hp->Prop)->Prop
def PIE(X:Cx)(pins:kh (oN×Obj))(σ:St)(tg:Expr)(R:It->Hp->Prop)(mN:oJ)(s2:oM):Prop:=
 ∃(it:oN) (fp:kh oN) (tn:Nat->Heap->Prop) (J:It) (H':Hp),mN= .ref it/\Inv X pins σ H' s2/\ziF X.prog X.w X.K tg J fp it tn/\tn 0 s2.heap/\(∀b∈fp,zd3 X pins H' b)/\R J H'
def PI(X:Cx)(tg iter:Expr)(wi:TI):Prop:=
 ∀(pins:kh (oN×Obj)) (s:oM) (σ:St) (H:Hp) (R:It->Hp->Prop),Inv X pins σ H s->wi σ H R->
  wpAny (model X.prog X.w) X.A (eval iter X.env) (λv s1=>wpAny (model X.prog X.w) X.A (pyIter v) (PIE X pins σ tg R) X.xe s1) X.xe s
def zke{Q:Unit->oM->Prop}(ho:s.heap.get? it=eO o)(hc:o.cls= .type n)(hd:o.data= .fields vs)
    (hn:["enumerate","zip","dict_itemiterator","dict_reverseitemiterator","odict_iterator","itertools.zip_longest","itertools.pairwise"].contains n=kb) (hQ:Q () s):wpAny M A (letOwnedTupleGo tg (.ref it) u) Q E s:=by
  unfold letOwnedTupleGo;cases tg<;>first
    |exact qH hQ
    | (cases u <;> first
        |exact qH hQ
        | (show qx (wpAny_load ho ?_)
           rw[hc,hd];change wpAny M A (if (["enumerate","zip","dict_itemiterator","dict_reverseitemiterator","odict_iterator","itertools.zip_longest","itertools.pairwise"].contains n&&vs[0]? ==eO (Gc _))=gP then _ else _) Q E s;rw[Gw (by intro h;rw[hn,Bool.false_and] at h;cases h)]
           show qH hQ))
noncomputable def Itl(K:uG)(a:oN):It:=
 #[λi H=>∃xs x,SqL K H a xs/\xs[i]? =eO x,λi H x H'=>H'=H/\∀xs,SqL K H a xs->xs[i]? =eO x,λi H=>∃xs,SqL K H a xs/\xs.length<=i]
noncomputable def Itt(K:uG)(a:oN):It:=
 #[λi H=>∃xs x,SqT K H a xs/\xs[i]? =eO x,λi H x H'=>H'=H/\∀xs,SqT K H a xs->xs[i]? =eO x,λi H=>∃xs,SqT K H a xs/\xs.length<=i]
noncomputable def Itr(lo:Int)(n:Nat):It:=#[λi _=>i<n,λi H x H'=>H'=H/\x= .int (lo+i),λi _=>n<=i]
def zeD{P:Program}(a it:oN):ziF P w K tg (Itl K a) [it] it (λi h=>h.IsListIter it a i) where
 mem:=by simp
 obj:=λi h st b hb=>by
  have e:b=it:=by simpa using hb
  subst e;have#[o,e,c,d]:=st;show#[o,e,λv z=>by rw[d] at z;cases z]
 keep:=λi h h' st k=>st.at λo e=>k it (by simp) o e
 item:=by
  walk_at "!b";have#[xs,x,hq,hx]:=hg;have#[ah,rv,p,hz]:=I.list hq;have#[u,hu,ru]:=rv.get hx;have#[f0,f1,f2,f3,f4,f5]:=hf it (by simp);show wpAny_pyNext_list_item st p.isList (x:=u) (by simpa using hu) λh' st' sb=> ?_;have I1:Inv X pins σ H {s with heap:=h'}:=I.turned (t':=s.toks) (λb o hb e=>(sb.2 b hb).trans e) f0 f1 f3 f4 f5;have#[o,e,c,d]:=id st';show#[u,rfl,zke (s:={s with heap:=h'}) e c d ∅ #[x,H,I1,ru,#[rfl,λys hy=>by rw[I.list_inj hy hq];show hx],st',λb hb=>(hf b hb).1]]
 done:=by
  walk_at "!b";have#[xs,hq,hx]:=hg;have#[ah,rv,p,hz]:=I.list hq;have#[f0,f1,f2,f3,f4,f5]:=hf it (by simp);have hl:=rv.length;show wpAny_pyNext_list_end (I.ok.hd hc) st p.isList (by simp;omega) λh' eb=>#[rfl,I.turned (t':=s.toks) (λb o hb e=>eb b o hb e) f0 f1 f3 f4 f5]
 self:=λ_ _ _ _ _ st h=>wpAny_pyIter_listiter st h
def zcQ{P:Program}(a it:oN):ziF P w K tg (Itt K a) [it] it (λi h=>h.IsTupleIter it a i) where
 mem:=by simp
 obj:=λi h st b hb=>by
  have e:b=it:=by simpa using hb
  subst e;have#[o,e,c,d]:=st;show#[o,e,λv z=>by rw[d] at z;cases z]
 keep:=λi h h' st k=>st.at λo e=>k it (by simp) o e
 item:=by
  walk_at "!b";have#[xs,x,hq,hx]:=hg;have#[ah,rv,p,hz]:=I.tuple hq;have#[u,hu,ru]:=rv.get hx;have#[f0,f1,f2,f3,f4,f5]:=hf it (by simp);show wpAny_pyNext_tuple_item st (show s.heap.IsTuple a ah.toArray from p) (x:=u) (by simpa using hu) λh' st' sb=> ?_;have I1:Inv X pins σ H {s with heap:=h'}:=I.turned (t':=s.toks) (λb o hb e=>(sb.2 b hb).trans e) f0 f1 f3 f4 f5;have#[o,e,c,d]:=id st';show#[u,rfl,zke (s:={s with heap:=h'}) e c d ∅ #[x,H,I1,ru,#[rfl,λys hy=>by rw[I.tuple_inj hy hq];show hx],st',λb hb=>(hf b hb).1]]
 done:=by
  walk_at "!b";have#[xs,hq,hx]:=hg;have#[ah,rv,p,hz]:=I.tuple hq;have#[f0,f1,f2,f3,f4,f5]:=hf it (by simp);have hl:=rv.length;show wpAny_pyNext_tuple_end (I.ok.hd hc) st (show s.heap.IsTuple a ah.toArray from p) (by simp;omega) λh' eb=>#[rfl,I.turned (t':=s.toks) (λb o hb e=>eb b o hb e) f0 f1 f3 f4 f5]
 self:=λ_ _ _ _ _ st h=>wpAny_pyIter_tupleiter st h
def ziG{P:Program}(it:oN)(lo:Int)(n:Nat):ziF P w K tg (Itr lo n) [it] it (λi h=>IsRangeIter h it (lo+(i:Nat)*1) ((n:Int)-(i:Nat)) 1) where
 mem:=by simp
 obj:=λi h st b hb=>by
  have e:b=it:=by simpa using hb
  subst e
  show#[_,st,λv z=>by
   have z':Data.fields _=Data.cell v:=z
   cases z']
 keep:=λi h h' st k=>k it (by simp) _ st
 item:=by
  walk_at "!b";have#[f0,f1,f2,f3,f4,f5]:=hf it (by simp);have W:=Walks.range (prog:=X.prog) (w:=X.w) (I.ok.hd hc) it lo 1 n;show W.item i s _ _ hg st λv h' tk hv st' kk=> ?_;have#[t,rfl]:=hv;have I1:Inv X pins σ H {s with heap:=h',toks:=tk}:=I.turned (λb o hb e=>kk b o (by simpa using hb) e) f0 f1 f3 f4 f5;show#[_,rfl,zke (s:={s with heap:=h',toks:=tk}) (n:="range_iterator") st' rfl rfl ∅ #[.int (lo+i),H,I1,#[t,?_],#[rfl,rfl],st',λb hb=>(hf b hb).1]];rw[Int.mul_one]
 done:=by
  walk_at "!b";have#[f0,f1,f2,f3,f4,f5]:=hf it (by simp);show wpAny_pyNext_range_end (I.ok.hd hc) st (by have:n<=i:=hg;omega) λh' eb=>#[rfl,I.turned (t':=s.toks) (λb o hb e=>eb b o hb e) f0 f1 f3 f4 f5]
 self:=λ_ _ _ _ _ st h=>wpAny_pyIter_rangeiter st h
section
def zmr(K:uG)(tl:TE):TI:=λσ H R=>tl σ H λx H1=>∃a,x= .ref a/\(∃xs,SqL K H1 a xs)/\R (Itl K a) H1
def zrs(K:uG)(tl:TE):TI:=λσ H R=>tl σ H λx H1=>∃a,x= .ref a/\(∃xs,SqT K H1 a xs)/\R (Itt K a) H1
def zo5(hl:PE X l tl):PI X tg l (zmr X.K tl):=by
 intro pins s σ H R I h;show thn (hl pins s σ H _ I h) ?_;intro v s1 #[x,H1,I1,r1,q1];have#[a,e,#[xs,hq],q]:=q1;subst e;cases r1;have#[ah,rv,p,hz]:=I1.list hq;show Ge p.isList ?_;show#[#v[s1],[#v[s1]],_,_,H1,rfl,I1.kept (t':=s1.toks) λb o e=>Heap.get?_push_of_some _ e,zeD a _,#[_,Heap.get?_push_size _ rfl,rfl,rfl],λb hb=> ?_,q];have e:b=#v[s1]:=by simpa using hb
 subst e;show I1.fpOk (uL _) (I1.hok.fresh (uL _))
def zrt(hl:PE X l tl):PI X tg l (zrs X.K tl):=by
 intro pins s σ H R I h;show thn (hl pins s σ H _ I h) ?_;intro v s1 #[x,H1,I1,r1,q1];have#[a,e,#[xs,hq],q]:=q1;subst e;cases r1;have#[ah,rv,p,hz]:=I1.tuple hq;show wpAny_pyIter_tuple (show s1.heap.IsTuple a ah.toArray from p) ?_;show#[#v[s1],[#v[s1]],_,_,H1,rfl,I1.kept (t':=s1.toks) λb o e=>Heap.get?_push_of_some _ e,zcQ a _,#[_,Heap.get?_push_size _ rfl,rfl,rfl],λb hb=> ?_,q];have e:b=#v[s1]:=by simpa using hb
 subst e;show I1.fpOk (uL _) (I1.hok.fresh (uL _))
def zms{R:It->Hp->Prop}{lo hi:Int}{t u v:Tok}{tk:Nat}(I:Inv X pins σ H s)(h1: -(2^62)<=lo)(h2:lo<2^62)(h3: -(2^62)<=hi)(h4:hi<2^62)
  (q:R (Itr lo (hi-lo).toNat) H):wpAny (model X.prog X.w) X.A (pyIter (.ref #v[s])) (PIE X pins σ tg R) E {s with heap:=s.heap.push {cls:= .type "range",data:= .fields [.int lo t,.int hi u,.int 1 v].toArray},toks:=tk}:=by
 show wpAny_pyIter_range (IsRange.new ..) (small_one h1 h2 h3 h4) ?_;have I1:Inv X pins σ H {s with heap:=s.heap.push {cls:= .type "range",data:= .fields [.int lo t,.int hi u,.int 1 v].toArray},toks:=tk}:=I.kept λb o e=>Heap.get?_push_of_some _ e
 show#[(s.heap.push {cls:= .type "range",data:= .fields [.int lo t,.int hi u,.int 1 v].toArray}).objs.size,[(s.heap.push {cls:= .type "range",data:= .fields [.int lo t,.int hi u,.int 1 v].toArray}).objs.size],_,_,H,rfl,
  I1.kept (t':=tk) λb o e=>Heap.get?_push_of_some _ e,ziG _ lo (hi-lo).toNat,?_,λb hb=> ?_,q]
 .have e1:lo+((0:Nat):Int)*1=lo:=by simp
  have e2:(((hi-lo).toNat:Nat):Int)-((0:Nat):Int)=Builtin.Range.rangeSize lo hi 1:=by rw[rangeSize_one];split<;>omega
  change IsRangeIter _ _ (lo+((0:Nat):Int)*1) ((((hi-lo).toNat:Nat):Int)-((0:Nat):Int)) 1;rw[e1,e2];show Heap.get?_push_size _ rfl
 have e:b=(s.heap.push {cls:= .type "range",data:= .fields [.int lo t,.int hi u,.int 1 v].toArray}).objs.size:=by simpa using hb
 subst e;show I1.fpOk (uL _) (I1.hok.fresh (uL _))
def zqS(ta:TA):TI:=λσ H R=>ta σ H λvs H1=>∃j:Int,vs=[.int j]/\ -(2^62)<=j/\j<2^62/\R (Itr 0 j.toNat) H1
def yD(hg:Gl X "range")(hm:X.mg "range"=fX)(ha:PA X [a] ta)(hs:FD [a] X.env=[(kb,eval a X.env)]:=by rfl):PI X tg (.Call (.Name "range" p) [a] [] pos) (zqS ta):=by
 intro pins s σ H R I h;show Call_ (Ud I hg hm boot_range (Ax (thn (ha pos pins s σ H _ I h) ?_) hs rfl));intro us s1 #[vs,H1,I1,r1,q1];have#[j,e,q1,q2,q]:=q1;subst e;cases r1 with
 |cons r rr=>
  cases rr;have#[t,rfl]:=r;show call_range_1 (zms I1 ⋯ ⋯ q1 q2 (by simpa using q))
def zs7(wi:TI)(g:TG)(tb:TS):TS:=λD σ H=>wi σ H λJ H1=>∃W:Nat->Nat->St->Hp->Prop,(∃m,W 0 m σ H1)/\∀i m σ H,W i m σ H->
 (J.stop i H/\D.nx σ H)\/(J.go i H/\∃N:St->Hp->Prop,(∀σ' H',N σ' H'->∃m',m'<m/\W (i+1) m' σ' H')/\∀x H',J.yld i H x H'->g x σ H' λσ2 H2=>tb {D with nx:=N,ct:=N,bk:=D.nx} σ2 H2)
noncomputable def zcR(fp:kh oN)(h:Heap):kh (oN×Obj):=fp.filterMap λb=>(h.get? b).map λo=>(b,o)
def WV(hb:b∈fp)(e:h.get? b=eO o):(b,o)∈zcR fp h:=Eh.mpr #[b,hb,by rw[e];rfl]
def zlm(hp:p∈zcR fp h):p.1∈fp/\h.get? p.1=eO p.2:=by
 have#[b,hb,e]:=Eh.mp hp;cases q:h.get? b with
 |none=>rw[q] at e;cases e
 |some o=>
  rw[q] at e;have e':(b,o)=p:=y9 e;subst e';show#[hb,q]
def Inv.pinned(I:Inv X pins σ H s)(hf:∀b∈fp,zd3 X pins H b)(ho:∀b∈fp,∃o,s.heap.get? b=eO o/\∀v,o.data≠ .cell v):Inv X (pins++zcR fp s.heap) σ H s:=
 I.pins_of λp hp=>(AX.mp hp).elim (λz=>I.pin p (A9 _ z)) λz=>by
  have#[hb,e]:=zlm z;have#[f0,f1,f2,_]:=hf p.1 hb;have#[o,e',d]:=ho p.1 hb;rw[e] at e';cases e';show#[e,f0,f1,f2,d]
def Inv.unpinned(I:Inv X (pins++pl) σ H s):Inv X pins σ H s:=I.pins_of λp hp=>I.pin p (A9 _ (Ct _ hp))
def zru(hp:PassesOwn (model X.prog X.w) X.A X.env X.xe)(hc:X.calm=gP)(hi:PI X tg iter wi)(hg:PG X tg g)(hb:PSs X body tb)
  (hs:∀x,foldedSetIterable iter X.env x=pure x:=by intro _;rfl):PS X (.For tg iter body [] pos) (zs7 wi g tb):=by
 intro pins s σ H D I h;show wpAny_For (thn (hi pins s σ H _ I h) λv s1 h1=>thn h1 λmN s2 h2=> ?_) hs;have#[it,fp,tn,J,H2,e,I2,T,kq,f2,W,#[m0,w0],turn]:=h2;subst e;have stat:∀{H':Hp},(∀b∈fp,H' b=fX)->∀b∈fp,zd3 X pins H' b:=λhn b hb=>#[hn b hb,(f2 b hb).2];show codeAny_forLoop_any (λn s'=>∃i σ' H',Inv X pins σ' H' s'/\tn i s'.heap/\(∀b∈fp,H' b=fX)/\W i n σ' H') ?_ m0 #[0,σ,H2,I2,kq,λb hb=>(f2 b hb).1,w0];intro n s3 #[i,σ3,H3,I3,ko,lx,w3];rcases turn i n σ3 H3 w3 with⟨stop,qn⟩|⟨go,N,hN,step⟩
 .show Gf hp (thn (T.done X rfl rfl rfl hc i pins s3 σ3 H3 X.xe I3 (stat lx) ko stop) λr s4 ⟨hr,I4⟩=> ?_);subst hr;show wpAny_execs_nil #[σ3,H3,I4,qn]
 show Gf hp (thn (T.item X rfl rfl rfl hc i pins s3 σ3 H3 X.xe I3 (stat lx) ko go) λr s4 ⟨u,hr,h4⟩=> ?_);subst hr;show Gf hp (thn h4 ?_);intro _ s5 #[x,H5,I5,r5,y5,jk,ou];have I5':=I5.pinned (stat ou) (T.obj _ _ jk);show Gf hp (thn (hg _ s5 σ3 H5 x u _ I5' r5 (step x H5 y5)) ?_);intro _ s6 #[σ6,H6,I6,q6];show Gf hp (thn (hb _ s6 σ6 H6 _ I6 q6) λf s7 q7=> ?_);have again:∀{σ7:St} {H7:Hp},Inv X (pins++zcR fp s5.heap) σ7 H7 s7->N σ7 H7->∃m,m<n/\∃i σ' H',Inv X pins σ' H' s7/\tn i s7.heap/\(∀b∈fp,H' b=fX)/\W i m σ' H':=λ{σ7 H7} I7 n7=>by
  have#[m',hm,w7]:=hN σ7 H7 n7;show#[m',hm,i+1,σ7,H7,I7.unpinned,T.keep _ _ _ jk λb hb o e=>(I7.pin (b,o) (A9 _ (A9 _ (WV hb e)))).1,λb hb=> ?_,w7];have#[o,e,d]:=T.obj _ _ jk b hb;show(I7.pin (b,o) (A9 _ (A9 _ (WV hb e)))).2.1
 cases f with
 |next=>have#[σ7,H7,I7,n7]:=q7;show again I7 n7
 |cont=>have#[σ7,H7,I7,n7]:=q7;show again I7 n7
 |brk=>have#[σ7,H7,I7,q7]:=q7;show#[σ7,H7,I7.unpinned,q7]
 |ret v=>have#[x7,σ7,H7,I7,r7,q7]:=q7;show#[x7,σ7,H7,I7.unpinned,r7,q7]
end
abbrev R2:=V->V->Hp->VK->Prop
def OpR(X:Cx)(f:oJ->oJ->Sem oJ)(r:R2):Prop:=
 ∀(pins:kh (oN×Obj)) (s:oM) (σ:St) (H:Hp) (x y:V) (v u:oJ) (Q:VK),Inv X pins σ H s->yp x v->yp y u->r x y H Q->
  wpAny (model X.prog X.w) X.A (f v u) (EP X pins σ Q) X.xe s
def UnR(X:Cx)(f:oJ->Sem oJ)(r:V->Hp->VK->Prop):Prop:=
 ∀(pins:kh (oN×Obj)) (s:oM) (σ:St) (H:Hp) (x:V) (v:oJ) (Q:VK),Inv X pins σ H s->yp x v->r x H Q->
  wpAny (model X.prog X.w) X.A (f v) (EP X pins σ Q) X.xe s
def vT(X:Cx)(f:oJ)(r:kh V->Hp->VK->Prop):Prop:=
 ∀(pins:kh (oN×Obj)) (s:oM) (σ:St) (H:Hp) (xs:kh V) (us:kh oJ) (Q:VK),Inv X pins σ H s->yk xs us->r xs H Q->
  wpAny (model X.prog X.w) X.A (call f us) (EP X pins σ Q) X.xe s
def tOp(r:R2)(ta tb:TE):TE:=λσ H Q=>ta σ H λx H1=>tb σ H1 λy H2=>r x y H2 Q
def tUn(r:V->Hp->VK->Prop)(ta:TE):TE:=λσ H Q=>ta σ H λx H1=>r x H1 Q
def rI(C:Int->Int->Prop)(g:Int->Int->V):R2:=λx y H Q=>∃i j,x= .int i/\y= .int j/\C i j/\Q (g i j) H
def rI0(g:Int->Int->V):R2:=λx y H Q=>∃i j,x= .int i/\y= .int j/\Q (g i j) H
def rU(g:Int->V):V->Hp->VK->Prop:=λx H Q=>∃i,x= .int i/\Q (g i) H
section
def zrv(ha:PE X a ta)(hb:PE X b tb){R:V->V->Hp->Prop}(I:Inv X pins σ H s)
  (h:ta σ H λx H1=>tb σ H1 λy H2=>R x y H2) {f:oJ->oJ->Sem oJ}
  (hf:∀v u s2 x y H2,Inv X pins σ H2 s2->yp x v->yp y u->R x y H2->wpAny (model X.prog X.w) X.A (f v u) Q X.xe s2):
  wpAny (model X.prog X.w) X.A (eval a X.env) (λv s₁=>wpAny (model X.prog X.w) X.A (eval b X.env) (λu s₂=>wpAny (model X.prog X.w) X.A (f v u) Q X.xe s₂) X.xe s₁) X.xe s:=by
 show thn (ha pins s σ H _ I h) ?_;intro v s1 #[x,H1,I1,r1,q1];show thn (hb pins s1 σ H1 _ I1 q1) ?_;intro u s2 #[y,H2,I2,r2,q2];show hf v u s2 x y H2 I2 r1 r2 q2
def zL(ho:OpR X (Gj op) r)(ha:PE X a ta)(hb:PE X b tb):PE X (.BinOp a op b pos) (tOp r ta tb):=by
 intro pins s σ H Q I h;show wpAny_BinOp (zrv ha hb I h λv u s2 x y H2 I2 rx ry q=>ho pins s2 σ H2 x y v u Q I2 rx ry q)
def zs8{r:V->Hp->VK->Prop}(ho:UnR X (unaryOp op) r)(ha:PE X a ta):PE X (.UnaryOp op a pos) (tUn r ta):=by
 intro pins s σ H Q I h;show UnaryOp_ (thn (ha pins s σ H _ I h) ?_);intro v s1 #[x,H1,I1,r1,q1];show ho pins s1 σ H1 x v Q I1 r1 q1
def opI{f:oJ->oJ->Sem oJ}{C:Int->Int->Prop}{g:Int->Int->Int}
  (rule:∀(i j:Int) (t u:Tok) (s:oM) (Q:oJ->oM->Prop) (E:oJ->oM->Prop),C i j->Q (.int (g i j) s.toks) {s with toks:=s.toks+1}->wpAny (model X.prog X.w) X.A (f (.int i t) (.int j u)) Q E s):
  OpR X f (rI C λi j=> .int (g i j)):=by
 intro pins s σ H x y v u Q I rx ry h;have#[i,j,rfl,rfl,hc,q]:=h;have#[t,rfl]:=rx;have#[t',rfl]:=ry;show rule i j t t' s _ _ hc #[.int (g i j),H,I.tok _,#[_,rfl],q]
def zs9{f:oJ->oJ->Sem oJ}{g:Int->Int->Int}
  (rule:∀(i j:Int) (t u:Tok) (s:oM) (Q:oJ->oM->Prop) (E:oJ->oM->Prop),Q (.int (g i j) s.toks) {s with toks:=s.toks+1}->wpAny (model X.prog X.w) X.A (f (.int i t) (.int j u)) Q E s):
  OpR X f (rI0 λi j=> .int (g i j)):=by
 intro pins s σ H x y v u Q I rx ry h;have#[i,j,rfl,rfl,q]:=h;have#[t,rfl]:=rx;have#[t',rfl]:=ry;show rule i j t t' s _ _ #[.int (g i j),H,I.tok _,#[_,rfl],q]
def zrw(i j:Int):Prop:=0<j/\j<1073741824
def zrx(i j:Int):Prop:=0<=j/\j<=1000000/\i.natAbs<2^64
def zmt(i j:Int):Prop:=(-(2^64)<i/\i<2^64)\/(-(2^64)<j/\j<2^64)
def zmt.ok(h:zmt i j):IntMulOk i j:=by
 rcases h with⟨h1,h2⟩|⟨h1,h2⟩
 .show .of_left (intBits_le_64 h1 h2)
 show .of_right (intBits_le_64 h1 h2)
def xF:OpR X (Gj .Add) (rI0 λi j=> .int (i+j)):=zs9 λ_ _ _ _ _ _ _ q=>add_int q
def zad:OpR X (Gj .Sub) (rI0 λi j=> .int (i-j)):=zs9 λ_ _ _ _ _ _ _ q=>sub_int q
def ziH:OpR X (Gj .Mult) (rI zmt λi j=> .int (i*j)):=opI λ_ _ _ _ _ _ _ hc q=>mul_int q hc.ok
def zcJ:OpR X (Gj .FloorDiv) (rI zrw λi j=> .int (i / j)):=opI λi j _ _ _ _ _ hc q=>by
 have h1:(0:Int)<j:=hc.1;have h2:j<1073741824:=hc.2;show floordiv_int ⋯ (by rw[AF i ⋯];show q) (.inl (PyProof.noPylong_small ⋯))
def vo:OpR X (Gj .Mod) (rI (λ_ j=>0<j) λi j=> .int (i % j)):=opI λi j _ _ _ _ _ hc q=>by
 have h1:(0:Int)<j:=hc;show mod_int' ⋯ (by rw[Int.fmod_eq_emod_of_nonneg i ⋯];show q)
def zby:OpR X (Gj .Pow) (rI zrx λi j=> .int (i^j.toNat)):=opI λ_ _ _ _ _ _ _ hc q=>pow_int_small hc.1 hc.2.1 hc.2.2 q
def unI{f:oJ->Sem oJ}{g:Int->Int}
  (rule:∀(i:Int) (t:Tok) (s:oM) (Q:oJ->oM->Prop) (E:oJ->oM->Prop),Q (.int (g i) s.toks) {s with toks:=s.toks+1}->wpAny (model X.prog X.w) X.A (f (.int i t)) Q E s):
  UnR X f (rU λi=> .int (g i)):=by
 intro pins s σ H x v Q I rx h;have#[i,rfl,q]:=h;have#[t,rfl]:=rx;show rule i t s _ _ #[.int (g i),H,I.tok _,#[_,rfl],q]
def zry:UnR X (unaryOp .USub) (rU λi=> .int (-i)):=unI λ_ _ _ _ _ q=>neg_int q
end
noncomputable def zta:V->V->Bool
 | .non,.non=>gP| .non,.int _=>gP| .int _,.non=>gP| .non,.bl _=>gP| .bl _,.non=>gP| .non,.str _=>gP| .str _,.non=>gP
 | .int _,.int _=>gP| .bl _,.bl _=>gP| .str _,.str _=>gP| .byt _,.byt _=>gP
 | .int _,.str _=>gP| .str _,.int _=>gP| .bl _,.str _=>gP| .str _,.bl _=>gP
 |_,_=>kb
def rEq:R2:=λx y H Q=>zta x y=gP/\Q (.bl (decide (x=y))) H
def rNe:R2:=λx y H Q=>zta x y=gP/\Q (.bl (!decide (x=y))) H
def zkf:decide (V.int i=V.int j)=(i==j):=by
 rw[Av];simp
def zmu:decide (V.bl i=V.bl j)=(i==j):=by
 rw[Av];simp
def zkg:decide (V.str i=V.str j)=(i==j):=by
 rw[Av];simp
def zkh:decide (V.byt i=V.byt j)=(i.toList==j.toList):=by
 rw[Av];cases i;cases j;simp
section
def yP{Q:VK}(I:Inv X pins σ H s)(q:Q (.bl k) H)(e:k=k'):EP X pins σ Q (.bool k') s:=by
 subst e;show#[.bl k,H,I,rfl,q]
def yE:OpR X (Gq .Eq) rEq:=by
 intro pins s σ H x y v u Q I rx ry h;have#[hs,q]:=h;cases x with
 |non=>
  cases rx;cases y with
  |non=>cases ry;show PySem.EqNone.eq_none_none (yP I q (by simp))
  |bl j=>cases ry;show PySem.EqNone.eq_none_bool (yP I q (by simp))
  |int j=>have#[t',rfl]:=ry;show PySem.EqNone.eq_none_int (yP I q (by simp))
  |str j=>have#[t',rfl]:=ry;show PySem.EqNone.eq_none_str (yP I q (by simp))
  |_=>show absurd (show kb=gP from hs) y3
 |bl i=>
  cases rx;cases y with
  |non=>cases ry;show PySem.EqNone.eq_bool_none (yP I q (by simp))
  |bl j=>cases ry;show eq_bool (yP I q zmu)
  |str j=>have#[t',rfl]:=ry;show Fg (yP I q (by simp))
  |_=>show absurd (show kb=gP from hs) y3
 |int i=>
  have#[t,rfl]:=rx;cases y with
  |non=>cases ry;show PySem.EqNone.eq_int_none (yP I q (by simp))
  |int j=>have#[t',rfl]:=ry;show eq_int (yP I q zkf)
  |str j=>have#[t',rfl]:=ry;show Fp (yP I q (by simp))
  |_=>show absurd (show kb=gP from hs) y3
 |str i=>
  have#[t,rfl]:=rx;cases y with
  |non=>cases ry;show PySem.EqNone.eq_str_none (yP I q (by simp))
  |bl j=>cases ry;show Fh (yP I q (by simp))
  |int j=>have#[t',rfl]:=ry;show Fq (yP I q (by simp))
  |str j=>have#[t',rfl]:=ry;show eq_str (yP I q zkg)
  |_=>show absurd (show kb=gP from hs) y3
 |byt i=>
  have#[t,rfl]:=rx;cases y with
  |byt j=>have#[t',rfl]:=ry;show PySem.W.eq_bytes (yP I q zkh)
  |_=>show absurd (show kb=gP from hs) y3
 |_=>cases y<;>show absurd (show kb=gP from hs) y3
def ztb:OpR X (Gq .NotEq) rNe:=by
 intro pins s σ H x y v u Q I rx ry h;have#[hs,q]:=h;cases x with
 |non=>
  cases rx;cases y with
  |non=>cases ry;show PySem.EqNone.ne_none_none (yP I q (by simp))
  |bl j=>cases ry;show PySem.EqNone.ne_none_bool (yP I q (by simp))
  |int j=>have#[t',rfl]:=ry;show PySem.EqNone.ne_none_int (yP I q (by simp))
  |str j=>have#[t',rfl]:=ry;show PySem.EqNone.ne_none_str (yP I q (by simp))
  |_=>show absurd (show kb=gP from hs) y3
 |bl i=>
  cases rx;cases y with
  |non=>cases ry;show PySem.EqNone.ne_bool_none (yP I q (by simp))
  |bl j=>cases ry;show ne_bool (yP I q (congrArg not zmu))
  |str j=>have#[t',rfl]:=ry;show Fj (yP I q (by simp))
  |_=>show absurd (show kb=gP from hs) y3
 |int i=>
  have#[t,rfl]:=rx;cases y with
  |non=>cases ry;show PySem.EqNone.ne_int_none (yP I q (by simp))
  |int j=>have#[t',rfl]:=ry;show ne_int (yP I q (congrArg not zkf))
  |str j=>have#[t',rfl]:=ry;show Fs (yP I q (by simp))
  |_=>show absurd (show kb=gP from hs) y3
 |str i=>
  have#[t,rfl]:=rx;cases y with
  |non=>cases ry;show PySem.EqNone.ne_str_none (yP I q (by simp))
  |bl j=>cases ry;show Fk (yP I q (by simp))
  |int j=>have#[t',rfl]:=ry;show Ft (yP I q (by simp))
  |str j=>have#[t',rfl]:=ry;show ne_str (yP I q (congrArg not zkg))
  |_=>show absurd (show kb=gP from hs) y3
 |byt i=>
  have#[t,rfl]:=rx;cases y with
  |byt j=>have#[t',rfl]:=ry;show PySem.W.ne_bytes (yP I q (congrArg not zkh))
  |_=>show absurd (show kb=gP from hs) y3
 |_=>cases y<;>show absurd (show kb=gP from hs) y3
def zcK(ho:OpR X (Gq op) r)(ha:PE X a ta)(hb:PE X b tb)(hm:behindInMarks op b=kb):PE X (.Compare a [op] [b] pos) (tOp r ta tb):=by
 intro pins s σ H Q I h;show wpAny_Compare1 (zrv ha hb I h λv u s2 x y H2 I2 rx ry q=>ho pins s2 σ H2 x y v u Q I2 rx ry q) hm
def zqT(t:TE):TT:=λσ H Q=>t σ H λx H'=>∃k,x= .bl k/\Q k H'
def zX(ho:OpR X (Gq op) r)(ha:PE X a ta)(hb:PE X b tb)(hm:behindInMarks op b=kb):PT X (.Compare a [op] [b] pos) (zqT (tOp r ta tb)):=by
 intro pins s σ H Q I h
 show wpAny_isTrue_Compare1 (thn (ha pins s σ H _ I h) λv s1 ⟨x,H1,I1,r1,q1⟩=>thn (hb pins s1 σ H1 _ I1 q1) λu s2 ⟨y,H2,I2,r2,q2⟩=>
  thn (ho pins s2 σ H2 x y v u _ I2 r1 r2 q2) λc s3 ⟨z,H3,I3,r3,k,e,q3⟩=> ?_) hm
 subst e;cases r3;show Gd #[H3,I3,q3]
def Uh:(FC:Nat)<2^63:=by rw[sizeLine_eq];decide
def zae:OpR X (Gj .Add) (λx y H Q=>∃i j,x= .str i/\y= .str j/\i.length+j.length<=FC/\Q (.str (i++j)) H):=by
 intro pins s σ H x y v u Q I rx ry h;have#[i,j,rfl,rfl,hz,q]:=h;have#[t,rfl]:=rx;have#[t',rfl]:=ry;show add_str (λt' tk=>#[.str (i++j),H,I.tok _,#[_,rfl],q]) hz
def VN(r:yk [x] us):∃u,us=[u]/\yp x u:=by
 cases r with
 |cons r1 r2=>cases r2;show#[_,rfl,r1]
def zki(r:yk [x,y] us):∃u w',us=[u,w']/\yp x u/\yp y w':=by
 cases r with
 |cons r1 r2=>
  cases r2 with
  |cons r3 r4=>cases r4;show#[_,_,rfl,r1,r3]
def zcS:vT X (.builtin "abs") (λxs H Q=>∃i,xs=[.int i]/\Q (.int (if i<0 then -i else i)) H):=by
 intro pins s σ H xs us Q I r h;have#[i,rfl,q]:=h;have#[u,rfl,t,rfl]:=VN r;show call_abs_int λu tk=>#[.int (if i<0 then -i else i),H,I.tok _,#[_,rfl],q]
def zln(hc:X.calm=gP):vT X (.builtin "max") (λxs H Q=>∃i j,xs=[.int i,.int j]/\Q (.int (if j>i then j else i)) H):=by
 intro pins s σ H xs us Q I r h;have#[i,j,rfl,q]:=h;have#[u,w',rfl,#[t,rfl],#[t',rfl]]:=zki r;show max_two_ints (I.ok.hd hc) λh' tk k=>#[_,H,I.kept k,?_,q];by_cases hj:j>i;rw[Gv hj,Gv hj];show#[_,rfl];rw[Gw hj,Gw hj];show#[_,rfl]
def zlo(hc:X.calm=gP):vT X (.builtin "min") (λxs H Q=>∃i j,xs=[.int i,.int j]/\Q (.int (if j<i then j else i)) H):=by
 intro pins s σ H xs us Q I r h;have#[i,j,rfl,q]:=h;have#[u,w',rfl,#[t,rfl],#[t',rfl]]:=zki r;show min_two_ints (I.ok.hd hc) λh' tk k=>#[_,H,I.kept k,?_,q];by_cases hj:j<i;rw[Gv hj,Gv hj];show#[_,rfl];rw[Gw hj,Gw hj];show#[_,rfl]
end
structure ziI(h:Heap)(x dx C:oN)(mA:Str->mw oJ):Prop where
 obj:h.get? x=eO (B8 C dx)
 ns:h.Ns1 dx mA
 ne:dx≠x
set_option tactic.hygienic true in
def zlp{h:Heap}{dx:oN}{mA:Str->mw oJ}(n:h.Ns1 dx mA):∃od,h.get? dx=eO od/\∀name,CJ name od=eO (mA name):=by
 have#[o,es,ep,ho,hd,hk,_,hm]:=n;show#[o,ho,λname=> ?_];have e:=hm name;unfold nsFind findBy at e;rw[<-Array.find?_toList] at e;unfold CJ;rw[hd];dsimp only;split;rename_i y q;rw[q] at e;show congrArg eO e
 rename_i q;rw[q] at e;have a:es.toList.any (·.refKey)=kb:=by
  rw[EA];intro y hy;have#[z,t,nK]:=hk y (Array.mem_toList_iff.mp hy);simp[DictEntry.refKey,nK]
 have a':¬es.toList.any (·.refKey)=gP:=by rw[a];show y3
 rw[Gw a'];show congrArg eO e
def ziI.look{mA:Str->mw oJ}(I:ziI h x dx C mA):∃od,CK h x (B8 C dx) C (eO od)/\∀name,CJ name od=eO (mA name):=
 let ⟨od,ho,hl⟩:=zlp I.ns
 #[od,#[I.obj,rfl,rfl,ho],hl]
section
variable{mA:Str->mw oJ}
def zo6(X:K.In s.heap)(I:ziI s.heap x dx C mA)(hg:BQ K C name=gP)(hh:C9 K C=gP)
  (ha:x5 K (.ref C) name=eO fX) (hv:mA name=eO v) (rE:EG v=gP) (h:Q v {s with toks:=s.toks+1}):
  wpAny (model prog w) A (getAttr (.ref x) name expr) Q E s:=by
 have#[od,J,hl]:=I.look;show PySem.W.get_value X J (CF hg).1 (PySem.W.findObj_own hh ha rfl (by rw[hl,hv])) rE h
def zmv{Q:oJ×kh oJ->oM->Prop}(X:K.In s.heap)(I:ziI s.heap x dx C mA)(hg:BQ K C name=gP)
  (hf:x5 K (.ref C) name=eO (eO (.ref f))) (ht:Cw K (.ref f)=gP) (hv:mA name=fX) (h:Q (.ref f,[.ref x]) s):
  wpAny (model prog w) A (getMethod (.ref x) name pl) Q E s:=by
 have#[od,J,hl]:=I.look;show PySem.W.method_fn X J (CF hg).1 (CF hg).2 hf (beq_iff_eq.mp ht) (by change(CJ name od).map (·.isSome)=eO kb;rw[hl,hv];rfl) h
def zo7{Q:Unit->oM->Prop}(X:K.In s.heap)(I:ziI s.heap x dx C mA)
  (hs:x5 K (.ref C) "__setattr__"=eO (eO (.builtin "object.__setattr__"))) (hp:D7 K C=gP) (ht:Dy K C name=eO fX) (hh:C9 K C=gP)
  (hw:Eg mA ns) (hsz:ns.length<=FC)
  (h:∀h',ziI h' x dx C (λy=>if y=name then eO v else mA y)->Heap.SameBut dx s.heap h'->Q () {s with heap:=h',toks:=s.toks+2}):
  wpAny (model prog w) A (setAttr (.ref x) name v) Q E s:=by
 have#[od,J,hl]:=I.look;show PySem.W.set_plain X J hs (PySem.W.osa_open (s:={s with toks:=s.toks+1}) (r:=fX) X J hp ht λb=> ?_);have#[cd,hc,gM]:=PySem.W.any_some hh;have hx:s.heap.get? x=eO #[.ref C,eO dx,.plain,[].toArray]:=I.obj;show qx (qH (qx (qx (wpAny_loadPart hx (qx (FA (s:={s with toks:=s.toks+1}) (PySem.W.looks_clsIn X hc) ?_))))));rw[gM];show qH (a:=eO dx) (qx (qH (qx ?_)));show wpAny_nsSet1 (s:={s with toks:=s.toks+1}) I.ns λh' eZ gi=> ?_;have#[oD,uC,uD,rZ,sO,sR]:=eZ.count (PySem.Within.cons name v hw);show qx (wpAny_lookBehind rZ (by rw[sO];show pastItsLine_dict (uP sR (by rw[uW];omega))) ?_);show qH (h _ #[(gi.2 _ (B3 I.ne)).trans I.obj,eZ,I.ne] gi)
def zmw{R:Result->oM->Prop}(X:K.In s.heap)(hm:Dz K C=gP)
  (hi:x5 K (.ref C) "__init__"=eO (eO (.ref f))) (hf:Bv K (.ref f)=eO (.type "function"))
  (h:codeAny (model prog w) (A.under (.builtin "type.__call__" #[.ref C::vs,kw])) (.call (.ref f) #[.ref (#v[s]+1)::vs,kw]) (PySem.W.InitBack (#v[s]+1) R)
   {s with heap:=(s.heap.push AI).push (B8 C #v[s])}):
  codeAny (model prog w) A (.call (.ref C) #[vs,kw]) R s:=by
 have#[hh,g,d,t,os]:=s;show PySem.W.make_core (PySem.W.makes_of X hm) (Cy X hi) (λself=>PySem.W.bind_fn X self hf) (.inl rfl) h
end
noncomputable def WW(f:Str)(v:V):kh (Str×V)->kh (Str×V)
 |[]=>[(f,v)]
 |(g,x)::r=>if g=f then (g,v)::r else (g,x)::WW f v r
theorem zb4(f g:Str)(v:V):∀fs:kh (Str×V),(WW f v fs).lookup g=if g=f then eO v else fs.lookup g
 |[]=>by
  change Bm g [(f,v)]=_;by_cases h:g=f;have hb:(g==f)=gP:=beq_iff_eq.mpr h;simp only[Bm,hb,Gv h];have hb:(g==f)=kb:=beq_eq_false_iff_ne.mpr h;simp only[Bm,hb,Gw h]
 |(k,x)::r=>by
  have ih:=zb4 f g v r;rw[show WW f v ((k,x)::r)=(if k=f then (k,v)::r else (k,x)::WW f v r) from rfl];by_cases hk:k=f;rw[Gv hk];by_cases h:g=k;have hb:(g==k)=gP:=beq_iff_eq.mpr h;simp only[Bm,hb,Gv (h.trans hk)];have hb:(g==k)=kb:=beq_eq_false_iff_ne.mpr h;simp only[Bm,hb,Gw (λe:g=f=>h (e.trans hk.symm))];rw[Gw hk];by_cases h:g=k;have hb:(g==k)=gP:=beq_iff_eq.mpr h;simp only[Bm,hb,Gw (λe:g=f=>hk (h.symm.trans e))];have hb:(g==k)=kb:=beq_eq_false_iff_ne.mpr h;simp only[Bm,hb];show ih
theorem zbz(f:Str)(v:V):∀fs:kh (Str×V),f∈(WW f v fs).map (·.1)/\∀g,g∈fs.map (·.1)->g∈(WW f v fs).map (·.1)
 |[]=>#[by simp[WW],λg h=>by simp at h]
 |(k,x)::r=>by
  have#[i1,i2]:=zbz f v r;rw[show WW f v ((k,x)::r)=(if k=f then (k,v)::r else (k,x)::WW f v r) from rfl];by_cases hk:k=f;rw[Gv hk];subst hk;show#[by simp,λg h=>by simpa using h];rw[Gw hk];show#[?_,λg h=> ?_];rw[y4];show uR _ i1;rw[y4] at h ⊢;rcases uU.mp h with e|e;show uU.mpr (.inl e);show uR _ (i2 g e)
theorem zb5(f:Str)(v:V):∀fs:kh (Str×V),(WW f v fs).length<=fs.length+1
 |[]=>by simp[WW]
 |(k,x)::r=>by
  have ih:=zb5 f v r;rw[show WW f v ((k,x)::r)=(if k=f then (k,v)::r else (k,x)::WW f v r) from rfl];by_cases hk:k=f;rw[Gv hk,uW,uW];omega;rw[Gw hk,uW,uW];omega
def WT.some_of(r:WT (eO v) o):∃u,o=eO u/\yp v u:=by
 cases o with
 |none=>show(show False from r).elim
 |some u=>show#[u,rfl,r]
def WT.none_of(r:WT fX o):o=fX:=by
 cases o with
 |none=>rfl
 |some u=>show(show False from r).elim
def zlq(r:yp v u):EG u=gP:=by
 cases v with
 |non=>cases (show u=Value.none from r);rfl
 |bl b=>cases (show u=Value.bool b from r);rfl
 |int i=>have#[t,e]:=(show ∃t,u=Value.int i t from r);cases e;rfl
 |str x=>have#[t,e]:=(show ∃t,u=Value.str x t from r);cases e;rfl
 |byt b=>have#[t,e]:=(show ∃t,u=Value.bytes b t from r);cases e;rfl
 |flt b=>have#[t,e]:=(show ∃t,u=Value.float b t from r);cases e;rfl
 |ref a=>cases (show u=Value.ref a from r);rfl
 |ty n=>cases (show u=Value.type n from r);rfl
section
variable{P:Program}
def zcL(hok:HOk P w H h)(e:H a=eO (.ins C dx fs)):∃mA,ziI h a dx C mA/\(∀f,WT (fs.lookup f) (mA f))/\Eg mA (fs.map (·.1))/\fs.length<=1000/\H dx=eO (.own a):=by
 have#[d,z,ne,ob,mA,n,r,q]:=(show yW P w H h a (.ins C dx fs) from hok a _ e);show#[mA,#[ob,n,ne],r,q,z,d]
end
structure Cls(K:uG)(C:oN):Prop where
 pg:BQ K C Str.empty=gP
 hd:C9 K C=gP
 po:D7 K C=gP
 sa:x5 K (.ref C) "__setattr__"=eO (eO (.builtin "object.__setattr__"))
def Cls.get(c:Cls K C)(f:Str):BQ K C f=gP:=c.pg
def YK(K:uG)(C:oN)(f:Str):Prop:=x5 K (.ref C) f=eO fX
def YK.taker(n:YK K C f):Dy K C f=eO fX:=by
 unfold Dy;rw[show x5 K (.ref C) f=eO fX from n];rfl
structure zrz(K:uG)(C:oN)(m:Str)(f:oN):Prop where
 at_:x5 K (.ref C) m=eO (eO (.ref f))
 fn:Cw K (.ref f)=gP
 kp:Bf K (.ref f)=gP
section
def ziJ(I:Inv X pins σ H s)(e:H a=eO (.ins C dx fs))(c:Cls X.K C)(n:YK X.K C f)(l:fs.lookup f=eO v)
  (h:∀u s',Inv X pins σ H s'->yp v u->Q u s'):wpAny (model X.prog X.w) A (getAttr (.ref a) f b) Q E s:=by
 have#[mA,O,r,_,_,_]:=zcL I.hok e;have#[u,hu,ru]:=WT.some_of (v:=v) (o:=mA f) (by rw[<-l];show r f);show zo6 I.kIn O (c.get f) c.hd n hu (zlq ru) (h u _ (I.tok _) ru)
def ziK{Q:oJ×kh oJ->oM->Prop}(I:Inv X pins σ H s)(e:H a=eO (.ins C dx fs))(c:Cls X.K C)(k:zrz X.K C m g)(l:fs.lookup m=fX)
  (h:Q (.ref g,[.ref a]) s):wpAny (model X.prog X.w) A (getMethod (.ref a) m pl) Q E s:=by
 have#[mA,O,r,_,_,_]:=zcL I.hok e;have hn:mA m=fX:=WT.none_of (by rw[<-l];show r m);show zmv I.kIn O (c.get m) k.at_ k.fn hn h
def ziL{Q:Unit->oM->Prop}(I:Inv X pins σ H s)(e:H a=eO (.ins C dx fs))(c:Cls X.K C)(n:YK X.K C f)(hl:fs.length<1000)(ry:yp y u)
  (h:∀s',Inv X pins σ (upd H a (.ins C dx (WW f y fs))) s'->Q () s'):wpAny (model X.prog X.w) A (setAttr (.ref a) f u) Q E s:=by
 have#[mA,O,r,wi,_,ho]:=zcL I.hok e;have hz:(fs.map (·.1)).length<=FC:=by rw[uM,sizeLine_eq];omega
 show zo7 I.kIn O c.sa c.po n.taker c.hd wi hz λh' O' sb=>h _ ?_;have hd:∃o,h'.get? dx=eO o:=let ⟨o,_,_,e',_⟩:=O'.ns;#[o,e'];show I.write (x:=a) (e:=dx) (by rw[e];show Ay) (.inr ho) (λb q hb z=>(sb.2 b hb).trans z) hd ?_;show#[by rw[zT O.ne];show ho,?_,O.ne,O'.obj,_,O'.ns,λg=> ?_,λg hg=> ?_];have:=zb5 f y fs;omega;change WT ((WW f y fs).lookup g) (if g=f then eO u else mA g);rw[zb4];by_cases q:g=f;rw[Gv q,Gv q];show ry;rw[Gw q,Gw q];show r g;by_cases q:g=f;rw[q];show(zbz f y fs).1;show (zbz f y fs).2 g (wi g λz=>hg ?_);change(if g=f then eO u else mA g)=fX;rw[Gw q];show z
def Inv.made(I:Inv X pins σ H s):Inv X pins σ (upd (upd H #v[s] (.own (#v[s]+1))) (#v[s]+1) (.ins C #v[s] []))
  {s with heap:=(s.heap.push AI).push (B8 C #v[s])}:=by
 have e1:(s.heap.push AI).get? #v[s]=eO AI:=Heap.get?_push_size s.heap rfl;have e2:((s.heap.push AI).push (B8 C #v[s])).get? (#v[s]+1)=eO (B8 C #v[s]):=by
  have:=Heap.get?_push_size (s.heap.push AI) (o:=B8 C #v[s]) rfl;rwa [Heap.size_push] at this
 have e3:(s.heap.push AI).Ns #v[s] (λ_=>fX):=#[AI,[].toArray,_,e1,rfl,(λe he=>absurd he (by simp)),λ_=>rfl];have I1:=I.laid (a:=#v[s]) (o:= .own (#v[s]+1)) (h':=s.heap.push AI) (t':=s.toks) (λb u q=>Heap.get?_push_of_some _ q) (uL _) #[_,e1];show I1.laid (a:=#v[s]+1) (o:= .ins C #v[s] []) (t':=s.toks) (λb u q=>Heap.get?_push_of_some _ q) (B5 (Heap.size_push _ _)) ?_;have ne:#v[s]≠#v[s]+1:=y6 (Az _);show#[by rw[zT ne,zW],Ci _,ne,e2,λ_=>fX,(Heap.Ns1.of_empty e3).at λo q=>Heap.get?_push_of_some _ q,λ_=>Ay,λy hy=>absurd rfl hy]
def zo8(hb:Gr e f env (eval e env)=eval e env)
  (h:wpAny (model prog w) A (eval e env) (λo s₁=>wpAny (model prog w) A (getAttr o f gP) Q E s₁) E s):wpAny (model prog w) A (eval (.Attribute e f pos) env) Q E s:=
 Attribute_any_ h (by rw[arm_eval_Attribute,hb])
end
def ztc(K:uG)(ta:TE)(f:Str):TE:=λσ H Q=>ta σ H λx H1=>∃a C dx fs v,x= .ref a/\H1 a=eO (.ins C dx fs)/\Cls K C/\YK K C f/\fs.lookup f=eO v/\Q v H1
def ztd(K:uG)(ta tv:TE)(f:Str):TS:=λD σ H=>tv σ H λy H1=>ta σ H1 λx H2=>∃a C dx fs,x= .ref a/\H2 a=eO (.ins C dx fs)/\Cls K C/\YK K C f/\fs.length<1000/\
 D.nx σ (upd H2 a (.ins C dx (WW f y fs)))
section
def xG(he:PE X e ta)(hb:Gr e f X.env (eval e X.env)=eval e X.env):PE X (.Attribute e f pos) (ztc X.K ta f):=by
 intro pins s σ H Q I h;show zo8 hb (thn (he pins s σ H _ I h) ?_);intro u s1 #[x,H1,I1,rx,a,C,dx,fs,v,ex,ea,c,n,l,q];subst ex;obtain rfl:u=Value.ref a:=rx;show ziJ I1 ea c n l λu' s2 I2 ru=>#[v,H1,I2,ru,q]
def ziM(ha:PE X o ta)(hv:PE X value tv)(hs:swapsWith value (eO (.Attribute o f pos')) pos.line X.env=pure kb):PS X (.Assign [.Attribute o f pos'] value pos) (ztd X.K ta tv f):=by
 intro pins s σ H D I h;show plainObj_wpAny_Assign_Attribute (thn (hv pins s σ H _ I h) ?_) hs;intro u s1 #[y,H1,I1,ry,q];show thn (ha pins s1 σ H1 _ I1 q) ?_;intro ov s2 #[x,H2,I2,rx,a,C,dx,fs,ex,ea,c,n,l,q2];subst ex;obtain rfl:ov=Value.ref a:=rx;show ziL I2 ea c n l ry λs3 I3=>#[σ,_,I3,q2]
end
section
variable{c:oJ}{b:Bool}
inductive zcp(K:uG)(H:Hp):V->Value->Prop where
 |non:zcp K H .non (.type "NoneType")
 |bl (x:Bool):zcp K H (.bl x) (.type "bool")
 |int (i:Int):zcp K H (.int i) (.type "int")
 |str (x:Str):zcp K H (.str x) (.type "str")
 |flt (x:UInt64):zcp K H (.flt x) (.type "float")
 |lst {a:Addr} {xs:List V} (e:H a=eO (.lst xs)):zcp K H (.ref a) (.type "list")
 |frz {a:Addr} {o:Obj} {xs:List V} (e:H a=eO (.frz o (.lst xs))):zcp K H (.ref a) (.type "list")
 |tup {a:Addr} {xs:List V} (e:H a=eO (.tup xs)):zcp K H (.ref a) (.type "tuple")
 |dK {a:Addr} {af:List (Key×V)} (e:H a=eO (.dK af)):zcp K H (.ref a) (.type "dict")
 |dT {a:Addr} {af:List (List Key×V)} (e:H a=eO (.dT af)):zcp K H (.ref a) (.type "dict")
 |ins {a C dx:Addr} {fs:List (Str×V)} (e:H a=eO (.ins C dx fs)) (cl:Cls K C) (ha:x5 K (.ref C) "__class__"=eO (eO (.builtin "object.__class__")))
   (hn:Ca K (.builtin "object.__class__") "__get__"=eO (eO (.builtin "getset_descriptor.__get__"))) (htk:DB K (.builtin "object.__class__")=eO gP)
   (hm:A2 K C (.type "object")=eO gP):zcp K H (.ref a) (.ref C)
end
structure ww(k:Nat)(A:Around):Prop where
 hd:A.handled=fX
 dp:A.depth+3*k+5<recursionLimit
 un:A.units+16*k+200<cLine
 gd:A.guards=eO []
def ww.mono(r:ww k A)(h:j<=k):ww j A:=#[r.hd,by have:=r.dp;omega,by have:=r.un;omega,r.gd]
def ww.deeper(r:ww (k+1) A)(env:Env):ww k (A.deeper env):=
 #[r.hd,by have:=r.dp;change A.depth+1+3*k+5<_;omega,by have:=r.un;change A.units+3+16*k+200<_;omega,r.gd]
def ziN:(A.under (.builtin "type.__call__" #[.ref C::us,kw])).depth=A.depth+1:=by
 first|rfl|simp[Around.under,Code.weight,Code.isCreation,Code.isGuard,Code.isCaller,Code.frames,Code.isFrame,guardIds]
def ziO:(A.under (.builtin "type.__call__" #[.ref C::us,kw])).units=A.units+1:=by
 first|rfl|simp[Around.under,Code.cUnits,Code.frames,Code.isFrame]
def ww.make(r:ww (k+1) A)(C:oN)(us:kh oJ)(kw:kh (Str×oJ)):ww k (A.under (.builtin "type.__call__" #[.ref C::us,kw])):=
 #[r.hd,by have:=r.dp;rw[ziN];omega,by have:=r.un;rw[ziO];omega,r.gd]
def ww.depth(r:ww k A):A.depth<recursionLimit:=by have:=r.dp;omega
def ww.units(r:ww k A):A.units+64<cLine:=by have:=r.un;omega
def zlr:TA:=λ_ H Q=>Q [] H
def zb6(ta:TE)(tr:TA):TA:=λσ H Q=>ta σ H λx H1=>tr σ H1 λxs H2=>Q (x::xs) H2
section
variable{e:Expr}{es:kh Expr}{te:TE}{t:TA}{pos:Pos}
def zj:PA X [] zlr:=λ_ _ _ _ H Q I h=>Calls.spliced_nil #[[],H,I,.nil,h]
def zS(ha:PE X e te)(hr:PA X es t)(hs:FD (e::es) X.env=(kb,eval e X.env)::FD es X.env:=by rfl):PA X (e::es) (zb6 te t):=by
 intro pos pins s σ H Q I h;rw[hs];change wpAny _ _ (spliced ((kb,eval e X.env)::backTo pos (FD es X.env))) _ _ s;show Calls.spliced_cons (thn (ha pins s σ H _ I h) ?_);intro u s1 #[x,H1,I1,r1,q1];show thn (hr pos pins s1 σ H1 _ I1 q1) ?_;intro us s2 #[xs,H2,I2,r2,q2];show#[x::xs,H2,I2,.cons r1 r2,q2]
def zte(t:TA):TE:=λσ H Q=>t σ H λxs H1=>xs.length<=FC/\∀p,H1 p=fX->Q (.ref p) (upd H1 p (.tup xs))
def ztf(t:TA):TE:=λσ H Q=>t σ H λxs H1=>xs.length<=FC/\∀p,H1 p=fX->Q (.ref p) (upd H1 p (.lst xs))
def zrA{x1}(h:PA X es t):PE X (.Tuple es x1 pos) (zte t):=by
 intro pins s σ H Q I hq;show wpAny_Tuple_spliced (thn (h pos pins s σ H _ I hq) λus s1 ⟨xs,H1,I1,r,z,q⟩=>#[by rw[<-r.length];show z,?_]);have hf:H1 #v[s1]=fX:=I1.hok.fresh (uL _);show#[.ref #v[s1],upd H1 #v[s1] (.tup xs),I1.laid (t':=s1.toks) (λb u e=>Heap.get?_push_of_some _ e) (uL _) ?_,rfl,q _ hf];show#[z,us,r,#[_,Heap.get?_push_size _ rfl,rfl,_,rfl,rfl]]
def Zx(h:PA X es t):PE X (.List es pos) (ztf t):=by
 intro pins s σ H Q I hq;show wpAny_List_spliced (thn (h pos pins s σ H _ I hq) λus s1 ⟨xs,H1,I1,r,z,q⟩=>#[by rw[<-r.length];show z,?_]);have hf:H1 #v[s1]=fX:=I1.hok.fresh (uL _);show#[.ref #v[s1],upd H1 #v[s1] (.lst xs),I1.laid (t':=s1.toks) (λb u e=>Heap.get?_push_of_some _ e) (uL _) ?_,rfl,q _ hf];show#[z,us,0,r,Heap.get?_push_size _ rfl]
end
abbrev Sp:=kh V->Hp->VK->XK->Prop
abbrev CXT:=kh Env->Hp->oM->XK->oJ->oM->Prop
structure zd4(P:Program)(w:World)(K:uG)(mg:Str->mw oJ)(base:Heap)(A:Around)(outer:kh Env)(s:oM)(H:Hp):Prop where
 frames:A.frames=eO outer
 mod:Mod P K mg base
 bs:∀b o,base.get? b=eO o->s.heap.get? b=eO o/\H b=fX
 bsz:base.objs.size<=#v[s]
 funs:s.heap.FunFrames base outer
 frf:∀b∈frs outer,H b=fX
 hok:HOk P w H s.heap
 bare:AllBare s.gens
def CE(outer:kh Env)(P:Program)(w:World)(H:Hp)(s:oM)(Q:VK)(u:oJ)(s':oM):Prop:=
 ∃v H',s'.os=s.os/\AllBare s'.gens/\Un (frs outer) [] H H' s.heap s'.heap/\HOk P w H' s'.heap/\yp v u/\Q v H'
def CR(CX:CXT)(outer:kh Env)(P:Program)(w:World)(H:Hp)(s:oM)(Q:VK)(E:XK)(r:Result)(s':oM):Prop:=
 match r with
 | .ok (.ret u)=>CE outer P w H s Q u s'
 | .ok _=>False
 | .error e=>CX outer H s E e s'
structure Yy(P:Program)(w:World)(K:uG)(mg:Str->mw oJ)(base:Heap)(CX:CXT)(k:Nat)(f:oN)(fd:FW)(ps:kh Str)(sp:Sp):Prop where
 len:∀vs H Q E,sp vs H Q E->vs.length=ps.length
 run:∀(A:Around) (outer:kh Env) (s:oM) (H:Hp) (args:Args) (us:kh oJ) (vs:kh V) (Q:VK) (E:XK),ww k A->zd4 P w K mg base A outer s H->BindsTo s fd args (ps.zip us)->yk vs us->sp vs H Q E->
  codeAny (model P w) A (.call (.ref f) args) (CR CX outer P w H s Q E) s
def Yy.imp{P:Program}{mg:Str->mw oJ}(F:Yy P w K mg base CX k f fd ps sp)
  (h:∀vs H Q E,sp' vs H Q E->sp vs H Q E):Yy P w K mg base CX k f fd ps sp':=
 #[λvs H Q E q=>F.len vs H Q E (h _ _ _ _ q),λA outer s H args us vs Q E hr he hb hv hs=>F.run A outer s H args us vs Q E hr he hb hv (h _ _ _ _ hs)]
def zd4.make{P:Program}{mg:Str->mw oJ}(e:zd4 P w K mg base A outer s H)(C:oN)(us:kh oJ)(kw:kh (Str×oJ)):
  zd4 P w K mg base (A.under (.builtin "type.__call__" #[.ref C::us,kw])) outer s H:=#[by first|exact e.frames|(simpa [Around.under,Code.envs,Code.isFrame,pushEnvs] using e.frames),e.mod,e.bs,e.bsz,e.funs,e.frf,e.hok,e.bare]
section
def Inv.env0(I:Inv X pins σ H s):zd4 X.prog X.w X.K X.mg X.base X.A X.stack s H:=
 #[I.ok.frames,I.ok.mod,I.bs,uP I.ok.bsz I.sz,I.stack,I.stkFree,I.hok,I.bare]
def Inv.after{Q:VK}(I:Inv X pins σ H s)(h:CE X.stack X.prog X.w H s Q u s'):EP X pins σ Q u s':=by
 have#[v,H',os,bare,un,hok,r,q]:=h;have#[hh,g,d,t,os']:=s';obtain rfl:os'=s.os:=os;show#[v,H',I.call (h':=hh) (g':=g) (d':=d) (t':=t) (ch:=[]) un hok bare (λb z=>absurd z (by simp)),r,q]
end
def zkj(sp:Sp)(eV:kh V)(E:XK)(t:TA):TE:=λσ H Q=>t σ H λvs H1=>sp (vs++eV) H1 Q E
def zmx(C:oN)(m:Str)(sp:Sp)(eV:kh V)(E:XK)(ta:TE)(t:TA):TE:=λσ H Q=>ta σ H λx H1=>∃a dx fs,x= .ref a/\H1 a=eO (.ins C dx fs)/\fs.lookup m=fX/\
 t σ H1 λvs H2=>sp (x::(vs++eV)) H2 Q E
def zqU(C:oN)(sp:Sp)(eV:kh V)(E:XK)(t:TA):TE:=λσ H Q=>t σ H λvs H1=>∀x dx,H1 x=fX->H1 dx=fX->dx≠x->
 sp (.ref x::(vs++eV)) (upd (upd H1 dx (.own x)) x (.ins C dx [])) (λv H2=>v= .non/\Q (.ref x) H2) E
def TL(K:uG)(fd:FW)(ps:kh Str)(ds:kh oJ):Prop:=
 ∀(s:oM) (us:kh oJ),K.In s.heap->(us++ds).length=ps.length->BindsTo s fd #[us,[]] (ps.zip (us++ds))
def TL.all(h:∀us:kh oJ,us.length=ps.length->bindArgs fd #[us,[]]=pure (ps.zip us)):TL K fd ps []:=λs us _ hl=>by
 rw[Aw] at hl ⊢;show .of_eq (h us hl)
def Ui(CX:CXT)(X:Cx)(E:XK):Prop:=∀(pins:kh (oN×Obj)) (σ:St) (H:Hp) (s:oM) (e:oJ) (s':oM),Inv X pins σ H s->CX X.stack H s E e s'->X.xe e s'
section
variable{CX:CXT}{k:Nat}{f C:oN}{fd:FW}{ps:kh Str}{sp:Sp}{eV:kh V}{ds:kh oJ}{E:XK}{x m:Str}{p pos apos:Pos}{e o:Expr}{es:kh Expr}{ta:TE}{t:TA}
def zmy{Q:VK}(F:Yy X.prog X.w X.K X.mg X.base CX k f fd ps sp)(hr:ww k X.A)(hb:TL X.K fd ps ds)(hd:yk eV ds)(hx:Ui CX X E)
  (I:Inv X pins σ H s) (r:yk vs us) (h:sp (vs++eV) H Q E):wpAny (model X.prog X.w) X.A (call (.ref f) us) (EP X pins σ Q) X.xe s:=by
 have r2:yk (vs++eV) (us++ds):=r.append hd;have hl:(us++ds).length=ps.length:=by rw[<-r2.length];show F.len _ _ _ _ h
 show wpAny_call (codeAny_mono (F.run X.A X.stack s H #[us,[]] (us++ds) (vs++eV) Q E hr I.env0 (hb s us I.kIn hl) r2 h) λr s' hq=> ?_);cases r with
 |error e=>show hx pins σ H s e s' I hq
 |ok fl=>
  cases fl with
  |ret u=>show I.after hq
  |next=>show Ah hq
  |brk=>show Ah hq
  |cont=>show Ah hq
def zkk(F:Yy X.prog X.w X.K X.mg X.base CX k f fd ps sp)(hr:ww k X.A)(hg:Gl X x)(hm:X.mg x=eO (.ref f))(hk:Bf X.K (.ref f)=gP)(hb:TL X.K fd ps ds)(hd:yk eV ds)(hx:Ui CX X E)
  (ha:PA X (e::es) t) (iP:(x==("__debug__":Str))=kb:=by decide) (he:FD (e::es) X.env=(kb,eval e X.env)::FD es X.env:=by rfl) (dh:(backTo pos (FD es X.env)).any (·.1)=kb:=by rfl):
  PE X (.Call (.Name x p) (e::es) [] pos) (zkj sp eV E t):=by
 intro pins s σ H Q I h;show FV (zfp I hg hm ?_ iP);show CT (h₀:=X.base) I.ok.mod.kin hk (thn (ha pos pins s σ H _ I h) ?_) he dh;intro us s1 #[vs,H1,I1,r,q];show#[I1.kIn,?_];show zmy F hr hb hd hx I1 r q
def zZ{pl:Sem Bool}(he:PE X o ta)(c:Cls X.K C)(hm:zrz X.K C m f)(F:Yy X.prog X.w X.K X.mg X.base CX k f fd ps sp)(hr:ww k X.A)(hb:TL X.K fd ps ds)(hd:yk eV ds)(hx:Ui CX X E)(ha:PA X (e::es) t)
  (ft:FD (e::es) X.env=(kb,eval e X.env)::FD es X.env:=by rfl) (dh:(backTo pos (FD es X.env)).any (·.1)=kb:=by rfl)
  (ht:eval (.Call (.Attribute o m apos) (e::es) [] pos) X.env=(do
   let ov <-eval o X.env
   standAt apos.atName
   let (f,first) <-holding [ov] (getMethod ov m pl)
   callWith pos f first (backTo pos (FD (e::es) X.env)) (backToKw pos (keywordEach [] X.env))):=by rfl):
  PE X (.Call (.Attribute o m apos) (e::es) [] pos) (zmx C m sp eV E ta t):=by
 intro pins s σ H Q I h;show PySem.W.methodCall_KW (pl:=pl) (thn (he pins s σ H _ I h) ?_) ht;intro u s1 #[x,H1,I1,rx,a,dx,fs,ex,ea,l,q];subst ex;obtain rfl:u=Value.ref a:=rx;show ziK I1 ea c hm l ?_;show CT (first:=[.ref a]) (h₀:=X.base) I.ok.mod.kin hm.kp (thn (ha pos pins s1 σ H1 _ I1 q) ?_) ft dh;intro us s2 #[vs,H2,I2,r,q2];show#[I2.kIn,?_];show zmy (us:= .ref a::us) (vs:= .ref a::vs) F hr hb hd hx I2 (.cons rfl r) q2
structure Mk(K:uG)(C f:oN):Prop where
 makes:Dz K C=gP
 init:x5 K (.ref C) "__init__"=eO (eO (.ref f))
 fn:Cw K (.ref f)=gP
 kp:Bf K (.ref C)=gP
def zmz{Q:VK}(M:Mk X.K C f)(F:Yy X.prog X.w X.K X.mg X.base CX k f fd ps sp)(hr:ww (k+1) X.A)(hb:TL X.K fd ps ds)(hd:yk eV ds)
  (hx:Ui CX X E) (I:Inv X pins σ H s) (r:yk vs us)
  (h:∀x dx,H x=fX->H dx=fX->dx≠x->sp (.ref x::(vs++eV)) (upd (upd H dx (.own x)) x (.ins C dx [])) (λv H2=>v= .non/\Q (.ref x) H2) E):
  wpAny (model X.prog X.w) X.A (call (.ref C) us) (EP X pins σ Q) X.xe s:=by
 have hq:=h (#v[s]+1) #v[s] (I.hok.fresh (AG _)) (I.hok.fresh (uL _)) (y6 (Az _));have I2:=Inv.made (C:=C) I;have r2:yk (V.ref (#v[s]+1)::(vs++eV)) (Value.ref (#v[s]+1)::(us++ds)):= .cons rfl (r.append hd);have hl:(Value.ref (#v[s]+1)::us++ds).length=ps.length:=by
  have e:=r2.length;rw[F.len _ _ _ _ hq] at e;show e.symm
 show wpAny_call (zmw (f:=f) I.kIn M.makes M.init (beq_iff_eq.mp M.fn) (codeAny_mono (F.run _ X.stack _ _ #[Value.ref (#v[s]+1)::us,[]] (Value.ref (#v[s]+1)::(us++ds)) _ _ E (hr.make C us [])
  (I2.env0.make C us []) (hb _ (Value.ref (#v[s]+1)::us) I2.kIn hl) r2 hq) λr s' gj=> ?_))
 cases r with
 |error e=>show hx pins σ _ _ e s' I2 gj
 |ok fl=>
  cases fl with
  |ret u=>
   have#[v,H',I3,rv,ev,q3]:=I2.after gj;subst ev;show#[rv,#[V.ref (#v[s]+1),H',I3,rfl,q3]]
  |next=>show Ah gj
  |brk=>show Ah gj
  |cont=>show Ah gj
def zo9(M:Mk X.K C f)(F:Yy X.prog X.w X.K X.mg X.base CX k f fd ps sp)(hr:ww (k+1) X.A)(hg:Gl X x)(hm:X.mg x=eO (.ref C))(hb:TL X.K fd ps ds)(hd:yk eV ds)(hx:Ui CX X E)
  (ha:PA X (e::es) t) (iP:(x==("__debug__":Str))=kb:=by decide) (he:FD (e::es) X.env=(kb,eval e X.env)::FD es X.env:=by rfl) (dh:(backTo pos (FD es X.env)).any (·.1)=kb:=by rfl):
  PE X (.Call (.Name x p) (e::es) [] pos) (zqU C sp eV E t):=by
 intro pins s σ H Q I h;show FV (zfp I hg hm ?_ iP);show CT (h₀:=X.base) I.ok.mod.kin M.kp (thn (ha pos pins s σ H _ I h) ?_) he dh;intro us s1 #[vs,H1,I1,r,q];show#[I1.kIn,?_];show zmz M F hr hb hd hx I1 r q
end
section
variable{CX:CXT}{k:Nat}{f C:oN}{fd:FW}{ps ks:kh Str}{sp:Sp}{E:XK}{x m:Str}{p pos apos qM:Pos}{e o:Expr}{es:kh Expr}{tQ:kh Keyword}{te ta:TE}{t tk:TA}{nm:mw Str}
variable{g:kh oJ->kh oJ->kh oJ}{gV:kh V->kh V->kh V}
end
structure zB(N P:kh Str)(sc:Scope):Prop where
 kind:sc.kind= .function
 co:sc.isCoroutine=kb
 gen:sc.isGenerator=kb
 nd:N.Nodup
 pre:N.take P.length=P
 par:∀x∈P,sc.names.lookup x=eO .local\/sc.names.lookup x=eO .cell
 nofree:∀y∈sc.names,y.2≠ .free
theorem zeE{kindOf:Str->mw Ga}:∀{binds:kh (Str×oJ)} {m:Str->mw oJ},(∀v,(x,v)∉binds)->bindL kindOf binds m x=m x
 |[],_,_=>rfl
 |(n,v)::r,m,h=>by
  unfold bindL;rw[zeE λw hw=>h w (uR _ hw)];split
  .have:x≠n:=by rintro rfl;show h v uY
   simp[this]
  rfl
theorem zeF{kindOf:Str->mw Ga}:∀{binds:kh (Str×oJ)} {m:Str->mw oJ},(∀v,(x,v)∉binds)->bindC kindOf binds m x=m x
 |[],_,_=>rfl
 |(n,v)::r,m,h=>by
  unfold bindC;rw[zeF λw hw=>h w (uR _ hw)];split;rfl
  have:x≠n:=by rintro rfl;show h v uY
  simp[this]
theorem zeG{kindOf:Str->mw Ga}:∀{P:kh Str} {vs:kh oJ} {i:Nat} {m:Str->mw oJ},P.Nodup->P[i]? =eO x->vs[i]? =eO v->kindOf x=eO .local->
  bindL kindOf (P.zip vs) m x=eO v
 |[],_,_,_,_,h,_,_=>by simp at h
 |_::_,[],_,_,_,_,h,_=>by simp at h
 |p::P,w::vs,0,m,nd,h1,h2,hk=>by
  simp at h1 h2;subst h1;subst h2;change bindL kindOf ((p,w)::P.zip vs) m p=_;unfold bindL;rw[zeE λv hv=>(AY.mp nd).1 (BE hv).1,Gv hk];simp
 |p::P,w::vs,i+1,m,nd,h1,h2,hk=>by
  change bindL kindOf ((p,w)::P.zip vs) m x=_;unfold bindL;show zeG (i:=i) (AY.mp nd).2 (by simpa using h1) (by simpa using h2) hk
theorem zeH{kindOf:Str->mw Ga}:∀{P:kh Str} {vs:kh oJ} {i:Nat} {m:Str->mw oJ},P.Nodup->P[i]? =eO x->vs[i]? =eO v->kindOf x≠eO .local->
  bindC kindOf (P.zip vs) m x=eO v
 |[],_,_,_,_,h,_,_=>by simp at h
 |_::_,[],_,_,_,_,h,_=>by simp at h
 |p::P,w::vs,0,m,nd,h1,h2,hk=>by
  simp at h1 h2;subst h1;subst h2;change bindC kindOf ((p,w)::P.zip vs) m p=_;unfold bindC;rw[zeF λv hv=>(AY.mp nd).1 (BE hv).1,Gw hk];simp
 |p::P,w::vs,i+1,m,nd,h1,h2,hk=>by
  change bindC kindOf ((p,w)::P.zip vs) m x=_;unfold bindC;show zeH (i:=i) (AY.mp nd).2 (by simpa using h1) (by simpa using h2) hk
noncomputable def Ys(N:kh Str)(vs:kh V):St:=vs.map eO++w5 (N.length-vs.length) fX
noncomputable def TF(CX:CXT)(P:Program)(w:World)(K:uG)(mg:Str->mw oJ)(base:Heap)(N:kh Str)(qual:Str)(scope:Scope)(f:oN)(cd:oJ)(A:Around)(outer:kh Env)(s:oM)(H:Hp)(E:XK):Cx where
 prog:=P
 w:=w
 K:=K
 mg:=mg
 base:=base
 A:=A.deeper (envOfC qual scope #v[s] f cd)
 N:=N
 s₀:=s
 H₀:=H
 env:=envOfC qual scope #v[s] f cd
 outer:=outer
 stack:=envOfC qual scope #v[s] f cd::outer
 ex:=[]
 calm:=gP
 fn:=λ_=>gP
 zn:=λ_=>kb
 pn:=[]
 xe:=λe s'=>wpAny (model P w) (A.deeper (envOfC qual scope #v[s] f cd)) (leaving (envOfC qual scope #v[s] f cd) e) (λ_ s''=>CX outer H s E e s'') (λe' s''=>CX outer H s E e' s'') s'
def zg0{sc:Scope}{n:Nat}{x:Str}(h:sc.names.lookup x=eO .cell):∃c,(FJ n sc.names []).lookup x=eO c:=by
 have q:=BH sc.names n [] (.inl h);show Al.mp q
def zbA{P:Program}{mg:Str->mw oJ}{N ps:kh Str}{E:XK}
  (S:zB N ps scope) (hd:A.handled=fX) (e0:zd4 P w K mg base A outer s H) (hl:vs.length=ps.length) (r:yk vs us)
  (x:InCallC s #v[s] (bindL (envOfC qual scope #v[s] f cd).kindOf (ps.zip us) λ_=>fX) (FJ (#v[s]+1) scope.names []) (bindC (envOfC qual scope #v[s] f cd).kindOf (ps.zip us) λ_=>fX) s1):
  Inv (TF CX P w K mg base N qual scope f cd A outer s H E) [] (Ys N vs) H s1:=by
 have dh:ps.length<=N.length:=by have:=congrArg DK S.pre;rw[Ak] at this;omega
 have#[h1,tk,rfl,hk]:=x.done;have iE:∀b:oN,b∉(TF CX P w K mg base N qual scope f cd A outer s H E).ex:=λb z=>absurd (show b∈([]:kh oN) from z) (by simp)
 show#[#[e0.mod,S.kind,rfl,rfl,uL _,λy z c h1 h2=> ?_,λy hy=> ?_,λy c _ h=> ?_,λ_=>hd,Around.frames_deeper e0.frames,.inr #[rfl,rfl],λb z=>absurd z (iE b),e0.bs,e0.bsz,λb _ _=>iE b,λb z=>absurd z (iE b),e0.funs,e0.frf],
  rfl,e0.bare,Un.kept hk,#[_,x.toInCall.ns,λi y v h1 h2 h3=> ?_],λy c h=>#[_,x.cell y c h],e0.hok.fresh (uL _),λy c h=> ?_,λp hp=>absurd (show p∈([]:kh (oN×Obj)) from hp) (by simp),e0.hok.kept hk,?_]
 .show name_of_addr x.apart (z3 h1) (z3 h2)
 .have hy:scope.names.lookup y=eO .cell\/scope.names.lookup y=eO .free:=hy;rcases hy with hy|hy;show zg0 hy;show absurd rfl (S.nofree _ (z3 hy))
 .show z5 (x.above y c (z3 h))
 .have hi:i<vs.length:=by
   unfold Ys at h2;by_cases hi:i<vs.length;show hi
   rw[uQ (by simpa using hi)] at h2;rw[C5] at h2;split at h2<;>cases h2
  have ha:vs[i]? =eO v:=by
   unfold Ys at h2;rw[uN (by simpa using hi),uK] at h2;cases e:vs[i]? with
   |none=>rw[e] at h2;cases h2
   |some a=>rw[e] at h2;cases h2;rfl
  have#[u,hu,rv]:=r.get ha;have hp:ps[i]? =eO y:=by
   rw[<-S.pre,List.getElem?_take_of_lt ⋯];show h1
  have oX:ps.Nodup:=by rw[<-S.pre];show S.nd.sublist (List.take_sublist _ _)
  show#[u,rv,?_];rcases S.par y (uJ hp) with k|k;show .inl #[k,zeG oX hp hu k];have#[c,e]:=zg0 (n:=#v[s]+1) k;show .inr #[.inl k,c,e,?_];have q:=x.cell y c e;rw[zeH oX hp hu (by change scope.names.lookup y≠_;rw[k];decide)] at q;show q
 .show .inl (e0.hok.fresh (z5 (x.above y c (z3 h))))
 unfold Ys;change _=N.length;rw[uZ,uM,List.length_replicate];omega
def ztg{CX:CXT}{P:Program}{w:World}{mg:Str->mw oJ}{base:Heap}{k:Nat}{f:oN}{name qual:Str}{params:Arguments}{body:kh Stmt}{scope:Scope}{dV kV doc pm bS ct oc:oJ}{an od:mw oN}
  {fY:Array (mw oJ)} {N ps:kh Str} {sp:Sp} (lk:K.lookup f=eO #[oc,od,.func (Bo name qual params body scope dV kV doc pm an bS ct),fY]) (dA:C3 K bS qual=gP) (S:zB N ps scope)
  (len:∀vs H Q E,sp vs H Q E->vs.length=ps.length)
  (du:∀(A:Around) (outer:kh Env) (s:oM) (H:Hp) (vs:kh V) (Q:VK) (E:XK),ww k (A.deeper (envOfC qual scope #v[s] f bS))->sp vs H Q E->
   ∃t,PSs (TF CX P w K mg base N qual scope f bS A outer s H E) body t/\t {nx:=λ_ H'=>Q .non H',rt:=Q} (Ys N vs) H):
  Yy P w K mg base CX (k+1) f (Bo name qual params body scope dV kV doc pm an bS ct) ps sp:=by
 show#[len,λA outer s H args us vs Q E hr e0 hb r gJ=> ?_];have hl:=len _ _ _ _ gJ;have KX:K.In s.heap:=e0.mod.kin.keeps λb o e=>(e0.bs b o e).1;have lim:s.heap.NoLimit:=e0.mod.nolimit.keeps λb o e=>(e0.bs b o e).1;have fB:∀y∈ps.zip us,scope.names.lookup y.1=eO .local\/(scope.names.lookup y.1=eO .cell/\((FJ (#v[s]+1) scope.names []).lookup y.1).isSome=gP):=λ⟨n,v⟩ hy=>by
  rcases S.par n (BE hy).1 with q|q;show .inl q;show .inr #[q,BH _ _ _ (.inl q)]
 show codeAny_call_function hr.depth (KX _ _ lk) rfl S.co S.gen rfl (CU KX dA) (hb _ _ _ _ ?_);show Gm S.kind fB λenv he s1 x=> ?_;subst he;show#[lim.keeps x.toInCall.keep,codeAny_func ?_];have#[t,ht,hq]:=du A outer s H vs Q E (hr.deeper _) gJ;have I:Inv (TF CX P w K mg base N qual scope f bS A outer s H E) [] (Ys N vs) H s1:=zbA S hr.hd e0 hl r x;show FU (ht [] s1 (Ys N vs) H _ I hq) (λfl s' hs=> ?_) λe s' hs=>hs;have fin:∀{σ':St} {H':Hp} {v:V} {u:oJ},Inv (TF CX P w K mg base N qual scope f bS A outer s H E) [] σ' H' s'->yp v u->Q v H'->CE outer P w H s Q u s':=
  λ{σ' H' v u} J rv q=>#[v,H',J.os,J.bare,J.base,J.hok,rv,q]
 cases fl with
 |ret u=>
  have#[v,σ',H',J,rv,q]:=hs;show fin J rv q
 |next=>
  have#[σ',H',J,q]:=hs;show fin (v:=V.non) (u:=Value.none) J rfl q
 |brk=>
  have#[_,_,_,q]:=hs;show Ah q
 |cont=>
  have#[_,_,_,q]:=hs;show Ah q
section
variable{x:Str}{p pos:Pos}{e:Expr}{es:kh Expr}{t:TA}{id T:String}{r:kh V->Hp->VK->Prop}
def tCB(r:kh V->Hp->VK->Prop)(t:TA):TE:=λσ H Q=>t σ H λvs H1=>r vs H1 Q
def yh(hc:vT X (.builtin id) r)(hg:Gl X x)(hm:X.mg x=fX)(hv:bootBuiltins x=eO (.builtin id))(ha:PA X (e::es) t)(hn:x≠"__name__":=by decide)(iP:(x==("__debug__":Str))=kb:=by decide)
  (he:FD (e::es) X.env=(kb,eval e X.env)::FD es X.env:=by rfl) (dh:(backTo pos (FD es X.env)).any (·.1)=kb:=by rfl):PE X (.Call (.Name x p) (e::es) [] pos) (tCB r t):=by
 intro pins s σ H Q I h;show FV (Ud I hg hm hv ?_ hn iP);show PyProof.Rows.callWith_builtin1 (thn (ha pos pins s σ H _ I h) ?_) he dh;intro us s1 #[vs,H1,I1,r1,q1];show hc pins s1 σ H1 vs us Q I1 r1 q1
def Zy(hc:vT X (.type T) r)(hg:Gl X x)(hm:X.mg x=fX)(hv:bootBuiltins x=eO (.type T))(ha:PA X (e::es) t)(hn:x≠"__name__":=by decide)(iP:(x==("__debug__":Str))=kb:=by decide)
  (he:FD (e::es) X.env=(kb,eval e X.env)::FD es X.env:=by rfl) (dh:(backTo pos (FD es X.env)).any (·.1)=kb:=by rfl):PE X (.Call (.Name x p) (e::es) [] pos) (tCB r t):=by
 intro pins s σ H Q I h;show FV (Ud I hg hm hv ?_ hn iP);show Ax (thn (ha pos pins s σ H _ I h) ?_) he dh;intro us s1 #[vs,H1,I1,r1,q1];show hc pins s1 σ H1 vs us Q I1 r1 q1
end
end L2
variable{prog:PySem.Program}{A:PySem.Around}{E:PySem.Value->PySem.Shared->Prop}{X:L2.Cx}{K:uG}{pins:kh (PySem.Addr×PySem.Obj)}{σ:L2.St}{H:L2.Hp}{s:PySem.Shared}{Q:PySem.Value->PySem.Shared->Prop}
namespace HT
section
open PySem.SeqAt
open PySem.AutoSeq1 (wpAny_loadPart')
open PySem.MeetsSeq PySem.MeetsSeq2 PySem.MeetsSeq3
end
section
def zpa(ht:IsTup s.heap t vs.toArray)(hb:IsTup s.heap b ws.toArray)(hv:vs≠[])
  (h1:ws=[]->Q (.ref t) s) (h2:ws≠[]->Q (.ref #v[s]) {s with heap:=s.heap.push {cls:= .type "tuple",data:= .seq (vs++ws).toArray}})
  (hsz:vs.length+ws.length<=FC):wpAny (model prog w) A (Gj .Add (.ref t) (.ref b)) Q E s:=by
 have#[#[cls,dd,data,sl],ho,hc,n,hd]:=id ht;have#[#[oH,mr,data2,jQ],jA,iQ,n2,hd2]:=id hb;simp only at hc hd iQ hd2;subst hc hd iQ hd2;have e:vs.toArray++ws.toArray=(vs++ws).toArray:=by simp
 by_cases hw:ws=[]
 .show concat_meets #[_,ho,rfl] #[_,jA,rfl] noFill_tuple_add seq_tuple_add Cj C6 (C0 _ _)
   (tuple_addW1 t b vs.toArray ws.toArray n n2 dd mr sl jQ (by simpa using hv) (by simp[hw])) #[ho,jA,h1 hw]
 show concat_meets #[_,ho,rfl] #[_,jA,rfl] noFill_tuple_add seq_tuple_add Cj C6 (C0 _ _)
  (tuple_addW2 t b vs.toArray ws.toArray n n2 dd mr sl jQ (by simpa using hv) (by simpa using hw) (by rw[uS,uS];show hsz)) #[ho,jA,?_]
 rw[e];show h2 hw
noncomputable def sIx(n d:Nat):mw Int->Nat
 |none=>d
 |some v=>if v<0 then (v+(n:Int)).toNat else min v.toNat n
def zpb(n d k:Nat):sIx n d (eO (k:Int))=min k n:=by
 change(if (k:Int)<0 then ((k:Int)+(n:Int)).toNat else min (k:Int).toNat n)=min k n;rw[Gw ⋯,x4]
def zrB(n d:Nat)(hd:d<=n)(o:mw Int):sIx n d o<=n:=by
 cases o with
 |none=>show hd
 |some v=>
  change(if v<0 then (v+(n:Int)).toNat else min v.toNat n)<=n;by_cases hv:v<0
  .rw[Gv hv];omega
  rw[Gw hv];show Nat.min_le_right _ _
def zkl(v:Int)(n d:Nat):(if v<0 then max (v+(n:Int)) 0 else min v (n:Int))=((sIx n d (eO v):Nat):Int):=by
 change(if v<0 then max (v+(n:Int)) 0 else min v (n:Int))=(((if v<0 then (v+(n:Int)).toNat else min v.toNat n):Nat):Int);by_cases hv:v<0
 .simp only[Gv hv];omega
 simp only[Gw hv];omega
def ziP(lo hi:mw Int)(n:Nat):Builtin.Slice.sliceAdjust lo hi 1 (n:Int)=(((sIx n 0 lo:Nat):Int),((sIx n n hi:Nat):Int)):=by
 have h1:¬((1:Int)<0):=by omega
 unfold Builtin.Slice.sliceAdjust;simp only[h1,if_false];show Prod.ext ?_ ?_
 .cases lo with
  |none=>rfl
  |some v=>show zkl v n 0
 cases hi with
 |none=>rfl
 |some v=>show zkl v n n
def ziQ(i j:Nat):Builtin.Slice.slicePlaces (i:Int) (j:Int) 1=j-i:=by
 unfold Builtin.Slice.slicePlaces;have h1:(1:Int)>0:=by omega
 simp only[h1,if_true,Int.ediv_one];split<;>omega
def zcT{Q:mw Int->oM->Prop}(p:IsPart v o)(h:Q o s):wpAny (model prog w) A (Builtin.Slice.slicePartIndex v) Q E s:=by
 cases p with
 |none=>show slicePart_none h
 |int i t=>show slicePart_int h
def WC{sl:oN}{vl vu:oJ}{lo hi:mw Int}{n:Nat}{Q:Int×Int×Nat->oM->Prop}(hs:s.heap.IsSliceOf sl vl vu .none)(pl:IsPart vl lo)(pu:IsPart vu hi)
  (h:Q (((sIx n 0 lo:Nat):Int),1,sIx n n hi-sIx n 0 lo) s):wpAny (model prog w) A (Builtin.Slice.sliceApplied (.ref sl) (pure (n:Int))) Q E s:=by
 have#[os,jx,gk,kX]:=id hs;unfold Builtin.Slice.sliceApplied Builtin.Slice.sliceFields;show qx (qx (FI jx kX (x:=vl) rfl (qx (FI jx kX (x:=vu) rfl (qx (FI jx kX (x:= .none) rfl (qH ?_)))))));show qx (slicePart_none ?_);change wpAny _ _ (if ((1:Int)==0)=gP then _ else _) _ _ s;rw[Gw ∅];show qx (zcT pl (qx (zcT pu (qx (qH ?_)))));change wpAny _ _ (match Builtin.Slice.sliceAdjust lo hi 1 (n:Int) with|(lo,hi)=>pure (lo,(1:Int),Builtin.Slice.slicePlaces lo hi 1)) _ _ s;rw[ziP lo hi n];change wpAny _ _ (pure (((sIx n 0 lo:Nat):Int),(1:Int),Builtin.Slice.slicePlaces ((sIx n 0 lo:Nat):Int) ((sIx n n hi:Nat):Int) 1)) _ _ s;rw[ziQ];show qH h
def zmA(xs:Array oJ)(i k:Nat):((z8 k).filterMap λ(m:Nat)=>xs[((i:Int)+(m:Int)*1).toNat]?).toArray=((xs.toList.drop i).take k).toArray:=by
 have e:(λ(m:Nat)=>xs[((i:Int)+(m:Int)*1).toNat]?)=λm=>xs[i+m]? :=by
  funext m;have:((i:Int)+(m:Int)*1).toNat=i+m:=by omega
  rw[this]
 rw[e];have:=pick_run xs i k;rw[List.filterMap_map] at this;have e2:((λx=>xs[x]?) ∘ λx=>i+x)=λm=>xs[i+m]? :=rfl;rw[e2] at this;rw[this]
def zaI{t sl:oN}{items:Array oJ}{vl vu:oJ}{lo hi:mw Int}(ht:IsTup s.heap t items)(hs:s.heap.IsSliceOf sl vl vu .none)(pl:IsPart vl lo)(pu:IsPart vu hi)
  (hw:¬(sIx items.size 0 lo=0/\sIx items.size items.size hi=items.size))
  (h:Q (.ref #v[s]) {s with heap:=s.heap.push {cls:= .type "tuple",data:= .seq ((items.toList.drop (sIx items.size 0 lo)).take (sIx items.size items.size hi-sIx items.size 0 lo)).toArray}})
  (hsz:items.size<=FC):wpAny (model prog w) A (getItem (.ref t) (.ref sl)) Q E s:=by
 have gg:sizeOk (.seq ((items.toList.drop (sIx items.size 0 lo)).take (sIx items.size items.size hi-sIx items.size 0 lo)).toArray):=by
  change((items.toList.drop (sIx items.size 0 lo)).take (sIx items.size items.size hi-sIx items.size 0 lo)).toArray.size<=FC;rw[uS,Ak,Dn,B4];omega
 have hj:sIx items.size items.size hi<=items.size:=zrB _ _ (uL _) hi;have#[os,jx,gk,kX]:=id hs;have o8:s.TypeIs (.ref sl) "slice":=#[os,jx,gk];unfold getItem
 try with_reducible show FR ?_
 first|refine qx (qH ?_)|skip
 show qx (wpAny_sequenceKey ht.typeIs ∅ ?_)
 show qx (FE (name:=Str.ofString "__getitem__") ht.typeIs Ar
  (FH Ar ht.typeIs entry_tuple_getitem ?_ (args_tuple_getitem _ _)))
 change wpAny _ _ (Builtin.Tuple.tupleItemsOf (.ref t)>>=_) _ _ s;show qx (tupleItemsOf_ ht ?_);show qx (wpAny_typeOf o8 ?_);rw[Gv ∅];show qx (WC hs pl pu ?_);have nE:¬((((sIx items.size 0 lo:Nat):Int)==0&&(1:Int)==1&&(sIx items.size items.size hi-sIx items.size 0 lo)==items.size)=gP):=by
  intro q;rw[A5,A5] at q;have q1:((sIx items.size 0 lo:Nat):Int)=0:=eq_of_beq q.1.1;have q2:sIx items.size items.size hi-sIx items.size 0 lo=items.size:=eq_of_beq q.2;show hw #[⋯,⋯]
 change wpAny _ _ (if (((sIx items.size 0 lo:Nat):Int)==0&&(1:Int)==1&&(sIx items.size items.size hi-sIx items.size 0 lo)==items.size)=gP then _ else _) _ _ s;rw[Gw nE,zmA]
 first
  |exact qx (m:=Builtin.Tuple.tupleExact _) (FG (qH #[_,rfl,qH h]) gg)
  |exact qx (m:=Builtin.Tuple.tupleExact _) (FG (qx (qH (qH #[_,rfl,qH h]))) gg)
  |exact qx (qx (m:=Builtin.Tuple.tupleExact _) (FG (qH (qH #[_,rfl,qH h])) gg))
  |exact qx (qx (m:=Builtin.Tuple.tupleExact _) (FG (qH #[_,rfl,qH h]) gg))
end
end HT
namespace L2
abbrev TO:=St->Hp->(mw Int->Hp->Prop)->Prop
def PO(X:Cx)(e:mw Expr)(t:TO):Prop:=
 ∀(pins:kh (oN×Obj)) (s:oM) (σ:St) (H:Hp) (Q:mw Int->Hp->Prop),Inv X pins σ H s->t σ H Q->
  wpAny (model X.prog X.w) X.A (evalPart e X.env) (λu s'=>∃o H',Inv X pins σ H' s'/\IsPart u o/\Q o H') X.xe s
def zkm:TO:=λ_ H Q=>Q fX H
def zqV(t:TE):TO:=λσ H Q=>t σ H λx H1=>∃i,x= .int i/\Q (eO i) H1
section
variable{e:Expr}{te:TE}{lo hi:mw Expr}{tl th:TO}{pos p2:Pos}
def zaJ:PO X fX zkm:=by
 intro pins s σ H Q I h;rw[evalPart_none];show qH #[fX,H,I,.none,h]
def WX(h:PE X e te):PO X (eO e) (zqV te):=by
 intro pins s σ H Q I hw;rw[evalPart_some];show thn (h pins s σ H _ I hw) ?_;intro u s1 #[x,H1,I1,r1,q1];have#[i,rfl,q]:=q1;have#[t,rfl]:=r1;show#[eO i,H1,I1,.int i t,q]
def SlR(X:Cx)(r:V->mw Int->mw Int->Hp->VK->Prop):Prop:=
 ∀(pins:kh (oN×Obj)) (s:oM) (σ:St) (H:Hp) (x:V) (v vl vu:oJ) (lo hi:mw Int) (sl:oN) (Q:VK),Inv X pins σ H s->yp x v->s.heap.IsSliceOf sl vl vu .none->IsPart vl lo->IsPart vu hi->r x lo hi H Q->
  ∃T id,typeLookup (.type T) "__getitem__"=pure (eO (.builtin id))/\s.TypeIs v T/\wpAny (model X.prog X.w) X.A (getItem v (.ref sl)) (EP X pins σ Q) X.xe s
def tSl(r:V->mw Int->mw Int->Hp->VK->Prop)(te:TE)(tl th:TO):TE:=λσ H Q=>te σ H λx H1=>tl σ H1 λl H2=>th σ H2 λu H3=>r x l u H3 Q
def WD{r:V->mw Int->mw Int->Hp->VK->Prop}(hr:SlR X r)(he:PE X e te)(hl:PO X lo tl)(hu:PO X hi th):PE X (.Subscript e (.Slice lo hi fX p2) pos) (tSl r te tl th):=by
 intro pins s σ H Q I h;show Subscript_ (thn (he pins s σ H _ I h) ?_);intro v s1 #[x,H1,I1,r1,q1];show wpAny_Slice (thn (hl pins s1 σ H1 _ I1 q1) ?_);intro vl s2 #[l,H2,I2,pl,q2];show thn (hu pins s2 σ H2 _ I2 q2) ?_;intro vu s3 #[u,H3,I3,pu,q3];rw[evalPart_none];show qH ?_;have I4:Inv X pins σ H3 {s3 with heap:=s3.heap.push {cls:= .type "slice",data:= .fields [vl,vu,.none].toArray}}:=I3.kept (t':=s3.toks) λb ob q=>Heap.get?_push_of_some _ q;have#[T,id,hT,ht,hg]:=hr pins {s3 with heap:=s3.heap.push {cls:= .type "slice",data:= .fields [vl,vu,.none].toArray}} σ H3 x v vl vu l u #v[s3] Q I4 r1 (Heap.IsSliceOf.new ..) pl pu q3;change wpAny (model X.prog X.w) X.A (subscriptTail e (.Slice lo hi fX p2) v (.ref #v[s3])) (EP X pins σ Q) X.xe {s3 with heap:=s3.heap.push {cls:= .type "slice",data:= .fields [vl,vu,.none].toArray}};show tail_any (ops:=[.ref #v[s3],v]) ht hT hg (by with_unfolding_all rfl)
noncomputable def zd5(xs:kh V)(lo hi:mw Int):kh V:=(xs.drop (HT.sIx xs.length 0 lo)).take (HT.sIx xs.length xs.length hi-HT.sIx xs.length 0 lo)
def zb7(xs:kh V)(lo hi:mw Int):(zd5 xs lo hi).length<=xs.length:=by
 unfold zd5;rw[Ak,Dn];omega
def zux(K:uG):V->mw Int->mw Int->Hp->VK->Prop:=λx lo hi H Q=>∃a xs,x= .ref a/\SqT K H a xs/\
 ¬(HT.sIx xs.length 0 lo=0/\HT.sIx xs.length xs.length hi=xs.length)/\∀p,H p=fX->Q (.ref p) (upd H p (.tup (zd5 xs lo hi)))
def zrC:SlR X (zux X.K):=by
 intro pins s σ H x v vl vu lo hi sl Q I rx hs pl pu h;have#[a,xs,rfl,hx,hw,q]:=h;cases rx;have#[ah,r,ht,hz]:=I.tuple hx;have hlen:ah.toArray.size=xs.length:=by rw[uS];show r.length.symm
 show#["tuple",_,Ar.lookup,ht.typeIs,?_];show HT.zaI ht hs pl pu (by rw[hlen];show hw) ?_ (by rw[hlen];show hz);rw[hlen];show#[.ref #v[s],_,I.laid (t':=s.toks) (o:= .tup (zd5 xs lo hi)) (λb ob q=>Heap.get?_push_of_some _ q) (uL _) ?_,rfl,q _ (I.hok.fresh (uL _))];show#[uP (zb7 xs lo hi) hz,_,(r.drop (HT.sIx xs.length 0 lo)).take (HT.sIx xs.length xs.length hi-HT.sIx xs.length 0 lo),YI.new _ _]
def zth(K:uG):R2:=λx y H Q=>∃a b xs ys,x= .ref a/\y= .ref b/\SqT K H a xs/\SqT K H b ys/\xs≠[]/\xs.length+ys.length<=FC/\
 (ys=[]->Q (.ref a) H)/\(ys≠[]->∀p,H p=fX->Q (.ref p) (upd H p (.tup (xs++ys))))
def yk.nil_iff(r:yk xs us):us=[]↔xs=[]:=by
 cases r with
 |nil=>simp
 |cons _ _=>simp
def zpc:OpR X (Gj .Add) (zth X.K):=by
 intro pins s σ H x y v u Q I rx ry h;have#[a,b,xs,ys,rfl,rfl,ha,hb,hx,hz,q1,q2]:=h;cases rx;cases ry;have#[ah,r1,p1,_]:=I.tuple ha;have#[dY,r2,p2,_]:=I.tuple hb;show HT.zpa p1 p2 (λz=>hx (r1.nil_iff.mp z)) (λz=>#[.ref a,H,I,rfl,q1 (r2.nil_iff.mp z)]) (λz=> ?_) (by rw[<-r1.length,<-r2.length];show hz);show#[.ref #v[s],_,I.laid (t':=s.toks) (o:= .tup (xs++ys)) (λb ob q=>Heap.get?_push_of_some _ q) (uL _) ?_,rfl,q2 (λw=>z (r2.nil_iff.mpr w)) _ (I.hok.fresh (uL _))];show#[by rw[uZ];show hz,_,r1.append r2,YI.new _ _]
end
noncomputable def ixN(n:Nat)(i:Int):mw Nat:=if 0<=i then (if i<n then eO i.toNat else fX) else if -(n:Int)<=i then eO (i+n).toNat else fX
noncomputable def atI{α:Type}(xs:kh α)(i:Int):mw α:=(ixN xs.length i).bind λj=>xs[j]?
def zkn(h:ixN n i=eO j):seqIndex? i n=eO j/\j<n/\ -(n:Int)<=i/\i<n:=by
 unfold ixN at h;by_cases h0:0<=i;rw[Gv h0] at h;by_cases h1:i<n;rw[Gv h1] at h;have e:i.toNat=j:=y9 h;show#[by rw[seqIndex_of h0 h1,e],⋯,⋯,h1];rw[Gw h1] at h;cases h;rw[Gw h0] at h;by_cases h1: -(n:Int)<=i;rw[Gv h1] at h;have e:(i+n).toNat=j:=y9 h;show#[by rw[seqIndex_neg ⋯ h1,e],⋯,h1,⋯];rw[Gw h1] at h;cases h
def zfs{α:Type}{xs:kh α}{v:α}(h:atI xs i=eO v):∃j,seqIndex? i xs.length=eO j/\xs[j]? =eO v/\j<xs.length/\ -(xs.length:Int)<=i/\i<xs.length:=by
 unfold atI at h;cases e:ixN xs.length i with
 |none=>rw[e] at h;cases h
 |some j=>
  rw[e] at h;have#[h1,h2,h3,h4]:=zkn e;show#[j,h1,h,h2,h3,h4]
def zpd(b:Expr):Prop:=∀o i,subscripted b kb o i=operate [o,i] (getItem o i)
def IxR(X:Cx)(r:R2):Prop:=
 ∀(value slice:Expr) (pins:kh (oN×Obj)) (s:oM) (σ:St) (H:Hp) (x y:V) (v u:oJ) (Q:VK),Inv X pins σ H s->yp x v->yp y u->r x y H Q->
  subscripted slice kb v u=operate [v,u] (getItem v u)->wpAny (model X.prog X.w) X.A (subscriptTail value slice v u) (EP X pins σ Q) X.xe s
def MtR(X:Cx)(id:String)(r:V->kh V->Hp->VK->Prop):Prop:=
 ∀(pins:kh (oN×Obj)) (s:oM) (σ:St) (H:Hp) (x:V) (xs:kh V) (v:oJ) (us:kh oJ) (Q:VK),Inv X pins σ H s->yp x v->yk xs us->r x xs H Q->
  wpAny (model X.prog X.w) X.A (call (.builtin id) (v::us)) (EP X pins σ Q) X.xe s
section
variable{a b:Expr}{ta tb:TE}{pos:Pos}
def IxR.or(h:IxR X r)(h':IxR X r'):IxR X (λx y H Q=>r x y H Q\/r' x y H Q):=by
 intro value slice pins s σ H x y v u Q I rx ry q hs;rcases q with q|q;show h value slice pins s σ H x y v u Q I rx ry q hs;show h' value slice pins s σ H x y v u Q I rx ry q hs
def zmB{r:R2}(hr:IxR X r)(ha:PE X a ta)(hb:PE X b tb)(hs:zpd b):PE X (.Subscript a b pos) (tOp r ta tb):=by
 intro pins s σ H Q I h;show Subscript_ (zrv ha hb I h λv u s2 x y H2 I2 rx ry q=>hr a b pins s2 σ H2 x y v u Q I2 rx ry q (hs _ _))
def zpe(K:uG):R2:=λx y H Q=>∃p xs i v,x= .ref p/\y= .int i/\SqL K H p xs/\atI xs i=eO v/\Q v H
def zpf(K:uG):R2:=λx y H Q=>∃p xs i v,x= .ref p/\y= .int i/\SqT K H p xs/\atI xs i=eO v/\Q v H
def zrD:R2:=λx y H Q=>∃z i c,x= .str z/\y= .int i/\z.length<=FC/\atI z.cps.toList i=eO c/\Q (.str #[[c].toArray]) H
def zko:IxR X (zpe X.K):=by
 intro value slice pins s σ H x y v u Q I rx ry h hs;have#[p,xs,i,z,rfl,rfl,hq,he,q]:=h;cases rx;have#[t,rfl]:=ry;have#[ah,r,pl,hz]:=I.list hq;have#[j,h1,h2,h3,h4,h5]:=zfs he;have#[w,ew,rw']:=r.get h2;have hl:=r.length;have hn:=Uh;have fin:EP X pins σ Q w s:=#[z,H,I,rw',q];by_cases h0:0<=i
 .have hj:i.toNat=j:=by
   rw[seqIndex_of h0 h5] at h1;show y9 h1
  show item_listR pl.isList h0 ⋯ (by rw[hj];simpa using ew) fin hs
 have hj:(i+(ah.toArray.size:Int)).toNat=j:=by
  rw[seqIndex_neg ⋯ h4] at h1;rw[uS,<-hl];show y9 h1
 show subscriptTail_builtinR (x:=w) pl.isList.typeIs slot_list_getitem.lookup
  (wpAny_getItem_list_neg (Q:=λr s'=>r=w/\EP X pins σ Q r s') pl.isList ⋯ (by rw[uS]<;>omega) ⋯ (by rw[hj];simpa using ew) #[rfl,fin]) hs
def zmC:IxR X (zpf X.K):=by
 intro value slice pins s σ H x y v u Q I rx ry h hs;have#[p,xs,i,z,rfl,rfl,hq,he,q]:=h;cases rx;have#[t,rfl]:=ry;have#[ah,r,pl,hz]:=I.tuple hq;have#[j,h1,h2,h3,h4,h5]:=zfs he;have#[w,ew,rw']:=r.get h2;have hl:=r.length;have hn:=Uh;have fin:EP X pins σ Q w s:=#[z,H,I,rw',q];show subscriptTail_builtinR (x:=w) pl.typeIs slot_tuple_getitem.lookup
  (getItem_tuple (j:=j) (Q:=λr s'=>r=w/\EP X pins σ Q r s') pl ⋯ ⋯ (by rw[uS,<-hl];show h1) (by simpa using ew) #[rfl,fin]) hs
def zft:IxR X zrD:=by
 intro value slice pins s σ H x y v u Q I rx ry h hs;have#[z,i,c,rfl,rfl,hz,he,q]:=h;have#[t,rfl]:=rx;have#[t',rfl]:=ry;have#[j,h1,h2,h3,h4,h5]:=zfs he;have hl:z.cps.toList.length=z.length:=by simp[Str.length]
 rw[hl] at h1 h4 h5;have hn:=Uh
 show tail_any (typeIs_str s z t) slot_str_getitem.lookup (getItem_str (c:=c) (by
  have e1:decide (i< -(2^63:Int))=kb:=decide_eq_false ⋯;have e2:decide (i≥2^63)=kb:=decide_eq_false ⋯
  rw[e1,e2,Bool.or_false]) (by rw[h1];simpa using h2) #[.str #[[c].toArray],H,I.tok _,#[_,rfl],q]) hs
def rIx(K:uG):R2:=λx y H Q=>zpe K x y H Q\/zpf K x y H Q\/zrD x y H Q
def zrE:IxR X (rIx X.K):=zko.or (zmC.or zft)
def ziR(ah:kh oJ)(n j:Nat)(u:oJ):Obj.mapSeq (·.setIfInBounds j u) {cls:= .type "list",data:= .seq ah.toArray n}={cls:= .type "list",data:= .seq (ah.set j u).toArray n}:=by
 simp[Obj.mapSeq]
def Inv.lst{pins:kh (oN×Obj)}{σ:St}{H:Hp}{s:oM}{p:oN}{xs:kh V}(I:Inv X pins σ H s)(h:H p=eO (.lst xs)):
  ∃(ah:kh oJ) (n:Nat),yk xs ah/\s.heap.get? p=eO {cls:= .type "list",data:= .seq ah.toArray n}/\xs.length<=FC:=by
 have#[z,ah,n,r,e]:=I.hok p _ h;show#[ah,n,r,e,z]
def Inv.lstUpd{p:oN}{xs ys:kh V}{ah its':kh oJ}{n n':Nat}{f:Obj->Obj}(I:Inv X pins σ H s)(h:H p=eO (.lst xs))
  (ho:s.heap.get? p=eO {cls:= .type "list",data:= .seq ah.toArray n}) (hf:f {cls:= .type "list",data:= .seq ah.toArray n}={cls:= .type "list",data:= .seq its'.toArray n'}) (r:yk ys its') (hz:ys.length<=FC) (t:Nat):
  Inv X pins σ (upd H p (.lst ys)) {s with heap:=s.heap.update p f,toks:=t}:=by
 have e:(s.heap.update p f).get? p=eO {cls:= .type "list",data:= .seq its'.toArray n'}:=by
  rw[Heap.get?_update_self f ho (by rw[hf]<;>rfl),hf]
 show I.write (x:=p) (e:=p) (by rw[h];trivial) (.inl rfl) (λb u hb q=>(Heap.get?_update_other _ _ (B3 hb)).trans q) #[_,e] ?_;show#[hz,its',n',r,e]
def zqW:V->V->V->Hp->(Hp->Prop)->Prop:=λo i v H Q=>∃p xs k j,o= .ref p/\i= .int k/\H p=eO (.lst xs)/\ixN xs.length k=eO j/\Q (upd H p (.lst (xs.set j v)))
def zcU:zs5 X zqW:=by
 intro pins s σ H o i v ov iv u Q I ro ri rv h;have#[p,xs,k,j,rfl,rfl,hp,hj,q]:=h;cases ro;have#[t,rfl]:=ri;have#[ah,n,r,ho,hz]:=I.lst hp;have#[h1,h2,h3,h4]:=zkn hj;have hl:=r.length;have hn:=Uh;have I':Inv X pins σ (upd H p (.lst (xs.set j v))) {s with heap:=s.heap.update p (Obj.mapSeq (·.setIfInBounds j u))}:=
  I.lstUpd hp ho (ziR ah n j u) (r.set rv j) (by rw[B9];show hz) s.toks
 by_cases h0:0<=k
 .have hk:k.toNat=j:=by
   rw[seqIndex_of h0 h4] at h1;show y9 h1
  show PySem.W.ki_setAt ho h0 ⋯ (by rw[uS,<-hl];show h4) (by rw[hk];show#[_,I',q])
 have hk:(k+(ah.toArray.size:Int)).toNat=j:=by
  rw[seqIndex_neg ⋯ h3] at h1;rw[uS,<-hl];show y9 h1
 show PySem.W.ki_setBack ho ⋯ (by rw[uS,<-hl];show h3) ⋯ (by rw[hk];show#[_,I',q])
def zfu(lo hi:mw Int)(n:Nat):(Gu lo hi fX n).1=((HT.sIx n 0 lo:Nat):Int)/\(Gu lo hi fX n).2.1=((HT.sIx n n hi:Nat):Int)/\(Gu lo hi fX n).2.2=1:=by
 show#[?_,?_,rfl]
 .cases lo with
  |none=>simp[Gu,HT.sIx]
  |some i=>
   simp only[Gu,HT.sIx,EH,show(1:Int)>0 by decide,if_true];by_cases h:i<0
   .simp only[h,if_true]<;>omega
   simp only[h,if_false]<;>omega
 cases hi with
 |none=>simp[Gu,HT.sIx]
 |some i=>
  simp only[Gu,HT.sIx,EH,show(1:Int)>0 by decide,if_true];by_cases h:i<0
  .simp only[h,if_true]<;>omega
  simp only[h,if_false]<;>omega
def zd6(ah:kh oJ)(lo hi:mw Int):slicePick ah.toArray lo hi fX=((ah.drop (HT.sIx ah.length 0 lo)).take (HT.sIx ah.length ah.length hi-HT.sIx ah.length 0 lo)).toArray:=by
 have#[h1,h2,h3]:=zfu lo hi ah.toArray.size;unfold slicePick;rw[h1,h2,h3];simp only[sliceRange_one,pick_run,uS]<;>rfl
def zmD(K:uG):V->mw Int->mw Int->Hp->VK->Prop:=λx lo hi H Q=>∃a xs,x= .ref a/\SqL K H a xs/\∀p,H p=fX->Q (.ref p) (upd H p (.lst (zd5 xs lo hi)))
def zpg:SlR X (zmD X.K):=by
 intro pins s σ H x v vl vu lo hi sl Q I rx hs pl pu h;have#[a,xs,rfl,hx,q]:=h;cases rx;have#[ah,r,ht,hz]:=I.list hx;have hlen:=r.length;show#["list",_,slot_list_getitem.lookup,ht.isList.typeIs,?_];show wpAny_getItem_list_slice ht.isList hs pl pu .none (by simp) ?_ (by rw[uS]<;>omega);rw[zd6,<-hlen];show#[.ref #v[s],_,I.laid (t':=s.toks) (o:= .lst (zd5 xs lo hi)) (λb ob q=>Heap.get?_push_of_some _ q) (uL _) ?_,rfl,q _ (I.hok.fresh (uL _))];show#[uP (zb7 xs lo hi) hz,_,0,(r.drop (HT.sIx xs.length 0 lo)).take (HT.sIx xs.length xs.length hi-HT.sIx xs.length 0 lo),Heap.get?_push_size _ rfl]
noncomputable def Xt:V->Bool
 | .non=>gP
 | .bl _=>gP
 | .int _=>gP
 | .str _=>gP
 |_=>kb
noncomputable def eqV:V->V->Bool
 | .non,.non=>gP
 | .bl a,.bl b=>a==b
 | .bl a,.int b=>(if a then 1 else 0)==b
 | .int a,.bl b=>a==(if b then 1 else 0)
 | .int a,.int b=>a==b
 | .str a,.str b=>a==b
 |_,_=>kb
def zrF(ry:yp y u)(rx:yp x v)(fy:Xt y=gP)(fx:Xt x=gP):SeqAt.EqAt A s u v (eqV y x):=by
 cases y with
 |non=>
  cases ry;cases x with
  |non=>cases rx;show SeqAt.EqAt.same _
  |bl b=>cases rx;show SeqAt.EqAt.none_bool b
  |int b=>have#[t,rfl]:=rx;show SeqAt.EqAt.none_int b t
  |str b=>have#[t,rfl]:=rx;show SeqAt.EqAt.none_str b t
  |_=>show absurd (show kb=gP from fx) y3
 |bl a=>
  cases ry;cases x with
  |non=>cases rx;show SeqAt.EqAt.bool_none a
  |bl b=>cases rx;show SeqAt.EqAt.bool_bool a b
  |int b=>have#[t,rfl]:=rx;show SeqAt.EqAt.bool_int a b t
  |str b=>have#[t,rfl]:=rx;show SeqAt.EqAt.bool_str a b t
  |_=>show absurd (show kb=gP from fx) y3
 |int a=>
  have#[t',rfl]:=ry;cases x with
  |non=>cases rx;show SeqAt.EqAt.int_none a t'
  |bl b=>cases rx;show SeqAt.EqAt.int_bool a t' b
  |int b=>have#[t,rfl]:=rx;show SeqAt.EqAt.int_int a t' b t
  |str b=>have#[t,rfl]:=rx;show SeqAt.EqAt.int_str a t' b t
  |_=>show absurd (show kb=gP from fx) y3
 |str a=>
  have#[t',rfl]:=ry;cases x with
  |non=>cases rx;show SeqAt.EqAt.str_none a t'
  |bl b=>cases rx;show SeqAt.EqAt.str_bool a t' b
  |int b=>have#[t,rfl]:=rx;show SeqAt.EqAt.str_int a t' b t
  |str b=>have#[t,rfl]:=rx;show SeqAt.EqAt.str_str a t' b t
  |_=>show absurd (show kb=gP from fx) y3
 |_=>show absurd (show kb=gP from fy) y3
noncomputable def eqU(x:V)(u:oJ):Bool:=match u with
 | .none=>eqV .non x
 | .bool b=>eqV (.bl b) x
 | .int i _=>eqV (.int i) x
 | .str z _=>eqV (.str z) x
 |_=>kb
def ziS(r:yp y u)(f:Xt y=gP):eqU x u=eqV y x:=by
 cases y with
 |non=>cases r;rfl
 |bl b=>cases r;rfl
 |int i=>have#[t,rfl]:=r;rfl
 |str z=>have#[t,rfl]:=r;rfl
 |_=>show absurd (show kb=gP from f) y3
theorem zfv:∀{xs:kh V} {us:kh oJ},yk xs us->xs.all Xt=gP->us.any (eqU x)=xs.any λy=>eqV y x
 |_,_,.nil,_=>rfl
 |y::xs,u::us,.cons r t,f=>by
  rw[Cm,A5] at f;rw[Bc,Bc,ziS r f.1,zfv t f.2]
theorem zaK(rx:yp x v)(fx:Xt x=gP):∀{xs:kh V} {us:kh oJ},yk xs us->xs.all Xt=gP->∀u∈us,SeqAt.EqAt A s u v (eqU x u)
 |_,_,.nil,_=>λu hu=>by cases hu
 |y::xs,u::us,.cons r t,f=>λu' hu=>by
  rw[Cm,A5] at f;rcases uU.mp hu with rfl|hu;rw[ziS r f.1];show zrF r rx f.1 fx;show zaK rx fx t f.2 u' hu
noncomputable def inV(x:V)(xs:kh V):Bool:=xs.any λy=>eqV y x
def rIn(K:uG)(neg:Bool):R2:=λx y H Q=>∃p xs,y= .ref p/\(SqL K H p xs\/SqT K H p xs)/\Xt x=gP/\xs.all Xt=gP/\Q (.bl (if neg then !inV x xs else inV x xs)) H
def zfw:OpR X (Gq .NotIn) (rIn X.K gP):=by
 intro pins s σ H x y v u Q I rx ry h;have#[p,xs,rfl,hq,fx,fs,q]:=h;cases ry;rcases hq with hq|hq;have#[ah,r,pl,hz]:=I.list hq;show SeqAt.notIn_listAt (eqU x) pl.isList (λw hw=>zaK rx fx r fs w (by simpa using hw)) #[.bl _,H,I,rfl,?_];rw[show ah.toArray.any (eqU x)=ah.any (eqU x) by simp,zfv r fs];show q;have#[ah,r,pl,hz]:=I.tuple hq;show SeqAt.notIn_tupleAt (eqU x) pl (λw hw=>zaK rx fx r fs w (by simpa using hw)) #[.bl _,H,I,rfl,?_];rw[show ah.toArray.any (eqU x)=ah.any (eqU x) by simp,zfv r fs];show q
def zfx:vT X (.builtin "len") (λxs H Q=>∃p ys,xs=[.ref p]/\(SqL X.K H p ys\/SqT X.K H p ys)/\Q (.int ys.length) H):=by
 intro pins s σ H xs us Q I r h;have#[p,ys,rfl,hq,q]:=h;have#[u,rfl,rx]:=VN r;cases rx;have hn:=Uh;rcases hq with hq|hq;have#[ah,r',pl,hz]:=I.list hq;have hlen:=r'.length;show Calls.call_len_list pl.isList (by simp only[uS]<;>omega) #[.int ys.length,H,I.tok _,#[s.toks+1,by rw[uS,hlen]],q];have#[ah,r',pl,hz]:=I.tuple hq;have hlen:=r'.length;show len_tuple pl (by simp only[uS]<;>omega) #[.int ys.length,H,I.tok _,#[s.toks+1,by rw[uS,hlen]],q]
def zfy:vT X (.type "list") (λxs H Q=>∃p ys,xs=[.ref p]/\(SqL X.K H p ys\/SqT X.K H p ys)/\∀l,H l=fX->Q (.ref l) (upd H l (.lst ys))):=by
 intro pins s σ H xs us Q I r h;have#[p,ys,rfl,hq,q]:=h;have#[u,rfl,rx]:=VN r;cases rx;have fin:∀(ah:kh oJ),yk ys ah->ys.length<=FC->∀(h':Heap) (c':Nat),(∀b o',s.heap.get? b=eO o'->h'.get? b=eO o')->
   h'.get? #v[s]=eO {cls:= .type "list",dict:=fX,data:= .seq ah.toArray c',slots:= [].toArray}->EP X pins σ Q (.ref #v[s]) {s with heap:=h'}:=λah r' hz h' c' kp e=>
  #[.ref #v[s],_,I.laid (t':=s.toks) kp (uL _) (show yW X.prog X.w _ h' _ (.lst ys) from #[hz,ah,c',r',e]),rfl,q _ (I.hok.fresh (uL _))]
 rcases hq with hq|hq;have#[ah,r',pl,hz]:=I.list hq;have hlen:=r'.length;have#[o,ho,hc,n,hd]:=pl.isList;show call_list_seq p (.inl rfl) ho hc hd (λh' c' kp e=>fin ah r' hz h' c' kp e) (by simp only[uS]<;>omega);have#[ah,r',pl,hz]:=I.tuple hq;have hlen:=r'.length;have#[o,ho,hc,n,hd]:=pl;show call_list_seq p (.inr rfl) ho hc hd (λh' c' kp e=>fin ah r' hz h' c' kp e) (by simp only[uS]<;>omega)
def zd7:vT X (.type "tuple") (λxs H Q=>∃p ys,xs=[.ref p]/\((SqL X.K H p ys/\∀l,H l=fX->Q (.ref l) (upd H l (.tup ys)))\/(SqT X.K H p ys/\Q (.ref p) H))):=by
 intro pins s σ H xs us Q I r h;have#[p,ys,rfl,h]:=h;have#[u,rfl,rx]:=VN r;cases rx;rcases h with⟨hq,q⟩|⟨hq,q⟩
 .obtain⟨ah,r',pl,hz⟩:=I.list hq;have hlen:=r'.length;show call_tuple_list pl.isList (λh' kp=> ?_) (by simp only[uS]<;>omega);have I1:Inv X pins σ H {s with heap:=h'}:=I.kept (t':=s.toks) kp;have I2:Inv X pins σ (upd H h'.objs.size (.tup ys)) {s with heap:=h'.push {cls:= .type "tuple",data:= .seq ah.toArray}}:=
   I1.laid (t':=s.toks) (λb o e=>Heap.get?_push_of_some _ e) (uL _) (show yW X.prog X.w _ _ _ (.tup ys) from #[hz,ah,r',YI.new _ _])
  show#[.ref h'.objs.size,_,I2,rfl,q _ (I1.hok.fresh (uL _))]
 have#[ah,r',pl,hz]:=I.tuple hq;show call_tuple_same pl #[.ref p,H,I,rfl,q]
def tyV(K:uG)(T:String)(x:V)(H:Hp):Prop:=match x with
 | .str _=>T="str"
 | .int _=>T="int"
 | .ref p=>(T="list"/\∃xs,SqL K H p xs)\/(T="tuple"/\∃o,K.lookup p=eO o/\o.cls= .type "tuple"/\o.dict=fX)\/
   (T="dict"/\((∃af,Rd H p (.dK af))\/∃af,H p=eO (.dT af)))\/(T="set"/\∃S n,H p=eO (.set S n))
 |_=>False
def zmE(I:Inv X pins σ H s)(r:yp x v)(ty:tyV X.K T x H):
  s.TypeIs v T/\∀a,v= .ref a->∃ob,s.heap.get? a=eO ob/\ob.dict=fX:=by
 cases x with
 |str z=>
  have#[t,rfl]:=r;cases (show T="str" from ty);show#[typeIs_str s z t,λ_ e=>nomatch e]
 |int i=>
  have#[t,rfl]:=r;cases (show T="int" from ty);show#[typeIs_int s i t,λ_ e=>nomatch e]
 |ref p=>
  cases r;rcases ty with⟨rfl,xs,hq⟩|⟨rfl,o,hk,hc,hd⟩|⟨rfl,hk⟩|⟨rfl,S,n,hk⟩
  .obtain⟨ah,_,pl,_⟩:=I.list hq;show#[pl.isList.typeIs,λa e=> ?_];cases e;have#[o,n,e,c,hd,_]:=pl;show#[o,e,hd]
  .show#[#[o,I.kIn p o hk,hc],λa e=> ?_];cases e;show#[o,I.kIn _ o hk,hd]
  .have z:∃o,s.heap.get? p=eO o/\o.ExactDict:=by
    rcases hk with⟨af,hk⟩|⟨af,hk⟩
    .obtain⟨_,_,_,_,o,_,_,e,ex,_⟩:=hk.ok I.hok;show#[o,e,ex]
    have#[_,_,_,_,o,_,_,e,ex,_]:=I.hok p _ hk;show#[o,e,ex]
   have#[o,e,ex]:=z;show#[#[o,e,ex.1],λa e2=> ?_];cases e2;show#[o,e,ex.2.1]
  have#[o,_,_,_,e,ex,_]:=I.hok p _ hk;show#[#[o,e,ex.1],λa e2=> ?_];cases e2;show#[o,e,ex.2.1]
 |_=>show Ah ty
def zti(K:uG)(T:String)(r:V->kh V->Hp->VK->Prop)(to:TE):TE:=λσ H Q=>to σ H λx H1=>tyV K T x H1/\r x [] H1 Q
def tBM(K:uG)(T:String)(r:V->kh V->Hp->VK->Prop)(to:TE)(t:TA):TE:=λσ H Q=>to σ H λx H1=>tyV K T x H1/\t σ H1 λxs H2=>r x xs H2 Q
variable{o e:Expr}{es:kh Expr}{to:TE}{t:TA}{name:Str}{apos bV:Pos}{T id:String}{r:V->kh V->Hp->VK->Prop}
def zrG(pa:PlainAttrs T)(slot:Slot T name id)(nh:typeOf (.builtin id)=pure (.type "method_descriptor"))(hm:MtR X id r)(ho:PE X o to)
  (i6:Gr o name X.env (eval o X.env)=eval o X.env:=by rfl) (hline:(apos.endLine==bV.line)=gP:=by rfl):PE X (.Call (.Attribute o name apos) [] [] bV) (zti X.K T r to):=by
 intro pins s σ H Q I h;show wpAny_Call_method0_late i6 hline (thn (ho pins s σ H _ I h) ?_);intro v s1 #[x,H1,I1,r1,ty,q1];have#[h1,h2]:=zmE I1 r1 ty;show#[T,id,pa,slot,nh,h1,h2,Calls.callWith_builtin rfl (PySem.evalArgs_none (hm pins s1 σ H1 x [] v [] Q I1 r1 .nil q1))]
def zaL(pa:PlainAttrs T)(slot:Slot T name id)(nh:typeOf (.builtin id)=pure (.type "method_descriptor"))(hm:MtR X id r)(ho:PE X o to)(ha:PA X (e::es) t)
  (i6:Gr o name X.env (eval o X.env)=eval o X.env:=by rfl)
  (nU:((backTo bV (FD (e::es) X.env)).all (λx=> !x.1)&&(backToKw bV (keywordEach [] X.env)).all (λx=>x.1.isSome)
   &&decide ((e::es).length+([]:kh Keyword).length+(if ([]:kh Keyword).isEmpty then 0 else 1)<30))=gP:=by rfl)
  (hline:(apos.endLine==bV.line)=gP:=by rfl) (hs:FD (e::es) X.env=(kb,eval e X.env)::FD es X.env:=by rfl) (jw:(backTo bV (FD es X.env)).any (·.1)=kb:=by rfl):
  PE X (.Call (.Attribute o name apos) (e::es) [] bV) (tBM X.K T r to t):=by
 intro pins s σ H Q I h;show wpAny_Call_method_late i6 nU hline rfl (thn (ho pins s σ H _ I h) ?_);intro v s1 #[x,H1,I1,r1,ty,q1];have#[h1,h2]:=zmE I1 r1 ty;show#[T,id,pa,slot,nh,h1,h2,?_];have hA:=ha bV pins s1 σ H1 _ I1 q1;rw[hs] at hA ⊢;show Calls.callWith_builtin (by change(kb||(backTo bV (FD es X.env)).any (·.1))=kb;rw[jw]<;>rfl) (Calls.evalArgs_plain ?_);show thn hA ?_;intro us s2 #[vs,H2,I2,r2,q2];show hm pins s2 σ H2 x vs v us Q I2 r1 r2 q2
end
def MtM(X:Cx)(id:String)(r:V->kh V->Hp->VK->Prop):Prop:=
 ∀(pins:kh (oN×Obj)) (s:oM) (σ:St) (H:Hp) (x:V) (xs:kh V) (v:oJ) (us:kh oJ) (Q:VK),Inv X pins σ H s->yp x v->yk xs us->r x xs H Q->
  wpAny (model X.prog X.w) X.A (call (.builtin id) (v::us)) (EP X pins σ Q) X.xe s
def yk.one(h:yk [x] us):∃u,us=[u]/\yp x u:=by
 cases h with
 |cons r t=>cases t;show#[_,rfl,r]
theorem yk.zero:∀{us:kh oJ},yk [] us->us=[]
 |_,.nil=>rfl
def yk.dropLast(h:yk xs us):yk xs.dropLast us.dropLast:=by
 induction h with
 |nil=>show .nil
 |cons r t ih=>
  cases t with
  |nil=>show .nil
  |cons q t'=>show .cons r ih
def yk.reverse(h:yk xs us):yk xs.reverse us.reverse:=by
 induction h with
 |nil=>show .nil
 |cons r t ih=>rw[Cb,Cb];show yk.append ih (.cons r .nil)
theorem yk.rep(h:yk xs us):∀k:Nat,yk (w5 k xs).flatten (w5 k us).flatten
 |0=> .nil
 |k+1=>by
  rw[Aq,Aq,Au,Au];show yk.append h (yk.rep h k)
def ziT{α:Type}(l:kh α):l.eraseIdx (l.length-1)=l.dropLast:=by
 induction l with
 |nil=>rfl
 |cons a r ih=>
  cases r with
  |nil=>rfl
  |cons b r=>
   have e:(a::b::r).length-1=((b::r).length-1)+1:=by
    have h1:(a::b::r).length=r.length+2:=rfl;have h2:(b::r).length=r.length+1:=rfl;omega
   rw[e,List.eraseIdx_cons_succ,ih]
   all_goals rfl
theorem zeI(ah:kh oJ):∀(k:Nat) (acc:kh oJ),
  List.foldl (λx1 x2=>x1++x2) acc.toArray (w5 k ah.toArray)=(acc++(w5 k ah).flatten).toArray
 |0,acc=>by simp
 |k+1,acc=>by
  have e:acc.toArray++ah.toArray=(acc++ah).toArray:=by simp
  have e2:(acc++ah)++(w5 k ah).flatten=acc++(w5 (k+1) ah).flatten:=by
   rw[Aq,Au,Bt]
  rw[<-e2,<-zeI ah k (acc++ah),<-e,Aq,Cz]
section
def Inv.lset{ah its':kh oJ}{n:Nat}{f:Array oJ->Array oJ}{t':Nat}(I:Inv X pins σ H s)(hH:H l=eO (.lst xs))
  (e:s.heap.get? l=eO {cls:= .type "list",data:= .seq ah.toArray n}) (hf:f ah.toArray=its'.toArray) (hv:yk ys its') (hz:ys.length<=FC):
  Inv X pins σ (upd H l (.lst ys)) {s with heap:=s.heap.update l (Obj.mapSeq f),toks:=t'}:=by
 have q:=PySem.IsL.update e f;rw[hf] at q;show I.write (x:=l) (e:=l) (by rw[hH];show trivial) (.inl rfl) (λb' u hb hu=>(Heap.get?_update_other s.heap (Obj.mapSeq f) (B3 hb)).trans hu) #[_,q] ?_;show#[hz,its',_,hv,q]
def Inv.lstM(I:Inv X pins σ H s)(hH:H l=eO (.lst xs)):xs.length<=FC/\∃(ah:kh oJ) (n:Nat),yk xs ah/\xs.length=ah.length/\s.heap.get? l=eO {cls:= .type "list",data:= .seq ah.toArray n}:=by
 have#[z,ah,n,r,e]:=I.hok l _ hH;show#[z,ah,n,r,r.length,e]
def zmF(h:n<=FC):Builtin.List.listTooLong n=kb:=by
 unfold Builtin.List.listTooLong;show decide_eq_false ⋯
end
def zkp:V->kh V->Hp->VK->Prop:=λx vs H Q=>∃l xs y,x= .ref l/\vs=[y]/\H l=eO (.lst xs)/\xs.length<FC/\Q .non (upd H l (.lst (xs++[y])))
def Zz:MtM X "list.append" zkp:=by
 intro pins s σ H x vs v us Q I rx rv h;have#[l,xs,y,rfl,rfl,hH,hz,q]:=h;cases rx;have#[u,rfl,ru]:=rv.one;have#[z,ah,n,r,hl,e]:=I.lstM hH;show call_meets F.slot_list_append #[_,e,rfl] F.entry_list_append (F.args_list_append_2 _ _) (PySem.list_append l ah.toArray n u (by rw[uS];omega)) #[e,?_];show#[.non,_,I.lset (its':=ah++[u]) hH e (by simp) (r.append (.cons ru .nil)) ?_,rfl,q];rw[uZ,List.length_singleton];omega
def ztj:V->kh V->Hp->VK->Prop:=λx vs H Q=>∃l xs y,x= .ref l/\vs=[]/\H l=eO (.lst xs)/\xs[xs.length-1]? =eO y/\Q y (upd H l (.lst xs.dropLast))
def zrH:MtM X "list.pop" ztj:=by
 intro pins s σ H x vs v us Q I rx rv h;have#[l,xs,y,rfl,rfl,hH,hy,q]:=h;cases rx;have rF:=rv.zero;subst rF;have#[z,ah,n,r,hl,e]:=I.lstM hH;have#[u,hu,ru]:=r.get hy;have rd:ah.toArray[ah.toArray.size-1]? =eO u:=by
  change ah.toArray[ah.length-1]? =eO u;rw[<-Bq,<-hl];show hu
 show call_meets F.slot_list_pop #[_,e,rfl] F.entry_list_pop (F.args_list_pop_1 _) (MeetsSeq.list_pop_last l ah.toArray n u rd (by rw[uS];omega)) #[e,?_];show#[y,_,I.lset (its':=ah.dropLast) hH e ?_ r.dropLast ?_,ru,q];change ah.toArray.eraseIdxIfInBounds (ah.toArray.size-1)=ah.dropLast.toArray;rw[uS,List.eraseIdxIfInBounds_toArray,ziT];rw[DU];omega
def zkq{α:Type}(xs:kh α)(k:Nat):(w5 k xs).flatten.length=k*xs.length:=by
 induction k with
 |zero=>simp
 |succ k ih=>rw[Aq,Au,uZ,ih,Am,Ei]
section
variable{w:World}
end
section
variable{κ:Type}[DecidableEq κ]
noncomputable def VX(af:kh (κ×V))(k:κ):mw V:=(af.find? λkv=>decide (kv.1=k)).map (·.2)
noncomputable def zbB(af:kh (κ×V))(k:κ)(v:V):kh (κ×V):=
 if (af.any λkv=>decide (kv.1=k))=gP then af.map (λkv=>if kv.1=k then (kv.1,v) else kv) else af++[(k,v)]
def zcV{p:κ×V}{r:kh (κ×V)}{k:κ}(e:p.1=k):VX (p::r) k=eO p.2:=by simp[VX,z0,e]
def zcW{p:κ×V}{r:kh (κ×V)}{k:κ}(e:¬p.1=k):VX (p::r) k=VX r k:=by simp[VX,z0,e]
theorem zg1(k:κ):∀af:kh (κ×V),(af.any λkv=>decide (kv.1=k))=(VX af k).isSome
 |[]=>rfl
 |p::r=>by
  rw[Bc];by_cases e:p.1=k;simp only[zcV e,decide_eq_true e,Bool.true_or,Ej];rw[zcW e,decide_eq_false e,Bool.false_or];show zg1 k r
def zb8(af:kh (κ×V))(k:κ)(v:V):(zbB af k v).length<=af.length+1:=by
 unfold zbB;split;rw[uM];omega;rw[uZ,uW,A6];omega
def WT.isSome_eq(r:WT o u):o.isSome=u.isSome:=by
 cases o with
 |none=>cases u with
  |none=>rfl
  |some _=>show(show False from r).elim
 |some _=>cases u with
  |none=>show(show False from r).elim
  |some _=>rfl
def KV.val{af:kh (κ×V)}{vs:kh (κ×oJ)}(r:KV af vs)(k:κ):WT (VX af k) (valueAt vs k):=by
 unfold KV at r
 induction r with
 |nil=>show Ay
 | @cons p q ps qs h t ih=>
  have#[h1,h2]:=h;by_cases e:p.1=k
  .have e':q.1=k:=h1.symm.trans e;have b:valueAt (q::qs) k=eO q.2:=by simp[valueAt,z0,e']
   rw[zcV e,b];show h2
  have e':¬q.1=k:=λz=>e (h1.trans z);have b:valueAt (q::qs) k=valueAt qs k:=by simp[valueAt,z0,e']
  rw[zcW e,b];show ih
def KV.any{af:kh (κ×V)}{vs:kh (κ×oJ)}(r:KV af vs)(k:κ):(af.any λkv=>decide (kv.1=k))=vs.any λkv=>decide (kv.1=k):=by
 unfold KV at r
 induction r with
 |nil=>rfl
 |cons h t ih=>rw[Bc,Bc,ih,h.1]
def KV.repl{af:kh (κ×V)}{vs:kh (κ×oJ)}(r:KV af vs)(k:κ){y:V}{u:oJ}(ry:yp y u):
  KV (af.map λkv=>if kv.1=k then (kv.1,y) else kv) (vs.map λkv=>if kv.1=k then (kv.1,u) else kv):=by
 unfold KV at r ⊢
 induction r with
 |nil=>show .nil
 | @cons p q ps qs h t ih=>
  rw[y4,y4];show .cons ?_ ih;have#[h1,h2]:=h;by_cases e:p.1=k;rw[Gv e,Gv (h1.symm.trans e)];show#[h1,ry];rw[Gw e,Gw (λz=>e (h1.trans z))];show#[h1,h2]
def KV.put{af:kh (κ×V)}{vs:kh (κ×oJ)}(r:KV af vs)(k:κ){y:V}{u:oJ}(ry:yp y u):KV (zbB af k y) (stored vs k u):=by
 unfold zbB stored;rw[r.any k];by_cases e:(vs.any λkv=>decide (kv.1=k))=gP;rw[Gv e,Gv e];show r.repl k ry;rw[Gw e,Gw e];show Paired.snoc r #[rfl,ry]
def KV.length{af:kh (κ×V)}{vs:kh (κ×oJ)}(r:KV af vs):af.length=vs.length:=Paired.length r
end
def zkr{P:Program}(r:yp (kV k) u):(vf P w).is k u=gP:=by
 cases k with
 |inl i=>have#[t,e]:=(show ∃t,u=Value.int i t from r);subst e;show zgT P w i t
 |inr x=>have#[t,e]:=(show ∃t,u=Value.str x t from r);subst e;show zgU P w x t
theorem zeJ{P:Program}:∀{ks:kh Key} {us:kh oJ},yk (ks.map kV) us->ItemsAre (vf P w) ks us
 |[],_,r=>by rw[Fu] at r;cases r;show .nil
 |k::ks,_,r=>by
  rw[y4] at r;cases r with
  |cons h t=>show .cons (zkr h) (zeJ t)
noncomputable abbrev KT(H:Hp):kh (kh Key×V)->kh (kh Key×oN×oJ)->Prop:=Paired λp q=>p.1=q.1/\H q.2.1=eO (.tup (p.1.map kV))/\yp p.2 q.2.2
def KT.val(r:KT H af xs)(k:kh Key):WT (VX af k) ((atKey xs k).map (·.2)):=by
 induction r with
 |nil=>show Ay
 | @cons p q ps qs h t ih=>
  have#[h1,_,h2]:=h;by_cases e:p.1=k
  .have e':q.1=k:=h1.symm.trans e;have b:atKey (q::qs) k=eO q.2:=by simp[atKey,z0,e']
   rw[zcV e,b];show h2
  have e':¬q.1=k:=λz=>e (h1.trans z);have b:atKey (q::qs) k=atKey qs k:=by simp[atKey,z0,e']
  rw[zcW e,b];show ih
def KT.repl(r:KT H af xs)(k:kh Key)(ry:yp y u):
  KT H (af.map λkv=>if kv.1=k then (kv.1,y) else kv) (xs.map (putAt k u)):=by
 induction r with
 |nil=>show .nil
 | @cons p q ps qs h t ih=>
  rw[y4,y4];show .cons ?_ ih;have#[h1,h2,h3]:=h;unfold putAt;by_cases e:p.1=k;rw[Gv e,Gv (h1.symm.trans e)];show#[h1,h2,ry];rw[Gw e,Gw (λz=>e (h1.trans z))];show#[h1,h2,h3]
def KT.put(r:KT H af xs)(k:kh Key)(hb:H b=eO (.tup (k.map kV)))(ry:yp y u):
  KT H (zbB af k y) (storedH xs k b u):=by
 have e:(af.any λkv=>decide (kv.1=k))=(atKey xs k).isSome:=by
  rw[zg1,(r.val k).isSome_eq,Cd]
 unfold zbB storedH;rw[e];by_cases q:(atKey xs k).isSome=gP;rw[Gv q,Gv q];show r.repl k ry;rw[Gw q,Gw q];show Paired.snoc r #[rfl,hb,ry]
def KT.keeps(r:KT H af xs)(ht:∀b ys,H b=eO (.tup ys)->H' b=eO (.tup ys)):KT H' af xs:=
 Paired.mapP r λ_ _ z=>#[z.1,ht _ _ z.2.1,z.2.2]
section
variable{P:Program}
def zqX(ok:HOk P w H h)(e:Rd H a u):yW P w H h a u:=e.ok ok
def zg2(ok:HOk P w H h)(e:Rd H a (.dK af)):af.length<=FC/\(a==FQ)=kb/\∃vs,KV af vs/\h.DictOf (vf P w) a vs:=
 show yW P w H h a (.dK af) from zqX ok e
def zqY(ok:HOk P w H h)(e:H a=eO (.dK af)):af.length<=FC/\(a==FQ)=kb/\∃vs,KV af vs/\h.DictOf (vf P w) a vs:=zg2 ok (.inl e)
def zfz(ok:HOk P w H h)(e:H a=eO (.tup (ks.map kV))):(tupleKind (vf P w)).is h ks a:=by
 have#[_,ah,r,o,h1,h2,n,h3]:=(show yW P w H h a (.tup (ks.map kV)) from ok a _ e);show#[o,ah.toArray,n,h1,h2,h3.1,by simpa using zeJ r]
def zks(ok:HOk P w H h)(e:Rd H a (.dT af)):af.length<=FC/\(a==FQ)=kb/\
  ∃xs,KT H af xs/\h.DictOfH (tupleKind (vf P w)) a xs:=by
 have#[z,y,xs,r,o,es,ep,h1,h2,h3,h4,h5]:=(show yW P w H h a (.dT af) from zqX ok e);show#[z,y,xs,r,o,es,ep,h1,h2,h3,h4,λx hx=> ?_,h5];have all:∀{l:kh (kh Key×V)} {m:kh (kh Key×oN×oJ)},KT H l m->∀x∈m,(tupleKind (vf P w)).is h x.1 x.2.1:=by
  intro l m q
  induction q with
  |nil=>intro x hx;show nomatch hx
  | @cons p q ps qs hq t ih=>
   intro x hx;rcases uU.mp hx with e|hx;subst e;show zfz ok (by rw[<-hq.1];show hq.2.1);show ih x hx
 show all r x hx
def ztk(ok:HOk P w H h)(e:H a=eO (.dT af)):af.length<=FC/\(a==FQ)=kb/\
  ∃xs,KT H af xs/\h.DictOfH (tupleKind (vf P w)) a xs:=zks ok (.inl e)
end
def zbC(H:Hp)(a:oN)(y:V)(r:mw V):Prop:=
 (∃af k,Rd H a (.dK af)/\y=kV k/\r=VX af k)\/∃af k b,Rd H a (.dT af)/\y= .ref b/\H b=eO (.tup (k.map kV))/\r=VX af k
def ziU(H:Hp)(a:oN)(y v:V)(H':Hp):Prop:=
 (∃af k,H a=eO (.dK af)/\y=kV k/\af.length<FC/\H'=upd H a (.dK (zbB af k v)))\/
 ∃af k b,H a=eO (.dT af)/\y= .ref b/\H b=eO (.tup (k.map kV))/\af.length<FC/\H'=upd H a (.dT (zbB af k v))
def zbC.k{a:oN}{af:kh (Key×V)}{k:Key}(e:H a=eO (.dK af)):zbC H a (kV k) (VX af k):= .inl #[af,k,.inl e,rfl,rfl]
def ziU.k{a:oN}{af:kh (Key×V)}{k:Key}{v:V}(e:H a=eO (.dK af))(hl:af.length<FC):ziU H a (kV k) v (upd H a (.dK (zbB af k v))):= .inl #[af,k,e,rfl,hl,rfl]
section
def Inv.big(I:Inv X pins σ H s):FQ<#v[s]:=by
 have h:tP<#v[s]:=(I.mod.glob.keeps I.bk).lt;show Nat.lt_trans ∅ h
def zeK(hu:A.units+1<cLine)(I:Inv X pins σ H s)(g:zbC H a y (eO v))(ry:yp y u)(h:∀w' s',Inv X pins σ H s'->yp v w'->Q w' s'):
  wpAny (model X.prog X.w) A (getItem (.ref a) u) Q E s:=by
 rcases g with⟨af,k,e,ey,l⟩|⟨af,k,b,e,ey,eb,l⟩
 .subst ey;have#[z,hd,vs,rel,dd]:=zg2 I.hok e;have#[w',hw,rw']:=WT.some_of (v:=v) (o:=valueAt vs k) (by rw[l];show rel.val k);show wpAny_getItem_of (zkr ry) dd.mapOf hw (h w' _ (I.tok _) rw')
 subst ey;cases (show u=Value.ref b from ry);have#[z,hd,xs,rel,dd]:=zks I.hok e;have#[w',hw,rw']:=WT.some_of (v:=v) (o:=(atKey xs k).map (·.2)) (by rw[l];show rel.val k);have#[p,hp,nC]:=uV.mp hw;show wpAny_getItem_heap (tupleKind_room_in1 hu) (zfz I.hok eb) dd hp ?_;rw[nC];show h w' _ (I.tok _) rw'
def zkt(hu:A.units+1<cLine)(I:Inv X pins σ H s)(g:zbC H a y o)(ry:yp y u)(h:∀s',Inv X pins σ H s'->Q (.bool (!o.isSome)) s'):
  wpAny (model X.prog X.w) A (Gq .NotIn u (.ref a)) Q E s:=by
 rcases g with⟨af,k,e,ey,l⟩|⟨af,k,b,e,ey,eb,l⟩
 .subst ey;have#[z,hd,vs,rel,dd]:=zg2 I.hok e;show wpAny_notIn_of (zkr ry) hd dd.mapOf ?_;rw[<-(rel.val k).isSome_eq,<-l];show h _ (I.tok _)
 subst ey;cases (show u=Value.ref b from ry);have#[z,hd,xs,rel,dd]:=zks I.hok e;show wpAny_notIn_heap (tupleKind_room_in1 hu) (zfz I.hok eb) hd dd ?_;have q:=(rel.val k).isSome_eq;rw[Cd] at q;rw[<-q,<-l];show h _ (I.tok _)
def zaM(I:Inv X pins σ H s)(mu:Mut (H a))(hs:Heap.SameBut a s.heap h')(he:∃q,h'.get? a=eO q)(new:yW X.prog X.w (upd H a ob) h' a ob):
  Inv X pins σ (upd H a ob) {s with heap:=h',toks:=t'}:=
 I.write (x:=a) (e:=a) mu (.inl rfl) (λb q hb z=>(hs.2 b hb).trans z) he new
def zrI{P:Program}(z:af.length<=FC)(hd:(a==FQ)=kb)(rel:KV af vs)(dd:h'.DictOf (vf P w) a vs):
  yW P w H' h' a (.dK af):=#[z,hd,vs,rel,dd]
def zeL{Q:Unit->oM->Prop}(hu:A.units+1<cLine)(I:Inv X pins σ H s)(g:ziU H a y v H')(ry:yp y u)(rv:yp v r)(h:∀s',Inv X pins σ H' s'->Q () s'):
  wpAny (model X.prog X.w) A (setItem (.ref a) u r) Q E s:=by
 rcases g with⟨af,k,e,ey,l,eH⟩|⟨af,k,b,e,ey,eb,l,eH⟩
 .subst ey eH;have#[z,hd,vs,rel,dd]:=zqY I.hok e;have hz:vs.length<=FC:=by rw[<-rel.length];show z
  have hl:(zbB af k v).length<=FC:=by have:=zb8 af k v;omega
  show wpAny_setItem_pairs (hsz:=hz) (zkr ry) dd λh' dd' hs=>h _ ?_;have he:∃q,h'.get? a=eO q:=let ⟨q,_,_,hq,_⟩:=dd';#[q,hq];show zaM I (by rw[e];show Ay) hs he (zrI hl hd (rel.put k rv) dd')
 subst ey eH;cases (show u=Value.ref b from ry);have#[z,hd,xs,rel,dd]:=ztk I.hok e;have hz:xs.length<=FC:=by rw[<-Paired.length rel];show z
 have hl:(zbB af k v).length<=FC:=by have:=zb8 af k v;omega
 show wpAny_setItem_heap (hsz:=hz) (tupleKind_room_in1 hu) (zfz I.hok eb) dd λh' dd' hs=>h _ ?_;have#[q,es,ep,hq,h2,h3,h4,_,h5]:=dd';show zaM I (by rw[e];show Ay) hs #[q,hq] #[hl,hd,_,(rel.put k eb rv).keeps λc ys ec=> ?_,q,es,ep,hq,h2,h3,h4,h5];rw[zT (zsW ec e (λz=>nomatch z))];show ec
end
section
def ztl(I:Inv X pins σ H s)(e:Rd H a (.dK af))(h:∀t s',Inv X pins σ H s'->Q (.int af.length t) s'):wpAny (model X.prog X.w) A (call (.builtin "len") [.ref a]) Q E s:=by
 have#[z,hd,vs,rel,dd]:=zg2 I.hok e;show call_len_dict hd dd (by rw[<-rel.length];rw[sizeLine_eq] at z;omega) ?_;rw[<-rel.length];show h _ _ (I.tok _)
end
def zrJ(i:Expr):Prop:=∀ov iv,subscripted i kb ov iv=operate [ov,iv] (getItem ov iv)
def zku{w:World}{env:Env}{value slice:Expr}{pos:Pos}{T id:String}
  (hl:typeLookup (.type T) "__getitem__"=pure (eO (.builtin id))) (hs:zrJ slice)
  (h:wpAny (model prog w) A (eval value env) (λo s₁=>wpAny (model prog w) A (eval slice env) (λi s₂=>s₂.TypeIs o T/\wpAny (model prog w) A (getItem o i) Q E s₂) E s₁) E s):
  wpAny (model prog w) A (eval (.Subscript value slice pos) env) Q E s:=by
 show Subscript_ (FU h (λo s₁ h₁=>FU h₁ (λi s₂ h₂=> ?_) λ_ _ x=>x) λ_ _ x=>x);have#[hT,h₂]:=h₂;unfold subscriptTail;show qx ?_;rw[getitemInPython_of_ne hT.not_modules];show qx (FT hT hl ?_);have fin:wpAny (model prog w) A (subscripted slice kb o i) (λr s₃=>wpAny (model prog w) A (letTemporaryGo value o r>>=λ_=>pure r) Q E s₃) E s₂:=by
  rw[hs o i];show wpAny_operating (FU h₂ (λr s₃ h₃=>qx (wpAny_letTemporaryGo (qH h₃))) λ_ _ x=>x)
 first
  |exact qH (qx fin)
  |exact qx (qH (qx fin))
  |exact qx fin
def zb9(I:Inv X pins σ H s)(g:zbC H a y o):s.TypeIs (.ref a) "dict":=by
 rcases g with⟨af,k,e,_,_⟩|⟨af,k,b,e,_,_,_⟩
 .obtain⟨_,_,vs,_,dd⟩:=zg2 I.hok e;show dd.typeIs
 have#[_,_,xs,_,dd]:=zks I.hok e;show dd.typeIs
def zqZ(td ty:TE):TE:=λσ H Q=>td σ H λx H1=>ty σ H1 λy H2=>∃a v,x= .ref a/\zbC H2 a y (eO v)/\Q v H2
def zkv(ty td:TE):TE:=λσ H Q=>ty σ H λy H1=>td σ H1 λx H2=>∃a o,x= .ref a/\zbC H2 a y o/\Q (.bl (!o.isSome)) H2
def zq0(td ty tv:TE):TS:=λD σ H=>tv σ H λv H1=>td σ H1 λx H2=>ty σ H2 λy H3=>∃a H4,x= .ref a/\ziU H3 a y v H4/\D.nx σ H4
section
def zph(hu:X.A.units+1<cLine)(ho:PE X o td)(hi:PE X i ty)(hs:zrJ i):PE X (.Subscript o i pos) (zqZ td ty):=by
 intro pins s σ H Q I h;show zku De.lookup hs (thn (ho pins s σ H _ I h) ?_);intro u s1 #[x,H1,I1,rx,q1];show thn (hi pins s1 σ H1 _ I1 q1) ?_;intro iv s2 #[y,H2,I2,ry,a,v,ex,g,q2];subst ex;obtain rfl:u=Value.ref a:=rx;show#[zb9 I2 g,zeK hu I2 g ry λw' s3 I3 rw'=>#[v,H2,I3,rw',q2]]
def zls(hu:X.A.units+1<cLine)(hi:PE X i ty)(ho:PE X o td):PC X .NotIn i o (zkv ty td):=by
 intro pins s σ H Q I h;show thn (hi pins s σ H _ I h) ?_;intro iv s1 #[y,H1,I1,ry,q1];show thn (ho pins s1 σ H1 _ I1 q1) ?_;intro u s2 #[x,H2,I2,rx,a,ov,ex,g,q2];subst ex;obtain rfl:u=Value.ref a:=rx;show zkt hu I2 g ry λs3 I3=>#[.bl (!ov.isSome),H2,I3,rfl,q2]
def zpi(hu:X.A.units+1<cLine)(ho:PE X o td)(hi:PE X i ty)(hv:PE X value tv)(hs:swapsWith value (eO (.Subscript o i pos')) pos.line X.env=pure kb):
  PS X (.Assign [.Subscript o i pos'] value pos) (zq0 td ty tv):=by
 intro pins s σ H D I h;show wpAny_Assign_Subscript (thn (hv pins s σ H _ I h) ?_) hs;intro r s1 #[v,H1,I1,rv,q1];show thn (ho pins s1 σ H1 _ I1 q1) ?_;intro u s2 #[x,H2,I2,rx,q2];show thn (hi pins s2 σ H2 _ I2 q2) ?_;intro iv s3 #[y,H3,I3,ry,a,H4,ex,g,q3];subst ex;obtain rfl:u=Value.ref a:=rx;show zeL hu I3 g ry rv λs4 I4=>#[σ,H4,I4,q3]
end
def zmG{P:Program}(h:Heap)(hb:FQ<h.objs.size):yW P w H (h.push {cls:= .type "dict",data:= .dict [].toArray}) h.objs.size (.dK []):=
 #[Ci _,beq_eq_false_iff_ne.mpr (B3 (y6 hb)),[],.nil,Heap.DictOf.new h]
def zmH:TE:=λ_ H Q=>∀p,H p=fX->Q (.ref p) (upd H p (.dK []))
section
def WE:PE X (.Dict [] [] pos) zmH:=λpins s σ H Q I h=>
 wpAny_Dict_empty #[.ref #v[s],_,I.laid (a:=#v[s]) (o:= .dK []) (t':=s.toks) (λ_ _ q=>Heap.get?_push_of_some _ q) (uL _) (zmG s.heap I.big),rfl,h _ (I.hok.fresh (uL _))]
end
structure M1(X:Cx)(o:Expr)(m:Str)(apos:Pos)(e:Expr)(bV:Pos):Prop where
 base:Gr o m X.env (eval o X.env)=eval o X.env
 few:((backTo bV (FD [e] X.env)).all (λx=> !x.1)&&(backToKw bV (keywordEach [] X.env)).all (λx=>x.1.isSome)
  &&decide (([e]:kh Expr).length+([]:kh Keyword).length+(if ([]:kh Keyword).isEmpty then 0 else 1)<30))=gP
 line:(apos.endLine==bV.line)=gP
 trees:backTo bV (FD [e] X.env)=[(kb,eval e X.env)]
structure M2(X:Cx)(o:Expr)(m:Str)(apos:Pos)(e f:Expr)(bV:Pos):Prop where
 base:Gr o m X.env (eval o X.env)=eval o X.env
 few:((backTo bV (FD [e,f] X.env)).all (λx=> !x.1)&&(backToKw bV (keywordEach [] X.env)).all (λx=>x.1.isSome)
  &&decide (([e,f]:kh Expr).length+([]:kh Keyword).length+(if ([]:kh Keyword).isEmpty then 0 else 1)<30))=gP
 line:(apos.endLine==bV.line)=gP
 trees:backTo bV (FD [e,f] X.env)=[(kb,eval e X.env),(kb,eval f X.env)]
section
variable{a:oN}{y d:V}{u r:oJ}{o:mw V}
end
section
variable{o e f:Expr}{apos bV:Pos}{td ty tx:TE}
end
section
variable{a:oN}{af:kh (Key×V)}
end
section
variable{a:oN}{y:V}{u:oJ}
end
end L2
namespace Att
open PySem.W PySem.Calls
def zcq{P:Params}:∀(ns:kh Int) (vs:kh oJ),WellAll P h vs (ns.map WData.int)->IntsAre vs ns:=by
 intro ns
 induction ns with
 |nil=>
  intro vs w;rw[Fu] at w;cases w;show .nil
 |cons n ns ih=>
  intro vs w;rw[y4] at w;cases w with
  |cons a b=>
   cases a;show .cons _ _ (ih _ b)
def zlu{l:OpenLaw}{n:Nat}(hn:l.most=eO n){P:Params}{h:Heap}{args:kh WData}{vals:kh oJ}
  (iK:l.row.toRowW.claim.pre args=gP) (kH:WellAll P h vals args):
  ∃a vs ns,vals=[Value.ref a]/\args=[WData.list (ns.map WData.int)]/\h.get? a=eO {cls:= .type "list",data:= .seq vs.toArray}/\IntsAre vs ns/\ns.length<=n:=by
 have rP:WShape.hasAll [] args [.list .int]=gP:=(pre_splitW iK).1;have hc:l.pre.holds [] {args:=args}=gP:=(pre_splitW iK).2;have#[d,r,rfl,h1,h2]:=hasAllW_cons rP;obtain rfl:=hasAllW_nil h2;have#[xs,rfl,h3]:=hasW_list h1;have#[ns,rfl]:=items_int h3;have hlen:ns.length<=n:=by
  unfold OpenLaw.pre at hc;have h4:(WTm.not (.lt (.lit (.int (n:Int))) (.len (.arg 0)))).holds [] {args:=[.list (ns.map .int)]}=gP:=by
   have h4:=(holds_andW hc).1;rw[hn] at h4;show h4
  have h5:=condW_of h4 (w_not (w_lt w_lit (w_len_list (w_arg rfl))));rw[uM] at h5;show Nat.le_of_not_lt λq=> ?_;have q':(n:Int)<((ns.length:Nat):Int):=by omega
  first
   |(rw[decide_eq_true q'] at h5;show absurd h5 ∅)
   |(simp at h5;omega)
 cases kH with
 |cons w1 w2=>
  cases w2;cases w1 with
  |list ho gD=>show#[_,_,ns,rfl,rfl,ho,zcq ns _ gD,hlen]
def zlv(l:OpenLaw)(args:kh WData):l.row.toRowW.claim.post args (.bool gP) args=gP:=
 postW_of (r:=l.row.toRowW) (X:=(gP==gP))
  (show WShape.has [] (.bool gP) .bool=gP by first|rfl|decide|simp[WShape.has,WShape.arms,WShape.armsAll])
  (show(WTm.eq .res (.lit (.bool gP))).value [] {args:=args,res:=eO (.bool gP),after:=args}=eO (.bool (gP==gP)) from w_eq_bool (w_res rfl) w_lit) rfl
def zg3{l:OpenLaw}{n:Nat}{q:Program}{loose:kh Str}{XP:(Str->mw oJ)->Heap->Prop}{YP:World->Heap->Prop}{d:DefRec}
  (hn:l.most=eO n) (kY:d.params.defaults=[])
  (call:∀(w:World) (s₀ s₁:oM) (mg mb:Str->mw oJ) (fa:oN) (o:Obj) (pm cd doc:oJ) (a:oN) (vs:kh oJ) (ns:kh Int),
   Ground q loose [] XP w s₀ mg mb s₁.heap->YP w s₁.heap->
   s₁.heap.get? fa=eO o->o.data= .func (docDef d.name d.params d.body d.scope pm cd doc)->s₁.heap.CodeRec cd d.name->mg d.name=eO (.ref fa)->
   s₁.heap.get? a=eO {cls:= .type "list",data:= .seq vs.toArray}->IntsAre vs ns->ns.length<=n->s₁.gens= [].toArray->
   codeAny (model l.prog w) callerA (.call (.ref fa) #[[.ref a],[]]) (λr s'=>r= .ok (.ret (.bool gP))/\OldK s₁.heap s'.heap/\s'.os=s₁.os/\AllBare s'.gens) s₁):
  WalkO q loose XP YP l.row.toRowW d [] (λf vs=>EY f vs):=by
 intro w s₀ s₁ mg mb G Y fa o pm cd doc dV kV ho hd dA hD jB hg args vals as iK su pF kH tZ;obtain rfl:dV= .none:=Dflts.none hD kY;obtain rfl:kV= .none:=Dflts.noKw hD;have#[a,vs,ns,rfl,rfl,jz,hints,hlen]:=zlu hn iK kH;show enter_call (codeAny_mono (call w s₀ s₁ mg mb fa o pm cd doc a vs ns G Y ho (fd_plain hd) dA jB jz hints hlen hg) λr s' hq=> ?_);have#[rfl,h2,h3,h4]:=hq;show#[.inl #[.bool gP,.bool gP,[],rfl,λ_=>rfl,.bool gP,zlv l _,λ_=>#[EB,λ_ hm=>(nomatch hm)]],h2,h3,h4]
section
variable{w:World}{K:Frag}
end
end Att
namespace L2
theorem zeM:∀{vs:kh oJ} {ns:kh Int},IntsAre vs ns->yk (ns.map V.int) vs
 |_,_,.nil=> .nil
 |_,_,.cons n t h=> .cons #[t,rfl] (zeM h)
noncomputable def xg(s:Stmt)(j:Nat):Stmt:=match s with
 | .ClassDef _ _ _ body _ _ _ _ _ _ _=>body.getD j (.Pass #[0,0,0,0])
 |_=> .Pass #[0,0,0,0]
noncomputable def WY(s:Stmt):Arguments:=match s with
 | .FunctionDef _ a _ _ _ _ _ _ _ _=>a
 |_=>{posonlyargs:=[],args:=[],vararg:=fX,kwonlyargs:=[],kw_defaults:=[],kwarg:=fX,defaults:=[]}
noncomputable def vC(s:Stmt):kh Stmt:=match s with
 | .FunctionDef _ _ b _ _ _ _ _ _ _=>b
 |_=>[]
noncomputable def zq(s:Stmt):Scope:=match s with
 | .FunctionDef _ _ _ _ _ _ sc _ _ _=>sc
 |_=>{kind:= .function,names:=[],isGenerator:=kb,isCoroutine:=kb}
noncomputable abbrev E0:XK:=λ_ _ _=>False
structure Fun(K:uG)(x qual:Str)(st:Stmt)(f:oN)(fd:FW):Prop where
 ex:∃(oc:oJ) (od:mw oN) (kV doc pm:oJ) (an:mw oN) (bS ct:oJ) (fY:Array (mw oJ)),
  fd=Bo x qual (WY st) (vC st) (zq st) .none kV doc pm an bS ct/\K.lookup f=eO #[oc,od,.func fd,fY]/\C3 K bS qual=gP
 kp:Bf K (.ref f)=gP
section
variable{P:Program}{w:World}{mg:Str->mw oJ}{base:Heap}
def Fun.binds{x qual:Str}{st:Stmt}{f:oN}{fd:FW}{ps:kh Str}(F:Fun K x qual st f fd)
  (h:∀(kV doc pm:oJ) (an:mw oN) (bS ct:oJ) (us:kh oJ),us.length=ps.length->bindArgs (Bo x qual (WY st) (vC st) (zq st) .none kV doc pm an bS ct) #[us,[]]=pure (ps.zip us)):TL K fd ps []:=by
 have#[oc,od,kV,doc,pm,an,bS,ct,fY,rfl,lk,dA]:=F.ex;show .all (h kV doc pm an bS ct)
def zmI{x qual:Str}{st:Stmt}{f:oN}{oc:oJ}{od an:mw oN}{fY:Array (mw oJ)}{kV doc pm bS ct:oJ}(l:K.lookup f=eO #[oc,od,.func (Bo x qual (WY st) (vC st) (zq st) .none kV doc pm an bS ct),fY])
  (c:C3 K bS qual=gP) (k:Bf K (.ref f)=gP):Fun K x qual st f (Bo x qual (WY st) (vC st) (zq st) .none kV doc pm an bS ct):=#[#[oc,od,kV,doc,pm,an,bS,ct,fY,rfl,l,c],k]
end
def zmJ(hr:ww k A):A.units+1<cLine:=uT (AJ (by decide:1<=64) _) hr.units
def pv(i:Nat){x:Str}{pos:Pos}(hN:X.N[i]? =eO x:=by rfl)(hv:Vis X.env.scope x:=by (first|exact .inl rfl|exact .inr (.inl rfl)|exact .inr (.inr rfl)))(hd:(x==("__debug__":Str))=kb:=by decide)
  (dA:(x==("__classdict__":Str))=kb:=by decide):PE X (.Name x pos) (zrl i):=zml hN hv hd dA
def YL(H H':Hp):Prop:=∀b o,H b=eO o->H' b=eO o
def YL.refl(H:Hp):YL H H:=λ_ _ h=>h
section
variable{κ:Type}[DecidableEq κ]
end
def Uj{R:Result->oM->Prop}(I:Nat->oM->Prop)
  (turn:∀n s,I n s->wpAny (model prog w) A (pyNext it) (λr s₁=>match r with
   |none=>R (.ok .next) s₁
   |some v=>wpAny (model prog w) A (letOwnedTupleGo tg it v) (λ_ s₁'=>wpAny (model prog w) A (assign tg env v) (λ_ s₂=>
     wpAny (model prog w) A (forIn ifs gP λc r=>if r=gP then do let ok <-isTrue c env (eval c env);pure (BF ok) else pure (BF r)) (λok s₃=>
      if ok=gP then wpAny (model prog w) A (eval elt env) (λx s₄=>
       wpAny (model prog w) A (call (.builtin "list.append") [acc,x]) (λ_ s₅=>∃m,m<n/\I m s₅) (λ_ _=>False) s₄) (λ_ _=>False) s₃
      else ∃m,m<n/\I m s₃) (λ_ _=>False) s₂)
     (λ_ _=>False) s₁') (λ_ _=>False) s₁) (λ_ _=>False) s)
  (n:Nat) (h:I n s):codeAny (model prog w) A (.compLoop (.ListComp elt [#[tg,iter,ifs,0]] scope pos) 0 it acc env) R s:=by
 show codeAny_loop rfl I (λn s hI=> ?_) n h;change wpAny _ A ((compTurn (.ListComp elt [#[tg,iter,ifs,0]] scope pos) 0 it acc env).onRaise (λx=>do noteFrame x env;theTreesLotGoes x)) _ _ s;show wpAny_noted ?_;rw[compTurn_list];show qx (wpAny_standAt (qx (FU (turn n s hI) (λr s₁ h₁=> ?_) λ_ _ h'=>h'.elim)));cases r with
 |none=>show qH h₁
 |some v=>
  show qx (FU h₁ (λ_ s₁' h₁'=> ?_) λ_ _ h'=>h'.elim);show qx (FU h₁' (λ_ s₂ h₂=>qx (FU h₂ (λok s₃ h₃=> ?_) λ_ _ h'=>h'.elim)) λ_ _ h'=>h'.elim);cases ok with
  |false=>show qH #[rfl,h₃]
  |true=>
   show qx (qx (FU h₃ (λx s₄ h₄=>qx (FU h₄ (λ_ s₅ h₅=>qH (qH #[rfl,h₅])) λ_ _ h'=>h'.elim)) λ_ _ h'=>h'.elim))
noncomputable def zcr(env:Env):kh (Str×Ga)->kh (Str×oN)->kh (Str×oN)
 |[],cs=>cs
 |(n,k)::r,cs=>zcr env r (if k== .free then (match env.cells.lookup n with|some c=>(n,c)::cs|none=>cs) else cs)
noncomputable def WZ(sc:Scope)(env:Env):kh (Str×oN):=zcr env sc.names []
theorem zcX:∀{ns:kh (Str×Ga)} {cs:kh (Str×oN)},(∀p∈cs,env.cells.lookup p.1=eO p.2)->∀p∈zcr env ns cs,env.cells.lookup p.1=eO p.2
 |[],_,h=>h
 |(n,k)::r,cs,h=>by
  unfold zcr;show zcX ?_;by_cases hk:(k== .free)=gP
  .rw[Gv hk];cases e:env.cells.lookup n with
   |none=>show h
   |some c=>
    intro p hp;rcases uU.mp hp with rfl|hp;show e;show h p hp
  rw[Gw hk];show h
theorem zg4:∀{ns:kh (Str×Ga)} {cs:kh (Str×oN)} {p:Str×oN},p∈cs->p∈zcr env ns cs
 |[],_,_,h=>h
 |(n,k)::r,cs,p,h=>by
  unfold zcr;show zg4 ?_;by_cases hk:(k== .free)=gP
  .rw[Gv hk];cases env.cells.lookup n with
   |none=>show h
   |some c=>show uR _ h
  rw[Gw hk];show h
theorem zg5(e:env.cells.lookup x=eO c):∀{ns:kh (Str×Ga)} {cs:kh (Str×oN)},(x,NameKind.free)∈ns->(x,c)∈zcr env ns cs
 |[],_,h=>by cases h
 |(n,k)::r,cs,h=>by
  unfold zcr;rcases uU.mp h with h|h;injection h with h1 h2;subst h1 h2;show zg4 ?_;rw[Gv (by rfl),e];show uY;show zg5 e h
theorem vx:∀{l:kh (Str×oN)} {x:Str} {c:oN},(x,c)∈l->∃d,l.lookup x=eO d
 |[],_,_,h=>by cases h
 |(n,d)::r,x,c,h=>by
  rw[An];cases e:x==n with
  |true=>show#[d,rfl]
  |false=>
   rcases uU.mp h with h|h;injection h with h1 h2;subst h1;simp at e;show vx h
def WG(e:(WZ sc env).lookup x=eO c):env.cells.lookup x=eO c:=
 zcX (cs:=[]) (λp hp=>by cases hp) (x,c) (z3 e)
def zcY(h:(x,NameKind.free)∈sc.names)(e:env.cells.lookup x=eO c):(WZ sc env).lookup x=eO c:=by
 have#[d,hd]:=vx (zg5 (cs:=[]) e h);have:=WG (sc:=sc) hd;rw[e] at this;cases this;show hd
def TM(h:∀y∈sc.names,y.2= .free->∃c,env.cells.lookup y.1=eO c):closureFor sc env=pure (WZ sc env):=by
 unfold WZ closureFor;generalize sc.names=ns at h
 suffices hh:∀cs:kh (Str×oN),(forIn ns cs (λ(x:Str×Ga) (r:kh (Str×oN))=>
    (match x with
     |(name,kind)=>if (kind==NameKind.free)=gP then (cellOf env name>>=λc=>pure (BF ((name,c)::r))) else pure (BF r):Sem (ForInStep (kh (Str×oN)))))>>=λr=>pure r:Sem (kh (Str×oN)))=pure (zcr env ns cs) from hh []
 induction ns with
 |nil=>intro cs;rfl
 |cons p r ih=>
  intro cs;have#[n,k]:=p;rw[DC];unfold zcr;have ih':=ih λy hy=>h y (uR _ hy);by_cases hk:(k== .free)=gP
  .obtain⟨c,hc⟩:=h (n,k) uY (by simpa using hk);have hc:env.cells.lookup n=eO c:=hc;have h1:cellOf env n=pure c:=by unfold cellOf;rw[hc]
   simp only[hk,if_true,h1,hc,pure_bind];show ih' _
  simp only[hk,if_false,pure_bind];show ih' _
noncomputable def zmK(X:Cx)(N':kh Str)(sc:Scope)(C:oN)(s₀:oM)(H₀:Hp)(fp:kh oN):Cx where
 prog:=X.prog
 w:=X.w
 K:=X.K
 mg:=X.mg
 base:=X.base
 A:=X.A
 N:=N'
 s₀:=s₀
 H₀:=H₀
 env:=compEnvC sc (WZ sc X.env) C X.env
 outer:=X.stack
 stack:=X.stack
 ex:=fp
 fn:=λ_=>kb
 zn:=λ_=>kb
 calm:=X.calm
 pn:=[]
 xe:=λ_ _=>False
theorem Yt{env:Env}:∀{names:kh (Str×Ga)} {x:Str},names.lookup x=eO .free->
  (names.map λ(n,k)=>if (k==NameKind.free&&env.scope.kind== .function&&env.kindOf n==eO .cell) then (n,NameKind.cell) else (n,k)).lookup x=eO .cell\/
  (names.map λ(n,k)=>if (k==NameKind.free&&env.scope.kind== .function&&env.kindOf n==eO .cell) then (n,NameKind.cell) else (n,k)).lookup x=eO .free
 |[],_,h=>by simp at h
 |(n,k)::r,x,h=>by
  have ih:= @Yt env r x;change Bm x ((if (k==NameKind.free&&env.scope.kind== .function&&env.kindOf n==eO .cell)=gP then (n,NameKind.cell) else (n,k))::_)=_\/Bm x ((if (k==NameKind.free&&env.scope.kind== .function&&env.kindOf n==eO .cell)=gP then (n,NameKind.cell) else (n,k))::_)=_;cases hx:x==n with
  |true=>
   simp only[An,hx] at h;cases h;by_cases hc:(NameKind.free==NameKind.free&&env.scope.kind== .function&&env.kindOf n==eO .cell)=gP;rw[Gv hc];left;simp[An,hx];rw[Gw hc];right;simp[An,hx]
  |false=>
   simp only[An,hx] at h;by_cases hc:(k==NameKind.free&&env.scope.kind== .function&&env.kindOf n==eO .cell)=gP;rw[Gv hc];simp only[An,hx];show ih h;rw[Gw hc];simp only[An,hx];show ih h
def vU(X:Cx)(sc:Scope):kh (mw Nat)->kh Str->Prop
 |[],[]=>True
 |none::r,_::n=>vU X sc r n
 |some i::r,x::n=>(X.N[i]? =eO x/\sc.names.lookup x=eO .free)/\vU X sc r n
 |_,_=>False
noncomputable def ZS(cap:kh (mw Nat))(σ:St):St:=cap.map λo=>o.bind λi=>(σ[i]?).join
theorem vU.at:∀{cap:kh (mw Nat)} {N':kh Str},vU X sc cap N'->∀(j i:Nat) (x:Str),cap[j]? =eO (eO i)->N'[j]? =eO x->X.N[i]? =eO x/\sc.names.lookup x=eO .free
 |[],[],_,j,i,x,h,_=>by simp at h
 |none::r,y::n,c,0,i,x,h,_=>by simp at h
 |none::r,y::n,c,j+1,i,x,h,h2=>vU.at (cap:=r) c j i x (by simpa using h) (by simpa using h2)
 |some k::r,y::n,c,0,i,x,h,h2=>by
  simp at h h2;subst h h2;show c.1
 |some k::r,y::n,c,j+1,i,x,h,h2=>vU.at (cap:=r) c.2 j i x (by simpa using h) (by simpa using h2)
theorem vU.len:∀{cap:kh (mw Nat)} {N':kh Str},vU X sc cap N'->cap.length=N'.length
 |[],[],_=>rfl
 |none::r,y::n,c=>by simpa using vU.len (cap:=r) (N':=n) c
 |some k::r,y::n,c=>by simpa using vU.len (cap:=r) (N':=n) c.2
def zeN{cap:kh (mw Nat)}{j:Nat}{v:V}(h:(ZS cap σ)[j]? =eO (eO v)):∃i,cap[j]? =eO (eO i)/\σ[i]? =eO (eO v):=by
 unfold ZS at h;rw[uK] at h;cases e:cap[j]? with
 |none=>rw[e] at h;cases h
 |some o=>
  rw[e] at h;cases o with
  |none=>simp at h
  |some i=>
   show#[i,rfl,?_];simp only[AZ,y0,A8] at h;cases q:σ[i]? with
   |none=>rw[q] at h;simp at h
   |some z=>rw[q] at h;simp at h;rw[h]
def PTs(X:Cx)(ifs:kh Expr)(t:TT):Prop:=
 ∀(pins:kh (oN×Obj)) (s:oM) (σ:St) (H:Hp) (Q:Bool->Hp->Prop),Inv X pins σ H s->t σ H Q->
  wpAny (model X.prog X.w) X.A (forIn ifs gP λc r=>if r=gP then do let ok <-isTrue c X.env (eval c X.env);pure (BF ok) else pure (BF r)) (TP X pins σ Q) X.xe s
def yR:PTs X [] (λ_ H Q=>Q gP H):=λ_ _ _ H _ I h=>wpAny_tests_nil #[H,I,h]
def zmL(cap:kh (mw Nat))(g:TG)(tt:TT)(te:TE)(J:It)(σ:St)(acc:oN)(H0:Hp)(Q:Hp->Prop):Prop:=
 ∃W:Nat->Nat->kh V->Hp->Prop,(∃m,W 0 m [] (upd H0 acc (.lst [])))/\∀i m ys H,W i m ys H->
  (J.stop i H/\Q H)\/(J.go i H/\∀x H',J.yld i H x H'->g x (ZS cap σ) H' λσ2 H2=>tt σ2 H2 λb H3=>
   if b=gP then te σ2 H3 λv H4=>H4 acc=eO (.lst ys)/\ys.length<FC/\∃m',m'<m/\W (i+1) m' (ys++[v]) (upd H4 acc (.lst (ys++[v])))
   else ∃m',m'<m/\W (i+1) m' ys H3)
def zmM(cap:kh (mw Nat))(wi:TI)(g:TG)(tt:TT)(te:TE):TE:=λσ H Q=>wi σ H λJ H1=>∀acc,H1 acc=fX->zmL cap g tt te J σ acc H1 λH2=>Q (.ref acc) H2
def zg6(i:Nat)(cap:kh (mw Nat))(wi:TI)(g:TG)(tt:TT)(te:TE):TS:=λD σ H=>wi σ H λJ H1=>∀acc,H1 acc=fX->zmL cap g tt te J σ acc H1 λH2=>D.nx (σ.set i (eO (.ref acc))) H2
structure zfA(X:Cx)(sc:Scope):Prop where
 cell:∀y∈sc.names,y.2≠ .cell
 kind:sc.kind= .function
 names:∀y∈sc.names,y.2= .local->sc.names.lookup y.1=eO .local
 free:∀y∈sc.names,y.2= .free->X.env.kindOf y.1=eO .cell\/X.env.kindOf y.1=eO .free
section
def Inv.closure(I:Inv X pins σ H s)(B:zfA X sc):closureFor sc X.env=pure (WZ sc X.env):=
 TM λy hy e=>I.ok.has y.1 (B.free y hy e)
def Kp(σ0 σ:St):Prop:=σ.length=σ0.length/\∀(j:Nat) v,σ0[j]? =eO (eO v)->σ[j]? =eO (eO v)
def zlw(cap:kh (mw Nat))(g:TG):Prop:=∀σ0 σ x H Q,Kp (ZS cap σ0) σ->g x σ H Q->g x σ H λσ2 H2=>Q σ2 H2/\Kp (ZS cap σ0) σ2
def zkw(cap:kh (mw Nat))(g:TGs):Prop:=∀σ0 σ x H Q,Kp (ZS cap σ0) σ->g x σ H Q->g x σ H λσ2 H2=>Q σ2 H2/\Kp (ZS cap σ0) σ2
def zlx(h:cap[i]? =eO fX):zlw cap (zeC i):=λσ0 σ x H Q k q=>by
 show#[q,by rw[B9];show k.1,λj v e=> ?_];have:j≠i:=by
  rintro rfl;have#[i',e1,_]:=zeN e;rw[h] at e1;cases e1
 rw[Cu (B3 this)];show k.2 j v e
def zly:zkw cap zrp:=λσ0 σ x H Q k ⟨e,q⟩=>#[e,q,k]
def ziV(h1:zlw cap t)(h2:zkw cap u)(mono:∀v σ H (Q Q':St->Hp->Prop),(∀σ H,Q σ H->Q' σ H)->t v σ H Q->t v σ H Q'):zkw cap (zmo t u):=λσ0 σ x H Q k ⟨v,r,e,q⟩=>
 #[v,r,e,mono v σ H _ _ (λσ' H' ⟨q',k'⟩=>h2 σ0 σ' r H' Q k' q') (h1 σ0 σ v H _ k q)]
def ziW:∀v σ H (Q Q':St->Hp->Prop),(∀σ H,Q σ H->Q' σ H)->zeC i v σ H Q->zeC i v σ H Q':=λ_ _ _ _ _ f q=>f _ _ q
def zmN(h:zkw cap t):zlw cap (zo4 K n t):=λσ0 σ x H Q k ⟨a,xs,e,hq,hl,q⟩=>#[a,xs,e,hq,hl,h σ0 σ xs H Q k q]
end
def vp{α:Type}:Sem α->Prop
 | .pure _=>True
 | .raise _=>True
 | .unsupported _=>True
 | .finish _=>True
 | .rule _ k=>∀u,vp (k u)
 | .at _ k=>∀u,vp (k u)
 | .load _ _ k=>∀o,vp (k o)
 | .update _ _ f k=>(∀o,(f o).dict=o.dict/\(f o).cls=o.cls)/\∀u,vp (k u)
 | .alloc _ k=>∀a,vp (k a)
 | .loadIfAlive _ k=>∀o,vp (k o)
 | .point _ k=>∀u,vp (k u)
 | .stack k=>∀x,vp (k x)
 | .ask k=>∀x,vp (k x)
 |_=>False
def KD(h h':Heap):Prop:=∀(b:Nat) o,h.objs[b]? =eO o->∃o',h'.objs[b]? =eO o'/\o'.dict=o.dict/\o'.cls=o.cls
def KD.refl(h:Heap):KD h h:=λ_ o e=>#[o,e,rfl,rfl]
def KD.trans(x:KD h h1)(y:KD h1 h2):KD h h2:=λb o e=>by
 have#[o1,e1,d1,c1]:=x b o e;have#[o2,e2,d2,c2]:=y b o1 e1;show#[o2,e2,d2.trans d1,c2.trans c1]
def KD.push(h:Heap)(o:Obj):KD h (h.push o):=λb o' e=>by
 show#[o',?_,rfl,rfl];have#[objs,l]:=h;change(objs.push o)[b]? =eO o';have e:objs[b]? =eO o':=e;rw[Array.getElem?_push];have hb:b<objs.size:=(BU.mp e).1;rw[Gw (y6 hb)];show e
def KD.update(h:Heap)(a:oN){f:Obj->Obj}(hf:∀o,(f o).dict=o.dict/\(f o).cls=o.cls):KD h (h.update a f):=λb o e=>by
 have#[objs,l]:=h;change ∃o',(objs.modify a f)[b]? =eO o'/\_;rw[Array.getElem?_modify];have e:objs[b]? =eO o:=e;by_cases i7:a=b;rw[Gv i7,e];show#[f o,rfl,hf o];rw[Gw i7,e];show#[o,rfl,rfl,rfl]
def zg7{h:Heap}{a:oN}{o:Obj}(e:h.get? a=eO o):h.objs[a]? =eO o:=by
 unfold Heap.get? at e;split at e;cases e;show e
def KD.at(k:KD h h')(e:h.get? a=eO o)(e':h'.get? a=eO o'):o'.dict=o.dict/\o'.cls=o.cls:=by
 have#[o1,e1,d]:=k a o (zg7 e);rw[zg7 e'] at e1;cases e1;show d
def zpj{α:Type}{M:Model}{Γ:PySem.Ctx}{t:Sem α}:∀{Q:α->Pos->oM->Prop} {E:oJ->Pos->oM->Prop} {p:Pos} {s:oM} {h₀:Heap},vp t->KD h₀ s.heap->Sem.wp M Γ t Q E p s->
  Sem.wp M Γ t (λa p' s'=>Q a p' s'/\KD h₀ s'.heap) (λe p' s'=>E e p' s'/\KD h₀ s'.heap) p s:=by
 induction t with
 |pure a=>show λ_ k h=>#[h,k]
 |raise e=>show λ_ k h=>#[h,k]
 |unsupported w=>show λ_ _ h=>h.elim
 |finish e=>show λ_ _ h=>h.elim
 |rule _ k ih=>show λt z h=>ih () (t ()) z h
 | «at» _ k ih=>show λt z h=>ih () (t ()) z h
 |load a _ k ih=>
  intro Q E p s h₀ t z h;have#[o,e,h]:=h;show#[o,e,ih o (t o) z h]
 |update a _ f k ih=>
  intro Q E p s h₀ t z h;have#[e,h]:=h;show#[e,ih () (t.2 ()) (z.trans (KD.update _ _ t.1)) h]
 |alloc o k ih=>show λt z h=>ih _ (t _) (z.trans (KD.push _ _)) h
 |loadIfAlive a k ih=>show λt z h=>ih _ (t _) z h
 |point _ k ih=>show λt z h=>ih () (t ()) z h
 |stack k ih=>show λt z h=>ih _ (t _) z h
 |ask k ih=>show λt z h=>ih _ (t _) z h
 |register _ _ _=>show λt=>t.elim
 |fresh _ _=>show λt=>t.elim
 |choose _ _ _ _=>show λt=>t.elim
 |os _ _ _ _=>show λt=>t.elim
 |call _ _ _ _ _ _=>show λt=>t.elim
 |handled _ _ _=>show λt=>t.elim
 |newGen _ _ _=>show λt=>t.elim
 |genState _ _ _=>show λt=>t.elim
 |resume _ _ _ _ _=>show λt=>t.elim
 |yield _ _ _ _ _=>show λt=>t.elim
 |fork _ _ _=>show λt=>t.elim
 |thread _ _=>show λt=>t.elim
 |await _ _ _ _ _ _=>show λt=>t.elim
def zmO{α:Type}{t:Sem α}{Q:α->oM->Prop}(T:vp t)(h:wpAny M A t Q E s):wpAny M A t (λa s'=>Q a s'/\KD s.heap s'.heap) (λe s'=>E e s'/\KD s.heap s'.heap) s:=
 λΓ p hΓ=>zpj T (KD.refl _) (h Γ p hΓ)
def zlz{α β:Type}{f:α->Sem β}(hf:∀a,vp (f a)):∀{t:Sem α},vp t->vp (t.bind f):=by
 intro t
 induction t with
 |pure a=>show λ_=>hf a
 |raise e=>show λ_=>trivial
 |unsupported w=>show λ_=>trivial
 |finish e=>show λ_=>trivial
 |rule _ k ih=>show λt u=>ih u (t u)
 | «at» _ k ih=>show λt u=>ih u (t u)
 |load a _ k ih=>show λt u=>ih u (t u)
 |update a _ f k ih=>show λt=>#[t.1,λu=>ih u (t.2 u)]
 |alloc o k ih=>show λt u=>ih u (t u)
 |loadIfAlive a k ih=>show λt u=>ih u (t u)
 |point _ k ih=>show λt u=>ih u (t u)
 |stack k ih=>show λt u=>ih u (t u)
 |ask k ih=>show λt u=>ih u (t u)
 |register _ _ _=>show λt=>t.elim
 |fresh _ _=>show λt=>t.elim
 |choose _ _ _ _=>show λt=>t.elim
 |os _ _ _ _=>show λt=>t.elim
 |call _ _ _ _ _ _=>show λt=>t.elim
 |handled _ _ _=>show λt=>t.elim
 |newGen _ _ _=>show λt=>t.elim
 |genState _ _ _=>show λt=>t.elim
 |resume _ _ _ _ _=>show λt=>t.elim
 |yield _ _ _ _ _=>show λt=>t.elim
 |fork _ _ _=>show λt=>t.elim
 |thread _ _=>show λt=>t.elim
 |await _ _ _ _ _ _=>show λt=>t.elim
def tb{α β:Type}{t:Sem α}{f:α->Sem β}(h:vp t)(hf:∀a,vp (f a)):vp (t>>=f):=zlz hf h
def zd8(v:oJ):vp (fieldsOf v):=by
 unfold fieldsOf;split
 .show tb (λo=>trivial) λo=> ?_;split<;>trivial
 trivial
def Va(v:oJ)(i:Nat):vp (field v i):=by
 unfold field;show tb (zd8 v) λa=> ?_;split<;>trivial
def zcZ(g:Array oJ->Array oJ)(o:Obj):(Obj.mapFields g o).dict=o.dict/\(Obj.mapFields g o).cls=o.cls:=by
 have#[c,d,dt,sl]:=o;cases dt<;>show#[rfl,rfl]
def XW(v:oJ)(i:Nat)(x:oJ):vp (setField v i x):=by
 unfold setField;split;unfold updateField;show tb (λo=>trivial) λo=> ?_;split;split;show#[λo=>zcZ _ o,λ_=>trivial];trivial;trivial;trivial
def zc0(e:oJ)(f:mw oN):vp (setFlight e f):=by
 unfold setFlight;show tb (Va _ _) λtb'=> ?_;split;show XW _ _ _;trivial
def zc1(ty:String)(vs:kh oJ):vp (newFields ty vs):=by
 have h:vp (newObjAsIs (Value.type ty) (Data.fields vs.toArray)):=by
  unfold newObjAsIs;show tb (λa=>trivial) λa=>trivial
 unfold newFields newObj;change vp (if vs.toArray.size>FC+2 then (unsupported "record:memory">>=λ_=>newObjAsIs (Value.type ty) (Data.fields vs.toArray)) else newObjAsIs (Value.type ty) (Data.fields vs.toArray));split;trivial;show h
def zg8(env:Env)(outer:kh Env):vp (behindIsImport env outer):=by
 unfold behindIsImport;split;trivial;split;trivial;show tb (Va _ _) λ_=>trivial
def ziX:vp underTheClaimsCaller:=tb (λ_=>trivial) λ_=>trivial
def zd9(env:Env)(i:Bool)(outer:kh Env):vp (keptBack env i outer):=by
 cases outer with
 |nil=>
  unfold keptBack;by_cases h:(env.scope.isGenerator||env.scope.isCoroutine)=gP;rw[Gv h];trivial;rw[Gw h];show tb ziX λx=> ?_;trivial
 |cons c r=>
  unfold keptBack;trivial
theorem zc2:∀l:kh Env,vp (readyFrames l)
 |[]=>trivial
 |env::outer=>by
  unfold readyFrames;split;show tb (λo=>trivial) λo=> ?_;split;trivial;show tb (zg8 _ _) λi=>tb (zd9 _ _ _) λb=>tb #[λo=>#[rfl,rfl],λ_=>trivial] λ_=>zc2 outer;trivial
def zfB(env:Env):vp (E8 env):=by
 unfold E8;show tb (λx=>trivial) λl=>tb ?_ λo=> ?_
 .generalize List.dropWhile _ l=l';unfold frameObject;cases l' with
  |nil=>trivial
  |cons a r=>show tb (zc2 _) λ_=>trivial
 split<;>trivial
def zcs(f:oN)(b:Bool):vp (entryPlaceOf f b):=by
 unfold entryPlaceOf;show tb (λx=>trivial) λl=> ?_;split<;>trivial
set_option tactic.hygienic true in
def zc3(e:oJ)(env:Env):vp (noteFrame e env):=by
 unfold noteFrame;split
 .rename_i f _;have last:∀head:oJ,vp (do setField e 1 (<-EntryCells.newEntry head (<-E8 env) .none (Gc f) .none (<-entryPlaceOf f (head != .none)))):=λhead=>
   tb (zfB env) λa=>tb (zcs _ _) λpl=>tb (zc1 _ _) λb=>XW _ _ _
  show tb (Va _ _) λhead=> ?_;split;show tb (Va _ _) λx=> ?_;split;trivial;show tb (XW _ _ _) λ_=>last head;show last head
 trivial
def zfC(env:Env)(e:oJ):vp (leaving env e):=tb (zc3 e env) λ_=>zc0 _ _
def yW.there{P:Program}(x:yW P w H h a o):∃ob,h.get? a=eO ob:=by
 cases o with
 |lst xs=>have#[_,_,_,_,e]:=x;show#[_,e]
 |tup xs=>have#[_,_,_,ob,e,_]:=x;show#[_,e]
 |dK af=>have#[_,_,_,_,o,_,_,e,_]:=x;show#[_,e]
 |dT af=>have#[_,_,_,_,o,_,_,e,_]:=x;show#[_,e]
 |dN af=>have#[_,_,_,_,o,_,_,e,_]:=x;show#[_,e]
 |set S n=>have#[o,_,_,_,e,_]:=x;show#[_,e]
 |ins C dx fs=>have#[_,_,_,e,_]:=x;show#[_,e]
 |own y=>have#[_,e]:=x;show#[_,e]
 |xd fs=>have#[_,#[_,_,_,e,_],_]:=x;show#[_,e]
 |rng lo hi=>have#[_,_,_,e]:=x;show#[_,e]
 |frz ob u=>have#[e,_]:=x;show#[_,e]
 |tbl ps=>show#[_,(show h.get? a=eO _ from x)]
 |met f y=>show#[_,(show h.get? a=eO _ from x)]
 |ext φ=>have#[_,#[_,e],_]:=x;show#[_,e]
def Cov(outer:kh Env)(H':Hp)(old h' B:Heap):Prop:=
 (∀b o,(∃o0,old.get? b=eO o0)->b∉frs outer->h'.get? b=eO o->B.get? b=eO o)/\∀b u o,H' b=eO u->h'.get? b=eO o->B.get? b=eO o
structure Fly(P:Program)(w:World)(outer:kh Env)(H:Hp)(s:oM)(e:oN)(cls:oJ)(H':Hp)(s':oM):Prop where
 os:s'.os=s.os
 bare:AllBare s'.gens
 un:Un (frs outer) [] H H' s.heap s'.heap
 hok:HOk P w H' s'.heap
 fly:∃B t,Heap.FlyingW B outer e cls (.ref t) s'.heap/\Cov outer H' s.heap s'.heap B
 new:s.heap.get? e=fX
 free:H' e=fX
 nd:∀o,s'.heap.get? e=eO o->o.dict=fX
noncomputable def CXE(P:Program)(w:World):CXT:=λouter H s E ev s'=>∃e cls H',ev= .ref e/\Fly P w outer H s e cls H' s'/\E cls fX H'
def Fly.moved{P:Program}(F:Fly P w outer H s e cls H' s')(fl:Heap.FlyingW B outer e cls a0 s'.heap)(cov:Cov outer H' s.heap s'.heap B)
  (st:B.StaysIn h2) (sm:s'.heap.UpToSlots h2):Un (frs outer) [] H H' s.heap h2/\HOk P w H' h2/\Cov outer H' s.heap h2 B:=by
 have nofs:∀b u,H' b=eO u->∃o,s'.heap.get? b=eO o/\B.get? b=eO o/\h2.get? b=eO o:=λb u q=>by
  have#[o,e1]:=(F.hok b u q).there;have e2:=cov.2 b u o q e1;show#[o,e1,e2,st b o e2]
 have old:∀b o0,s.heap.get? b=eO o0->b∉frs outer->∃o,s'.heap.get? b=eO o/\B.get? b=eO o/\h2.get? b=eO o:=λb o0 q hb=>by
  have#[o,e1]:=F.un.there b o0 q (by simp);have e2:=cov.1 b o #[o0,q] hb e1;show#[o,e1,e2,st b o e2]
 have fr:∀b∈frs outer,∃o sl,s'.heap.get? b=eO o/\h2.get? b=eO {o with slots:=sl}:=λb hb=>by
  have#[_,o,e1,d]:=fl.2.2.1.mem hb;have#[sl,e2]:=sm b o e1 d;show#[o,sl,e1,e2]
 show#[#[λb o q n hb _=> ?_,λb o q n hb _=> ?_,λb o q n hx=>F.un.free b o q n hx,λb o q _=> ?_,F.un.tups,F.un.frzs,F.un.tbls],λa u q=> ?_,λb o q hb e1=> ?_,λb u o q e1=> ?_];have#[o1,e1,_,e3]:=old b o q hb;have e4:=F.un.keep b o q n hb (by simp);rw[e1] at e4;cases e4;show e3;have#[o1,oP,e1,e2]:=fr b hb;have#[sl,e4]:=F.un.slot b o q n hb (by simp);rw[e1] at e4;cases e4;show#[oP,e2];by_cases hb:b∈frs outer;have#[o1,oP,e1,e2]:=fr b hb;show#[_,e2];have#[o1,_,_,e3]:=old b o q hb;show#[_,e3]
 .show (F.hok a u q).stay (λb ob hb eb=> ?_) (λ_ z=>z) λ_ _ z=>z;have:∃u',H' b=eO u':=by
   rcases hb with z|z;show#[u,z ▸ q];show#[_,z]
  have#[u',hu]:=this;have#[o1,e1,_,e3]:=nofs b u' hu;rw[eb] at e1;cases e1;show e3
 .obtain⟨o0,q⟩:=q;have#[o1,_,e2,e3]:=old b o0 q hb;rw[e1] at e3;cases e3;show e2
 have#[o1,_,e2,e3]:=nofs b u q;rw[e1] at e3;cases e3;show e2
section
variable{P:Program}{mg:Str->mw oJ}{N:kh Str}{E:XK}
def ym:Ui (CXE P w) (TF (CXE P w) P w K mg base N qual scope f bS A outer s H E) E:=by
 intro pins σ H1 s1 ev s' I #[e,cls,H',rfl,F,hE];have#[B,t,fl,cov]:=F.fly;have sJ:∀b∈frs (envOfC qual scope #v[s] f bS::outer),b∈#v[s]::frs outer:=I.stkSub;show FU (zmO (zfC _ _) (wpAny_leaves_onW (E:=λ_ _=>False) (Q:=λ_ s''=>∃h',s''={s' with heap:=h'}/\Heap.FlyingW B outer e cls (.ref t) h'/\s'.heap.UpToSlots h') (L:=#v[s]) I.ok.frames rfl fl λh' x1 x2=>#[h',rfl,x1,x2])) (λ_ s3 h3=> ?_) λ_ _ h3=>h3.1.elim;have#[#[h',rfl,x1,x2],kd]:=h3;have#[un,hok,cov']:=F.moved fl cov x1.1 x2;have iS:∀b:oN,b∉(TF (CXE P w) P w K mg base N qual scope f bS A outer s H E).ex:=λb z=>absurd (show b∈([]:kh oN) from z) (by simp);have oT:∀b o,s.heap.get? b=eO o->b∉frs outer->b∉frs (envOfC qual scope #v[s] f bS::outer):=λb o q hb hz=>by
  rcases uU.mp (sJ b hz) with z|z;show y6 (Heap.lt_size q) z;show hb z
 have sub:∀b∈frs outer,b∈frs (envOfC qual scope #v[s] f bS::outer):=λb hb=>by
  unfold frs at hb ⊢;rw[BD];show uR _ hb
 show#[e,cls,H',rfl,#[F.os.trans I.os,F.bare,#[λb o q n hb _=> ?_,λb o q n hb _=> ?_,λb o q n _=> ?_,λb o q _=> ?_,λb xs q=>un.tups b xs (I.base.tups b xs q),λb o xs q=>un.frzs b o xs (I.base.frzs b o xs q),λb ps q=> ?_],hok,
  #[B,t,x1,λb o q hb e1=> ?_,cov'.2],?_,F.free,λo q=> ?_],hE]
 .show un.keep b o (I.base.keep b o q n hb (iS b)) (I.base.free b o q n (iS b)) (oT b o q hb) (by simp)
 .obtain⟨sl,e1⟩:=I.base.slot b o q n hb (iS b);have#[jQ,e2]:=un.slot b _ e1 (I.base.free b o q n (iS b)) (sub b hb) (by simp);show#[jQ,e2]
 .obtain⟨o1,e1⟩:=I.base.there b o q (iS b);show un.free b o1 e1 (I.base.free b o q n (iS b)) (by simp)
 .obtain⟨o1,e1⟩:=I.base.there b o q (iS b);show un.there b o1 e1 (by simp)
 .obtain⟨m1,e1⟩:=I.base.tbls b ps q;have#[m2,e2]:=un.tbls b _ e1;show#[m1++m2,by rw[e2,CQ]]
 .obtain⟨o0,q⟩:=q;have#[o1,q1]:=I.base.there b o0 q (iS b);show cov'.1 b o #[o1,q1] (oT b o0 q hb) e1
 .cases q:s.heap.get? e with
  |none=>rfl
  |some o=>
   have#[o',q']:=I.base.there e o q (iS e);have:=F.new;rw[q'] at this;cases this
 have#[ob,pJ,_]:=fl.there;show(kd.at pJ q).1.trans (F.nd ob pJ)
end
structure ziY(K:uG)(mg:Str->mw oJ)(x:Str)(C:oN)(tM:kh oJ)(newId:String):Prop where
 mg:mg x=eO (.ref C)
 tR:CY K C tM newId=gP
def vM{P:Program}:Ui (CXE P w) X E0:=λ_ _ _ _ _ _ _ ⟨_,_,_,_,_,h⟩=>h.elim
section
variable{e:Expr}{es:kh Expr}{te:TE}
end
noncomputable def zrK(e:oN)(cls:oJ):HO:= .ext λh=>∃ob,h.get? e=eO ob/\ob.cls=cls/\ob.dict=fX/\∃vs,ob.data= .fields vs
noncomputable abbrev Cx.hand(X:Cx)(e:oN):Cx:={X with A:=X.A.mark (eO (.ref e)),calm:=kb,xe:=λ_ _=>False}
open PySem.Builtin.Int (intBits)
def zq1(i j:Int):Prop:=∃m n:Nat,intBits i<=m/\intBits j<=n/\m+n<=134217728
def zmP(i j:Int):Prop:=j≠0/\intBits j<=9000
def yY:OpR X (Gj .Mult) (rI zq1 λi j=> .int (i*j)):=opI λ_ _ _ _ _ _ _ hc q=>by
 have#[m,n,h1,h2,h3]:=hc;show mul_int q (IntMulOk.of_le h1 h2 h3)
def zg9:OpR X (Gj .FloorDiv) (rI zmP λi j=> .int (i.fdiv j)):=opI λi j _ _ _ _ _ hc q=>floordiv_int hc.1 q (.inl (PyProof.noPylong_of_log2 (by
 have h:=Ai.mp hc.2;by_cases z:j.natAbs=0;rw[z];decide
 show (Nat.log2_lt z).mpr h)))
section
def zfD{Q:Unit->oM->Prop}(X:K.In s.heap)(I:CK s.heap x ox D fX)(be:A2 K D (.type "BaseException")=eO gP)(hq:Q () s):
  wpAny M A (checkBuiltinCall "BaseException.__getattribute__" #[[.ref x,nameV],[]]) Q E s:=by
 have#[hh,g,d,t,os]:=s;have hk:builtinKind "BaseException.__getattribute__"=eO .slot:=by decide+kernel
 have hsplit:splitId "BaseException.__getattribute__"=eO ("BaseException","__getattribute__"):=by decide+kernel
 have L0:=I.type (M:=M);have L1:=PySem.W.looks_mroIn (M:=M) X be;have ha:=F.args_bexc_ga (.ref x) nameV;simp only[checkBuiltinCall,hk,hsplit];show qx ?_;unfold isInstance;show qx (L0.at (L1.at ?_))
 repeat (first|wp_step)
 show hq
def zlA{Q:mw oJ->oM->Prop}(X:K.In s.heap)(I:CK s.heap x ox D fX)(ga:x5 K (.ref D) "__getattribute__"=eO (eO (.builtin "BaseException.__getattribute__")))(noga:x5 K (.ref D) "__getattr__"=eO fX)
  (be:A2 K D (.type "BaseException")=eO gP) (hf:DE K D fX "__class__"=eO (.bind (.builtin "getset_descriptor.__get__") (.builtin "object.__class__"))) (hm:A2 K D (.type "object")=eO gP)
  (h:Q (eO (.ref D)) {s with toks:=s.toks+1}):wpAny (model prog w) A (getAttr? (.ref x) "__class__") Q E s:=by
 have#[hh,g,d,t,os]:=s;have L0:=I.type (M:=model prog w);have L1:=Cy (M:=model prog w) X ga;have L2:=Cy (M:=model prog w) X noga;have L3:=PySem.W.looks_find (M:=model prog w) X I hf;have hb:=F.attrBase_ValueError.ga.bind (.ref x);unfold getAttr? getAttrBy? getAttrBy;show qx (wpAny_mkText (qx (FZ (FR (qx (L0.at (qx (L1.at ?_))))))));dsimp only;rw[Gw (show ¬(onTheHeap (Value.ref D)&&(Value.builtin "BaseException.__getattribute__"==Value.builtin "object.__getattribute__"))=gP by rw[show(Value.builtin "BaseException.__getattribute__"==Value.builtin "object.__getattribute__")=kb by decide+kernel];simp)];unfold getAttrByItsOwn hookBefore;show qx ?_;change wpAny _ _ (typeLookup (.ref D) "__getattr__") _ _ _;show L2.at ?_;show qx (FZ (FR ?_));unfold callGetattribute boundAndCalled;rw[Gw ∅,hb];show qx (qH ?_);dsimp only;show wpAny_call (codeAny_call_builtin F.attrBase_ValueError.ga.plain F.entry_bexc_ga (zfD (ox:=ox) X I be ?_));unfold Gk.«object.__getattribute__»;show qx (Gb (show slotArgs "__getattribute__" 1 {pos:=[Value.ref x]++[Value.str (Str.ofString "__class__") t]}=pure (.ref x,[Value.str (Str.ofString "__class__") t]) from rfl) ?_);dsimp only;show qx (Gb (show Builtin.ObjectAttr.attrName (Value.str (Str.ofString "__class__") t)=pure (Str.ofString "__class__") from rfl) ?_);show qx (L0.at (qx (L3.at ?_)));dsimp only;change wpAny _ _ (do ret (<-holding [Value.builtin "object.__class__"] (call (.builtin "getset_descriptor.__get__") [.builtin "object.__class__",.ref x,.ref D]))) _ _ _;show qx (FR (wpAny_call (PySem.W.class_get (ox:=ox) (od:=fX) X I hm ?_)));show qH (PySem.W.handed_on rfl (qH h))
end
structure zha(K:uG)(D:oN):Prop where
 ga:x5 K (.ref D) "__getattribute__"=eO (eO (.builtin "BaseException.__getattribute__"))
 noga:x5 K (.ref D) "__getattr__"=eO fX
 be:A2 K D (.type "BaseException")=eO gP
 hc:(E9 K D).isSome=gP
 ha:x5 K (.ref D) "__class__"=eO (eO (.builtin "object.__class__"))
 hn:Ca K (.builtin "object.__class__") "__get__"=eO (eO (.builtin "getset_descriptor.__get__"))
 htk:DB K (.builtin "object.__class__")=eO gP
 hm:A2 K D (.type "object")=eO gP
set_option tactic.hygienic true in
def zmQ(e:zha K D):Fv K (.ref x) (.ref D) (λh=>∃ox,CK h x ox D fX) where
 ty:=λ_ _ _ ⟨_,I⟩=>I.type
 it:=λ_ _ X _=>by
  have#[cd,dA]:=Al.mp e.hc;unfold E9 at dA;split at dA;rename_i ho;intro A' Q' E' s' k q;unfold isType loadHead;show qx (wpAny_loadPart (k _ _ (X _ _ ho)) (qH q));cases dA
 ne:=λh tp dd ah n sl X rJ=>by
  have#[cd,dA]:=Al.mp e.hc;show EC.mpr λq=> ?_;have z:D=tp:=Value.ref.inj (beq_iff_eq.mp q);subst z;unfold E9 at dA;split at dA;rename_i ho;have y:=(X _ _ ho).symm.trans rJ;cases y;cases dA
 ca:=λ{_ _ _ _ _ s} X I k=>by
  have#[ox,I]:=I;have#[cd,dA]:=Al.mp e.hc;have hf:DE K D fX "__class__"=eO (.bind (.builtin "getset_descriptor.__get__") (.builtin "object.__class__")):=by
   unfold DE;rw[dA,y0,e.ha,y0];simp[e.hn,e.htk]
  show zlA X I e.ga e.noga e.be hf e.hm k
inductive TyX(K:uG)(H:Hp):V->Value->Prop where
 |of {x:V} {t:Value} (h:zcp K H x t):TyX K H x t
 |exc {e D:Addr} (h:H e=eO (zrK e (.ref D))) (k:zha K D):TyX K H (.ref e) (.ref D)
 |sqt {a:Addr} {xs:List V} (h:SqT K H a xs):TyX K H (.ref a) (.type "tuple")
 |sql {a:Addr} {xs:List V} (h:SqL K H a xs):TyX K H (.ref a) (.type "list")
def TyX.kit(I:Inv X pins σ H s)(rx:yp x u)(ty:TyX X.K H x t):∃Hh,Fv X.K u t Hh/\Hh s.heap:=by
 cases ty with
 |of ty=>
  cases ty with
  |non=>cases (show u=Value.none from rx);show#[_,PySem.W.kitx_none,Ay]
  |bl y=>cases (show u=Value.bool y from rx);show#[_,PySem.W.kitx_bool,Ay]
  |int i=>have#[t,q]:=(show ∃t,u=Value.int i t from rx);cases q;show#[_,PySem.W.kitx_int,Ay]
  |str y=>have#[t,q]:=(show ∃t,u=Value.str y t from rx);cases q;show#[_,PySem.W.kitx_str,Ay]
  |flt y=>have#[t,q]:=(show ∃t,u=Value.float y t from rx);cases q;show#[_,PySem.W.kitx_float,Ay]
  | @lst a xs ea=>
   cases (show u=Value.ref a from rx);have#[_,_,n,_,h1]:=(show yW X.prog X.w H s.heap a (.lst xs) from I.hok a _ ea);show#[_,D8,#[_,h1,rfl]]
  | @frz a ob xs ea=>
   cases (show u=Value.ref a from rx);have#[_,_,_,n,_,h1]:=(show yW X.prog X.w H s.heap a (.frz ob (.lst xs)) from I.hok a _ ea);show#[_,D8,#[_,h1,rfl]]
  | @tup a xs ea=>
   cases (show u=Value.ref a from rx);have#[_,_,_,p]:=(show yW X.prog X.w H s.heap a (.tup xs) from I.hok a _ ea);have#[o,h1,h2,_]:=p;show#[_,Ek,#[o,h1,h2]]
  | @dK a af ea=>
   cases (show u=Value.ref a from rx);have#[_,_,vs,_,p]:=(show yW X.prog X.w H s.heap a (.dK af) from I.hok a _ ea);have#[o,es,ep,h1,h2,_]:=p;show#[_,ED,#[o,h1,h2.1]]
  | @dT a af ea=>
   cases (show u=Value.ref a from rx);have#[_,_,xs,_,o,es,ep,h1,h2,_]:=(show yW X.prog X.w H s.heap a (.dT af) from I.hok a _ ea);show#[_,ED,#[o,h1,h2.1]]
  | @ins a C dx fs ea cl ha hn htk hm=>
   cases (show u=Value.ref a from rx);have#[mA,O,_]:=zcL I.hok ea;have#[od,J,_]:=O.look;show#[_,PySem.W.kitx_own (cl.get _) cl.hd ha hn htk hm,J]
 | @sqt a xs h=>
  cases (show u=Value.ref a from rx);have#[ah,_,#[o,h1,h2,_],_]:=I.tuple h;show#[_,Ek,#[o,h1,h2]]
 | @sql a xs h=>
  cases (show u=Value.ref a from rx);have#[ah,_,#[o,n,h1,h2,_],_]:=I.list h;show#[_,D8,#[o,h1,h2]]
 | @exc e D h k=>
  cases (show u=Value.ref e from rx);have#[#[ob,h1,h2,h3,vs,h4],_]:=(show yW X.prog X.w H s.heap e (zrK e (.ref D)) from I.hok e _ h);show#[_,zmQ k,ob,h1,h2,?_,?_];unfold PySem.W.notCls;rw[h4];rw[h3];trivial
noncomputable def ztm:V->mw oJ
 | .ref a=>eO (.ref a)
 | .ty n=>eO (.type n)
 |_=>fX
def zmR(h:ztm c=eO cv)(r:yp c u):u=cv:=by
 cases c with
 |ref a=>cases h;show r
 |ty n=>cases h;show r
 |_=>cases h
def yp.nb(r:yp x u):u≠ .builtin "__main__.__loader__#opaque":=by
 cases x with
 |non=>rintro rfl;cases r
 |bl b=>rintro rfl;cases r
 |int i=>rintro rfl;have#[_,q]:=r;cases q
 |str i=>rintro rfl;have#[_,q]:=r;cases q
 |byt i=>rintro rfl;have#[_,q]:=r;cases q
 |flt i=>rintro rfl;have#[_,q]:=r;cases q
 |ref a=>rintro rfl;cases r
 |ty a=>rintro rfl;cases r
def zpk(K:uG):kh V->Hp->VK->Prop:=λxs H Q=>∃x c cv t b,xs=[x,c]/\ztm c=eO cv/\TyX K H x t/\Ad K t cv=eO b/\Q (.bl b) H
def zmS:vT X (.builtin "isinstance") (zpk X.K):=by
 intro pins s σ H xs us Q I r h;have#[x,c,cv,t,b,rfl,hc,ty,e,q]:=h;have#[u,w',rfl,ru,rw']:=zki r;obtain rfl:=zmR hc rw';have#[Hh,Z,p]:=ty.kit I ru;show PySem.W.kia_one Z I.kIn p e ru.nb λtk=>#[.bl b,H,I.tok tk,rfl,q]
def Uk:Ad K t t=eO gP:=by unfold Ad;rw[Gv (by simp)]
def zfE:Ad K (.type "bool") (.type "int")=eO gP:=by
 have h:(fastBuiltinMro "bool").map (·.contains (.type "int"))=eO gP:=by decide+kernel
 have hm:Br "int"=gP:=by decide+kernel
 unfold Ad DN;rw[Gw ∅];change(if Br "int"=gP then CZ K (.type "bool") (.type "int") else fX)=_;rw[Gv hm];show h
def zfF:Ad K (.type "int") (.type "bool")=eO kb:=by
 have h:(fastBuiltinMro "int").map (·.contains (.type "bool"))=eO kb:=by decide+kernel
 have hm:Br "bool"=gP:=by decide+kernel
 unfold Ad DN;rw[Gw ∅];change(if Br "bool"=gP then CZ K (.type "int") (.type "bool") else fX)=_;rw[Gv hm];show h
end L2
namespace L2
inductive D where
 |non|bl (b:Bool)|int (i:Int)|str (x:Str)|tup (l:List D)|lst (l:List D)|ins (C:Addr) (ns:List Str) (l:List D)
mutual
inductive Is(K:uG)(H:Hp):V->D->Prop where
 |non:Is K H .non .non
 |bl (b:Bool):Is K H (.bl b) (.bl b)
 |int (i:Int):Is K H (.int i) (.int i)
 |str (x:Str):Is K H (.str x) (.str x)
 |tup {a:Addr} {xs:List V} {ds:List D}:SqT K H a xs->IsL K H xs ds->Is K H (.ref a) (.tup ds)
 |lst {a:Addr} {xs:List V} {ds:List D}:SqL K H a xs->IsL K H xs ds->Is K H (.ref a) (.lst ds)
 |ins {a C dx:Addr} {ns:List Str} {xs:List V} {ds:List D}:H a=eO (.ins C dx (ns.zip xs))->ns.length=xs.length->IsL K H xs ds->Is K H (.ref a) (.ins C ns ds)
inductive IsL(K:uG)(H:Hp):List V->List D->Prop where
 |nil:IsL K H [] []
 |cons {v:V} {d:D} {vs:List V} {ds:List D}:Is K H v d->IsL K H vs ds->IsL K H (v::vs) (d::ds)
end
def wD(h:H p=fX):YL H (upd H p o):=λb u e=>by rw[zT (Zv e h)];show e
section
variable{Q:VK}{ta tb tc:TE}{D':zaG}{v:V}{i:Nat}
end
end L2
namespace L2
section
variable{Q:VK}{D':zaG}{E:XK}
end
def Fun.okE{P:Program}{w:World}{mg:Str->mw oJ}{base:Heap}{x qual:Str}{st:Stmt}{f:oN}{fd:FW}{N ps:kh Str}{k:Nat}{sp:Sp}(F:Fun K x qual st f fd)(S:zB N ps (zq st))(len:∀vs H Q E,sp vs H Q E->vs.length=ps.length)
  (du:∀(bS:oJ) (A:Around) (outer:kh Env) (s:oM) (H:Hp) (vs:kh V) (Q:VK) (E:XK),ww k (A.deeper (envOfC qual (zq st) #v[s] f bS))->sp vs H Q E->
   ∃t,PSs (TF (CXE P w) P w K mg base N qual (zq st) f bS A outer s H E) (vC st) t/\t {nx:=λ_ H'=>Q .non H',rt:=Q} (Ys N vs) H):Yy P w K mg base (CXE P w) (k+1) f fd ps sp:=by
 have#[oc,od,kV,doc,pm,an,bS,ct,fY,rfl,lk,dA]:=F.ex;show ztg lk dA S len λA outer s H vs Q E hr gJ=>du bS A outer s H vs Q E hr gJ
section
variable{Q:VK}{D':zaG}{E:XK}{EX:oJ->Hp->Prop}
end
section
def zpl(h:X.K=K:=by rfl):IxR X (zpf K):=h ▸ zmC
def zmT(h:X.K=K:=by rfl):IxR X (zpe K):=h ▸ zko
def xC(h:X.K=K:=by rfl):vT X (.builtin "isinstance") (zpk K):=h ▸ zmS
def zlB(h:X.K=K:=by rfl):vT X (.builtin "len") (λxs H Q=>∃p ys,xs=[.ref p]/\(SqL K H p ys\/SqT K H p ys)/\Q (.int ys.length) H):=h ▸ zfx
def ziZ(h:X.K=K:=by rfl):vT X (.type "list") (λxs H Q=>∃p ys,xs=[.ref p]/\(SqL K H p ys\/SqT K H p ys)/\∀l,H l=fX->Q (.ref l) (upd H l (.lst ys))):=h ▸ zfy
def vN(h:X.K=K:=by rfl):vT X (.type "tuple") (λxs H Q=>∃p ys,xs=[.ref p]/\((SqL K H p ys/\∀l,H l=fX->Q (.ref l) (upd H l (.tup ys)))\/(SqT K H p ys/\Q (.ref p) H))):=h ▸ zd7
def zlC(h:X.K=K:=by rfl):OpR X (Gq .NotIn) (rIn K gP):=h ▸ zfw
def zhb(h:X.K=K:=by rfl):SlR X (zmD K):=h ▸ zpg
def zmU(hl:PE X l tl)(h:X.K=K:=by rfl):PI X tg l (zmr K tl):=h ▸ zo5 hl
def Xu(hl:PE X l tl)(h:X.K=K:=by rfl):PI X tg l (zrs K tl):=h ▸ zrt hl
def zpm{es:kh Expr}{k:Nat}{t:TGs}{n:Nat}{pos:Pos}(hc:X.calm=gP)(h:PGs X es t)(hK:X.K=K:=by rfl)
  (hn:(assignEach es X.env).length=n:=by rfl) (ft:(assignEach es X.env).findIdx? (·.1)=fX:=by rfl):PG X (.Tuple es k pos) (zo4 K n t):=hK ▸ zrq hc h hn ft
def yS:vU X sc [] []:=trivial
def yO(h:vU X sc r n):vU X sc (fX::r) (x::n):=h
def zpn(h1:X.N[i]? =eO x)(h2:sc.names.lookup x=eO .free)(h:vU X sc r n):vU X sc (eO i::r) (x::n):=#[#[h1,h2],h]
end
noncomputable def zmV(osc sc:Scope):Bool:=sc.names.all (λy=>y.2 != .cell)&&sc.kind== .function&&sc.names.all (λy=>y.2 != .local||sc.names.lookup y.1==eO .local)&&
 sc.names.all (λy=>y.2 != .free||(osc.names.lookup y.1==eO .cell||osc.names.lookup y.1==eO .free))
def blk(hs:X.env.scope=osc)(h:zmV osc sc=gP):zfA X sc:=by
 unfold zmV at h;simp only[A5,Ao,bne_iff_ne,ne_eq,beq_iff_eq,DF] at h;have#[#[#[h1,h2],h3],h4]:=h;show#[h1,h2,λy hy e=>(h3 y hy).resolve_left λz=>z e,λy hy e=> ?_];change X.env.scope.names.lookup y.1=_\/X.env.scope.names.lookup y.1=_;rw[hs];show(h4 y hy).resolve_left λz=>z e
section
variable{g:TG}{tb:TS}{nx:St->Hp->Prop}{rt:VK}
end
mutual
noncomputable def D.depth:D->Nat
 | .tup l=>D.depths l+1
 | .lst l=>D.depths l+1
 | .ins _ _ _=>1000
 |_=>0
noncomputable def D.depths:kh D->Nat
 |[]=>0
 |d::r=>max (D.depth d) (D.depths r)
end
section
variable{Q:VK}{D':zaG}{cap:kh (mw Nat)}{wi:TI}{g:TG}{tt:TT}{te:TE}
variable{acc:oN}{H0:Hp}{Qh:Hp->Prop}
end
section
variable{σ:kh (mw V)}
def Inv.turnedL{t':Nat}{fp:kh oN}(I:Inv X pins σ H s)(k:∀b o,b∉fp->s.heap.get? b=eO o->h'.get? b=eO o)(hf:∀b∈fp,zd3 X pins H b):Inv X pins σ H {s with heap:=h',toks:=t'}:=by
 have kx:∀b u,H b=eO u->b∉fp:=λb u e z=>by rw[(hf b z).1] at e;cases e
 show I.step (g':=s.gens) (d':=s.drawn) (ch:=fp) (λb hb=> ?_) (λb o _ _ hc e _=>k b o hc e) (λb o _ _ hc e _=>#[o.slots,k b o hc e]) (λ_ _ _ _ n=>n)
  (λb o hc e=>#[o,k b o hc e]) (λ_ _ e=>e) (λ_ _ _ e=>e) (λb ps e=>#[[].toArray,by rw[e];simp]) (λm hm=> ?_) (λb u e=> ?_) I.bare
 .obtain⟨f0,f1,f2,f3,f4,f5⟩:=hf b hb;show#[f3,f1,f4,f5]
 .obtain⟨o,es,ep,ho,r⟩:=hm;show#[o,es,ep,k _ o (λz=>(hf _ z).2.1 rfl) ho,r]
 show (I.hok b u e).stay (λc v hc q=>k c v ?_ q) (λ_ q=>q) λ_ _ q=>q;rcases hc with z|z;rw[z];show kx b u e;show kx c _ z
def Inv.turnedT{t':Nat}{fp:kh oN}{ys:kh V}{us:kh oJ}(I:Inv X pins σ H s)(hv:yk ys us)(hl:ys.length<=FC)(k:∀b o,b∉fp->s.heap.get? b=eO o->h'.get? b=eO o)
  (hp:h'.get? #v[s]=eO {cls:= .type "tuple",data:= .seq us.toArray}) (hf:∀b∈fp,zd3 X pins H b) (hx:∀b∈fp,∃o,s.heap.get? b=eO o):
  Inv X pins σ (upd H #v[s] (.tup ys)) {s with heap:=h',toks:=t'}/\H #v[s]=fX/\∀b∈fp,upd H #v[s] (.tup ys) b=fX:=by
 have fr:H #v[s]=fX:=I.hok.fresh (uL _);have nb:∀b∈fp,b≠#v[s]:=λb hb z=>by
  have#[o,e]:=hx b hb;show absurd (Heap.lt_size e) (by rw[z];show AB _)
 have fb:∀b∈fp,upd H #v[s] (.tup ys) b=fX:=λb hb=>by rw[zT (nb b hb)];show(hf b hb).1
 have I0:Inv X pins σ (upd H #v[s] (.tup ys)) {s with heap:=s.heap.push {cls:= .type "tuple",data:= .seq us.toArray}}:=
  I.laid (t':=s.toks) (λb o e=>Heap.get?_push_of_some _ e) (uL _) #[hl,us,hv,YI.new _ _]
 show#[Inv.turnedL (s:={s with heap:=s.heap.push {cls:= .type "tuple",data:= .seq us.toArray}}) (t':=t') (fp:=fp) I0 (λb o hb e=> ?_) (λb hb=> ?_),fr,fb];by_cases z:b=#v[s];subst z;rw[Heap.get?_push_size _ rfl] at e;cases e;show hp;show k b o hb ?_;rwa [Heap.get?_push_ne _ _ _ z] at e;have#[f0,f1,f2,f3,f4,f5]:=hf b hb;show#[fb b hb,f1,f2,f3,f4,f5]
end
structure ZA(z TI TO i1 i2:oN):Prop where
 TIz:TI≠z
 TOz:TO≠z
 i1z:i1≠z
 i2z:i2≠z
 TITO:TI≠TO
 TIi1:TI≠i1
 TIi2:TI≠i2
 TOi1:TO≠i1
 TOi2:TO≠i2
 i12:i1≠i2
section
variable{cap:kh (mw Nat)}{g:TG}{tt:TT}{te:TE}{acc:oN}{H0:Hp}{Qh:Hp->Prop}
end
section
variable{Q:VK}{D':zaG}
end
section
variable{Q:VK}
end
open Classical in
theorem zbD(ns:kh Int):∀k,preSum (λi=>ns.getD i 0) k=(ns.take k).sum
 |0=>by simp[preSum]
 |k+1=>by
  unfold preSum;rw[zbD ns k,EE,List.sum_append];cases h:ns[k]? <;>simp[uX,h]
def ztn(K:uG):kh V->Hp->VK->Prop:=λxs H Q=>∃(p:oN) (ns:kh Int),xs=[.ref p]/\SqL K H p (ns.map V.int)/\Q (.int ns.sum) H
def zlD(hc:X.calm=gP)(hK:X.K=K:=by rfl):vT X (.builtin "sum") (ztn K):=by
 subst hK;intro pins s σ H xs us Q I r h;have#[p,ns,rfl,hq,q]:=h;have#[u,rfl,ru]:=VN r;cases ru;have#[ah,rv,pl,hz]:=I.list hq;have lt:p<#v[s]:=by
  have#[o,n,e,_]:=id pl;show Heap.lt_size e
 have hl:=rv.length;rw[uM] at hl;show call_sum_walkAnyS (Ge pl.isList ?_);have W:=(Walks.list (prog:=X.prog) (w:=X.w) (A:=X.A.in1) (I.ok.hd hc) #v[s] p (y6 lt) ah.toArray).toS;show#[#v[s],_,_,_,_,_,_,λi=>ns.getD i 0,rfl,W,?_,?_,?_,?_];show#[#[_,Heap.get?_push_size _ rfl,rfl,rfl],Heap.IsList.push pl.isList _];intro b hb;rw[Heap.size_push];rcases(by simpa using hb:b=#v[s]\/b=p) with rfl|rfl;show Az _;show BK lt
 .intro i v hv;have hv:ah[i]? =eO v:=by simpa using hv
  have hi:i<ns.length:=by rw[hl];show(uF.1 hv).1
  (obtain⟨u,hu,t,ru⟩:=rv.get (i:=i) (x:=V.int ns[i]) (by rw[uK,uH hi];rfl);rw[hu] at hv;cases hv);show#[t,?_];rw[ru];change Value.int ns[i] t=Value.int (ns.getD i 0) t;rw[uX,uH hi,Ap]
 intro s' t' m
 have I1:Inv X pins σ H {s with heap:=s'.heap,toks:=s'.toks}:=I.kept λb o e=>m.heap b o (λz=>by
  have z:b=#v[s]:=by simpa using z
  show absurd (Heap.lt_size e) (by rw[z];show AB _)) (Heap.get?_push_of_some _ e)
 have e:({s with heap:=s'.heap,toks:=s'.toks}:oM)=s':=by
  (have h1:=m.gens;have h2:=m.drawn;have h3:=m.os;cases s';simp only at h1 h2 h3;subst h1 h2 h3;rfl)
 rw[e] at I1;show#[.int ns.sum,H,I1,#[t',?_],q];rw[zbD];have:ah.toArray.size=ns.length:=by rw[uS,<-hl]
 rw[this,A3]
section
variable{Q:VK}
end
section
variable{v:V}
end
open PyProof
def zmW:V->kh V->Hp->VK->Prop:=λx vs H Q=>∃(l:oN) (xs:kh V) (y:V) (j:Nat),x= .ref l/\vs=[y]/\H l=eO (.lst xs)/\Xt y=gP/\xs.all Xt=gP/\(∃z,xs[j]? =eO z/\eqV z y=gP)/\(∀m z,m<j->xs[m]? =eO z->eqV z y=kb)/\Q (.int (j:Int)) H
def zmX:MtM X "list.index" zmW:=by
 intro pins s σ H x vs v us Q I rx rv h;have#[l,xs,y,j,rfl,rfl,hH,fy,fs,#[z,mZ,kE],nE,q]:=h;cases rx;have#[u,rfl,ru]:=rv.one;have#[zl,ah,n,r,hl,e]:=I.lstM hH;have hn:=Uh;have hj:j<xs.length:=(uF.1 mZ).1;have fl:∀(m:Nat) (w:V),xs[m]? =eO w->Xt w=gP:=λm w hw=>Ao.1 fs w (uJ hw);have at_:∀(m:Nat) (w:V) (hm:m<ah.toArray.size),xs[m]? =eO w->eqU y ah.toArray[m]=eqV w y:=λm w hm hw=>by
  have#[c,hc,rc]:=r.get hw;have e1:ah.toArray[m]=c:=by
   have e2:ah[m]? =eO ah[m]:=uH (by simpa using hm);rw[hc] at e2;simpa using (y9 e2).symm
  rw[e1];show ziS rc (fl m w hw)
 show call_meets F.slot_list_index #[_,e,rfl] F.entry_list_index (F.args_list_index_2 _ _) (SeqAt.list_indexAt l ah.toArray n fX [].toArray u (eqU y) j (by rw[uS];omega) ⋯ ?_ ?_) #[e,λc hc=>zaK ru fy r fs c (by simpa using hc),?_];rw[at_ j z (by rw[uS];omega) mZ];show kE
 .intro m hm fA;have dq:m<xs.length:=by omega
  rw[at_ m xs[m] hm (uH dq)];show nE m xs[m] fA (uH dq)
 show#[.int j,H,I.tok _,#[_,rfl],q]
def zpo:V->mw Int->mw Int->Hp->VK->Prop:=λx lo hi H Q=>∃z,x= .str z/\z.length<=FC/\Q (.str (Txt.slice z lo hi)) H
def zi0:SlR X zpo:=by
 intro pins s σ H x v vl vu lo hi sl Q I rx hs pl pu h;have#[z,rfl,hz,q]:=h;have#[t,rfl]:=rx;show#["str",_,F.slot_str_getitem.lookup,typeIs_str _ _ _,?_];obtain⟨l,je,fG⟩:∃l:mw (Int×Tok),vl=partValue l/\l.map (·.1)=lo:=by
  cases pl with
  |none=>show#[fX,rfl,rfl]
  |int i t=>show#[eO (i,t),rfl,rfl]
 obtain⟨u,rG,lX⟩:∃l:mw (Int×Tok),vu=partValue l/\l.map (·.1)=hi:=by
  cases pu with
  |none=>show#[fX,rfl,rfl]
  |int i t=>show#[eO (i,t),rfl,rfl]
 subst je rG fG lX;show wpAny_getItem_str_slice (l:=l) (u:=u) (st:=fX) hs rfl (post_val_or_str #[uP (Txt.slice_le z _ _) hz,λt' k=>#[.str _,H,I.tok _,#[_,rfl],q]])
def zrL(h1:(Value.type a==Value.type b)=kb)(h:(fastBuiltinMro a).map (·.contains (.type b))=eO kb)(hm:Br b=gP)(hs:CZ K (.type a) (.type b)=(fastBuiltinMro a).map (·.contains (.type b))):Ad K (.type a) (.type b)=eO kb:=by
 unfold Ad DN;rw[Gw (by rw[h1];decide)];change(if Br b=gP then CZ K (.type a) (.type b) else fX)=_;rw[Gv hm,hs,h]
end L2
namespace L2
open AutoSeq1 (wpAny_loadPart')
section
def zi1(x:IsTupIter h a t i)(e:∀o,h.get? a=eO o->h'.get? a=eO o):IsTupIter h' a t i:=let ⟨o,ho,r⟩:=x;#[o,e o ho,r]
def zq2(hit:IsTupIter s.heap it t i)(ht:IsTup s.heap t ah)(hx:ah[i]? =eO x)
  (q:∀h',IsTupIter h' it t (i+1)->Heap.SameBut it s.heap h'->Q x {s with heap:=h'}):wpAny (model prog w) A (Builtin.SmallTypes.nextOf (.ref it)) Q E s:=by
 have#[io,jf,ic,iI]:=id hit;have#[qA,nj,_,tn,mD]:=ht;unfold Builtin.SmallTypes.nextOf;show qx (FE (name:=Str.ofString "__next__") hit.typeIs slot_tupleiter_next (FH slot_tupleiter_next hit.typeIs entry_tupleiter_next ?_ (args_tupleiter_next _)));show qx (m:=field (.ref it) 0) (FI jf iI (x:= .ref t) rfl ?_);change wpAny _ _ (if (Value.ref t==Value.none)=gP then _ else _) _ _ s;rw[Gw (show ¬((Value.ref t==Value.none)=gP) from y3)];show qx (m:=field (.ref it) 1) (FI jf iI (x:= .int i 0) rfl ?_);show qx (m:=seqItems? (.ref t)) (FN nj mD ?_);simp only[x4,hx];show qx (wpAny_setField jf iI (by simp) (qH #[x,rfl,qH (q _ #[_,Heap.get?_update_self _ jf (Obj.isFreed_of_fields (Obj.data_mapFields iI _)),(Obj.cls_mapFields ..).trans ic,?_] (Heap.SameBut.update ..))]));rw[Obj.data_mapFields iI];simp[Gc]
def zlE(hh:A.handled=fX)(hit:IsTupIter s.heap it t i)(ht:IsTup s.heap t ah)(hx:ah[i]? =fX)
  (q:∀h' e,Heap.ExtBut it s.heap h'->(∃o,h'.get? e=eO o/\o.cls= .type "StopIteration")->E (.ref e) {s with heap:=h'}):wpAny (model prog w) A (Builtin.SmallTypes.nextOf (.ref it)) Q E s:=by
 have#[io,jf,ic,iI]:=id hit;have#[qA,nj,_,tn,mD]:=ht;unfold Builtin.SmallTypes.nextOf;show qx (FE (name:=Str.ofString "__next__") hit.typeIs slot_tupleiter_next (FH slot_tupleiter_next hit.typeIs entry_tupleiter_next ?_ (args_tupleiter_next _)));show qx (m:=field (.ref it) 0) (FI jf iI (x:= .ref t) rfl ?_);change wpAny _ _ (if (Value.ref t==Value.none)=gP then _ else _) _ _ s;rw[Gw (show ¬((Value.ref t==Value.none)=gP) from y3)];show qx (m:=field (.ref it) 1) (FI jf iI (x:= .int i 0) rfl ?_);show qx (m:=seqItems? (.ref t)) (FN nj mD ?_);simp only[x4,hx];show qx (wpAny_rule (qx (wpAny_setField jf iI (by simp) ?_)));show qx (m:=newExc (.type "StopIteration") []) ?_;simp only[newExc,newTuple];show qx (FG ?_ (by size_fits));show qx (m:=Gn _ _) (Gb (a:=Value.none) (by first|rfl|(simp only[Gn];rfl)) ?_);show FG ?_ (by size_fits);simp only[raiseNew];show qx (wpAny_handled ?_);(first|rw[show A.in1.handled=fX from hh]|rw[hh]);show qx (qH (wpAny_throw (q _ _ (((Heap.SameBut.update ..).extBut.push _).push _) #[_,Heap.get?_push_size _ rfl,rfl])))
end
end L2
namespace L2
section
variable{w:World}
end
mutual
def D.small(n:Nat):D->Prop
 | .int i=>i.natAbs<2^n
 | .tup l=>D.smalls n l
 | .lst l=>D.smalls n l
 | .non=>True
 | .bl _=>True
 | .str _=>False
 | .ins _ _ _=>False
def D.smalls(n:Nat):kh D->Prop
 |[]=>True
 |d::r=>D.small n d/\D.smalls n r
end
mutual
noncomputable def D.wt(n:Nat):D->Nat
 | .tup l=>D.wts n l
 | .lst l=>D.wts n l
 | .int _=>n
 |_=>0
noncomputable def D.wts(n:Nat):kh D->Nat
 |[]=>0
 |d::r=>D.wt n d+1+D.wts n r
end
def zmY:mroOf (.type "reversed")=pure [.type "reversed",.type "object"]:=by rw[mroOf_type];kernel_rfl
def zrM:typeLookup (.type "reversed") "__new__"=pure (eO (.builtin "reversed.__new__")):=by rw[Gh,FP];kernel_rfl
def zpp:Slot "reversed" "__init__" "object.__init__":= .of (owner:="object") (n:="__init__") (by rw[Gh,FP];kernel_rfl) (*...*) (*...*) (*...*) (by first|exact .inl (*...*)|exact .inr (*...*)) (by rw[Gi];kernel_rfl)
def zlF:TypeCalled "reversed" "reversed.__new__" "object.__init__":=#[*...*, *...*,#[_,_,zmY],madeBy_type zmY zrM (*...*), *...*,by rw[Gi];kernel_rfl,zpp]
def zhc(a:oJ):checkTypeCall "reversed" #[[a],[]]=pure ():=by kernel_rfl
def zi2(a:oJ):checkBuiltinCall "reversed.__new__" #[[.type "reversed",a],[]]=pure ():=by kernel_rfl
def zhd:entryFor table "reversed.__new__"=eO Gk.«reversed.__new__» :=entryFor_of_tree (by kernel_rfl)
def zrN:isSubtype (.type "reversed") (.type "reversed")=pure gP:=by rw[Gi];kernel_rfl
def zhe:Manifest.owners.lookup (String.ofList ['d','e','s','r','e','v','e','r'].reverse)=eO Manifest.sig_reversed:=by kernel_rfl
def zaN:Slot "reversed" "__next__" "reversed.__next__":= .of (owner:="reversed") (n:="__next__") (by rw[Gh,FP];kernel_rfl) (*...*) (*...*) (*...*) (by first|exact .inl (*...*)|exact .inr (*...*)) (by rw[Gi];kernel_rfl)
def zaO:entryFor table "reversed.__next__"=eO Gk.«reversed.__next__» :=entryFor_of_tree (by kernel_rfl)
def zca(a:oJ):argsOk "reversed.__next__" #[[a],[]]:=by
 unfold argsOk;rw[signature?_of (id:="reversed.__next__") (n:=['_','_','t','x','e','n','_','_']) (o:=['d','e','s','r','e','v','e','r']) (by kernel_rfl) zhe];kernel_rfl
def zkx:Slot "reversed" "__iter__" "reversed.__iter__":= .of (owner:="reversed") (n:="__iter__") (by rw[Gh,FP];kernel_rfl) (*...*) (*...*) (*...*) (by first|exact .inl (*...*)|exact .inr (*...*)) (by rw[Gi];kernel_rfl)
def zhf(a:oJ):argsOk "reversed.__iter__" #[[a],[]]:=by
 unfold argsOk;rw[signature?_of (id:="reversed.__iter__") (n:=['_','_','r','e','t','i','_','_']) (o:=['d','e','s','r','e','v','e','r']) (by kernel_rfl) zhe];kernel_rfl
def zfG:entryFor table "reversed.__iter__"=eO Gk.«dict_keyiterator.__iter__» :=entryFor_alias (id':="dict_keyiterator.__iter__") (by kernel_rfl) (by first|rfl|decide+kernel|(unfold String.splitOn;simp+decide [String.splitOnAux])) (*...*) (by kernel_rfl)
def zpq:typeLookup (.type "tuple") "__reversed__"=pure fX:=by rw[Gh,FP];kernel_rfl
noncomputable abbrev zhg(t:oN)(i:Int):Obj:={cls:= .type "reversed",data:= .fields [.ref t,Gc i].toArray}
noncomputable abbrev zi3(h:Heap)(a t:oN)(i:Int):Prop:=h.get? a=eO (zhg t i)
section
def zhh(a:oJ):Builtin.SmallTypes.newClass "reversed" #[[.type "reversed",a],[]]=pure (.type "reversed",[a]):=by
 unfold Builtin.SmallTypes.newClass;simp only[isType,zrN,pure_bind,Bool.not_true,CV,if_false]
def zmZ(t:oN)(ah:Array oJ)(hz:(ah.size:Int)<2^63):Meets (Gk.«reversed.__new__» #[[.type "reversed",.ref t],[]]) (λ_ R s=>IsTup s.heap t ah/\∀tk,R (.ok (.ret (.ref #v[s]))) {s with heap:=s.heap.push (zhg t ((ah.size:Int)-1)),toks:=tk}):=
 .of_wp λprog w A R s h=>by
  have#[hT,h]:=h;unfold Gk.«reversed.__new__»;show qx (Gb (zhh _) ?_)
  try dsimp only
  show qx (Gb (a:=()) (by first|rfl|kernel_rfl) ?_);show qx (Gb (a:=()) (by first|rfl|kernel_rfl) ?_)
  try dsimp only
  show qx (FT hT.typeIs zpq ?_)
  try dsimp only
  show qx ?_;change wpAny _ _ (isInstance (.ref t) (.type "dict")>>=_) _ _ _;show qx (FY (T:="tuple") (b:=kb) hT.typeIs (by rw[Gi];kernel_rfl) ?_);rw[Gw ∅];change wpAny _ _ (specialOf (.ref t) "__getitem__">>=_) _ _ _;show qx (FT hT.typeIs slot_tuple_getitem.lookup ?_);dsimp only;rw[Gv ∅];show qH ?_;rw[Gw ∅];show qx (len_tuple hT hz ?_);show qx (Gb (a:=eO (ah.size:Int)) rfl ?_);dsimp only;show qx (m:=Builtin.SmallTypes.newRecord (.type "reversed") [.ref t,Gc ((ah.size:Int)-1)]) ?_;unfold Builtin.SmallTypes.newRecord
  first
  |exact FG (qH #[_,rfl,h _])
  |(wp_walk;show#[_,rfl,h _])
def zm0{it t:oN}{i:Nat}{ah:Array oJ}{x:oJ}{Q:mw oJ->oM->Prop}(hit:zi3 s.heap it t (i:Int))(ht:IsTup s.heap t ah)(hx:ah[i]? =eO x)(hs:(i:Int)<2^63)
  (q:∀h' tk,zi3 h' it t ((i:Int)-1)->Heap.SameBut it s.heap h'->Q (eO x) {s with heap:=h',toks:=tk}):wpAny (model prog w) A (pyNext (.ref it)) Q E s:=by
 have hT:s.TypeIs (.ref it) "reversed":=#[_,hit,rfl];unfold pyNext;show qx (FZ (FE (name:=Str.ofString "__next__") hT zaN (FH zaN hT zaO ?_ (zca _))));unfold Gk.«reversed.__next__»;show qx (Gb (a:=(Value.ref it,[])) rfl ?_);(try dsimp only);show qx (FI hit rfl (x:= .ref t) rfl ?_);show qx (FI hit rfl (x:=Gc (i:Int)) rfl ?_);change wpAny _ _ (if (i:Int)<0 then _ else _) _ _ s;rw[Gw ⋯];show qx (FT ht.typeIs slot_tuple_getitem.lookup ?_);rw[Gw ∅];show qx (wpAny_mkInt ?_);have fA:i<ah.size:=(BU.1 hx).1;have iO:seqIndex? (i:Int) ah.size=eO i:=by
  unfold seqIndex?;simp only[show ¬((i:Int)<0) by omega,if_false];rw[Gv (by simp;omega),x4]
 show qx (FZ (getItem_tuple (j:=i) ht ⋯ hs iO hx ?_));(try dsimp only);show qx (FI hit rfl (x:=Gc (i:Int)) rfl ?_);(try dsimp only);show qx (FK hit (by simp) λh' nN hU=> ?_);show qH #[_,rfl,qH (q h' _ nN hU)]
def zpr{Q:mw oJ->oM->Prop}(hh:A.handled=fX)(hit:zi3 s.heap it t (-1))(q:∀h',Heap.ExtBut it s.heap h'->Q fX {s with heap:=h'}):wpAny (model prog w) A (pyNext (.ref it)) Q E s:=by
 have hT:s.TypeIs (.ref it) "reversed":=#[_,hit,rfl];unfold pyNext;show qx (FZ (FE (name:=Str.ofString "__next__") hT zaN (FH zaN hT zaO ?_ (zca _))));unfold Gk.«reversed.__next__»;show qx (Gb (a:=(Value.ref it,[])) rfl ?_);(try dsimp only);show qx (FI hit rfl (x:= .ref t) rfl ?_);show qx (FI hit rfl (x:=Gc (-1)) rfl ?_);change wpAny _ _ (if (-1:Int)<0 then _ else _) _ _ s;rw[Gv ∅];show qx (wpAny_rule ?_);show qx ?_;change wpAny _ _ (setField (.ref it) 1 (Gc (-1))>>=_) _ _ s;show qx (FK hit (by simp) λh1 jD ny=> ?_)
 replace jD:zi3 h1 it t (-1):=jD
 change wpAny _ _ (setField (.ref it) 0 .none) _ _ _;show FK jD (by simp) λh2 sF gi=> ?_
 first
 |refine qx (m:=newExc (.type "StopIteration") []) ?_
 |(show qx ?_;show qx (m:=newExc (.type "StopIteration") []) ?_)
 simp only[newExc,newTuple];show qx (FG ?_ (by size_fits));show qx (m:=Gn _ _) (Gb (a:=Value.none) (by first|rfl|(simp only[Gn];rfl)) ?_);show FG ?_ (by size_fits);simp only[raiseNew];show qx (wpAny_handled ?_);(first|rw[show A.in1.handled=fX from hh]|rw[hh]);show qx (qH (wpAny_throw ?_));show qx (FY (T:="StopIteration") (b:=gP) #[_,Heap.get?_push_size _ rfl,rfl] isSubtype_stop (qH (q _ ?_)));show λb o hb e=>Heap.get?_push_of_some _ (Heap.get?_push_of_some _ (gi.extBut b o hb (ny.extBut b o hb e)))
def zhi(hit:zi3 s.heap it t i)(q:Q (.ref it) s):wpAny (model prog w) A (pyIter (.ref it)) Q E s:=by
 have hT:s.TypeIs (.ref it) "reversed":=#[_,hit,rfl];show wpAny_pyIter_slot hT zkx (FH zkx hT zfG ?_ (zhf _));change wpAny _ _ (ret (Value.ref it)) _ _ _;show qH #[_,rfl,"reversed",_,hT,zaN.lookup,q]
def zm1(hT:IsTup s.heap t ah)(hz:(ah.size:Int)<2^63)
  (h:∀tk,Q (.ref #v[s]) {s with heap:=s.heap.push (zhg t ((ah.size:Int)-1)),toks:=tk}):wpAny (model prog w) A (call (.type "reversed") [.ref t]) Q E s:=
 callType_new zlF ∅ (zhc _) (zi2 _) (λobj=>F.args_object_init_2 obj _) zhd (zmZ t ah hz) #[hT,λtk=>#[#[_,Heap.get?_push_size _ rfl,rfl],h tk]]
end
noncomputable def ItR(K:uG)(a:oN)(n:Nat):It:=
 #[λi H=>i<n/\∃xs,SqT K H a xs/\xs.length=n,λi H x H'=>H'=H/\∀xs,SqT K H a xs->xs[n-1-i]? =eO x,λi H=>i=n]
def zm2{P:Program}(a it:oN)(n:Nat):ziF P w K tg (ItR K a n) [it] it (λi h=>zi3 h it a ((n:Int)-1-(i:Int))) where
 mem:=by simp
 obj:=λi h st b hb=>by
  have e:b=it:=by simpa using hb
  subst e;show#[_,st,λv z=>by cases z]
 keep:=λi h h' st k=>k it (by simp) _ st
 item:=by
  walk_at "!b";have#[hi,xs,hq,hl]:=hg;have hx:xs[n-1-i]? =eO (xs[n-1-i]'⋯):=uH ⋯;have#[ah,rv,p,hz]:=I.tuple hq;have#[u,hu,ru]:=rv.get hx;have#[f0,f1,f2,f3,f4,f5]:=hf it (by simp);have hn:=Uh;have e:(n:Int)-1-(i:Int)=((n-1-i:Nat):Int):=by omega
  rw[e] at st;show zm0 st p (x:=u) (by simpa using hu) ⋯ λh' tk st' sb=> ?_;have I1:Inv X pins σ H {s with heap:=h',toks:=tk}:=I.turned (t':=tk) (λb o hb e=>(sb.2 b hb).trans e) f0 f1 f3 f4 f5;have e2:((n-1-i:Nat):Int)-1=(n:Int)-1-((i+1:Nat):Int):=by omega
  rw[e2] at st';show#[u,rfl,zke (s:={s with heap:=h',toks:=tk}) (n:="reversed") st' rfl rfl ∅ #[_,H,I1,ru,#[rfl,λys hy=>by rw[I.tuple_inj hy hq];show hx],st',λb hb=>(hf b hb).1]]
 done:=by
  walk_at "!b";have hg:i=n:=hg;have#[f0,f1,f2,f3,f4,f5]:=hf it (by simp);have e:(n:Int)-1-(i:Int)= -1:=by omega
  rw[e] at st;show zpr (I.ok.hd hc) st λh' eb=>#[rfl,I.turned (t':=s.toks) (λb o hb e=>eb b o hb e) f0 f1 f3 f4 f5]
 self:=λ_ _ _ _ _ st h=>zhi st h
section
variable{tg:Expr}
def zto(K:uG)(ta:TA):TI:=λσ H R=>ta σ H λvs H1=>∃a xs,vs=[.ref a]/\SqT K H1 a xs/\R (ItR K a xs.length) H1
def zrO{l:Expr}{ta:TA}{p pos:Pos}(hg:Gl X "reversed")(hm:X.mg "reversed"=fX)(ha:PA X [l] ta)(hK:X.K=K:=by rfl)(hs:FD [l] X.env=[(kb,eval l X.env)]:=by rfl):
  PI X tg (.Call (.Name "reversed" p) [l] [] pos) (zto K ta):=by
 subst hK;intro pins s σ H R I h;show Call_ (Ud I hg hm Boot.«reversed» (Ax (thn (ha pos pins s σ H _ I h) ?_) hs rfl));intro us s1 #[vs,H1,I1,r1,q1];have#[a,xs,e,hq,q]:=q1;subst e;have#[u,rfl,ru]:=VN r1;cases ru;have#[ah,rv,p,hz]:=I1.tuple hq;have hl:=rv.length;have hn:=Uh;show zm1 p (by rw[uS];omega) λtk=> ?_;have I2:Inv X pins σ H1 {s1 with heap:=s1.heap.push (zhg a ((ah.toArray.size:Int)-1)),toks:=tk}:=I1.kept (t':=tk) λb o e=>Heap.get?_push_of_some _ e;show zhi (s:={s1 with heap:=s1.heap.push (zhg a ((ah.toArray.size:Int)-1)),toks:=tk}) (Heap.get?_push_size _ rfl) ?_;show#[#v[s1],[#v[s1]],_,_,H1,rfl,I2,zm2 a #v[s1] xs.length,?_,λb hb=> ?_,q]
 .have e:((ah.toArray.size:Nat):Int)-1=(xs.length:Int)-1-((0:Nat):Int):=by rw[uS];omega
  change zi3 _ _ _ _;rw[<-e];show Heap.get?_push_size _ rfl
 have e:b=#v[s1]:=by simpa using hb
 subst e;show Inv.fpOk I1 (uL _) (I1.hok.fresh (uL _))
def zq3(K:uG):R2:=λx y H Q=>∃a b xs ys,x= .ref a/\y= .ref b/\SqT K H a xs/\SqT K H b ys/\xs.length+ys.length<=FC/\(xs=[]->Q (.ref b) H)/\(xs≠[]->ys=[]->Q (.ref a) H)/\(xs≠[]->ys≠[]->∀p,H p=fX->Q (.ref p) (upd H p (.tup (xs++ys))))
def Yz(hK:X.K=K:=by rfl):OpR X (Gj .Add) (zq3 K):=by
 subst hK;intro pins s σ H x y v u Q I rx ry h;have#[a,b,xs,ys,e1,e2,ha,hb,hz,q1,q2,q3]:=h;by_cases hx:xs=[];subst e1 e2;cases rx;cases ry;have#[ah,r1,p1,_]:=I.tuple ha;have#[dY,r2,p2,_]:=I.tuple hb;have#[#[cls,dd,data,sl],ho,hc,n,hd]:=id p1;have#[#[oH,mr,data2,jQ],jA,iQ,n2,hd2]:=id p2;simp only at hc hd iQ hd2;subst hc hd iQ hd2;show concat_meets #[_,ho,rfl] #[_,jA,rfl] noFill_tuple_add seq_tuple_add Cj C6 (C0 _ _) (tuple_addW0 a b ah.toArray dY.toArray n n2 dd mr sl jQ (by have:=r1.nil_iff.mpr hx;simp[this])) #[ho,jA,#[.ref b,H,I,rfl,q1 hx]];show zpc pins s σ H x y v u Q I rx ry #[a,b,xs,ys,e1,e2,ha,hb,hx,hz,q2 hx,q3 hx]
end
open PyProof
def zq4(K:uG):kh V->Hp->VK->Prop:=λxs H Q=>∃(p:oN) (ns:kh Int),xs=[.ref p]/\SqT K H p (ns.map V.int)/\Q (.int ns.sum) H
def zc4(hc:X.calm=gP)(hK:X.K=K:=by rfl):vT X (.builtin "sum") (zq4 K):=by
 subst hK;intro pins s σ H xs us Q I r h;have#[p,ns,rfl,hq,q]:=h;have#[u,rfl,ru]:=VN r;cases ru;have#[ah,rv,pl,hz]:=I.tuple hq;have lt:p<#v[s]:=pl.lt;have hl:=rv.length;rw[uM] at hl;have pl':s.heap.IsTuple p ah.toArray:=pl;show call_sum_walkAnyS (wpAny_pyIter_tuple pl' ?_);have W:=(Walks.tuple (prog:=X.prog) (w:=X.w) (A:=X.A.in1) (I.ok.hd hc) #v[s] p (y6 lt) ah.toArray).toS;show#[#v[s],_,_,_,_,_,_,λi=>ns.getD i 0,rfl,W,?_,?_,?_,?_];show#[#[_,Heap.get?_push_size _ rfl,rfl,rfl],IsTup.push pl _];intro b hb;rw[Heap.size_push];rcases(by simpa using hb:b=#v[s]\/b=p) with rfl|rfl;show Az _;show BK lt
 .intro i v hv;have hv:ah[i]? =eO v:=by simpa using hv
  have hi:i<ns.length:=by rw[hl];show(uF.1 hv).1
  (obtain⟨u,hu,t,ru⟩:=rv.get (i:=i) (x:=V.int ns[i]) (by rw[uK,uH hi];rfl);rw[hu] at hv;cases hv);show#[t,?_];rw[ru];change Value.int ns[i] t=Value.int (ns.getD i 0) t;rw[uX,uH hi,Ap]
 intro s' t' m
 have I1:Inv X pins σ H {s with heap:=s'.heap,toks:=s'.toks}:=I.kept λb o e=>m.heap b o (λz=>by
  have z:b=#v[s]:=by simpa using z
  show absurd (Heap.lt_size e) (by rw[z];show AB _)) (Heap.get?_push_of_some _ e)
 have e:({s with heap:=s'.heap,toks:=s'.toks}:oM)=s':=by
  (have h1:=m.gens;have h2:=m.drawn;have h3:=m.os;cases s';simp only at h1 h2 h3;subst h1 h2 h3;rfl)
 rw[e] at I1;show#[.int ns.sum,H,I1,#[t',?_],q];rw[zbD];have:ah.toArray.size=ns.length:=by rw[uS,<-hl]
 rw[this,A3]
theorem zeO(a:Array Nat):∀m:Nat,(z8 m).filterMap (λi=>a[i]?)=a.toList.take m
 |0=>rfl
 |m+1=>by
  rw[CB,List.filterMap_append,zeO a m,EE];rw[Bq];cases h:a[m]? <;>simp[h]
end L2
namespace L2
def ztp(K:uG):kh V->Hp->VK->Prop:=λxs H Q=>∃(p:oN) (bs:kh Bool),xs=[.ref p]/\SqL K H p (bs.map V.bl)/\Q (.bl (bs.any id)) H
def ztq(K:uG):kh V->Hp->VK->Prop:=λxs H Q=>∃(p:oN) (bs:kh Bool),xs=[.ref p]/\SqL K H p (bs.map V.bl)/\Q (.bl (bs.all id)) H
def zlG:∀(bs:kh Bool),(z8 bs.length).any (λi=>bs.getD i kb)=bs.any id:=λbs=>by
 rw[Av,Bg,Bg];constructor;intro#[i,hi,h];have hi:=AV.1 hi;rw[uX,uH hi,Ap] at h;show#[_,y8 hi,h];intro#[b,hb,h];have#[i,hi,e]:=DV.1 hb;show#[i,AV.2 hi,?_];rw[uX,uH hi,Ap,e];show h
def zlH:∀(bs:kh Bool),(z8 bs.length).all (λi=>bs.getD i kb)=bs.all id:=λbs=>by
 rw[Av,Ao,Ao];constructor;intro h b hb;have#[i,hi,e]:=DV.1 hb;have:=h i (AV.2 hi);rw[uX,uH hi,Ap,e] at this;show this;intro h i hi;have hi:=AV.1 hi;rw[uX,uH hi,Ap];show h _ (y8 hi)
def zc5{p:oN}{bs:kh Bool}(hc:X.calm=gP)(I:Inv X pins σ H s)(hq:SqL X.K H p (bs.map V.bl)){R:oJ->oM->Prop}
  (k:∀Ia fp wr G n P St tr (s₂:oM),WalksS X.prog X.w X.A.in1 Ia fp wr G n P St->St 0 s₂->TruthOf X.prog X.w X.A.in1 P tr->n=bs.length->(tr=λi=>bs.getD i kb)->(∀s',Moved wr G s₂ s'->Inv X pins σ H s')->R (.ref Ia) s₂):
  wpAny (model X.prog X.w) X.A.in1 (pyIter (.ref p)) R X.xe s:=by
 have#[ah,rv,pl,hz]:=I.list hq;have lt:p<#v[s]:=by
  have#[o,n,e,_]:=id pl;show Heap.lt_size e
 have hl:=rv.length;rw[uM] at hl;show Ge pl.isList ?_;have W:=(Walks.list (prog:=X.prog) (w:=X.w) (A:=X.A.in1) (I.ok.hd hc) #v[s] p (y6 lt) ah.toArray).toS;show k #v[s] _ _ _ _ _ _ (λi=>bs.getD i kb) _ W ?_ ?_ ?_ rfl ?_;show#[#[_,Heap.get?_push_size _ rfl,rfl,rfl],Heap.IsList.push pl.isList _]
 .intro i v s Q E hv hQ;have hv:ah[i]? =eO v:=by simpa using hv
  have hi:i<bs.length:=by rw[hl];show(uF.1 hv).1
  have#[u,hu,ru]:=rv.get (i:=i) (x:=V.bl bs[i]) (by rw[uK,uH hi];rfl);have e0:u=v:=by
   rw[hu] at hv;show y9 hv
  have ru:u=Value.bool bs[i]:=ru;rw[<-e0,ru];show Gd ?_;have e:bs.getD i kb=bs[i]:=by rw[uX,uH hi,Ap]
  rw[<-e];show hQ
 .rw[uS,<-hl]
 intro s' m
 have I1:Inv X pins σ H {s with heap:=s'.heap,toks:=s'.toks}:=I.kept λb o e=>m.heap b o (λz=>by
  have z:b=#v[s]:=by simpa using z
  show absurd (Heap.lt_size e) (by rw[z];show AB _)) (Heap.get?_push_of_some _ e)
 have e:({s with heap:=s'.heap,toks:=s'.toks}:oM)=s':=by
  (have h1:=m.gens;have h2:=m.drawn;have h3:=m.os;cases s';simp only at h1 h2 h3;subst h1 h2 h3;rfl)
 rw[e] at I1;show I1
def zeP(hc:X.calm=gP)(hK:X.K=K:=by rfl):vT X (.builtin "any") (ztp K):=by
 subst hK;intro pins s σ H xs us Q I r h;have#[p,bs,rfl,hq,q]:=h;have#[u,rfl,ru]:=VN r;cases ru;show call_any_walkS (zc5 hc I hq λIa fp wr G n P St tr s₂ W h0 ht hn hJ hm=>#[Ia,fp,wr,G,n,P,St,tr,rfl,W,h0,ht,λs' m=>#[.bl _,H,hm s' m,rfl,?_]]);rw[hn,hJ,zlG];show q
def zbE(hc:X.calm=gP)(hK:X.K=K:=by rfl):vT X (.builtin "all") (ztq K):=by
 subst hK;intro pins s σ H xs us Q I r h;have#[p,bs,rfl,hq,q]:=h;have#[u,rfl,ru]:=VN r;cases ru;show call_all_walkS (zc5 hc I hq λIa fp wr G n P St tr s₂ W h0 ht hn hJ hm=>#[Ia,fp,wr,G,n,P,St,tr,rfl,W,h0,ht,λs' m=>#[.bl _,H,hm s' m,rfl,?_]]);rw[hn,hJ,zlH];show q
def Inv.lstR(I:Inv X pins σ H s)(hH:SqX X.K H l xs):xs.length<=FC/\∃(ah:kh oJ) (n:Nat),yk xs ah/\xs.length=ah.length/\s.heap.get? l=eO {cls:= .type "list",data:= .seq ah.toArray n}:=by
 rcases hH with hH|⟨ah,n,hk,hz,r⟩
 .obtain⟨z,ah,n,r,e⟩:=hH.ok I.hok;show#[z,ah,n,r,r.length,e]
 have hl:=r.length;have fG:ah.toList.length=ah.size:=B4;show#[⋯,ah.toList,n,r,r.length,I.kIn l _ hk]
def zlI(l:oN)(items:Array oJ)(n:Nat)(b:oN)(ob:Obj)(T:String)(d4:Array oJ)(n2:Nat)(hT:T="list"\/T="tuple")(kN:(!items.isEmpty&&Builtin.List.listTooLong (items.size+d4.size))=kb)(ny:items.size<=FC)(gi:items.size+d4.size<=FC):
  Meets (Gk.«list.extend» #[[.ref l,.ref b],[]]) (λ_ R s=>s.heap.get? l=eO {cls:= .type "list",dict:=fX,data:= .seq items n,slots:= [].toArray}/\s.heap.get? b=eO ob/\ob.cls= .type T/\ob.data= .seq d4 n2/\R (.ok (.ret Value.none)) {s with heap:=s.heap.update l (Obj.mapSeq λx=>x++d4),toks:=s.toks}):=by
 intro prog w A R s h;have#[hl,hb,hc,hd,hR]:=h;change wpAny _ _ (Builtin.List.listExtendWith (.ref l) (.ref b) .none) _ _ s;unfold Builtin.List.listExtendWith;show qx (wpAny_typeOf (T:=T) #[ob,hb,hc] ?_);have kZ:(Builtin.List.listSameRef (.ref l) (.ref b)||Value.type T==Value.type "list"||Value.type T==Value.type "tuple")=gP:=by
  rcases hT with rfl|rfl<;>simp
 rw[Gv kZ];show qx ?_;unfold Builtin.List.listItems;show qx (FN hb hd (qH ?_));show qx ?_;show qx (FN hl rfl (qH ?_));rw[Gw (by rw[kN];show y3)];have hG:(items++d4).size<=FC+1:=by rw[Array.size_append];omega
 show qx (m:=Builtin.List.listUpdate (.ref l) (· ++d4)) ?_;change wpAny _ _ (updateSeq l (λx=>x++d4)) _ _ s;show wpAny_updateSeq hl rfl (hz:=ny) (_hz':=hG) ?_;show qH hR
def zhj(K:uG):V->kh V->Hp->VK->Prop:=λx vs H Q=>∃l b xs zs,x= .ref l/\vs=[.ref b]/\H l=eO (.lst xs)/\(SqX K H b zs\/SqT K H b zs)/\xs.length+zs.length<=FC/\Q .non (upd H l (.lst (xs++zs)))
def zc6(hK:X.K=K:=by rfl):MtR X "list.extend" (zhj K):=by
 subst hK;intro pins s σ H x vs v us Q I rx rv h;have#[l,b,xs,zs,rfl,rfl,hH,hB,hz,q]:=h;cases rx;have#[u,rfl,ru]:=rv.one;cases ru;have#[z,ah,n,r,hl,e]:=I.lstM hH;have key:∀{dY:kh oJ} {ob:Obj} {T:String} {n2:Nat},yk zs dY->(T="list"\/T="tuple")->s.heap.get? b=eO ob->ob.cls= .type T->ob.data= .seq dY.toArray n2->
   wpAny (model X.prog X.w) X.A (call (.builtin "list.extend") [.ref l,.ref b]) (EP X pins σ Q) X.xe s:=by
  intro dY ob T n2 r2 hT hb hc hd;have fG:=r2.length;have hsz:ah.toArray.size+dY.toArray.size<=FC:=by rw[uS,uS];omega
  show call_meets F.slot_list_extend #[_,e,rfl] F.entry_list_extend (F.args_list_extend_2 _ _)
   (zlI l ah.toArray n b ob T dY.toArray n2 hT (by rw[zmF hsz,Bool.and_false]) (by rw[uS];omega) hsz) #[e,hb,hc,hd,?_]
  show#[.non,_,I.lset (its':=ah++dY) hH e (by simp) (r.append r2) ?_,rfl,q];rw[uZ];omega
 rcases hB with hB|hB;have#[z2,dY,n2,r2,fG,e2]:=I.lstR hB;show key r2 (.inl rfl) e2 rfl rfl;have#[dY,r2,#[ob,hb,hc,n2,hd],_]:=I.tuple hB;show key r2 (.inr rfl) hb hc hd
def zlJ:typeLookup (.type "list_reverseiterator") "__len__"=pure fX:=by rw[Gh,FP];kernel_rfl
def zm3:typeLookup (.type "list_reverseiterator") "__length_hint__"=pure (eO (.builtin "list_reverseiterator.__length_hint__")):=by rw[Gh,FP];kernel_rfl
section
def zi4{R:Result->oM->Prop}(hh:A.handled=fX)(hn:items.size<=FC)(S:oN)(res:oJ)(c₀:Nat)(hS:s.heap.get? S=eO {cls:= .type "list",data:= .seq [].toArray c₀})
  (hit:s.heap.IsRevIter it l ((items.size:Int)-1)) (hl:s.heap.IsList l items) (hW:l≠it) (pZ:S≠it) (sY:S≠l)
  (hR:∀h' tk acc' c',(∀b o,b≠S->b≠it->s.heap.get? b=eO o->h'.get? b=eO o)->h'.get? S=eO {cls:= .type "list",dict:=fX,data:= .seq acc' c',slots:= [].toArray}->
   ItemsOf (λi v=>items[items.size-1-i]? =eO v) acc' items.size->R (.ok (.ret res)) {s with heap:=h',toks:=tk}):
  wpAny (model prog w) A.in1 (Builtin.List.listExtendWith (.ref S) (.ref it) res)
   (λfin s'=>match fin with| .done f=>R (.ok f) s'| .again c'=>c'.quiet=gP/\codeAny (model prog w) A c' R s') (λe s'=>R (.error e) s') s:=by
 have sZ:S∉[it,l]:=λhm=>by
  rcases uU.mp hm with e|hm;show pZ e;show sY (y7.mp hm)
 have W:=(Walks.listRev (prog:=prog) (w:=w) (A:=A.in1) hh it l hW items).toS;have ft:0<=items.size/\s.heap.IsRevIter it l ((items.size:Int)-1-((0:Nat):Int))/\s.heap.IsList l items:=#[Ci _,by simpa using hit,hl];unfold Builtin.List.listExtendWith;show qx (wpAny_typeOf (T:="list_reverseiterator") hit.typeIs ?_);have h1:Builtin.List.listSameRef (.ref S) (.ref it)=kb:=by simp[Builtin.List.listSameRef,pZ]
 rw[Gw (by rw[h1];decide)];show qx (wpAny_pyIter_revIter hit ?_);show qx (FR ?_);unfold Builtin.List.listLengthHint;show qx (FT hit.typeIs zlJ ?_);change wpAny _ A.in1 (specialOf (Value.ref it) (Str.ofString "__length_hint__")>>=_) _ _ _;show qx (FT hit.typeIs zm3 ?_)
 (generalize nQ:("list_reverseiterator.__length_hint__":String)=p7;(fail_if_success (clear nQ p7));wp_delta;rw[show splitId p7=eO ("list_reverseiterator","__length_hint__") from by subst nQ;decide+kernel];subst nQ)
 show qx (FY (b:=gP) hit.typeIs (by rw[Gi];kernel_rfl) ?_);show qH ?_;rw[Gw ∅];show qH #[plainId_quiet F.plain_extend_loop _,codeAny_extend_loopS W hn _ sZ _ items.size 0 _ _ _ rfl (Ci _) ft hS (ItemsOf.nil _) λs' acc' c' hm lq cS=> ?_];rw[Moved.eq_with hm];show hR s'.heap s'.toks acc' c' (λb ob hb o6 e=>hm.heap b ob (λgC=> ?_) e) lq cS;rcases uU.mp gC with e'|gC;show hb e';show o6 (y7.mp gC)
def zea(hh:A.handled=fX)(hn:items.size<=FC)(hit:s.heap.IsRevIter it l ((items.size:Int)-1))(hl:s.heap.IsList l items)(hW:l≠it)
  (hQ:∀h' tk acc' c',(∀b o,b≠it->s.heap.get? b=eO o->h'.get? b=eO o)->
   h'.get? #v[s]=eO {cls:= .type "list",dict:=fX,data:= .seq acc' c',slots:= [].toArray}->ItemsOf (λi v=>items[items.size-1-i]? =eO v) acc' items.size->Q (.ref #v[s]) {s with heap:=h',toks:=tk}):
  wpAny (model prog w) A (call (.type "list") [.ref it]) Q E s:=by
 show callType_codes (Q₁:=λobj s₁=>obj= .ref #v[s]/\s₁={s with heap:=s.heap.push {cls:= .type "list",data:= .seq [].toArray}}) F.called_list (F.typeCall_list_1 _) F.entry_list_init
  (code_list_new _ #[rfl,rfl]) λobj s₁ h₁=> ?_
 have#[rfl,rfl]:=h₁;have hS:(s.heap.push {cls:= .type "list",data:= .seq [].toArray}).get? #v[s]=eO {cls:= .type "list",data:= .seq [].toArray}:=Heap.get?_push_size _ rfl;show#[#[_,hS,rfl],F.args_list_init_2 _ _,?_];change wpAny _ _ (do let old <-Builtin.List.listItems (.ref #v[s]);Builtin.List.listUpdate (.ref #v[s]) (λ_=> [].toArray);letGo old.toList.reverse;Builtin.List.listExtendWith (.ref #v[s]) (.ref it) .none) _ _ _;show qx ?_;unfold Builtin.List.listItems;show qx (FN hS rfl (qH ?_));change wpAny _ _ (updateSeq #v[s] (λ_=> [].toArray)>>=λ_=>letGo ([].toArray:Array oJ).toList.reverse>>=λ_=>Builtin.List.listExtendWith (.ref #v[s]) (.ref it) .none) _ _ _;show qx (wpAny_updateSeq hS rfl ?_);have sX:=Heap.get?_update_self (Obj.mapSeq (λ_=>([].toArray:Array oJ))) hS rfl;have ltI:it<#v[s]:=let ⟨_,ho,_⟩:=hit;Heap.lt_size ho;have qJ:l<#v[s]:=let ⟨_,ho,_⟩:=hl;Heap.lt_size ho;have qF:∀b o,b≠#v[s]->(s.heap.push {cls:= .type "list",data:= .seq [].toArray}).get? b=eO o->((s.heap.push {cls:= .type "list",data:= .seq [].toArray}).update #v[s] (Obj.mapSeq (λ_=>([].toArray:Array oJ)))).get? b=eO o:=
  λb o hb e=>(Heap.get?_update_other _ _ (B3 hb)).trans e
 have old:∀b o,s.heap.get? b=eO o->((s.heap.push {cls:= .type "list",data:= .seq [].toArray}).update #v[s] (Obj.mapSeq (λ_=>([].toArray:Array oJ)))).get? b=eO o:=
  λb o e=>qF b o (y6 (Heap.lt_size e)) (Heap.get?_push_of_some _ e)
 show qx (wpAny_letGo ?_);show zi4 (A:=A.in1) (items:=items) hh hn #v[s] .none _ sX (hit.at λo e=>old _ o e) (hl.at λo e=>old _ o e) hW (B3 (y6 ltI)) (B3 (y6 qJ)) λh' tk acc' c' hk lq cS=> ?_;show#[rfl,hQ h' tk acc' c' (λb o hb e=>hk b o (y6 (Heap.lt_size e)) hb (old b o e)) lq cS]
end
def zhk(K:uG)(te:TE):TE:=λσ H Q=>te σ H λx H1=>∃p ys,x= .ref p/\SqX K H1 p ys/\∀l,H1 l=fX->Q (.ref l) (upd H1 l (.lst ys.reverse))
def zi5{e:Expr}{te:TE}{p p2 pos gW:Pos}(hc:X.calm=gP)(hg:Gl X "list")(hm:X.mg "list"=fX)(sI:Gl X "reversed")(nH:X.mg "reversed"=fX)(ha:PE X e te)(hK:X.K=K:=by rfl)
  (pV:FD [e] X.env=[(kb,eval e X.env)]:=by rfl) (he:FD [.Call (.Name "reversed" p2) [e] [] gW] X.env=[(kb,eval (.Call (.Name "reversed" p2) [e] [] gW) X.env)]:=by rfl):
  PE X (.Call (.Name "list" p) [.Call (.Name "reversed" p2) [e] [] gW] [] pos) (zhk K te):=by
 subst hK;intro pins s σ H Q I h;show FV (Ud I hg hm boot_list ?_ ∅ ∅);show Ax ?_ he rfl;rw[he];change wpAny _ _ (spliced ((kb,eval (.Call (.Name "reversed" p2) [e] [] gW) X.env)::backTo pos [])) _ _ s;show Calls.spliced_cons ?_;show FV (Ud I sI nH Boot.«reversed» ?_ ∅ ∅);show Ax ?_ pV rfl;show thn (zS ha zj pV gW pins s σ H (λvs H1=>∃p ys,vs=[.ref p]/\SqX X.K H1 p ys/\∀l,H1 l=fX->Q (.ref l) (upd H1 l (.lst ys.reverse))) I ?_) λus s1 ⟨vs,H1,I1,r1,q1⟩=> ?_
 .have h:te σ H λx H1=>∃p ys,x= .ref p/\SqX X.K H1 p ys/\∀l,H1 l=fX->Q (.ref l) (upd H1 l (.lst ys.reverse)):=h;change te σ H λx H1=>∃p ys,[x]=[V.ref p]/\SqX X.K H1 p ys/\∀l,H1 l=fX->Q (.ref l) (upd H1 l (.lst ys.reverse));have e:(λ(x:V) (H1:Hp)=>∃p ys,[x]=[V.ref p]/\SqX X.K H1 p ys/\∀l,H1 l=fX->Q (.ref l) (upd H1 l (.lst ys.reverse)))=λx H1=>∃p ys,x= .ref p/\SqX X.K H1 p ys/\∀l,H1 l=fX->Q (.ref l) (upd H1 l (.lst ys.reverse)):=by
   funext x H1;simp
  rw[e];show h
 have#[p,ys,rfl,hq,q]:=q1;have#[u,rfl,ru]:=VN r1;cases ru;have#[z,ah,n,r,hl,e1]:=I1.lstR hq;have hL:s1.heap.IsList p ah.toArray:=#[_,e1,rfl,n,rfl];have qI:p<#v[s1]:=Heap.lt_size e1;show call_reversed_list hL ?_;show Calls.spliced_nil ?_;show zea (items:=ah.toArray) (I1.ok.hd hc) (by rw[uS];omega) #[_,Heap.get?_push_size _ rfl,rfl,rfl] (hL.push _) (y6 qI) λh' tk acc' c' hk lq cS=> ?_;have kept:∀b o,s1.heap.get? b=eO o->h'.get? b=eO o:=λb o e=>hk b o (y6 (Heap.lt_size e)) (Heap.get?_push_of_some _ e);have hsz:#v[s1]<=(s1.heap.push (revObj p ((ah.toArray.size:Int)-1))).objs.size:=by rw[Heap.size_push];show AG _
 have ha:acc'.toList=ah.reverse:=by
  have#[a1,a2]:=cS;show BM λi=> ?_;by_cases hi:i<ah.length
  .have jF:i<acc'.size:=by rw[a1,uS];show hi
   have e3:acc'.toList[i]? =eO acc'[i]:=by simp[jF]
   have e4:=a2 i acc'[i] (by simp[jF]);rw[e3,Cr hi,<-e4];simp
  rw[x8 (by simp[a1];omega),x8 (by simp;omega)]
 have hv:yk ys.reverse ah.reverse:=r.reverse;show#[.ref _,_,I1.laid (o:= .lst ys.reverse) (t':=tk) kept hsz #[by rw[BW];show z,ah.reverse,c',hv,?_],rfl,q _ (I1.hok.fresh hsz)];rw[lq,<-ha]
end L2
namespace HT
section
def TH{t sl:oN}{items:Array oJ}{vl vu:oJ}{lo hi:mw Int}(ht:IsTup s.heap t items)(hs:s.heap.IsSliceOf sl vl vu .none)(pl:IsPart vl lo)(pu:IsPart vu hi)
  (hw:sIx items.size 0 lo=0/\sIx items.size items.size hi=items.size) (h:Q (.ref t) s):wpAny (model prog w) A (getItem (.ref t) (.ref sl)) Q E s:=by
 have#[os,jx,gk,kX]:=id hs;have o8:s.TypeIs (.ref sl) "slice":=#[os,jx,gk];unfold getItem
 try with_reducible show FR ?_
 first|refine qx (qH ?_)|skip
 show qx (wpAny_sequenceKey ht.typeIs ∅ ?_)
 show qx (FE (name:=Str.ofString "__getitem__") ht.typeIs Ar
  (FH Ar ht.typeIs entry_tuple_getitem ?_ (args_tuple_getitem _ _)))
 change wpAny _ _ (Builtin.Tuple.tupleItemsOf (.ref t)>>=_) _ _ s;show qx (tupleItemsOf_ ht ?_);show qx (wpAny_typeOf o8 ?_);rw[Gv ∅];show qx (WC hs pl pu ?_);have n5:((((sIx items.size 0 lo:Nat):Int)==0&&(1:Int)==1&&(sIx items.size items.size hi-sIx items.size 0 lo)==items.size)=gP):=by
  rw[hw.1,hw.2];simp
 change wpAny _ _ (if (((sIx items.size 0 lo:Nat):Int)==0&&(1:Int)==1&&(sIx items.size items.size hi-sIx items.size 0 lo)==items.size)=gP then _ else _) _ _ s;rw[Gv n5];show qx ?_;unfold Builtin.Tuple.tupleIsExact;show qx (wpAny_typeOf ht.typeIs ?_);show qH ?_;rw[Gv ∅];show qx (wpAny_rule ?_);show qH #[_,rfl,qH h]
end
end HT
namespace L2
def zps(K:uG):V->mw Int->mw Int->Hp->VK->Prop:=λx lo hi H Q=>∃a xs,x= .ref a/\SqT K H a xs/\
 (HT.sIx xs.length 0 lo=0/\HT.sIx xs.length xs.length hi=xs.length->Q (.ref a) H)/\(¬(HT.sIx xs.length 0 lo=0/\HT.sIx xs.length xs.length hi=xs.length)->∀p,H p=fX->Q (.ref p) (upd H p (.tup (zd5 xs lo hi))))
def zpt(hK:X.K=K:=by rfl):SlR X (zps K):=by
 subst hK;intro pins s σ H x v vl vu lo hi sl Q I rx hs pl pu h;have#[a,xs,rfl,hx,q1,q2]:=h;by_cases hw:HT.sIx xs.length 0 lo=0/\HT.sIx xs.length xs.length hi=xs.length
 .cases rx;have#[ah,r,ht,hz]:=I.tuple hx;have hlen:ah.toArray.size=xs.length:=by rw[uS];show r.length.symm
  show#["tuple",_,Ar.lookup,ht.typeIs,?_];show HT.TH ht hs pl pu (by rw[hlen];show hw) #[.ref a,H,I,rfl,q1 hw]
 show zrC pins s σ H (.ref a) v vl vu lo hi sl Q I rx hs pl pu #[a,xs,rfl,hx,hw,q2 hw]
section
variable{tg:Expr}
end
section
def zm4{a b c}:FD (.Tuple a b c::r) env=(kb,eval (.Tuple a b c) env)::FD r env:=rfl
def zpu{a b}:FD (.List a b::r) env=(kb,eval (.List a b) env)::FD r env:=rfl
def zhl{a b c}:FD (.Constant a b c::r) env=(kb,eval (.Constant a b c) env)::FD r env:=rfl
def zpv{a b}:FD (.Name a b::r) env=(kb,eval (.Name a b) env)::FD r env:=rfl
def zfH{a b c}:FD (.Subscript a b c::r) env=(kb,eval (.Subscript a b c) env)::FD r env:=rfl
def zm5{a b c d}:FD (.BinOp a b c d::r) env=(kb,eval (.BinOp a b c d) env)::FD r env:=rfl
def zpw{a b c d}:FD (.Call a b c d::r) env=(kb,eval (.Call a b c d) env)::FD r env:=rfl
def zfI{a b c}:FD (.Attribute a b c::r) env=(kb,eval (.Attribute a b c) env)::FD r env:=rfl
end
open PySem.Builtin
def zbF:fillsNumberSlot (.type "tuple") "mul"=pure kb:=
 PySem.fillsNumberSlot_seq (id:="tuple.__mul__") (r:=eO (.builtin "tuple.__rmul__")) F.slot_tuple_mul.lookup (*...*) F.slot_tuple_rmul.lookup (*...*)
def zfJ:seqRepeat? (.type "tuple")=pure (eO (.builtin "tuple.__mul__")):=by
 unfold seqRepeat?;rw[EI (T:="tuple") (name:="__mul__") (id:="tuple.__mul__") F.slot_tuple_mul.lookup (*...*),EI (T:="tuple") (name:="__rmul__") (id:="tuple.__rmul__") F.slot_tuple_rmul.lookup (*...*)];rfl
def zc7(a:Int)(t:Tok)(l:oN)(items:Array oJ)(n:Nat)(dd:mw oN)(sl:Array (mw oJ)):
  Meets (Gk.«int.__rmul__» #[[.int a t,.ref l],[]]) (λ_ R s=>s.heap.get? l=eO {cls:= .type "tuple",dict:=dd,data:= .seq items n,slots:=sl}/\R (.ok (.ret Value.notImplemented)) s):=
 .of_wp λprog w A R s h=>by have#[hp,g,d,tk,os]:=s;have#[hl,h]:=h;wp_walk;show#[_,rfl,h]
def zi6(l:oN)(items:Array oJ)(n:Nat)(dd:mw oN)(sl:Array (mw oJ))(k:Int)(t:Tok)(hk:¬(decide (k< -(2^63))||decide (k≥2^63))=gP)(hc:(items.isEmpty||k==1)=gP):
  Meets (Gk.«tuple.__mul__» #[[.ref l,.int k t],[]]) (λ_ R s=>s.heap.get? l=eO {cls:= .type "tuple",dict:=dd,data:= .seq items n,slots:=sl}/\R (.ok (.ret (Value.ref l))) {s with heap:=s.heap,toks:=s.toks}):=
 .of_wp λprog w A R s h=>by have#[hp,g,d,tk,os]:=s;have#[hl,h]:=h;have f1:=AutoSeq1.idx_int;wp_walk using wpAny_loadPart' hl;show wpAny_ite_false (decide_eq_false hk) ?_;wp_walk using wpAny_loadPart' hl;show#[_,rfl,h]
def zi7(l:oN)(items:Array oJ)(n:Nat)(dd:mw oN)(sl:Array (mw oJ))(k:Int)(t:Tok)(hk:¬(decide (k< -(2^63))||decide (k≥2^63))=gP)(hc:¬(items.isEmpty||k==1)=gP)(h0:(decide (k<=0)||items.isEmpty)=gP):
  Meets (Gk.«tuple.__mul__» #[[.ref l,.int k t],[]]) (λ_ R s=>s.heap.get? l=eO {cls:= .type "tuple",dict:=dd,data:= .seq items n,slots:=sl}/\R (.ok (.ret (Value.ref #v[s]))) {s with heap:=s.heap.push {cls:=Value.type "tuple",data:=Data.seq [].toArray},toks:=s.toks}):=
 .of_wp λprog w A R s h=>by have#[hp,g,d,tk,os]:=s;have#[hl,h]:=h;have f1:=AutoSeq1.idx_int;wp_walk using wpAny_loadPart' hl;show wpAny_ite_false (decide_eq_false hk) ?_;wp_walk using wpAny_loadPart' hl;show#[_,rfl,h]
def zi8(l:oN)(items:Array oJ)(n:Nat)(dd:mw oN)(sl:Array (mw oJ))(k:Int)(t:Tok)(hk:¬(decide (k< -(2^63))||decide (k≥2^63))=gP)(hc:¬(items.isEmpty||k==1)=gP)(h0:¬(decide (k<=0)||items.isEmpty)=gP)
  (hm:¬(items.size:Int)*k>(2^63-1) / 8) (fG:¬Tuple.tupleTooMany ((items.size:Int)*k)=gP) (hsz:((w5 k.toNat items).foldl (λx1 x2=>x1++x2) [].toArray).size<=FC):
  Meets (Gk.«tuple.__mul__» #[[.ref l,.int k t],[]]) (λ_ R s=>s.heap.get? l=eO {cls:= .type "tuple",dict:=dd,data:= .seq items n,slots:=sl}/\R (.ok (.ret (Value.ref #v[s]))) {s with heap:=s.heap.push {cls:=Value.type "tuple",data:=Data.seq ((w5 k.toNat items).foldl (· ++ ·) [].toArray)},toks:=s.toks}):=
 .of_wp λprog w A R s h=>by have#[hp,g,d,tk,os]:=s;have#[hl,h]:=h;have f1:=AutoSeq1.idx_int;wp_walk using wpAny_loadPart' hl;show wpAny_ite_false (decide_eq_false hk) ?_;wp_walk using wpAny_loadPart' hl;show wpAny_ite_false (decide_eq_false hm) ?_;wp_walk using wpAny_loadPart' hl;show#[_,rfl,h]
def zq5(K:uG):R2:=λx y H Q=>∃a k xs,x= .ref a/\y= .int k/\SqT K H a xs/\ -(2^63)<=k/\k<2^63/\xs.length*k.toNat<=FC/\
 ((xs=[]\/k=1)->Q (.ref a) H)/\(¬(xs=[]\/k=1)->∀p,H p=fX->Q (.ref p) (upd H p (.tup (w5 k.toNat xs).flatten)))
def zm6(hK:X.K=K:=by rfl):OpR X (Gj .Mult) (zq5 K):=by
 subst hK;intro pins s σ H x y v u Q I rx ry h;have#[a,k,xs,rfl,rfl,hH,h1,h2,hz,q1,q2]:=h;cases rx;have#[t,rfl]:=ry;have#[ah,r,p1,_]:=I.tuple hH;have#[#[cls,dd,data,sl],ho,hc,n,hd]:=id p1;simp only at hc hd;subst hc hd;have hl:=r.length;have hk:¬(decide (k< -(2^63))||decide (k≥2^63))=gP:=by
  intro h;rcases CG.1 h with h|h;have:=of_decide_eq_true h;omega;have:=of_decide_eq_true h;omega
 have kQ:∀m:Nat,List.foldl (λx1 x2=>x1++x2) [].toArray (w5 m ah.toArray)=(w5 m ah).flatten.toArray:=λm=>by
  have:=zeI ah m [];rw[DG] at this;show this
 show wpAny_binaryOp_repeat_ref (T:="tuple") (U:="int") ∅ #[_,ho,rfl] (λs'=>typeIs_int s' k t) zbF F.fills_int_mul F.slot_int_rmul zfJ F.slot_int_index.lookup
  (call_meets F.slot_int_rmul (typeIs_int s k t) F.entry_int_rmul (F.args_int_rmul_2 _ _) (zc7 k t a ah.toArray n dd sl) #[ho,rfl,#[_,ho,rfl],?_])
 by_cases hc:xs=[]\/k=1;show call_meets F.slot_tuple_mul #[_,ho,rfl] F.entry_tuple_mul (F.args_tuple_mul_2 _ _) (zi6 a ah.toArray n dd sl k t hk ?_) #[ho,#[.ref a,H,I,rfl,q1 hc]];rcases hc with rfl|rfl;have:ah=[]:=r.nil_iff.mpr rfl;subst this;rfl;simp
 have di:ah≠[]:=λz=>hc (.inl (r.nil_iff.mp z));have iB:¬(ah.toArray.isEmpty||k==1)=gP:=by
  intro h;rcases CG.1 h with h|h;show di (by simpa using h);show hc (.inr (by simpa using h))
 by_cases h0:k<=0
 .show call_meets F.slot_tuple_mul #[_,ho,rfl] F.entry_tuple_mul (F.args_tuple_mul_2 _ _) (zi7 a ah.toArray n dd sl k t hk iB (by simp[h0])) #[ho,?_];show#[.ref #v[s],_,I.laid (t':=s.toks) (o:= .tup (w5 k.toNat xs).flatten) (λb ob q=>Heap.get?_push_of_some _ q) (uL _) ?_,rfl,q2 hc _ (I.hok.fresh (uL _))];have e0:k.toNat=0:=by omega
  rw[e0];show#[by simp,_,.nil,YI.new _ _]
 have hm:((ah.toArray.size:Nat):Int)*k=((xs.length*k.toNat:Nat):Int):=by
  rw[uS,<-hl];have:k=(k.toNat:Int):=by omega
  rw[DH,<-this]
 have hs:xs.length*k.toNat<=2^24:=hz
 show call_meets F.slot_tuple_mul #[_,ho,rfl] F.entry_tuple_mul (F.args_tuple_mul_2 _ _) (zi8 a ah.toArray n dd sl k t hk iB (by simp[h0];show di) (by rw[hm];omega) (by
  rw[hm];unfold Tuple.tupleTooMany;intro h;have:=of_decide_eq_true h;have hG:((xs.length*k.toNat:Nat):Int)<=(FC:Int):=Int.ofNat_le.2 hz
  omega) (by rw[kQ,uS,<-(r.rep k.toNat).length,zkq,El];show hz)) #[ho,?_]
 rw[kQ];show#[.ref #v[s],_,I.laid (t':=s.toks) (o:= .tup (w5 k.toNat xs).flatten) (λb ob q=>Heap.get?_push_of_some _ q) (uL _) ?_,rfl,q2 hc _ (I.hok.fresh (uL _))];show#[by rw[zkq,El];show hz,_,r.rep k.toNat,YI.new _ _]
end L2
namespace L2
open PySem.Calls
section
variable{w:World}{T:String}{r d:oN}{n:Nat}{P:Nat->oJ->Prop}{OK:Heap->Prop}
end
section
variable{w:World}{T:String}{r d:oN}{n:Nat}{P:Nat->oJ->Prop}{OK:Heap->Prop}
end
end L2
namespace L2
structure Ul where
 C:mw Str
 m:Str
 d:Str
structure xx where
 id:Nat
 par:Arguments
 body:BG
 sc:Scope
 t:Ul
 fr:kh Str
noncomputable def Ul.q(t:Ul):Str:=(t.d++".<locals>.")++"<lambda>"
noncomputable abbrev xx.q(L:xx):Str:=L.t.q
noncomputable def zi9(K:uG):mw Str->Str->mw oN
 |none,m=>(match v5 K tP m with
  |some (eO (.ref f))=>eO f
  |_=>fX)
 |some C,m=>(match v5 K tP C with
  |some (eO (.ref g))=>(match x5 K (.ref g) m with
   |some (eO (.ref f))=>eO f
   |_=>fX)
  |_=>fX)
noncomputable def zja(K:uG)(f:oN):mw (oN×oN):=match K.lookup f with
 |some ⟨_,_,.func fd,_⟩=>(match fd.code with
  | .ref c=>(match K.lookup c with
   |some ⟨_,_,.fields vs,_⟩=>(match (vs[11]? :mw oJ) with
    |some (.ref P)=>if BR K c P then eO (c,P) else fX
    |_=>fX)
   |_=>fX)
  |_=>fX)
 |_=>fX
noncomputable def vq(K:uG)(t:Ul):mw (oN×oN):=(zi9 K t.C t.m).bind (zja K)
inductive Xv where
 |non|bl (b:Bool)|int (i:Int)|str (x:Str)|tup (xs:List Xv)|ct (xs:List Xv)|ref (n:Nat)|lam (L:xx) (xs:List Xv)
inductive Ce where
 |lst (xs:List Xv)
 |frz (xs:List Xv)
 |dk (af:List (Key×Xv))
 |dt (af:List (List Key×Xv))
 |ins (nm:Str) (fs:List (Str×Xv))
 |fdk (af:List (Key×Xv))
 |dn (af:List (NK×Xv×Xv))
 |exc (nm:Str)
 |tab (t:Ul)
 |fdn (af:List (NK×Xv×Xv))
abbrev Sto:=kh Ce
abbrev Rho:=kh (mw Xv)
noncomputable def Ce.fz:Ce->Bool
 | .frz _=>gP
 | .fdk _=>gP
 | .fdn _=>gP
 | .exc _=>gP
 |_=>kb
noncomputable def HO.mu:HO->Bool
 | .lst _=>gP
 | .dK _=>gP
 | .dT _=>gP
 | .dN _=>gP
 | .ins _ _ _=>gP
 | .set _ _=>gP
 | .tbl _=>gP
 |_=>kb
def vn(H H':Hp):Prop:=∀b u,H b=eO u->u.mu=kb->H' b=eO u
def vn.refl(H:Hp):vn H H:=λ_ _ e _=>e
def vn.trans(a:vn H H1)(b:vn H1 H2):vn H H2:=λx u e m=>b x u (a x u e m) m
def vn.same(S:YL H H'):vn H H':=λb u e _=>S b u e
structure Ext(j:kh oN)(H:Hp)(j':kh oN)(H':Hp):Prop where
 pre:∀(n:Nat) a,j[n]? =eO a->j'[n]? =eO a
 imm:vn H H'
def Ext.refl:Ext j H j H:=#[λ_ _ e=>e,vn.refl _]
def Ext.trans(a:Ext j H j1 H1)(b:Ext j1 H1 j2 H2):Ext j H j2 H2:=#[λn x e=>b.pre n x (a.pre n x e),a.imm.trans b.imm]
def Ext.same(S:YL H H'):Ext j H j H':=#[λ_ _ e=>e,vn.same S]
def TN(H:Hp)(q:Str)(c:oN):Prop:=∃(oc:Obj) (fs:Array oJ) (t:Tok),H c=eO (.frz oc (.own 0))/\oc.data= .fields fs/\fs[1]? =eO (.str q t)
structure zc8(H:Hp)(L:xx)(f:oN)(vs:kh V):Prop where
 ex:∃(aW:kh (Str×oN)) (pm dM:oJ) (c:oN),H f=eO (.frz (Ba "<lambda>" L.q L.par L.body L.sc aW pm c dM) (.own 0))/\TN H L.q c/\
  (∀(i:Nat) x v,L.fr[i]? =eO x->vs[i]? =eO v->∃(a:oN) (o:Obj) (u:oJ),aW.lookup x=eO a/\H a=eO (.frz o (.own 0))/\o.data= .cell (eO u)/\yp v u)/\
  (∀x y a,aW.lookup x=eO a->aW.lookup y=eO a->x=y)/\(∀y∈L.sc.names,y.2= .free->∃a,aW.lookup y.1=eO a)/\
  ∀x a,aW.lookup x=eO a->∃(o:Obj) (u:mw oJ),H a=eO (.frz o (.own 0))/\o.data= .cell u
def TN.mono(k:vn H H')(h:TN H q c):TN H' q c:=by
 have#[oc,fs,t,e,r]:=h;show#[oc,fs,t,k _ _ e rfl,r]
def zc8.mono(k:vn H H')(h:zc8 H L f vs):zc8 H' L f vs:=by
 have#[aW,pm,dM,c,h1,h2,h3,h4,h5,h6]:=h.ex;show#[aW,pm,dM,c,k _ _ h1 rfl,h2.mono k,λi x v e1 e2=> ?_,h4,h5,λx a e=> ?_];have#[a,o,u,e3,e4,r]:=h3 i x v e1 e2;show#[a,o,u,e3,k _ _ e4 rfl,r];have#[o,u,e3,r]:=h6 x a e;show#[o,u,k _ _ e3 rfl,r]
mutual
inductive Xis(K:uG)(j:List Addr)(H:Hp):Xv->V->Prop where
 |non:Xis K j H .non .non
 |bl (b:Bool):Xis K j H (.bl b) (.bl b)
 |int (i:Int):Xis K j H (.int i) (.int i)
 |str (x:Str):Xis K j H (.str x) (.str x)
 |tup {a:Addr} {vs:List V} {xs:List Xv}:H a=eO (.tup vs)->yn K j H xs vs->Xis K j H (.tup xs) (.ref a)
 |ct {a:Addr} {vs:List V} {xs:List Xv}:(∀H,SqT K H a vs)->yn K j H xs vs->Xis K j H (.ct xs) (.ref a)
 |ref {n:Nat} {a:Addr}:j[n]? =eO a->Xis K j H (.ref n) (.ref a)
 |lam {f:Addr} {vs:List V} {L:xx} {xs:List Xv}:zc8 H L f vs->yn K j H xs vs->Xis K j H (.lam L xs) (.ref f)
inductive yn(K:uG)(j:List Addr)(H:Hp):List Xv->List V->Prop where
 |nil:yn K j H [] []
 |cons {x:Xv} {v:V} {xs:List Xv} {vs:List V}:Xis K j H x v->yn K j H xs vs->yn K j H (x::xs) (v::vs)
end
def Xis.mono(S:Ext j H j' H')(h:Xis K j H x v):Xis K j' H' x v:=
 Xis.rec (motive_1:=λx v _=>Xis K j' H' x v) (motive_2:=λxs vs _=>yn K j' H' xs vs) .non .bl .int .str (λh _ l=> .tup (S.imm _ _ h rfl) l) (λh _ l=> .ct h l) (λh=> .ref (S.pre _ _ h)) (λh _ l=> .lam (h.mono S.imm) l) .nil (λ_ _ h l=> .cons h l) h
def yn.ind{m:kh Xv->kh V->Prop}(h0:m [] [])(h1:∀{x:Xv} {v:V} {xs:kh Xv} {vs:kh V},Xis K j H x v->yn K j H xs vs->m xs vs->m (x::xs) (v::vs)){xs:kh Xv}{vs:kh V}(h:yn K j H xs vs):m xs vs:=
 yn.rec (motive_1:=λ_ _ _=>True) (motive_2:=λxs vs _=>m xs vs) trivial (λ_=>trivial) (λ_=>trivial) (λ_=>trivial) (λ_ _ _=>trivial) (λ_ _ _=>trivial) (λ_=>trivial) (λ_ _ _=>trivial) h0 (λa b _ c=>h1 a b c) h
def yn.mono(S:Ext j H j' H')(h:yn K j H xs vs):yn K j' H' xs vs:=h.ind (m:=yn K j' H') .nil λa _ c=> .cons (a.mono S) c
section
def yn.len(h:yn K j H xs vs):vs.length=xs.length:=h.ind (m:=λxs vs=>vs.length=xs.length) rfl λ_ _ e=>congrArg (· +1) e
def yn.get{xs:kh Xv}{vs:kh V}{i:Nat}{x:Xv}(h:yn K j H xs vs):xs[i]? =eO x->∃v,vs[i]? =eO v/\Xis K j H x v:=
 h.ind (m:=λxs vs=>∀i,xs[i]? =eO x->∃v,vs[i]? =eO v/\Xis K j H x v) (λi e=>by simp at e) (λa _ ih i e=>by
  cases i with
  |zero=>simp at e;subst e;show#[_,rfl,a]
  |succ i=>show ih i e) i
def yn.append(h:yn K j H xs vs)(k:yn K j H ys ws):yn K j H (xs++ys) (vs++ws):=h.ind (m:=λxs vs=>yn K j H (xs++ys) (vs++ws)) k λa _ c=> .cons a c
def yn.one(h:Xis K j H x v):yn K j H [x] [v]:= .cons h .nil
def yn.take(n:Nat)(h:yn K j H xs vs):yn K j H (xs.take n) (vs.take n):=
 h.ind (m:=λxs vs=>∀n,yn K j H (xs.take n) (vs.take n)) (λn=>by cases n<;>show .nil) (λa _ ih n=>by
  cases n with
  |zero=>show .nil
  |succ n=>show .cons a (ih n)) n
def yn.drop(n:Nat)(h:yn K j H xs vs):yn K j H (xs.drop n) (vs.drop n):=
 h.ind (m:=λxs vs=>∀n,yn K j H (xs.drop n) (vs.drop n)) (λn=>by cases n<;>show .nil) (λa b ih n=>by
  cases n with
  |zero=>show .cons a b
  |succ n=>show ih n) n
def yn.ints(ns:kh Int):yn K j H (ns.map Xv.int) (ns.map V.int):=by
 induction ns with
 |nil=>show .nil
 |cons n r ih=>show .cons (.int n) ih
def yn.reverse(h:yn K j H xs vs):yn K j H xs.reverse vs.reverse:=
 h.ind (m:=λxs vs=>yn K j H xs.reverse vs.reverse) .nil λa _ c=>by
  rw[Cb,Cb];show c.append (.one a)
def yn.set(hv:Xis K j H x v)(n:Nat)(h:yn K j H xs vs):yn K j H (xs.set n x) (vs.set n v):=
 h.ind (m:=λxs vs=>∀n,yn K j H (xs.set n x) (vs.set n v)) (λ_=> .nil) (λa b ih n=>by
  cases n with
  |zero=>show .cons hv b
  |succ n=>show .cons a (ih n)) n
def yn.dropLast(h:yn K j H xs vs):yn K j H xs.dropLast vs.dropLast:=by
 rw[DP,DP,h.len];show h.take _
def yn.at_(h:yn K j H xs vs)(e:atI xs i=eO x):∃v,atI vs i=eO v/\Xis K j H x v:=by
 unfold atI at e ⊢;rw[h.len];cases e1:ixN xs.length i with
 |none=>rw[e1] at e;cases e
 |some m=>
  rw[e1] at e;have#[v,e3,e4]:=h.get (i:=m) e;show#[v,e3,e4]
def Xis.int_inv(h:Xis K j H (.int i) v):v= .int i:=by cases h;rfl
def Xis.bl_inv(h:Xis K j H (.bl b) v):v= .bl b:=by cases h;rfl
def Xis.str_inv(h:Xis K j H (.str b) v):v= .str b:=by cases h;rfl
def Xis.non_inv(h:Xis K j H .non v):v= .non:=by cases h;rfl
def Xis.ref_inv(h:Xis K j H (.ref n) v):∃a,v= .ref a/\j[n]? =eO a:=by cases h with|ref e=>show#[_,rfl,e]
def Xis.tup_inv(h:Xis K j H (.tup xs) v):∃a vs,v= .ref a/\H a=eO (.tup vs)/\yn K j H xs vs:=by cases h with|tup a b=>show#[_,_,rfl,a,b]
def yn.cons_inv(h:yn K j H (x::xs) vs):∃v r,vs=v::r/\Xis K j H x v/\yn K j H xs r:=by cases h with|cons a b=>show#[_,_,rfl,a,b]
def yn.nil_inv(h:yn K j H [] vs):vs=[]:=by cases h;rfl
def yn.d1(h:yn K j H [a] vs):∃x,vs=[x]/\Xis K j H a x:=by
 have#[x,r,rfl,hx,h]:=h.cons_inv;obtain rfl:=h.nil_inv;show#[x,rfl,hx]
def yn.d2(h:yn K j H [a,b] vs):∃x y,vs=[x,y]/\Xis K j H a x/\Xis K j H b y:=by
 have#[x,r,rfl,hx,h]:=h.cons_inv;have#[y,rfl,hy]:=h.d1;show#[x,y,rfl,hx,hy]
noncomputable def Xv.tupOf:Xv->mw (kh Xv)
 | .tup xs=>eO xs
 | .ct xs=>eO xs
 |_=>fX
def Xis.tupO(h:Xis K j H x v)(e:x.tupOf=eO xs):∃a vs,v= .ref a/\SqT K H a vs/\yn K j H xs vs:=by
 cases h with
 |tup h l=>simp[Xv.tupOf] at e;subst e;show#[_,_,rfl,SqT.of h,l]
 |ct h l=>simp[Xv.tupOf] at e;subst e;show#[_,_,rfl,h H,l]
 |_=>simp[Xv.tupOf] at e
end
inductive KX{κ:Type}(K:uG)(j:List Addr)(H:Hp):List (κ×Xv)->List (κ×V)->Prop where
 |nil:KX K j H [] []
 |cons {k:κ} {x:Xv} {v:V} {r:List (κ×Xv)} {rs:List (κ×V)}:Xis K j H x v->KX K j H r rs->KX K j H ((k,x)::r) ((k,v)::rs)
def KX.mono{κ:Type}(S:Ext j H j' H'){xs:kh (κ×Xv)}{vs:kh (κ×V)}(h:KX K j H xs vs):KX K j' H' xs vs:=by
 induction h with
 |nil=>show .nil
 |cons h _ ih=>show .cons (h.mono S) ih
mutual
noncomputable def YM:Xv->mw NK
 | .int i=>eO (.int i)
 | .str x=>eO (.str x)
 | .tup l=>(WH l).map .tup
 | .ct l=>(WH l).map .tup
 | .non=>fX
 | .bl _=>fX
 | .ref _=>fX
 | .lam _ _=>fX
noncomputable def WH:kh Xv->mw (kh NK)
 |[]=>eO []
 |x::r=>(YM x).bind λk=>(WH r).map (k:: ·)
end
inductive NX(K:uG)(j:List Addr)(H:Hp):List (NK×Xv×Xv)->List (NK×Addr×V)->Prop where
 |nil:NX K j H [] []
 |cons {k:NK} {x y:Xv} {b:Addr} {v:V} {r:List (NK×Xv×Xv)} {rs:List (NK×Addr×V)}:YM x=eO k/\Zu k<=8->Xis K j H x (.ref b)->Xis K j H y v->NX K j H r rs->NX K j H ((k,x,y)::r) ((k,b,v)::rs)
def NX.mono(S:Ext j H j' H')(h:NX K j H xs vs):NX K j' H' xs vs:=by
 induction h with
 |nil=>show .nil
 |cons e h1 h2 _ ih=>show .cons e (h1.mono S) (h2.mono S) ih
def zc9(K:uG)(j:kh oN)(H:Hp)(a:oN):Ce->Prop
 | .lst xs=>∃vs,H a=eO (.lst vs)/\yn K j H xs vs
 | .frz xs=>∃vs,((∃o,H a=eO (.frz o (.lst vs)))\/∀H,SqX K H a vs)/\yn K j H xs vs
 | .dk af=>∃ks:kh (Key×V),H a=eO (.dK ks)/\KX K j H af ks
 | .dt af=>∃ks:kh (kh Key×V),H a=eO (.dT ks)/\KX K j H af ks
 | .ins nm fs=>∃(C dx:oN) (vs:kh (Str×V)),v5 K tP nm=eO (eO (.ref C))/\H a=eO (.ins C dx vs)/\KX K j H fs vs
 | .fdk af=>∃(o:Obj) (ks:kh (Key×V)),H a=eO (.frz o (.dK ks))/\KX K j H af ks
 | .dn af=>∃ks:kh (NK×oN×V),H a=eO (.dN ks)/\NX K j H af ks
 | .fdn af=>∃(o:Obj) (ks:kh (NK×oN×V)),H a=eO (.frz o (.dN ks))/\NX K j H af ks
 | .exc nm=>∃C:oN,v5 K tP nm=eO (eO (.ref C))/\H a=eO (zrK a (.ref C))
 | .tab t=>∃(ps:Array oJ) (d:oN),H a=eO (.tbl ps)/\vq K t=eO (d,a)/\TriplesOk ps.toList/\∀pos cv,codeAmong pos ps.toList=eO cv->∃c,cv= .ref c/\TN H t.q c
def zc9.mu(h:zc9 K j H a c)(z:c.fz=kb):∃o,H a=eO o/\o.mu=gP:=by
 cases c with
 |lst l=>have#[_,e,_]:=h;show#[_,e,rfl]
 |dk l=>have#[_,e,_]:=h;show#[_,e,rfl]
 |dt l=>have#[_,e,_]:=h;show#[_,e,rfl]
 |ins n l=>have#[_,_,_,_,e,_]:=h;show#[_,e,rfl]
 |dn l=>have#[_,e,_]:=h;show#[_,e,rfl]
 |tab t=>have#[_,_,e,_]:=h;show#[_,e,rfl]
 |_=>cases z
def zc9.mono(S:Ext j H j' H')(h:c.fz=kb->H' a=H a)(k:zc9 K j H a c):zc9 K j' H' a c:=by
 cases c with
 |lst l=>have#[_,e,l]:=k;show#[_,(h rfl).trans e,l.mono S]
 |frz l=>
  have#[_,e,l]:=k;rcases e with⟨o,e⟩|e;show#[_,.inl #[o,S.imm _ _ e rfl],l.mono S];show#[_,.inr e,l.mono S]
 |dk l=>have#[_,e,l]:=k;show#[_,(h rfl).trans e,l.mono S]
 |dt l=>have#[_,e,l]:=k;show#[_,(h rfl).trans e,l.mono S]
 |ins n l=>have#[_,_,_,n,e,l]:=k;show#[_,_,_,n,(h rfl).trans e,l.mono S]
 |fdk l=>have#[_,_,e,l]:=k;show#[_,_,S.imm _ _ e rfl,l.mono S]
 |dn l=>have#[_,e,l]:=k;show#[_,(h rfl).trans e,l.mono S]
 |fdn l=>have#[_,_,e,l]:=k;show#[_,_,S.imm _ _ e rfl,l.mono S]
 |exc c=>have#[C,n,e]:=k;show#[C,n,S.imm _ _ e rfl]
 |tab t=>
  have#[ps,d,e,x,t,r]:=k;show#[ps,d,(h rfl).trans e,x,t,λpos cv q=> ?_];have#[c,e1,e2]:=r pos cv q;show#[c,e1,e2.mono S.imm]
structure Fm where
 H0:Hp
 j0:kh oN
 S0:Sto
structure En(K:uG)(F:Fm)(j:kh oN)(H:Hp)(σ:St)(ρ:Rho)(S:Sto):Prop where
 len:σ.length=ρ.length
 slot:∀(i:Nat) x,ρ[i]? =eO (eO x)->∃v,σ[i]? =eO (eO v)/\Xis K j H x v
 jl:j.length=S.length
 inj:∀(n m:Nat) a c d,j[n]? =eO a->j[m]? =eO a->S[n]? =eO c->S[m]? =eO d->c.fz=kb->d.fz=kb->n=m
 cel:∀(n:Nat) c a,S[n]? =eO c->j[n]? =eO a->zc9 K j H a c
 ext:Ext F.j0 F.H0 j H
 old:∀(n:Nat) c,F.S0[n]? =eO c->∃c',S[n]? =eO c'/\(c'.fz=kb->c.fz=kb)/\(c.fz=gP->c'=c)
 l0:F.j0.length=F.S0.length
 keep:∀b u,F.H0 b=eO u->H b=eO u\/∃(n:Nat) (c:Ce),F.j0[n]? =eO b/\F.S0[n]? =eO c/\c.fz=kb
 fresh:∀(n:Nat) a,F.j0.length<=n->j[n]? =eO a->F.H0 a=fX
 dom:∀b,H b=fX->F.H0 b=fX
section
variable{F:Fm}{j j':kh oN}{H':Hp}{σ':St}{ρ ρ':Rho}{S S':Sto}{v:V}{x:Xv}{a p:oN}{o:HO}{i n:Nat}{c c':Ce}
def En.heap(E:En K F j H σ ρ S)(Sm:YL H H'):En K F j H' σ ρ S:=by
 have X:Ext j H j H':=Ext.same Sm;show#[E.len,λi x e=> ?_,E.jl,E.inj,λn c a e1 e2=> ?_,E.ext.trans X,E.old,E.l0,λb u e=> ?_,E.fresh,λb e=>E.dom b ?_];have#[v,e1,e2]:=E.slot i x e;show#[v,e1,e2.mono X];have h:=E.cel n c a e1 e2;show h.mono X λz=> ?_;have#[o,e,_]:=h.mu z;show(Sm _ _ e).trans e.symm;rcases E.keep b u e with h|h;show .inl (Sm _ _ h);show .inr h
 cases e':H b with
 |none=>rfl
 |some u=>rw[Sm b u e'] at e;cases e
def En.new(E:En K F j H σ ρ S)(h:H p=fX):En K F j (upd H p o) σ ρ S/\Ext j H j (upd H p o):=#[E.heap (wD h),Ext.same (wD h)]
def En.cell(E:En K F j H σ ρ S)(h:H p=fX)(hc:zc9 K (j++[p]) (upd H p o) p c):En K F (j++[p]) (upd H p o) σ ρ (S++[c])/\Ext j H (j++[p]) (upd H p o):=by
 have X:Ext j H (j++[p]) (upd H p o):=#[λn a e=>by rw[uN (uF.1 e).1];show e,vn.same (wD h)];have jc:∀{n:Nat} {a:oN},(j++[p])[n]? =eO a->j[n]? =eO a\/(n=j.length/\a=p):=λ{n a} e=>by
  by_cases hn:n<j.length;rw[uN hn] at e;show .inl e
  rw[uQ ⋯] at e;cases hm:n-j.length with
  |zero=>rw[hm] at e;simp at e;show .inr #[⋯,e.symm]
  |succ m=>rw[hm] at e;simp at e
 have sat:∀{n:Nat} {d:Ce},(S++[c])[n]? =eO d->S[n]? =eO d\/(n=S.length/\d=c):=λ{n d} e=>by
  by_cases hn:n<S.length;rw[uN hn] at e;show .inl e
  rw[uQ ⋯] at e;cases hm:n-S.length with
  |zero=>rw[hm] at e;simp at e;show .inr #[⋯,e.symm]
  |succ m=>rw[hm] at e;simp at e
 have lt:∀{n:Nat} {d:Ce},S[n]? =eO d->n<S.length:=λe=>(uF.1 e).1;have jr:∀{n:Nat} {a:oN} {d:Ce},j[n]? =eO a->S[n]? =eO d->d.fz=kb->a≠p:=λ{n a d} e1 e2 z q=>by
  subst q;have#[o',e,_]:=(E.cel n d a e2 e1).mu z;rw[h] at e;cases e
 show#[#[E.len,λi x e=> ?_,by simp[E.jl],λn m a c1 c2 e1 e2 e3 e4 z1 z2=> ?_,λn d a e1 e2=> ?_,E.ext.trans X,λn d e=> ?_,E.l0,λb u e=> ?_,λn a hn e=> ?_,λb e=> ?_],X];have#[v,e1,e2]:=E.slot i x e;show#[v,e1,e2.mono X]
 .rcases sat e3 with e3|⟨e3,_⟩
  .have h1:j[n]? =eO a:=by
    rcases jc e1 with h1|⟨h1,_⟩
    .show h1
    have:=lt e3;rw[E.jl] at h1;omega
   rcases sat e4 with e4|⟨e4,_⟩
   .have h2:j[m]? =eO a:=by
     rcases jc e2 with h2|⟨h2,_⟩
     .show h2
     have:=lt e4;rw[E.jl] at h2;omega
    show E.inj n m a c1 c2 h1 h2 e3 e4 z1 z2
   have:a=p:=by
    rcases jc e2 with h2|⟨_,h2⟩
    .have:=(uF.1 h2).1;rw[E.jl] at this;omega
    show h2
   show absurd this (jr h1 e3 z1)
  have:a=p:=by
   rcases jc e1 with h2|⟨_,h2⟩
   .have:=(uF.1 h2).1;rw[E.jl] at this;omega
   show h2
  rcases sat e4 with e4|⟨e4,_⟩
  .have h2:j[m]? =eO a:=by
    rcases jc e2 with h2|⟨h2,_⟩
    .show h2
    have:=lt e4;rw[E.jl] at h2;omega
   show absurd this (jr h2 e4 z2)
  rw[e3,e4]
 .rcases sat e1 with e1|⟨e1,rfl⟩
  .have h2:j[n]? =eO a:=by
    rcases jc e2 with h2|⟨h2,_⟩
    .show h2
    have:=lt e1;rw[E.jl] at h2;omega
   have hh:=E.cel n d a e1 h2;show hh.mono X λz=>zT (jr h2 e1 z)
  have:a=p:=by
   rcases jc e2 with h2|⟨_,h2⟩
   .have:=(uF.1 h2).1;rw[E.jl] at this;omega
   show h2
  subst this;show hc
 .obtain⟨d',e1,e2⟩:=E.old n d e;show#[d',by rw[uN (lt e1)];show e1,e2]
 .rcases E.keep b u e with h'|h';show .inl (wD h _ _ h');show .inr h'
 .rcases jc e with e|⟨_,rfl⟩
  .show E.fresh n a hn e
  show E.dom _ h
 show E.dom b ?_;cases e':H b with
 |none=>rfl
 |some u=>rw[wD h b u e'] at e;cases e
set_option tactic.hygienic true in
def En.writeF(E:En K F j H σ ρ S)(hs:S[n]? =eO c)(z:c.fz=kb)(hj:j[n]? =eO a)(hc:∀X:Ext j H j (upd H a o),zc9 K j (upd H a o) a c'):En K F j (upd H a o) σ ρ (S.set n c')/\Ext j H j (upd H a o):=by
 have#[o0,h0,m0]:=(E.cel n c a hs hj).mu z
 have X:Ext j H j (upd H a o):=#[λ_ _ e=>e,λb u e m=>by
  have:b≠a:=λq=>by subst q;rw[h0] at e;cases e;rw[m] at m0;cases m0
  rw[zT this];show e]
 have sat:∀{m:Nat} {d:Ce},(S.set n c')[m]? =eO d->(m=n/\d=c')\/(m≠n/\S[m]? =eO d):=λ{m d} e=>by
  rw[A4] at e;split at e;rename_i q;split at e;cases e;show .inl #[q.symm,rfl];cases e;rename_i q;show .inr #[λr=>q r.symm,e]
 have qd:∀{m:Nat} {d:Ce},(S.set n c')[m]? =eO d->∃d',S[m]? =eO d'/\(d.fz=kb->d'.fz=kb):=λ{m d} e=>by
  rcases sat e with⟨rfl,rfl⟩|⟨_,e⟩
  .show#[c,hs,λ_=>z]
  show#[d,e,λy=>y]
 show#[#[E.len,λi x e=> ?_,by simp[E.jl],λk m b c1 c2 e1 e2 e3 e4 z1 z2=> ?_,λm d b e1 e2=> ?_,E.ext.trans X,λm d e=> ?_,E.l0,λb u e=> ?_,E.fresh,λb e=> ?_],X];have#[v,e1,e2]:=E.slot i x e;show#[v,e1,e2.mono X];have#[d1,f1,g1]:=qd e3;have#[d2,f2,g2]:=qd e4;show E.inj k m b d1 d2 e1 e2 f1 f2 (g1 z1) (g2 z2)
 .rcases sat e1 with⟨rfl,rfl⟩|⟨q,e1⟩
  .rw[hj] at e2;cases e2;show hc X
  show (E.cel m d b e1 e2).mono X λzd=>zT λr=> ?_;subst r;show q (E.inj m n b d c e2 hj e1 hs zd z)
 .obtain⟨d',e1,e2,e3⟩:=E.old m d e;by_cases q:m=n;subst q;rw[hs] at e1;cases e1;show#[c',by rw[A4,Gv rfl,Gv (uF.1 hs).1],λ_=>e2 z,λy=> ?_];rw[e2 z] at y;cases y;show#[d',by rw[A4,Gw (λr=>q r.symm)];show e1,e2,e3]
 .by_cases q:b=a
  .subst q;by_cases hn:n<F.j0.length
   .have sE:F.j0[n]? =eO b:=by
     have e1:F.j0[n]? =eO F.j0[n]:=uH hn;have e2:=E.ext.pre n _ e1;rw[hj] at e2;cases e2;show e1
    have eZ:n<F.S0.length:=by rw[<-E.l0];show hn
    have#[d',f1,f2,_]:=E.old n _ (uH eZ);rw[hs] at f1;cases f1;show .inr #[n,_,sE,uH eZ,f2 z]
   rw[E.fresh n b ⋯ hj] at e;cases e
  rcases E.keep b u e with h|h;show .inl (by rw[zT q];show h);show .inr h
 by_cases q:b=a;subst q;rw[zW] at e;cases e;rw[zT q] at e;show E.dom b e
def En.write(E:En K F j H σ ρ S)(hs:S[n]? =eO c)(z:c.fz=kb)(hj:j[n]? =eO a)(_:c'.fz=kb)(hc:∀X:Ext j H j (upd H a o),zc9 K j (upd H a o) a c'):En K F j (upd H a o) σ ρ (S.set n c')/\Ext j H j (upd H a o):=E.writeF hs z hj hc
def En.slots(E:En K F j H σ ρ S)(hl:σ'.length=ρ'.length)(h:∀(i:Nat) x,ρ'[i]? =eO (eO x)->∃v,σ'[i]? =eO (eO v)/\Xis K j H x v):En K F j H σ' ρ' S:=
 #[hl,h,E.jl,E.inj,E.cel,E.ext,E.old,E.l0,E.keep,E.fresh,E.dom]
set_option tactic.hygienic true in
def En.set(E:En K F j H σ ρ S)(h:Xis K j H x v):En K F j H (σ.set i (eO v)) (ρ.set i (eO x)) S:=E.slots (by simp[E.len]) λk y e=>by
 rw[A4] at e ⊢;split at e;rename_i q;subst q;split at e;rename_i hl;cases e;rw[Gv rfl,Gv (by rw[E.len];show hl)];show#[v,rfl,h];cases e;rename_i q;rw[Gw q];show E.slot k y e
def En.enter(E:En K F j H σ ρ S)(hl:σ'.length=ρ'.length)(h:∀(i:Nat) x,ρ'[i]? =eO (eO x)->∃v,σ'[i]? =eO (eO v)/\Xis K j H x v):En K #[H,j,S] j H σ' ρ' S:=
 #[hl,h,E.jl,E.inj,E.cel,Ext.refl,λn c e=>#[c,e,λz=>z,λ_=>rfl],E.jl,λb u e=> .inl e,λn a hn e=>by have:=(uF.1 e).1;dsimp only at hn;omega,λb e=>e]
def En.leave(E:En K F j H σ ρ S)(X:En K #[H,j,S] j' H' σ' ρ' S'):En K F j' H' σ ρ S'/\Ext j H j' H':=by
 have e:Ext j H j' H':=X.ext;show#[#[E.len,λi x h=> ?_,X.jl,X.inj,X.cel,E.ext.trans e,λn c h=> ?_,E.l0,λb u h=> ?_,λn a hn h=> ?_,λb h=>E.dom b (X.dom b h)],e];have#[v,e1,e2]:=E.slot i x h;show#[v,e1,e2.mono e];have#[c1,e1,e2,e3]:=E.old n c h;have#[c2,f1,f2,f3]:=X.old n c1 e1;show#[c2,f1,λz=>e2 (f2 z),λz=> ?_];obtain rfl:=e3 z;show f3 z
 .rcases E.keep b u h with h1|h1
  .rcases X.keep b u h1 with h2|⟨n,c,h2,h3,h4⟩
   .show .inl h2
   by_cases hn:n<F.j0.length
   .have e1:F.j0[n]? =eO F.j0[n]:=uH hn;have e2:=E.ext.pre n _ e1;have mq:j[n]? =eO b:=h2;rw[mq] at e2;cases e2;have eZ:n<F.S0.length:=by rw[<-E.l0];show hn
    have#[c1,f1,f2,_]:=E.old n _ (uH eZ);have om:S[n]? =eO c:=h3;rw[om] at f1;cases f1;show .inr #[n,_,e1,uH eZ,f2 h4]
   have:=E.fresh n b ⋯ h2;rw[this] at h;cases h
  show .inr h1
 by_cases hm:n<j.length;have e1:j[n]? =eO j[n]:=uH hm;have e2:=e.pre n _ e1;rw[h] at e2;cases e2;show E.fresh n _ hn e1;show E.dom a (X.fresh n a (by dsimp only;omega) h)
def En.grow(E:En K F j H σ ρ S):En K F j H (σ++w5 k fX) (ρ++w5 k fX) S:=E.slots (by simp[E.len]) λi x e=>by
 by_cases hi:i<ρ.length;rw[uN hi] at e;rw[uN (by rw[E.len];show hi)];show E.slot i x e;rw[uQ ⋯,C5] at e;split at e;cases e;cases e
end
inductive Rs(α:Type) where
 |ok (a:α) (S:Sto)
 |ex (c:Str) (S:Sto)
abbrev TwE:=Rho->Sto->mw (Rs Xv)
abbrev TwT:=Rho->Sto->mw (Rs Bool)
abbrev TwL:=Rho->Sto->mw (Rs (kh Xv))
abbrev TwO:=Rho->Sto->mw (Rs (mw Int))
abbrev TwG:=Xv->Rho->Sto->mw (Rs Rho)
abbrev zjb:=kh Xv->Rho->Sto->mw (Rs Rho)
abbrev TwI:=Rho->Sto->mw (Rs (Sto->mw (kh Xv)))
inductive Fl where
 |nx (ρ:Rho) (S:Sto)
 |bk (ρ:Rho) (S:Sto)
 |ct (ρ:Rho) (S:Sto)
 |rt (x:Xv) (S:Sto)
 |ex (c:Str) (S:Sto)
abbrev TwS:=Rho->Sto->mw Fl
noncomputable def rb{α β:Type}(m:mw (Rs α))(f:α->Sto->mw (Rs β)):mw (Rs β):=match m with
 |some (.ok a S)=>f a S
 |some (.ex c S)=>eO (.ex c S)
 |none=>fX
noncomputable def sb{α:Type}(m:mw (Rs α))(f:α->Sto->mw Fl):mw Fl:=match m with
 |some (.ok a S)=>f a S
 |some (.ex c S)=>eO (.ex c S)
 |none=>fX
def zK{α β:Type}{m:mw (Rs α)}{f:α->Sto->mw (Rs β)}{r:Rs β}(h:rb m f=eO r):(∃a S,m=eO (.ok a S)/\f a S=eO r)\/∃c S,m=eO (.ex c S)/\r= .ex c S:=by
 unfold rb at h;split at h;show .inl #[_,_,rfl,h];cases h;show .inr #[_,_,rfl,rfl];cases h
def xY{α:Type}{m:mw (Rs α)}{f:α->Sto->mw Fl}(h:sb m f=eO r):(∃a S,m=eO (.ok a S)/\f a S=eO r)\/∃c S,m=eO (.ex c S)/\r= .ex c S:=by
 unfold sb at h;split at h;show .inl #[_,_,rfl,h];cases h;show .inr #[_,_,rfl,rfl];cases h
def PX(K:uG)(F:Fm)(j:kh oN)(H:Hp)(E:XK)(c:Str)(S':Sto):Prop:=
 ∀j' H' σ' ρ' C,Ext j H j' H'->En K F j' H' σ' ρ' S'->v5 K tP c=eO (eO (.ref C))->E (.ref C) fX H'
def PX.mono{E:XK}(h:PX K F j H E c S')(e:Ext j H j1 H1):PX K F j1 H1 E c S':=λj' H' σ' ρ' C x y z=>h j' H' σ' ρ' C (e.trans x) y z
def Po{α:Type}(K:uG)(F:Fm)(j:kh oN)(H:Hp)(σ:St)(ρ:Rho)(E:XK)(P:α->kh oN->Hp->Prop):Rs α->Prop
 | .ok a S'=>∀j' H',Ext j H j' H'->En K F j' H' σ ρ S'->P a j' H'
 | .ex c S'=>PX K F j H E c S'
theorem Po.step{α:Type}{ρ:Rho}{E:XK}{P:α->kh oN->Hp->Prop}:∀{r:Rs α},Po K F j H σ ρ E P r->Ext j H j1 H1->Po K F j1 H1 σ ρ E P r
 | .ok a S',h,e=>λj' H' x y=>h j' H' (e.trans x) y
 | .ex c S',h,e=>PX.mono h e
noncomputable abbrev PoV(K:uG)(Q:VK):Xv->kh oN->Hp->Prop:=λx j' H'=>∀v,Xis K j' H' x v->Q v H'
def RE(K:uG)(E:XK)(t:TE)(m:TwE):Prop:=∀{F:Fm} {j:kh oN} {σ:St} {H:Hp} {ρ:Rho} {S:Sto} {r:Rs Xv} {Q:VK},En K F j H σ ρ S->m ρ S=eO r->Po K F j H σ ρ E (PoV K Q) r->t σ H Q
def RT(K:uG)(E:XK)(t:TT)(m:TwT):Prop:=∀{F:Fm} {j:kh oN} {σ:St} {H:Hp} {ρ:Rho} {S:Sto} {r:Rs Bool} {Q:Bool->Hp->Prop},En K F j H σ ρ S->m ρ S=eO r->Po K F j H σ ρ E (λb _ H'=>Q b H') r->t σ H Q
def RL(K:uG)(E:XK)(t:TA)(m:TwL):Prop:=∀{F:Fm} {j:kh oN} {σ:St} {H:Hp} {ρ:Rho} {S:Sto} {r:Rs (kh Xv)} {Q:kh V->Hp->Prop},En K F j H σ ρ S->m ρ S=eO r->Po K F j H σ ρ E (λxs j' H'=>∀vs,yn K j' H' xs vs->Q vs H') r->t σ H Q
def RO(K:uG)(E:XK)(t:TO)(m:TwO):Prop:=∀{F:Fm} {j:kh oN} {σ:St} {H:Hp} {ρ:Rho} {S:Sto} {r:Rs (mw Int)} {Q:mw Int->Hp->Prop},En K F j H σ ρ S->m ρ S=eO r->Po K F j H σ ρ E (λo _ H'=>Q o H') r->t σ H Q
def PoG(K:uG)(F:Fm)(j:kh oN)(H:Hp)(E:XK)(R:St->Hp->Prop):Rs Rho->Prop
 | .ok ρ' S'=>∀σ' j' H',Ext j H j' H'->En K F j' H' σ' ρ' S'->R σ' H'
 | .ex c S'=>PX K F j H E c S'
theorem PoG.step{E:XK}{R:St->Hp->Prop}:∀{r:Rs Rho},PoG K F j H E R r->Ext j H j1 H1->PoG K F j1 H1 E R r
 | .ok a S',h,e=>λσ' j' H' x y=>h σ' j' H' (e.trans x) y
 | .ex c S',h,e=>PX.mono h e
def RG(K:uG)(E:XK)(t:TG)(g:TwG):Prop:=∀{F:Fm} {j:kh oN} {σ:St} {H:Hp} {ρ:Rho} {S:Sto} {r:Rs Rho} {x:Xv} {v:V} {R:St->Hp->Prop},En K F j H σ ρ S->Xis K j H x v->g x ρ S=eO r->PoG K F j H E R r->t v σ H R
def RGs(K:uG)(E:XK)(t:TGs)(g:zjb):Prop:=∀{F:Fm} {j:kh oN} {σ:St} {H:Hp} {ρ:Rho} {S:Sto} {r:Rs Rho} {xs:kh Xv} {vs:kh V} {R:St->Hp->Prop},En K F j H σ ρ S->yn K j H xs vs->g xs ρ S=eO r->PoG K F j H E R r->t vs σ H R
def zpx(K:uG)(F:Fm)(j:kh oN)(H:Hp)(E:XK)(D':zaG):Fl->Prop
 | .nx ρ S=>∀σ j' H',Ext j H j' H'->En K F j' H' σ ρ S->D'.nx σ H'
 | .bk ρ S=>∀σ j' H',Ext j H j' H'->En K F j' H' σ ρ S->D'.bk σ H'
 | .ct ρ S=>∀σ j' H',Ext j H j' H'->En K F j' H' σ ρ S->D'.ct σ H'
 | .rt x S=>∀v σ ρ j' H',Ext j H j' H'->En K F j' H' σ ρ S->Xis K j' H' x v->D'.rt v H'
 | .ex c S=>PX K F j H E c S
theorem zpx.step{E:XK}:∀{fl:Fl},zpx K F j H E D' fl->Ext j H j1 H1->zpx K F j1 H1 E D' fl
 | .nx _ _,h,e=>λσ j' H' x y=>h σ j' H' (e.trans x) y
 | .bk _ _,h,e=>λσ j' H' x y=>h σ j' H' (e.trans x) y
 | .ct _ _,h,e=>λσ j' H' x y=>h σ j' H' (e.trans x) y
 | .rt _ _,h,e=>λv σ ρ j' H' x y z=>h v σ ρ j' H' (e.trans x) y z
 | .ex _ _,h,e=>PX.mono h e
def RS(K:uG)(E:XK)(t:TS)(m:TwS):Prop:=∀{F:Fm} {j:kh oN} {D':zaG} {σ:St} {H:Hp} {ρ:Rho} {S:Sto} {fl:Fl},En K F j H σ ρ S->m ρ S=eO fl->zpx K F j H E D' fl->t D' σ H
def zhm(K:uG)(j:kh oN)(H:Hp)(J:It)(get:Sto->mw (kh Xv)):Prop:=∀{F:Fm} {j':kh oN} {H':Hp} {σ:St} {ρ:Rho} {S:Sto} {xs:kh Xv} (i:Nat),Ext j H j' H'->En K F j' H' σ ρ S->get S=eO xs->
 (∀x,xs[i]? =eO x->J.go i H'/\∀v H'',J.yld i H' v H''->YL H' H''/\Xis K j' H'' x v)/\(i=xs.length->J.stop i H')
def RI(K:uG)(E:XK)(t:TI)(m:TwI):Prop:=∀{F:Fm} {j:kh oN} {σ:St} {H:Hp} {ρ:Rho} {S:Sto} {r:Rs (Sto->mw (kh Xv))} {R:It->Hp->Prop},En K F j H σ ρ S->m ρ S=eO r->Po K F j H σ ρ E (λget j' H'=>∀J,zhm K j' H' J get->R J H') r->t σ H R
abbrev Op2:=Xv->Xv->Sto->mw (Xv×Sto)
abbrev Opn:=kh Xv->Sto->mw (Xv×Sto)
def Xo(K:uG)(r:R2)(f:Op2):Prop:=∀{F:Fm} {j:kh oN} {σ:St} {H:Hp} {ρ:Rho} {S S':Sto} {x y z:Xv} {u v:V} {Q:VK},En K F j H σ ρ S->Xis K j H x u->Xis K j H y v->f x y S=eO (z,S')->(∀w j' H',Ext j H j' H'->En K F j' H' σ ρ S'->Xis K j' H' z w->Q w H')->r u v H Q
def ztr(K:uG)(r:V->Hp->VK->Prop)(f:Xv->Sto->mw (Xv×Sto)):Prop:=∀{F:Fm} {j:kh oN} {σ:St} {H:Hp} {ρ:Rho} {S S':Sto} {x z:Xv} {u:V} {Q:VK},En K F j H σ ρ S->Xis K j H x u->f x S=eO (z,S')->(∀w j' H',Ext j H j' H'->En K F j' H' σ ρ S'->Xis K j' H' z w->Q w H')->r u H Q
def zaf(K:uG)(r:kh V->Hp->VK->Prop)(f:Opn):Prop:=∀{F:Fm} {j:kh oN} {σ:St} {H:Hp} {ρ:Rho} {S S':Sto} {xs:kh Xv} {z:Xv} {vs:kh V} {Q:VK},En K F j H σ ρ S->yn K j H xs vs->f xs S=eO (z,S')->(∀w j' H',Ext j H j' H'->En K F j' H' σ ρ S'->Xis K j' H' z w->Q w H')->r vs H Q
noncomputable def zi(i:Nat):TwE:=λρ S=>match ρ[i]? with
 |some (eO x)=>eO (.ok x S)
 |_=>fX
noncomputable def eC(x:Xv):TwE:=λ_ S=>eO (.ok x S)
noncomputable abbrev oZ(n:Int):=eC (.int n)
noncomputable abbrev qg(z:Str):=eC (.str z)
noncomputable def okP(o:mw (Xv×Sto)):mw (Rs Xv):=o.map λp=> .ok p.1 p.2
def YN(h:okP o=eO r):∃z S,o=eO (z,S)/\r= .ok z S:=by
 cases o with
 |none=>cases h
 |some p=>cases h;show#[_,_,rfl,rfl]
def eOp(f:Op2)(a b:TwE):TwE:=λρ S=>rb (a ρ S) λx S1=>rb (b ρ S1) λy S2=>okP (f x y S2)
def eUn(f:Xv->Sto->mw (Xv×Sto))(a:TwE):TwE:=λρ S=>rb (a ρ S) λx S1=>okP (f x S1)
noncomputable def bE(m:TwE):TwT:=λρ S=>rb (m ρ S) λx S1=>match x with
 | .bl b=>eO (.ok b S1)
 |_=>fX
noncomputable def eB(m:TwT):TwE:=λρ S=>rb (m ρ S) λb S1=>eO (.ok (.bl b) S1)
noncomputable def zbG(a b:TwT):TwT:=λρ S=>rb (a ρ S) λx S1=>if x then b ρ S1 else eO (.ok kb S1)
noncomputable def bOr(a b:TwT):TwT:=λρ S=>rb (a ρ S) λx S1=>if x then eO (.ok gP S1) else b ρ S1
noncomputable def Um(a:TwT):TwT:=λρ S=>rb (a ρ S) λx S1=>eO (.ok (!x) S1)
def zct(a b:TwE):TwE:=λρ S=>rb (bE a ρ S) λx S1=>if x then b ρ S1 else eO (.ok (.bl kb) S1)
noncomputable def eIf(c:TwT)(a b:TwE):TwE:=λρ S=>rb (c ρ S) λx S1=>if x then a ρ S1 else b ρ S1
noncomputable def evL:kh TwE->TwL
 |[]=>λ_ S=>eO (.ok [] S)
 |m::r=>λρ S=>rb (m ρ S) λx S1=>rb (evL r ρ S1) λxs S2=>eO (.ok (x::xs) S2)
noncomputable def yQ(ms:kh TwE):TwE:=λρ S=>rb (evL ms ρ S) λxs S1=>eO (.ok (.tup xs) S1)
noncomputable def TJ(ms:kh TwE):TwE:=λρ S=>rb (evL ms ρ S) λxs S1=>eO (.ok (.ref S1.length) (S1++[.lst xs]))
def eFn(f:Opn)(ms:kh TwE):TwE:=λρ S=>rb (evL ms ρ S) λxs S1=>okP (f xs S1)
noncomputable def zts(f:Xv->Xv->mw Xv):Op2:=λx y S=>(f x y).map λz=>(z,S)
noncomputable def zuz(f:Xv->mw Xv):Xv->Sto->mw (Xv×Sto):=λx S=>(f x).map λz=>(z,S)
def zm7{o:mw Xv}{S S':Sto}{z:Xv}(h:(o.map λz=>(z,S))=eO (z,S')):o=eO z/\S'=S:=by
 cases o with
 |none=>cases h
 |some p=>cases h;show#[rfl,rfl]
section
variable{E:XK}{F:Fm}{j:kh oN}{ρ:Rho}{S:Sto}
def Po.val{Q:VK}(k:Po K F j H σ ρ E (PoV K Q) (.ok x S))(En0:En K F j H σ ρ S)(h:Xis K j H x v):Q v H:=k j H Ext.refl En0 v h
set_option tactic.hygienic true in
def zv(i:Nat):RE K E (zrl i) (zi i):=by
 intro F j σ H ρ S r Q En0 e k;unfold zi at e;split at e;rename_i x ex;cases e;have#[v,e1,e2]:=En0.slot i _ ex;show#[v,e1,k.val En0 e2];cases e
def zjc(h:∀j H,Xis K j H x v):RE K E (tC v) (eC x):=λEn0 e k=>by
 cases e;show k.val En0 (h _ _)
def yJ(i:Int):RE K E (tC (.int i)) (oZ i):=zjc λ_ _=> .int i
def Vb(x:Str):RE K E (tC (.str x)) (eC (.str x)):=zjc λ_ _=> .str x
def ztt(b:Bool):RE K E (tC (.bl b)) (eC (.bl b)):=zjc λ_ _=> .bl b
def zm8:RE K E (tC .non) (eC .non):=zjc λ_ _=> .non
def yF{r:R2}{f:Op2}{ta tb:TE}{a b:TwE}(ho:Xo K r f)(ha:RE K E ta a)(hb:RE K E tb b):RE K E (tOp r ta tb) (eOp f a b):=by
 walk_at "!a"
 .show ha En0 e1 λj1 H1 X1 E1 u hu=> ?_;rcases zK e with⟨y,S2,e2,e⟩|⟨c,S2,e2,rfl⟩
  .obtain⟨z,S3,e3,rfl⟩:=YN e;show hb E1 e2 λj2 H2 X2 E2 v hv=>ho E2 (hu.mono X2) hv e3 λw j3 H3 X3 E3 hw=>k _ _ (X1.trans (X2.trans X3)) E3 _ hw
  show hb E1 e2 (PX.mono k X1)
 show ha En0 e1 k
def ztu{r:V->Hp->VK->Prop}{f:Xv->Sto->mw (Xv×Sto)}(ho:ztr K r f)(ha:RE K E ta a):RE K E (tUn r ta) (eUn f a):=by
 walk_at "!a"
 .obtain⟨z,S3,e3,rfl⟩:=YN e;show ha En0 e1 λj1 H1 X1 E1 u hu=>ho E1 hu e3 λw j3 H3 X3 E3 hw=>k _ _ (X1.trans X3) E3 _ hw
 show ha En0 e1 k
def zhn(h:RE K E t m):RT K E (tB t) (bE m):=by
 walk_at "!a"
 .split at e
  .cases e;show h En0 e1 λj1 H1 X1 E1 u hu=>#[_,hu.bl_inv,k _ _ X1 E1]
  cases e
 show h En0 e1 k
def YA(h:RE K E t m):RT K E (zqT t) (bE m):=zhn h
def zm9(ha:RT K E t a)(hb:RT K E u b):RT K E (zs1 t u) (zbG a b):=by
 walk_at "!a"
 .show ha En0 e1 λj1 H1 X1 E1=> ?_;cases x with
  |true=>show hb E1 e (k.step X1)
  |false=>cases e;show k _ _ X1 E1
 show ha En0 e1 k
def ztv(ha:RT K E t a)(hb:RT K E u b):RT K E (tOr t u) (bOr a b):=by
 walk_at "!a"
 .show ha En0 e1 λj1 H1 X1 E1=> ?_;cases x with
  |true=>cases e;show k _ _ X1 E1
  |false=>show hb E1 e (k.step X1)
 show ha En0 e1 k
def zrP(ha:RT K E t a):RT K E (zs2 t) (Um a):=by
 walk_at "!a"
 .cases e;show ha En0 e1 λj1 H1 X1 E1=>k _ _ X1 E1
 show ha En0 e1 k
def zrQ{ta tb:TE}{a b:TwE}(ha:RE K E ta a)(hb:RE K E tb b):RE K E (zqO ta tb) (zct a b):=by
 walk_at "!a"
 .rcases zK e1 with⟨y,S2,e2,e1⟩|⟨c,S2,e2,z⟩
  .split at e1
   .cases e1;show ha En0 e2 λj1 H1 X1 E1 u hu=>#[_,hu.bl_inv,?_];cases x with
    |true=>show hb E1 e (k.step X1)
    |false=>cases e;show k _ _ X1 E1 _ (.bl kb)
   cases e1
  cases z
 rcases zK e1 with⟨y,S2,e2,e1⟩|⟨c,S2,e2,z⟩
 .split at e1<;>cases e1
 cases z;show ha En0 e2 k
def zrR(ha:RE K E ta a):RE K E (zqP ta) (eB (Um (bE a))):=by
 walk_at "!a"
 .rcases zK e1 with⟨y,S2,e2,e1⟩|⟨c,S2,e2,z⟩
  .rcases zK e2 with⟨z,S3,e3,e2⟩|⟨c,S3,e3,z⟩
   .split at e2
    .cases e2;cases e1;cases e;show ha En0 e3 λj1 H1 X1 E1 u hu=>#[_,hu.bl_inv,k _ _ X1 E1 _ (.bl _)]
    cases e2
   cases z
  cases z
 rcases zK e1 with⟨y,S2,e2,e1⟩|⟨c,S2,e2,z⟩
 .cases e1
 cases z;rcases zK e2 with⟨z,S3,e3,e2⟩|⟨c,S3,e3,z⟩
 .split at e2<;>cases e2
 cases z;show ha En0 e3 k
def zna{t:TT}{c:TwT}{ta tb:TE}{a b:TwE}(hc:RT K E t c)(ha:RE K E ta a)(hb:RE K E tb b):RE K E (tIf t ta tb) (eIf c a b):=by
 walk_at "!a"
 .show hc En0 e1 λj1 H1 X1 E1=> ?_;cases x with
  |true=>show ha E1 e (k.step X1)
  |false=>show hb E1 e (k.step X1)
 show hc En0 e1 k
noncomputable def Xv.isNon:Xv->Bool
 | .non=>gP
 |_=>kb
noncomputable def zjd:Xv->Sto->mw (Xv×Sto):=zuz λx=>eO (.bl x.isNon)
def zpy(h:Xis K j H x v):decide (v= .non)=x.isNon:=by cases h<;>simp[Xv.isNon]
def znb(ha:RE K E ta a):RE K E (zs0 ta) (eUn zjd a):=by
 walk_at "!a"
 .cases e;show ha En0 e1 λj1 H1 X1 E1 u hu=>k _ _ X1 E1 _ (by rw[zpy hu];show .bl _)
 show ha En0 e1 k
def zY:RL K E zlr (evL []):=λEn0 e k=>by
 cases e;show k _ _ Ext.refl En0 [] .nil
def zu(ha:RE K E ta m)(hr:RL K E tr (evL ms)):RL K E (zb6 ta tr) (evL (m::ms)):=by
 walk_at "!a"
 .show ha En0 e1 λj1 H1 X1 E1 u hu=> ?_;rcases zK e with⟨xs,S2,e2,e⟩|⟨c,S2,e2,rfl⟩
  .cases e;show hr E1 e2 λj2 H2 X2 E2 vs hv=>k _ _ (X1.trans X2) E2 (u::vs) (.cons (hu.mono X2) hv)
  show hr E1 e2 (PX.mono k X1)
 show ha En0 e1 k
theorem Xw:∀{ms:kh TwE} {ρ:Rho} {S S':Sto} {xs:kh Xv},evL ms ρ S=eO (.ok xs S')->xs.length=ms.length
 |[],_,_,_,_,h=>by cases h;rfl
 |m::ms,ρ,S,S',xs,h=>by
  rcases zK h with⟨x,S1,e1,h⟩|⟨c,S1,e1,z⟩
  .rcases zK h with⟨ys,S2,e2,h⟩|⟨c,S2,e2,z⟩
   .cases h;simp[Xw e2]
   cases z
  cases z
def Vc(h:RL K E t (evL ms))(hl:ms.length<=1000:=by simp):RE K E (zte t) (yQ ms):=by
 walk_at "!e"
 .cases e;show h En0 e1 λj1 H1 X1 E1 vs hv=>#[?_,λp hp=> ?_]
  .rw[hv.len,Xw e1];show uP hl ∅
  have#[E2,X2]:=E1.new (o:= .tup vs) hp;show k _ _ (X1.trans X2) E2 _ (.tup zW (hv.mono X2))
 show h En0 e1 k
def En.lst{xs:kh Xv}{vs:kh V}{p:oN}(En0:En K F j H σ ρ S)(hv:yn K j H xs vs)(hp:H p=fX):En K F (j++[p]) (upd H p (.lst vs)) σ ρ (S++[.lst xs])/\Ext j H (j++[p]) (upd H p (.lst vs))/\Xis K (j++[p]) (upd H p (.lst vs)) (.ref S.length) (.ref p):=by
 have X:Ext j H (j++[p]) (upd H p (.lst vs)):=#[λn a e=>by rw[uN (uF.1 e).1];show e,vn.same (wD hp)];have#[E1,_]:=En0.cell (o:= .lst vs) (c:= .lst xs) hp #[vs,zW,hv.mono X];show#[E1,X,.ref (by rw[<-En0.jl];simp)]
def zrS(h:RL K E t (evL ms))(hl:ms.length<=1000:=by simp):RE K E (ztf t) (TJ ms):=by
 walk_at "!e"
 .cases e;show h En0 e1 λj1 H1 X1 E1 vs hv=>#[?_,λp hp=> ?_]
  .rw[hv.len,Xw e1];show uP hl ∅
  have#[E2,X2,h2]:=E1.lst hv hp;show k _ _ (X1.trans X2) E2 _ h2
 show h En0 e1 k
def zky{r:kh V->Hp->VK->Prop}(hr:zaf K r f)(h:RL K E t (evL ms)):RE K E (tCB r t) (eFn f ms):=by
 walk_at "!e"
 .obtain⟨z,S3,e3,rfl⟩:=YN e;show h En0 e1 λj1 H1 X1 E1 vs hv=>hr E1 hv e3 λw j3 H3 X3 E3 hw=>k _ _ (X1.trans X3) E3 _ hw
 show h En0 e1 k
end
noncomputable def yo(S:Sto):Xv->mw (kh Xv)
 | .ref n=>match S[n]? with
  |some (.lst xs)=>eO xs
  |some (.frz xs)=>eO xs
  |_=>fX
 |_=>fX
noncomputable def Yu(S:Sto)(x:Xv):mw (kh Xv):=match x.tupOf with
 |some xs=>eO xs
 |none=>yo S x
noncomputable def zag(S:Sto):Xv->mw (Nat×kh Xv)
 | .ref n=>match S[n]? with
  |some (.lst xs)=>eO (n,xs)
  |_=>fX
 |_=>fX
section
variable{E:XK}{F:Fm}{j:kh oN}{ρ:Rho}{S:Sto}{x:Xv}{v:V}
def En.lstAt(E0:En K F j H σ ρ S)(hx:Xis K j H x v)(h:L2.yo S x=eO xs):∃a vs,v= .ref a/\SqX K H a vs/\yn K j H xs vs:=by
 cases x<;>simp only[L2.yo,reduceCtorEq] at h
 have#[a,rfl,hj]:=hx.ref_inv;split at h;cases h;have#[vs,e1,e2]:=E0.cel _ _ _ (by assumption) hj;show#[a,vs,rfl,SqX.of e1,e2];cases h;have#[vs,e1,e2]:=E0.cel _ _ _ (by assumption) hj;show#[a,vs,rfl,?_,e2];rcases e1 with⟨o,e1⟩|e1;show .inl (.inr #[o,e1]);show e1 H;cases h
def En.seqAt(E0:En K F j H σ ρ S)(hx:Xis K j H x v)(h:L2.Yu S x=eO xs):∃a vs,v= .ref a/\(SqX K H a vs\/SqT K H a vs)/\yn K j H xs vs:=by
 unfold L2.Yu at h;split at h;cases h;have#[a,vs,e1,e2,e3]:=hx.tupO (by assumption);show#[a,vs,e1,.inr e2,e3];have#[a,vs,e1,e2,e3]:=E0.lstAt hx h;show#[a,vs,e1,.inl e2,e3]
def zeQ(h:zag S x=eO (n,xs)):x= .ref n/\S[n]? =eO (.lst xs):=by
 cases x<;>simp only[zag,reduceCtorEq] at h
 split at h;cases h;show#[rfl,by assumption];cases h
def En.wl(E0:En K F j H σ ρ S)(hx:Xis K j H x v)(h:zag S x=eO (n,xs)):∃a vs,v= .ref a/\j[n]? =eO a/\H a=eO (.lst vs)/\yn K j H xs vs:=by
 have#[rfl,hs]:=zeQ h;have#[a,rfl,hj]:=hx.ref_inv;have#[vs,e1,e2]:=E0.cel _ _ _ hs hj;show#[a,vs,rfl,hj,e1,e2]
def En.wr(E0:En K F j H σ ρ S)(h:zag S x=eO (n,xs))(hj:j[n]? =eO a)(hw:yn K j H ys ws):En K F j (upd H a (.lst ws)) σ ρ (S.set n (.lst ys))/\Ext j H j (upd H a (.lst ws)):=
 E0.write (zeQ h).2 rfl hj rfl λX=>#[ws,zW,hw.mono X]
def tyL(h:SqL K H a vs):tyV K "list" (.ref a) H:= .inl #[rfl,vs,h]
noncomputable def zG:Op2:=λx y S=>match x.tupOf,y with
 |some xs,.int i=>(atI xs i).map λz=>(z,S)
 |_,_=>fX
noncomputable def wR:Op2:=λx y S=>match yo S x,y with
 |some xs,.int i=>(atI xs i).map λz=>(z,S)
 |_,_=>fX
def zho:Op2:=zts λx y=>match x,y with
 | .str z,.int i=>if z.length<=FC then (atI z.cps.toList i).map λc=> .str #[[c].toArray] else fX
 |_,_=>fX
set_option tactic.hygienic true in
def yT:Xo K (zpf K) zG:=by
 intro F j σ H ρ S S' x y z u v Q E0 hx hy h k;unfold zG at h;split at h
 .rename_i xs i ex;cases e:atI xs i with
  |none=>rw[e] at h;cases h
  |some z'=>
   rw[e] at h;cases h;have#[a,vs,rfl,h1,h2]:=hx.tupO ex;have#[w,e1,e2]:=h2.at_ e;show#[a,vs,_,w,rfl,hy.int_inv,h1,e1,k _ _ _ Ext.refl E0 e2]
 cases h
set_option tactic.hygienic true in
def zah:Xo K (zpe K) wR:=by
 intro F j σ H ρ S S' x y z u v Q E0 hx hy h k;unfold wR at h;split at h
 .rename_i xs i ex;cases e:atI xs i with
  |none=>rw[e] at h;cases h
  |some z'=>
   rw[e] at h;cases h;have#[a,vs,rfl,h1,h2]:=E0.lstAt hx ex;have#[w,e1,e2]:=h2.at_ e;show#[a,vs,_,w,rfl,hy.int_inv,h1.sql,e1,k _ _ _ Ext.refl E0 e2]
 cases h
set_option tactic.hygienic true in
def znc:Xo K zrD zho:=by
 intro F j σ H ρ S S' x y z u v Q E0 hx hy h k;have#[h',rfl]:=zm7 h;dsimp only at h';split at h'
 .split at h'
  .rename_i zz i hz;cases e:atI zz.cps.toList i with
   |none=>rw[e] at h';cases h'
   |some c=>
    rw[e] at h';cases h';show#[zz,i,c,hx.str_inv,hy.int_inv,hz,e,k _ _ _ Ext.refl E0 (.str _)]
  cases h'
 cases h'
noncomputable def zaP:Op2:=λx y S=>match Yu S x,y with
 |some xs,.int i=>(atI xs i).map λz=>(z,S)
 |_,_=>fX
set_option tactic.hygienic true in
def znd:Xo K (rIx K) zaP:=by
 intro F j σ H ρ S S' x y z u v Q E0 hx hy h k;unfold zaP at h;split at h
 .rename_i xs i ex;cases e:atI xs i with
  |none=>rw[e] at h;cases h
  |some z'=>
   rw[e] at h;cases h;have#[a,vs,rfl,h1,h2]:=E0.seqAt hx ex;have#[w,e1,e2]:=h2.at_ e;rcases h1 with h1|h1;show .inl #[a,vs,_,w,rfl,hy.int_inv,h1.sql,e1,k _ _ _ Ext.refl E0 e2];show .inr (.inl #[a,vs,_,w,rfl,hy.int_inv,h1,e1,k _ _ _ Ext.refl E0 e2])
 cases h
noncomputable def oNo:TwO:=λ_ S=>eO (.ok fX S)
noncomputable def WI(m:TwE):TwO:=λρ S=>rb (m ρ S) λx S1=>match x with
 | .int i=>eO (.ok (eO i) S1)
 |_=>fX
def ztw:RO K E zkm oNo:=λE0 e k=>by
 cases e;show k _ _ Ext.refl E0
def zpz(h:RE K E t m):RO K E (zqV t) (WI m):=by
 walk_at "!a"
 .split at e
  .cases e;show h En0 e1 λj1 H1 X1 E1 u hu=>#[_,hu.int_inv,k _ _ X1 E1]
  cases e
 show h En0 e1 k
noncomputable def zbH{α:Type}(xs:kh α)(lo' hi:mw Int):kh α:=(xs.drop (HT.sIx xs.length 0 lo')).take (HT.sIx xs.length xs.length hi-HT.sIx xs.length 0 lo')
def yn.cut(h:yn K j H xs vs)(lo' hi:mw Int):yn K j H (zbH xs lo' hi) (zd5 vs lo' hi):=by
 unfold zd5 zbH;rw[h.len];show(h.drop _).take _
def eSl(f:Xv->mw Int->mw Int->Sto->mw (Xv×Sto))(m:TwE)(lo' hi:TwO):TwE:=λρ S=>rb (m ρ S) λx S1=>rb (lo' ρ S1) λy S2=>rb (hi ρ S2) λz S3=>okP (f x y z S3)
def zkz(K:uG)(r:V->mw Int->mw Int->Hp->VK->Prop)(f:Xv->mw Int->mw Int->Sto->mw (Xv×Sto)):Prop:=∀{F:Fm} {j:kh oN} {σ:St} {H:Hp} {ρ:Rho} {S S':Sto} {x z:Xv} {lo' hi:mw Int} {u:V} {Q:VK},En K F j H σ ρ S->Xis K j H x u->f x lo' hi S=eO (z,S')->(∀w j' H',Ext j H j' H'->En K F j' H' σ ρ S'->Xis K j' H' z w->Q w H')->r u lo' hi H Q
def zne{r:V->mw Int->mw Int->Hp->VK->Prop}{f:Xv->mw Int->mw Int->Sto->mw (Xv×Sto)}{te:TE}{tl th:TO}{m:TwE}{lo' hi:TwO}(ho:zkz K r f)(hm:RE K E te m)(hl:RO K E tl lo')(hh:RO K E th hi):RE K E (tSl r te tl th) (eSl f m lo' hi):=by
 walk_at "!a"
 .show hm En0 e1 λj1 H1 X1 E1 u hu=> ?_;rcases zK e with⟨y,S2,e2,e⟩|⟨c,S2,e2,rfl⟩
  .show hl E1 e2 λj2 H2 X2 E2=> ?_;rcases zK e with⟨z,S3,e3,e⟩|⟨c,S3,e3,rfl⟩
   .obtain⟨w,S4,e4,rfl⟩:=YN e;show hh E2 e3 λj3 H3 X3 E3=>ho E3 (hu.mono (X2.trans X3)) e4 λw j4 H4 X4 E4 hw=>k _ _ (X1.trans (X2.trans (X3.trans X4))) E4 _ hw
   show hh E2 e3 (PX.mono k (X1.trans X2))
  show hl E1 e2 (PX.mono k X1)
 show hm En0 e1 k
noncomputable def zhp:Xv->mw Int->mw Int->Sto->mw (Xv×Sto):=λx lo' hi S=>(yo S x).map λxs=>(.ref S.length,S++[.lst (zbH xs lo' hi)])
def ztx:zkz K (zmD K) zhp:=by
 intro F j σ H ρ S S' x z lo' hi u Q E0 hx h k;unfold zhp at h;cases e:yo S x with
 |none=>rw[e] at h;cases h
 |some xs=>
  rw[e] at h;cases h;have#[a,vs,rfl,h1,h2]:=E0.lstAt hx e;show#[a,vs,rfl,h1.sql,λp hp=> ?_];have#[E1,X1,h3]:=E0.lst (h2.cut lo' hi) hp;show k _ _ _ X1 E1 h3
noncomputable def zda:Xv->mw Int->mw Int->Sto->mw (Xv×Sto):=λx lo' hi S=>match x with
 | .str z=>if z.length<=FC then eO (.str (Txt.slice z lo' hi),S) else fX
 |_=>fX
def zty:zkz K zpo zda:=by
 intro F j σ H ρ S S' x z lo' hi u Q E0 hx h k;unfold zda at h;split at h;split at h;cases h;show#[_,hx.str_inv,by assumption,k _ _ _ Ext.refl E0 (.str _)];cases h;cases h
noncomputable def zje:Xv->mw Int->mw Int->Sto->mw (Xv×Sto):=λx lo' hi S=>match x with
 | .tup xs=>eO (.tup (zbH xs lo' hi),S)
 |_=>fX
def zlK{α:Type}{xs:kh α}(h:HT.sIx xs.length 0 lo'=0/\HT.sIx xs.length xs.length hi=xs.length):zbH xs lo' hi=xs:=by
 unfold zbH;rw[h.1,h.2];simp
set_option tactic.hygienic true in
def ztz:zkz K (zps K) zje:=by
 intro F j σ H ρ S S' x z lo' hi u Q E0 hx h k;unfold zje at h;split at h;rename_i xs;cases h;have#[a,vs,rfl,h1,h2]:=hx.tup_inv;show#[a,vs,rfl,SqT.of h1,λhw=>k _ _ _ Ext.refl E0 ?_,λ_ p hp=> ?_];rw[h2.len] at hw;rw[zlK hw];show hx;have#[E1,X1]:=E0.new (o:= .tup (zd5 vs lo' hi)) hp;show k _ _ _ X1 E1 (.tup zW ((h2.cut lo' hi).mono X1));cases h
def zrT(hm:RE K E te m)(hl:RO K E tl lo')(hh:RO K E th hi):RE K E (tSl (zmD K) te tl th) (eSl zhp m lo' hi):= @zne K E (zmD K) zhp te tl th m lo' hi (@ztx K) hm hl hh
def zrU(hm:RE K E te m)(hl:RO K E tl lo')(hh:RO K E th hi):RE K E (tSl zpo te tl th) (eSl zda m lo' hi):= @zne K E zpo zda te tl th m lo' hi (@zty K) hm hl hh
def zrV(hm:RE K E te m)(hl:RO K E tl lo')(hh:RO K E th hi):RE K E (tSl (zps K) te tl th) (eSl zje m lo' hi):= @zne K E (zps K) zje te tl th m lo' hi (@ztz K) hm hl hh
abbrev OpM:=Xv->kh Xv->Sto->mw (Xv×Sto)
def zlL(K:uG)(r:V->kh V->Hp->VK->Prop)(f:OpM):Prop:=∀{F:Fm} {j:kh oN} {σ:St} {H:Hp} {ρ:Rho} {S S':Sto} {x z:Xv} {ys:kh Xv} {u:V} {vs:kh V} {Q:VK},En K F j H σ ρ S->Xis K j H x u->yn K j H ys vs->f x ys S=eO (z,S')->(∀w j' H',Ext j H j' H'->En K F j' H' σ ρ S'->Xis K j' H' z w->Q w H')->r u vs H Q
def eMt(f:OpM)(o:TwE)(ms:kh TwE):TwE:=λρ S=>rb (o ρ S) λx S1=>(yo S1 x).bind λ_=>rb (evL ms ρ S1) λys S2=>okP (f x ys S2)
def znf{r:V->kh V->Hp->VK->Prop}(hr:zlL K r f)(ho:RE K E to o)(ht:RL K E t (evL ms)):RE K E (tBM K "list" r to t) (eMt f o ms):=by
 walk_at "!a"
 .show ho En0 e1 λj1 H1 X1 E1 u hu=> ?_;cases el:L2.yo S1 x with
  |none=>rw[el] at e;cases e
  |some l=>
   rw[el] at e;have#[a,vs,rfl,h1,_]:=E1.lstAt hu el;show#[tyL h1.sql,?_];rcases zK e with⟨ys,S2,e2,e⟩|⟨c,S2,e2,rfl⟩
   .obtain⟨z,S3,e3,rfl⟩:=YN e;show ht E1 e2 λj2 H2 X2 E2 ws hw=>hr E2 (hu.mono X2) hw e3 λw j3 H3 X3 E3 hz=>k _ _ (X1.trans (X2.trans X3)) E3 _ hz
   show ht E1 e2 (PX.mono k X1)
 show ho En0 e1 k
def zng{r:V->kh V->Hp->VK->Prop}(hr:zlL K r f)(ho:RE K E to o):RE K E (zti K "list" r to) (eMt f o []):=by
 intro F j σ H ρ S r Q En0 e k;show znf hr ho zY En0 e k
noncomputable def vD:OpM:=λx ys S=>match zag S x,ys with
 |some (n,xs),[y]=>if xs.length<FC then eO (.non,S.set n (.lst (xs++[y]))) else fX
 |_,_=>fX
set_option tactic.hygienic true in
def zeR:zlL K zkp vD:=by
 intro F j σ H ρ S S' x z ys u vs Q E0 hx hy h k;unfold vD at h;split at h;rename_i n xs y e;split at h;rename_i hl;cases h;have#[a,ws,rfl,hj,h1,h2]:=E0.wl hx e;have#[w,rfl,hw]:=hy.d1;have#[E1,X1]:=E0.wr e hj (h2.append (.one hw));show#[a,ws,w,rfl,rfl,h1,by rw[h2.len];show hl,k _ _ _ X1 E1 .non];cases h;cases h
noncomputable def znh:OpM:=λx ys S=>match zag S x,ys with
 |some (n,xs),[]=>(xs[xs.length-1]?).map λy=>(y,S.set n (.lst xs.dropLast))
 |_,_=>fX
set_option tactic.hygienic true in
def zni:zlL K ztj znh:=by
 intro F j σ H ρ S S' x z ys u vs Q E0 hx hy h k;unfold znh at h;split at h
 .rename_i n xs e;cases e1:xs[xs.length-1]? with
  |none=>rw[e1] at h;cases h
  |some y=>
   rw[e1] at h;cases h;have#[a,ws,rfl,hj,h1,h2]:=E0.wl hx e;obtain rfl:=hy.nil_inv;have#[w,f1,f2]:=h2.get e1;have#[E1,X1]:=E0.wr e hj h2.dropLast;show#[a,ws,w,rfl,rfl,h1,by rw[h2.len];show f1,k _ _ _ X1 E1 (f2.mono X1)]
 cases h
noncomputable def Xx:OpM:=λx ys S=>match zag S x,ys with
 |some (n,xs),[y]=>(Yu S y).bind λzs=>if xs.length+zs.length<=FC then eO (.non,S.set n (.lst (xs++zs))) else fX
 |_,_=>fX
set_option tactic.hygienic true in
def zeS:zlL K (zhj K) Xx:=by
 intro F j σ H ρ S S' x z ys u vs Q E0 hx hy h k;unfold Xx at h;split at h
 .rename_i n xs y e;cases e1:Yu S y with
  |none=>rw[e1] at h;cases h
  |some zs=>
   rw[e1] at h;dsimp only[BI] at h;split at h;rename_i hl;cases h;have#[a,ws,rfl,hj,h1,h2]:=E0.wl hx e;have#[w,rfl,hw]:=hy.d1;have#[b,ts,rfl,g1,g2]:=E0.seqAt hw e1;have#[E1,X1]:=E0.wr e hj (h2.append g2);show#[a,b,ws,ts,rfl,rfl,h1,g1,by rw[h2.len,g2.len];show hl,k _ _ _ X1 E1 .non];cases h
 cases h
noncomputable def zw(a b:TwS):TwS:=λρ S=>match a ρ S with
 |some (.nx ρ1 S1)=>b ρ1 S1
 |r=>r
noncomputable def zP:TwS:=λρ S=>eO (.nx ρ S)
noncomputable def zfK:TwS:=λ_ _=>fX
def zI(m:TwE)(g:TwG):TwS:=λρ S=>sb (m ρ S) λx S1=>sb (g x ρ S1) λρ1 S2=>eO (.nx ρ1 S2)
def VO(m:TwE):TwS:=λρ S=>sb (m ρ S) λ_ S1=>eO (.nx ρ S1)
def zO(m:TwE):TwS:=λρ S=>sb (m ρ S) λx S1=>eO (.rt x S1)
def sIf(c:TwT)(a b:TwS):TwS:=λρ S=>sb (c ρ S) λx S1=>if x then a ρ S1 else b ρ S1
noncomputable def Ye(r:mw Fl)(go:Rho->Sto->mw Fl):mw Fl:=match r with
 |some (.nx ρ S)=>go ρ S
 |some (.ct ρ S)=>go ρ S
 |some (.bk ρ S)=>eO (.nx ρ S)
 |r=>r
noncomputable def TQ(get:Sto->mw (kh Xv))(g:TwG)(b:TwS):Nat->Nat->Rho->Sto->mw Fl
 |0,_,_,_=>fX
 |f+1,i,ρ,S=>(get S).bind λxs=>match xs[i]? with
  |none=>if i=xs.length then eO (.nx ρ S) else fX
  |some x=>sb (g x ρ S) λρ1 S1=>Ye (b ρ1 S1) λρ2 S2=>TQ get g b f (i+1) ρ2 S2
def vQ(m:TwI)(g:TwG)(b:TwS):TwS:=λρ S=>sb (m ρ S) λget S1=>(get S1).bind λxs=>TQ get g b (xs.length+1) 0 ρ S1
noncomputable def zai(c:TwT)(b:TwS):Nat->Rho->Sto->mw Fl
 |0,_,_=>fX
 |n+1,ρ,S=>sb (c ρ S) λx S1=>if x then Ye (b ρ S1) λρ2 S2=>zai c b n ρ2 S2 else eO (.nx ρ S1)
noncomputable def sWh(n:Nat)(c:TwT)(b:TwS):TwS:=λρ S=>zai c b n ρ S
noncomputable def gN(i:Nat):TwG:=λx ρ S=>eO (.ok (ρ.set i (eO x)) S)
noncomputable def znj:zjb:=λxs ρ S=>match xs with
 |[]=>eO (.ok ρ S)
 |_=>fX
noncomputable def zfL(g:TwG)(gs:zjb):zjb:=λxs ρ S=>match xs with
 |x::r=>rb (g x ρ S) λρ1 S1=>gs r ρ1 S1
 |_=>fX
noncomputable def gT(n:Nat)(gs:zjb):TwG:=λx ρ S=>x.tupOf.bind λl=>if l.length=n then gs l ρ S else fX
noncomputable def zdb(o mi:TwE):TwG:=λd ρ S=>rb (o ρ S) λx S1=>rb (mi ρ S1) λy S2=>match zag S2 x,y with
 |some (n,xs),.int i=>(ixN xs.length i).map λk=> .ok ρ (S2.set n (.lst (xs.set k d)))
 |_,_=>fX
def wg:RG K E (zeC i) (gN i):=λE0 hx e k=>by
 cases e;show k _ _ _ Ext.refl (E0.set hx)
def zpA:RGs K E zrp znj:=by
 intro F j σ H ρ S r xs vs R E0 hv e k;unfold znj at e;split at e;cases e;obtain rfl:=hv.nil_inv;show#[rfl,k _ _ _ Ext.refl E0];cases e
def znk(h1:RG K E t g)(h2:RGs K E u gs):RGs K E (zmo t u) (zfL g gs):=by
 intro F j σ H ρ S r xs vs R E0 hv e k;unfold zfL at e;split at e
 .obtain⟨w,ws,rfl,hw,rp⟩:=hv.cons_inv;rcases zK e with⟨ρ1,S1,e1,e⟩|⟨c,S1,e1,rfl⟩
  .show#[w,ws,rfl,h1 E0 hw e1 λσ1 j1 H1 X1 E1=>h2 E1 (rp.mono X1) e (k.step X1)]
  show#[w,ws,rfl,h1 E0 hw e1 k]
 cases e
set_option tactic.hygienic true in
def zrW(h:RGs K E t gs):RG K E (zo4 K n t) (gT n gs):=by
 intro F j σ H ρ S r x v R E0 hx e k;unfold gT at e;cases ex:x.tupOf with
 |none=>rw[ex] at e;cases e
 |some l=>
  rw[ex] at e;dsimp only[BI] at e;split at e;rename_i hn;have#[a,vs,rfl,h1,h2]:=hx.tupO ex;show#[a,vs,rfl,h1,by rw[h2.len];show hn,h E0 h2 e k];cases e
set_option tactic.hygienic true in
def znl(ho:RE K E to o)(hi:RE K E ti mi):RG K E (zs6 to ti zqW) (zdb o mi):=by
 intro F j σ H ρ S r d vd R E0 hd e k;rcases zK e with⟨x,S1,e1,e⟩|⟨c,S1,e1,rfl⟩
 .show ho E0 e1 λj1 H1 X1 E1 u hu=> ?_;rcases zK e with⟨y,S2,e2,e⟩|⟨c,S2,e2,rfl⟩
  .show hi E1 e2 λj2 H2 X2 E2 w hw=> ?_;split at e
   .rename_i n xs i ex;cases e3:ixN xs.length i with
    |none=>rw[e3] at e;cases e
    |some m=>
     rw[e3] at e;cases e;have#[a,vs,rfl,hj,h1,h2]:=E2.wl (hu.mono X2) ex;have#[E3,X3]:=E2.wr ex hj (h2.set (hd.mono (X1.trans X2)) m);show#[a,vs,i,m,rfl,hw.int_inv,h1,by rw[h2.len];show e3,k _ _ _ (X1.trans (X2.trans X3)) E3]
   cases e
  show hi E1 e2 (PX.mono k X1)
 show ho E0 e1 k
def vE:RS K E zqQ zP:=λE0 e k=>by
 cases e;show k _ _ _ Ext.refl E0
def znm:RS K E t zfK:=λ_ e _=>by cases e
set_option tactic.hygienic true in
def xS(ha:RS K E t a)(hb:RS K E u b):RS K E (zrm t u) (zw a b):=by
 intro F j D' σ H ρ S fl E0 e k;unfold zw at e;split at e;rename_i ρ1 S1 e1;show ha (D':={D' with nx:=u D'}) E0 e1 λσ1 j1 H1 X1 E1=>hb E1 e (k.step X1)
 rename_i hn;show ha (D':={D' with nx:=u D'}) E0 e ?_;cases fl with
 |nx ρ1 S1=>show absurd e (hn ρ1 S1)
 |bk ρ1 S1=>show k
 |ct ρ1 S1=>show k
 |rt x S1=>show k
 |ex c S1=>show k
def XX(h:RE K E te m)(hg:RG K E g g'):RS K E (zrr te g) (zI m g'):=by
 walk_at "!k"
 .show h E0 e1 λj1 H1 X1 E1 u hu=> ?_;rcases xY e with⟨ρ1,S2,e2,e⟩|⟨c,S2,e2,rfl⟩
  .cases e;show hg E1 hu e2 λσ2 j2 H2 X2 E2=>k _ _ _ (X1.trans X2) E2
  show hg E1 hu e2 (PX.mono k X1)
 show h E0 e1 k
def zpB(h:RE K E te m):RS K E (zqR te) (VO m):=by
 walk_at "!k"
 .cases e;show h E0 e1 λj1 H1 X1 E1 u hu=>k _ _ _ X1 E1
 show h E0 e1 k
def xH(h:RE K E te m):RS K E (zs3 te) (zO m):=by
 walk_at "!k"
 .cases e;show h E0 e1 λj1 H1 X1 E1 u hu=>k _ _ _ _ _ X1 E1 hu
 show h E0 e1 k
def VP(hc:RT K E c m)(ha:RS K E t a)(hb:RS K E u b):RS K E (zs4 c t u) (sIf m a b):=by
 walk_at "!k"
 .show hc E0 e1 λj1 H1 X1 E1=> ?_;cases x with
  |true=>show ha E1 e (k.step X1)
  |false=>show hb E1 e (k.step X1)
 show hc E0 e1 k
def zeT{go:Rho->Sto->mw Fl}(h:Ye r go=eO fl):∃f,r=eO f/\((∃ρ S,(f= .nx ρ S\/f= .ct ρ S)/\go ρ S=eO fl)\/(∃ρ S,f= .bk ρ S/\fl= .nx ρ S)\/(f=fl/\((∃x S,fl= .rt x S)\/∃c S,fl= .ex c S))):=by
 cases r with
 |none=>cases h
 |some f=>
  show#[f,rfl,?_];cases f with
  |nx ρ S=>show .inl #[_,_,.inl rfl,h]
  |ct ρ S=>show .inl #[_,_,.inr rfl,h]
  |bk ρ S=>cases h;show .inr (.inl #[_,_,rfl,rfl])
  |rt x S=>cases h;show .inr (.inr #[rfl,.inl #[_,_,rfl]])
  |ex c S=>cases h;show .inr (.inr #[rfl,.inr #[_,_,rfl]])
set_option tactic.hygienic true in
def znn{wi:TI}{g:TG}{tb:TS}{m:TwI}{g':TwG}{b:TwS}(hi:RI K E wi m)(hg:RG K E g g')(hb:RS K E tb b):RS K E (zs7 wi g tb) (vQ m g' b):=by
 intro F j D' σ H ρ S fl E0 e k;rcases xY e with⟨get,S1,e1,e⟩|⟨c,S1,e1,rfl⟩
 .show hi E0 e1 λj1 H1 X1 E1 J ok=> ?_;cases eg:get S1 with
  |none=>rw[eg] at e;cases e
  |some xs=>
   rw[eg] at e;show#[λi n σ H=>∃j2 ρ2 S2,Ext j1 H1 j2 H/\En K F j2 H σ ρ2 S2/\TQ get g' b n i ρ2 S2=eO fl,#[xs.length+1,j1,ρ,S1,Ext.refl,E1,e],?_];intro i n σ2 H2 #[j2,ρ2,S2,X2,E2,e2];cases n with
   |zero=>cases e2
   |succ n=>
    unfold TQ at e2;cases jN:get S2 with
    |none=>rw[jN] at e2;cases e2
    |some ys=>
     rw[jN] at e2;dsimp only[BI] at e2;have#[go,stop]:=ok i X2 E2 jN;split at e2;split at e2;rename_i hl;cases e2;show .inl #[stop hl,k _ _ _ (X1.trans X2) E2];cases e2
     rename_i x ex;have#[g1,g2]:=go x ex;show .inr #[g1,λσ' H'=>∃j3 ρ3 S3,Ext j1 H1 j3 H'/\En K F j3 H' σ' ρ3 S3/\TQ get g' b n (i+1) ρ3 S3=eO fl,λ_ _ z=>#[n,Az _,z],λv H3 hy=> ?_];have#[Sm,hv]:=g2 v H3 hy;have E3:=E2.heap Sm;have X3:Ext j2 H2 j2 H3:=Ext.same Sm;rcases xY e2 with⟨ρ4,S4,e4,e2⟩|⟨c,S4,e4,rfl⟩
     .show hg E3 hv e4 λσ4 j4 H4 X4 E4=> ?_;have#[f5,e5,h5]:=zeT e2;show hb E4 e5 ?_;have X14:=X2.trans (X3.trans X4);rcases h5 with⟨ρ6,S6,h6,e6⟩|⟨ρ6,S6,rfl,rfl⟩|⟨rfl,h6⟩
      .rcases h6 with rfl|rfl
       .show λσ5 j5 H5 X5 E5=>#[j5,ρ6,S6,X14.trans X5,E5,e6]
       show λσ5 j5 H5 X5 E5=>#[j5,ρ6,S6,X14.trans X5,E5,e6]
      .show λσ5 j5 H5 X5 E5=>k _ _ _ (X1.trans (X14.trans X5)) E5
      rcases h6 with⟨x6,S6,rfl⟩|⟨c6,S6,rfl⟩
      .show λv σ5 ρ5 j5 H5 X5 E5 hv=>k v σ5 ρ5 _ _ (X1.trans (X14.trans X5)) E5 hv
      show PX.mono k (X1.trans X14)
     show hg E3 hv e4 (PX.mono k (X1.trans (X2.trans X3)))
 show hi E0 e1 k
def zno{c:TT}{tb:TS}{m:TwT}{b:TwS}{n:Nat}(hc:RT K E c m)(hb:RS K E tb b):RS K E (zmq c tb) (sWh n m b):=by
 intro F j D' σ H ρ S fl E0 e k;show#[λn σ2 H2=>∃j2 ρ2 S2,Ext j H j2 H2/\En K F j2 H2 σ2 ρ2 S2/\zai m b n ρ2 S2=eO fl,#[n,j,ρ,S,Ext.refl,E0,e],?_];intro n σ2 H2 #[j2,ρ2,S2,X2,E2,e2];cases n with
 |zero=>cases e2
 |succ n=>
  unfold zai at e2;rcases xY e2 with⟨x,S3,e3,e2⟩|⟨c,S3,e3,rfl⟩
  .show hc E2 e3 λj3 H3 X3 E3=> ?_;have X13:=X2.trans X3;cases x with
   |false=>cases e2;show k _ _ _ X13 E3
   |true=>
    have#[f5,e5,h5]:=zeT e2;show#[λσ' H'=>∃j3 ρ3 S3,Ext j H j3 H'/\En K F j3 H' σ' ρ3 S3/\zai m b n ρ3 S3=eO fl,λσ' H' z=>#[n,Az _,z],hb E3 e5 ?_];rcases h5 with⟨ρ6,S6,h6,e6⟩|⟨ρ6,S6,rfl,rfl⟩|⟨rfl,h6⟩
    .rcases h6 with rfl|rfl
     .show λσ5 j5 H5 X5 E5=>#[j5,ρ6,S6,X13.trans X5,E5,e6]
     show λσ5 j5 H5 X5 E5=>#[j5,ρ6,S6,X13.trans X5,E5,e6]
    .show λσ5 j5 H5 X5 E5=>k _ _ _ (X13.trans X5) E5
    rcases h6 with⟨x6,S6,rfl⟩|⟨c6,S6,rfl⟩
    .show λv σ5 ρ5 j5 H5 X5 E5 hv=>k v σ5 ρ5 _ _ (X13.trans X5) E5 hv
    show PX.mono k X13
  show hc E2 e3 (PX.mono k X2)
noncomputable def iL(m:TwE):TwI:=λρ S=>rb (m ρ S) λx S1=>(yo S1 x).map λ_=> .ok (λS=>yo S x) S1
noncomputable def iT(m:TwE):TwI:=λρ S=>rb (m ρ S) λx S1=>x.tupOf.map λl=> .ok (λ_=>eO l) S1
def zfM(h:RE K E t m):RI K E (zmr K t) (iL m):=by
 walk_at "!d"
 .cases el:yo S1 x with
  |none=>rw[el] at e;cases e
  |some l=>
   rw[el] at e;cases e;show h En0 e1 λj1 H1 X1 E1 u hu=> ?_;have#[a,vs,rfl,h1,_]:=E1.lstAt hu el;show#[a,rfl,#[vs,h1.sql],k _ _ X1 E1 _ ?_];intro F2 j2 H2 σ2 ρ2 S2 xs i X2 E2 e2;have#[a',ws,ea,g1,g2]:=E2.lstAt (hu.mono X2) e2;cases ea;show#[λy ey=> ?_,λhle=>#[ws,g1.sql,by rw[g2.len];omega]];have#[w,f1,f2]:=g2.get ey;show#[#[ws,w,g1.sql,f1],?_];intro v' H' #[rfl,hx];have:=hx ws g1.sql;rw[f1] at this;cases this;show#[YL.refl _,f2]
 show h En0 e1 k
def znp(h:RE K E t m):RI K E (zrs K t) (iT m):=by
 walk_at "!d"
 .cases el:x.tupOf with
  |none=>rw[el] at e;cases e
  |some l=>
   rw[el] at e;cases e;show h En0 e1 λj1 H1 X1 E1 u hu=> ?_;have#[a,vs,rfl,h1,_]:=hu.tupO el;show#[a,rfl,#[vs,h1],k _ _ X1 E1 _ ?_];intro F2 j2 H2 σ2 ρ2 S2 xs i X2 E2 e2;cases e2;have#[a',ws,ea,g1,g2]:=(hu.mono X2).tupO el;cases ea;show#[λy ey=> ?_,λhle=>#[ws,g1,by rw[g2.len];omega]];have#[w,f1,f2]:=g2.get ey;show#[#[ws,w,g1,f1],?_];intro v' H' #[rfl,hx];have:=hx ws g1;rw[f1] at this;cases this;show#[YL.refl _,f2]
 show h En0 e1 k
noncomputable def wd(lo':Int)(n:Nat):kh Xv:=(z8 n).map λ(k:Nat)=>Xv.int (lo'+(k:Int))
def iR1(m:TwE):TwI:=λρ S=>rb (m ρ S) λx S1=>match x with
 | .int j=>if -(2^62)<=j/\j<2^62 then eO (.ok (λ_=>eO (wd 0 j.toNat)) S1) else fX
 |_=>fX
def znq:zhm K j H (Itr lo' n) (λ_=>eO (wd lo' n)):=by
 intro F2 j2 H2 σ2 ρ2 S2 xs i X2 E2 e2;cases e2;show#[λd hd=> ?_,λhle=> ?_]
 .unfold wd at hd;rw[uK] at hd;have hi:i<n:=by
   apply BX;intro hn;rw[x8 (by simp;omega)] at hd;cases hd
  rw[CH hi] at hd;cases hd;show#[hi,?_];intro x H' #[rfl,rfl];show#[YL.refl _,.int _]
 unfold wd at hle;simp at hle;change n<=i;omega
set_option tactic.hygienic true in
def zbI(h:RE K E t m):RI K E (zqS (zb6 t zlr)) (iR1 m):=by
 walk_at "!d"
 .split at e
  .split at e
   .rename_i hb;cases e;show h En0 e1 λj1 H1 X1 E1 u hu=>#[_,by rw[hu.int_inv],hb.1,hb.2,k _ _ X1 E1 _ znq]
   cases e
  cases e
 show h En0 e1 k
end
noncomputable def rn{α β:Type}(m:mw (Rs α))(f:α->Sto->mw β):mw β:=match m with
 |some (.ok a S)=>f a S
 |_=>fX
def zfN{α β:Type}{m:mw (Rs α)}{f:α->Sto->mw β}{r:β}(h:rn m f=eO r):∃a S,m=eO (.ok a S)/\f a S=eO r:=by
 unfold rn at h;split at h;show#[_,_,rfl,h];cases h
noncomputable def vI(cap:kh (mw Nat))(ρ:Rho):Rho:=cap.map λo=>o.bind λi=>(ρ[i]?).join
noncomputable def XY(get:Sto->mw (kh Xv))(g:TwG)(c:TwT)(e:TwE)(ρc:Rho):Nat->Nat->kh Xv->Sto->mw (Rs Xv)
 |0,_,_,_=>fX
 |f+1,i,es,S=>(get S).bind λxs=>match xs[i]? with
  |none=>if i=xs.length then eO (.ok (.ref S.length) (S++[.lst es])) else fX
  |some x=>rn (g x ρc S) λρ1 S1=>rn (c ρ1 S1) λb S2=>if b then rn (e ρ1 S2) λy S3=>if es.length<FC then XY get g c e ρc f (i+1) (es++[y]) S3 else fX
    else XY get g c e ρc f (i+1) es S2
noncomputable def xP(cap:kh (mw Nat))(m:TwI)(g:TwG)(c:TwT)(e:TwE):TwE:=λρ S=>rb (m ρ S) λget S1=>(get S1).bind λxs=>XY get g c e (vI cap ρ) (xs.length+1) 0 [] S1
noncomputable def xQ:TwT:=λ_ S=>eO (.ok gP S)
section
variable{E:XK}{ρ ρ':Rho}{S S':Sto}
def Tp:RT K E (λ_ H Q=>Q gP H) xQ:=λE1 e k=>by
 cases e;show k _ _ Ext.refl E1
def VQ(j:kh oN)(S:Sto)(a:oN):Prop:=∀(n:Nat) c,j[n]? =eO a->S[n]? =eO c->c.fz=gP
def En.notIn(E1:En K F j H σ ρ S)(h:H a=fX):VQ j S a:=λn c e1 e2=>by
 cases z:c.fz with
 |true=>rfl
 |false=>
  have#[o,e,_]:=(E1.cel n c a e2 e1).mu z;rw[h] at e;cases e
def En.outside(E1:En K F j H σ ρ S)(h:VQ j S a)(h0:H a=eO o0)(m0:o0.mu=gP)(hf:F.H0 a=fX):En K F j (upd H a o) σ ρ S/\Ext j H j (upd H a o):=by
 have X:Ext j H j (upd H a o):=#[λ_ _ e=>e,λb u e m=>by
  have:b≠a:=λq=>by subst q;rw[h0] at e;cases e;rw[m] at m0;cases m0
  rw[zT this];show e]
 show#[#[E1.len,λi x e=> ?_,E1.jl,E1.inj,λn c b e1 e2=> ?_,E1.ext.trans X,E1.old,E1.l0,λb u e=> ?_,E1.fresh,λb e=> ?_],X];have#[v,e1,e2]:=E1.slot i x e;show#[v,e1,e2.mono X];show (E1.cel n c b e1 e2).mono X λz=>zT λq=> ?_;subst q;rw[h n c e2 e1] at z;cases z
 .have hb:b≠a:=λq=>by subst q;rw[hf] at e;cases e
  rcases E1.keep b u e with h|h;show .inl (by rw[zT hb];show h);show .inr h
 have hb:b≠a:=λq=>by subst q;rw[zW] at e;cases e
 rw[zT hb] at e;show E1.dom b e
def En.adopt(E1:En K F j H σ ρ S)(h:VQ j S a)(hf:F.H0 a=fX)(hc:zc9 K (j++[a]) H a c):En K F (j++[a]) H σ ρ (S++[c])/\Ext j H (j++[a]) H:=by
 have X:Ext j H (j++[a]) H:=#[λn b e=>by rw[uN (uF.1 e).1];show e,vn.refl _];have lt:∀{n:Nat} {d:Ce},S[n]? =eO d->n<S.length:=λe=>(uF.1 e).1;have at_:∀{n:Nat} {b:oN} {d:Ce},(j++[a])[n]? =eO b->(S++[c])[n]? =eO d->(j[n]? =eO b/\S[n]? =eO d)\/(n=S.length/\b=a/\d=c):=λ{n b d} e1 e2=>by
  by_cases hn:n<S.length;rw[uN hn] at e2;rw[uN (by rw[E1.jl];show hn)] at e1;show .inl #[e1,e2]
  rw[uQ ⋯] at e2;rw[uQ (by rw[E1.jl];omega),E1.jl] at e1;cases hm:n-S.length with
  |zero=>rw[hm] at e1 e2;simp at e1 e2;show .inr #[⋯,e1.symm,e2.symm]
  |succ m=>rw[hm] at e1;simp at e1
 show#[#[E1.len,λi x e=> ?_,by simp[E1.jl],λn m b c1 c2 e1 e2 e3 e4 z1 z2=> ?_,λn d b e1 e2=> ?_,E1.ext.trans X,λn d e=> ?_,E1.l0,E1.keep,λn b hn e=> ?_,E1.dom],X];have#[v,e1,e2]:=E1.slot i x e;show#[v,e1,e2.mono X]
 .rcases at_ e1 e3 with⟨f1,f2⟩|⟨f1,f2,f3⟩
  .rcases at_ e2 e4 with⟨g1,g2⟩|⟨g1,g2,g3⟩
   .show E1.inj n m b c1 c2 f1 g1 f2 g2 z1 z2
   subst g2;rw[h n c1 f1 f2] at z1;cases z1
  rcases at_ e2 e4 with⟨g1,g2⟩|⟨g1,g2,g3⟩
  .subst f2;rw[h m c2 g1 g2] at z2;cases z2
  rw[f1,g1]
 .rcases at_ e2 e1 with⟨f1,f2⟩|⟨f1,rfl,rfl⟩
  .show (E1.cel n d b f2 f1).mono X λ_=>rfl
  show hc
 .obtain⟨d',e1,e2⟩:=E1.old n d e;show#[d',by rw[uN (lt e1)];show e1,e2]
 by_cases hm:n<j.length;rw[uN hm] at e;show E1.fresh n b hn e
 rw[uQ ⋯] at e;cases hk:n-j.length with
 |zero=>rw[hk] at e;simp at e;subst e;show hf
 |succ m=>rw[hk] at e;simp at e
def zlM(E1:En K F j H σ ρ S):(ZS cap σ).length=(vI cap ρ).length/\∀(i:Nat) x,(vI cap ρ)[i]? =eO (eO x)->∃v,(ZS cap σ)[i]? =eO (eO v)/\Xis K j H x v:=by
 show#[by simp[ZS,vI],λi x h=> ?_];unfold vI at h;unfold ZS;rw[uK] at h ⊢;cases e:cap[i]? with
 |none=>rw[e] at h;cases h
 |some o=>
  rw[e] at h;cases o with
  |none=>simp at h
  |some k=>
   simp only[AZ,y0,A8] at h ⊢;cases q:ρ[k]? with
   |none=>rw[q] at h;simp at h
   |some z=>
    rw[q] at h;simp at h;subst h;have#[v,e1,e2]:=E1.slot k x q;show#[v,by rw[e1];rfl,e2]
set_option tactic.hygienic true in
def Tq(hi:RI K E wi m)(hg:RG K E0 g g')(hc:RT K E0 tt c)(he:RE K E0 te e):RE K E (zmM cap wi g tt te) (xP cap m g' c e):=by
 intro F j σ H ρ S r Q En0 h k;rcases zK h with⟨get,S1,e1,h⟩|⟨c1,S1,e1,rfl⟩
 .show hi En0 e1 λj1 H1 X1 E1 J ok acc cS=> ?_;cases eg:get S1 with
  |none=>rw[eg] at h;cases h
  |some xs=>
   rw[eg] at h;have hf:F.H0 acc=fX:=E1.dom acc cS;have#[Ea,Xa]:=E1.new (o:= .lst []) cS
   show#[λi n ys H2=>∃j2 S2 es,Ext j1 H1 j2 H2/\En K F j2 H2 σ ρ S2/\H2 acc=eO (.lst ys)/\yn K j2 H2 es ys/\VQ j2 S2 acc/\XY get g' c e (vI cap ρ) n i es S2=eO r,
    #[xs.length+1,j1,S1,[],Xa,Ea,zW,.nil,E1.notIn cS,h],?_]
   intro i n ys H2 #[j2,S2,es,X2,E2,h2,mj,nin,e2];cases n with
   |zero=>cases e2
   |succ n=>
    unfold XY at e2;cases jN:get S2 with
    |none=>rw[jN] at e2;cases e2
    |some zs=>
     rw[jN] at e2;dsimp only[BI] at e2;have#[go,stop]:=ok i X2 E2 jN;split at e2;split at e2;rename_i hl;cases e2;have#[E3,X3]:=E2.adopt (c:= .lst es) nin hf #[ys,h2,mj.mono #[λn b e=>by rw[uN (uF.1 e).1];show e,vn.refl _]];show .inl #[stop hl,k _ _ (X1.trans (X2.trans X3)) E3 _ (.ref (by rw[<-E2.jl];simp))];cases e2
     rename_i x ex;have#[g1,g2]:=go x ex;show .inr #[g1,λv H3 hy=> ?_];have#[Sm,hv]:=g2 v H3 hy;have E3:=E2.heap Sm;have X3:Ext j2 H2 j2 H3:=Ext.same Sm;have h3:H3 acc=eO (.lst ys):=Sm _ _ h2;have#[cl,cs]:=zlM (cap:=cap) E3;have I0:=E3.enter cl cs;have#[ρ4,S4,e4,e2]:=zfN e2;have#[b,S5,e5,e2]:=zfN e2;have behind:∀{j6:kh oN} {H6:Hp} {σ6:St} {ρ6:Rho} {S6:Sto},En K #[H3,j2,S2] j6 H6 σ6 ρ6 S6->En K F j6 H6 σ ρ S6/\Ext j2 H2 j6 H6/\H6 acc=eO (.lst ys)/\VQ j6 S6 acc:=λ{j6 H6 σ6 ρ6 S6} X=>by
      have#[E6,X6]:=E3.leave X;show#[E6,X3.trans X6,?_,λn d q1 q2=> ?_]
      .rcases X.keep acc _ h3 with q|⟨n,d,q1,q2,q3⟩
       .show q
       rw[nin n d q1 q2] at q3;cases q3
      by_cases hn:n<j2.length
      .have p1:j2[n]? =eO j2[n]:=uH hn;have p2:=X6.pre n _ p1;rw[q1] at p2;cases p2;have eZ:n<S2.length:=by rw[<-E2.jl];show hn
       have#[d',f1,_,f3]:=X.old n _ (uH eZ);rw[q2] at f1;cases f1;have hz:=nin n _ p1 (uH eZ);rw[f3 hz];show hz
      have q:=X.fresh n acc (by dsimp only;omega) q1;have q:H3 acc=fX:=q;rw[h3] at q;cases q
     show hg I0 hv e4 λσ4 j4 H4 X4 I4=>hc I4 e5 λj5 H5 X5 I5=> ?_;cases b with
     |true=>
      rw[Gv rfl];rw[Gv rfl] at e2;have#[y,S6,e6,e2]:=zfN e2;split at e2;rename_i hsz;show he I5 e6 λj6 H6 X6 I6 w hw=> ?_;have#[E6,X26,h6,iF]:=behind I6;have#[E7,X7]:=E6.outside (o:= .lst (ys++[w])) iF h6 rfl hf;show#[h6,by rw[mj.len];show hsz,n,Az _,j6,S6,es++[y],X2.trans (X26.trans X7),E7,zW,((mj.mono X26).append (.one hw)).mono X7,iF,e2];cases e2
     |false=>
      rw[Gw (by simp)];rw[Gw (by simp)] at e2;have#[E6,X26,h6,iF]:=behind I5;show#[n,Az _,j5,S5,es,X2.trans X26,E6,h6,mj.mono X26,iF,e2]
 show hi En0 e1 k
def zdc(h:RE K E (zmM cap wi g tt te) m):RS K E (zg6 i cap wi g tt te) (zI m (gN i)):=by
 intro F j D' σ H ρ S fl E1 e k;rcases xY e with⟨x,S1,e1,e⟩|⟨c,S1,e1,rfl⟩
 .cases e;show h (Q:=λv H2=>D'.nx (σ.set i (eO v)) H2) E1 e1 λj1 H1 X1 E1 u hu=>k _ _ _ X1 (E1.set hu)
 show h (Q:=λv H2=>D'.nx (σ.set i (eO v)) H2) E1 e1 k
abbrev TwF:=kh Xv->Sto->mw (Rs Xv)
noncomputable def zQ(n k:Nat)(b:TwS):TwF:=λxs S=>if xs.length=n then match b (xs.map eO++w5 k fX) S with
  |some (.rt x S')=>eO (.ok x S')
  |some (.nx _ S')=>eO (.ok .non S')
  |some (.ex c S')=>eO (.ex c S')
  |_=>fX
 else fX
def ztA(K:uG)(F:Fm)(Q:VK)(E:XK):Rs Xv->Prop
 | .ok x S'=>∀v j' H' σ ρ,En K F j' H' σ ρ S'->Xis K j' H' x v->Q v H'
 | .ex c S'=>∀j' H' σ ρ C,En K F j' H' σ ρ S'->v5 K tP c=eO (eO (.ref C))->E (.ref C) fX H'
def sTw(K:uG)(n:Nat)(tw:TwF):Sp:=λvs H Q E=>vs.length=n/\∃(j:kh oN) (S:Sto) (xs:kh Xv) (r:Rs Xv),En K #[H,j,S] j H (vs.map eO) (xs.map eO) S/\tw xs S=eO r/\ztA K #[H,j,S] Q E r
def zaQ{N:kh Str}{Q:VK}(hN:N.length=n+k)(h:RS K E t b)(hs:sTw K n (zQ n k b) vs H Q E):t {nx:=λ_ H'=>Q .non H',rt:=Q} (Ys N vs) H:=by
 have#[hn,j,S,xs,r,E1,e,ret]:=hs;have es:Ys N vs=vs.map eO++w5 k fX:=by
  unfold Ys;rw[hN,hn,Nat.add_sub_cancel_left]
 rw[es];change (if _ then _ else _)=_ at e;split at e
 .cases e1:b (xs.map eO++w5 k fX) S with
  |none=>rw[e1] at e;cases e
  |some f=>
   rw[e1] at e;cases f with
   |rt x S'=>cases e;show h E1.grow e1 λv σ ρ j' H' X E' hv=>ret _ _ _ _ _ E' hv
   |nx ρ' S'=>cases e;show h E1.grow e1 λσ j' H' X E'=>ret _ _ _ _ _ E' .non
   |ex c S'=>cases e;show h E1.grow e1 λj' H' σ' ρ' C X E' hC=>ret _ _ _ _ _ E' hC
   |_=>cases e
 cases e
def ZL{P:Program}{mg:Str->mw oJ}(hl:ps.length=n:=by rfl):Yy P w K mg base CX k f fd ps (sTw K n λ_ _=>fX):=
 #[λvs H Q E h=>h.1.trans hl.symm,λA outer s H args us vs Q E hr he hb hv hs=>by
  have#[_,_,_,_,_,_,z,_]:=hs
  cases z]
noncomputable def zx(tw:TwF)(ms:kh TwE):TwE:=λρ S=>rb (evL ms ρ S) λxs S1=>tw xs S1
noncomputable def zdd(tw:TwF)(ms:kh TwE):TwE:=λρ S=>rb (evL ms ρ S) λxs S1=>match tw xs S1 with
 |some (.ok x S2)=>eO (.ok x S2)
 |_=>fX
def zde(hv:yn K j H xs vs):(vs.map eO).length=(xs.map eO).length/\∀(i:Nat) x,(xs.map eO)[i]? =eO (eO x)->∃v,(vs.map eO)[i]? =eO (eO v)/\Xis K j H x v:=by
 show#[by simp[hv.len],λi x h=> ?_];rw[uK] at h ⊢;cases e:xs[i]? with
 |none=>rw[e] at h;cases h
 |some y=>
  rw[e] at h;simp at h;subst h;have#[v,e1,e2]:=hv.get e;show#[v,by rw[e1];rfl,e2]
def WJ{Q:VK}(E1:En K F j H σ ρ S)(hv:yn K j H xs vs)(hn:vs.length=n)(et:tw xs S=eO r)(k:Po K F j H σ ρ E' (PoV K Q) r):sTw K n tw vs H Q E':=by
 have#[l,s]:=zde hv;show#[hn,j,S,xs,r,E1.enter l s,et,?_];cases r with
 |ok x S'=>
  intro v j' H' σ' ρ' X hx;have#[E2,X2]:=E1.leave X;show k j' H' X2 E2 v hx
 |ex c S'=>
  intro j' H' σ' ρ' C X hC;have#[E2,X2]:=E1.leave X;show k j' H' σ ρ C X2 E2 hC
def xM(h:RL K E t (evL ms))(hn:ms.length=n:=by rfl):RE K E (zkj (sTw K n tw) [] E t) (zx tw ms):=by
 walk_at "!e"
 .show h En0 e1 λj1 H1 X1 E1 vs hv=> ?_;rw[Aw];show WJ E1 hv (by rw[hv.len,Xw e1,hn]) e (k.step X1)
 show h En0 e1 k
set_option tactic.hygienic true in
def zdf(h:RL K E t (evL ms))(hn:ms.length=n:=by rfl):RE K E (zkj (sTw K n tw) [] E0 t) (zdd tw ms):=by
 walk_at "!e"
 .show h En0 e1 λj1 H1 X1 E1 vs hv=> ?_;rw[Aw];split at e;rename_i x S2 e2;cases e;show WJ E1 hv (by rw[hv.len,Xw e1,hn]) e2 (λj' H' X E2 v hw=>k _ _ (X1.trans X) E2 v hw);cases e
 show h En0 e1 k
end
end L2
variable{ρ:L2.Rho}{S:L2.Sto}{P:L2.Xv->L2.Sto->Prop}{N:L2.Rho->L2.Sto->Prop}{R:L2.Xv->L2.Sto->Prop}
namespace L2
open PySem.Builtin.Int (intBits)
noncomputable def xI(g:Int->Int->Xv):Op2:=λx y S=>match x,y with
 | .int a,.int b=>eO (g a b,S)
 |_,_=>fX
noncomputable def xIC(c:Int->Int->Bool)(g:Int->Int->Xv):Op2:=λx y S=>match x,y with
 | .int a,.int b=>if c a b then eO (g a b,S) else fX
 |_,_=>fX
def vR:Op2:=xI λi j=> .int (i+j)
def zfO:Op2:=xI λi j=> .int (i-j)
def zlN:Op2:=xIC (λi j=>decide ((-(2^64)<i/\i<2^64)\/(-(2^64)<j/\j<2^64))) λi j=> .int (i*j)
def xZ:Op2:=xIC (λi j=>decide (intBits i+intBits j<=134217728)) λi j=> .int (i*j)
def YB:Op2:=xIC (λ_ j=>decide (0<j)) λi j=> .int (i % j)
def zaR:Op2:=xIC (λ_ j=>decide (0<j/\j<1073741824)) λi j=> .int (i / j)
def zdg:Op2:=xIC (λ_ j=>decide (j≠0/\intBits j<=9000)) λi j=> .int (i.fdiv j)
def zfP:Op2:=xIC (λi j=>decide (0<=j/\j<=1000000/\i.natAbs<2^64)) λi j=> .int (i^j.toNat)
def dLt:Op2:=xI λi j=> .bl (decide (i<j))
def dGt:Op2:=xI λi j=> .bl (decide (j<i))
def dGe:Op2:=xI λi j=> .bl (decide (j<=i))
def vV:Op2:=xI λi j=> .bl (decide (i=j))
def zdh:Op2:=xI λi j=> .bl (!decide (i=j))
noncomputable def zrX:Xv->Sto->mw (Xv×Sto):=λx S=>match x with
 | .int i=>eO (.int (-i),S)
 |_=>fX
section
variable{E:XK}{F:Fm}{j j':kh oN}{H':Hp}{σ':St}{ρ':Rho}{S':Sto}{x:Xv}{v:V}{ta tb:TE}{a b:TwE}
def znr{g:Int->Int->V}{g':Int->Int->Xv}(hg:∀i k j H,Xis K j H (g' i k) (g i k)):Xo K (rI0 g) (xI g'):=by
 walk_at "!h";unfold xI at h;split at h;cases h;show#[_,_,hx.int_inv,hy.int_inv,k _ _ _ Ext.refl E1 (hg _ _ _ _)];cases h
def zjf{C:Int->Int->Prop}{c:Int->Int->Bool}{g:Int->Int->V}{g':Int->Int->Xv}(hc:∀i j,c i j=gP->C i j)(hg:∀i k j H,Xis K j H (g' i k) (g i k)):Xo K (rI C g) (xIC c g'):=by
 walk_at "!h";unfold xIC at h;split at h;split at h;cases h;show#[_,_,hx.int_inv,hy.int_inv,hc _ _ (by assumption),k _ _ _ Ext.refl E1 (hg _ _ _ _)];cases h;cases h
def zdi{p:Int->Int->Bool}(ha:RE K E ta a)(hb:RE K E tb b):RE K E (zgY p ta tb) (eOp (xI λi j=> .bl (p i j)) a b):=
 yF (r:=rI0 λi j=> .bl (p i j)) (znr λi k _ _=> .bl _) ha hb
def zns:Xo K (rI0 λi j=> .int (i+j)) vR:=znr λ_ _ _ _=> .int _
def znt:Xo K (rI0 λi j=> .int (i-j)) zfO:=znr λ_ _ _ _=> .int _
def znu:Xo K (rI zmt λi j=> .int (i*j)) zlN:=zjf (λi j h=>by simpa [zmt] using h) λ_ _ _ _=> .int _
def zkA:Xo K (rI zq1 λi j=> .int (i*j)) xZ:=zjf (λi j h=>#[intBits i,intBits j,uL _,uL _,by simpa using h]) λ_ _ _ _=> .int _
def zjg:Xo K (rI (λ_ j=>0<j) λi j=> .int (i % j)) YB:=zjf (λi j h=>by simpa using h) λ_ _ _ _=> .int _
def zkB:Xo K (rI zrw λi j=> .int (i / j)) zaR:=zjf (λi j h=>by simpa [zrw] using h) λ_ _ _ _=> .int _
def zhq:Xo K (rI zmP λi j=> .int (i.fdiv j)) zdg:=zjf (λi j h=>by simpa [zmP] using h) λ_ _ _ _=> .int _
def znv:Xo K (rI zrx λi j=> .int (i^j.toNat)) zfP:=zjf (λi j h=>by simpa [zrx] using h) λ_ _ _ _=> .int _
def ztB(ha:RE K E ta a)(hb:RE K E tb b):RE K E (tLt ta tb) (eOp dLt a b):=zdi ha hb
def ztC(ha:RE K E ta a)(hb:RE K E tb b):RE K E (tGt ta tb) (eOp dGt a b):=zdi ha hb
def ztD(ha:RE K E ta a)(hb:RE K E tb b):RE K E (tGe ta tb) (eOp dGe a b):=zdi ha hb
def znw(ha:RE K E ta a)(hb:RE K E tb b):RE K E (zsX ta tb) (eOp vV a b):=zdi ha hb
def zrY(ha:RE K E ta a)(hb:RE K E tb b):RE K E (zsY ta tb) (eOp zdh a b):=zdi ha hb
def znx:ztr K (rU λi=> .int (-i)) zrX:=by
 intro F j σ H ρ S S' x z u Q E1 hx h k;unfold zrX at h;split at h;cases h;show#[_,hx.int_inv,k _ _ _ Ext.refl E1 (.int _)];cases h
noncomputable def zaS:Op2:=λx y S=>match x,y with
 | .str a,.str b=>if a.length+b.length<=FC then eO (.str (a++b),S) else fX
 |_,_=>fX
def zkC:Xo K (λx y H Q=>∃i j,x= .str i/\y= .str j/\i.length+j.length<=FC/\Q (.str (i++j)) H) zaS:=by
 walk_at "!h";unfold zaS at h;split at h;split at h;cases h;show#[_,_,hx.str_inv,hy.str_inv,by assumption,k _ _ _ Ext.refl E1 (.str _)];cases h;cases h
noncomputable def ZT:Op2:=λx y S=>match x,y with
 | .tup a,.tup b=>if a.length+b.length<=FC then eO (.tup (a++b),S) else fX
 |_,_=>fX
set_option tactic.hygienic true in
def zaT:Xo K (zq3 K) ZT:=by
 walk_at "!h";unfold ZT at h;split at h;split at h;rename_i hz;cases h;have#[p,xs,rfl,h1,h2]:=hx.tup_inv;have#[q,ys,rfl,g1,g2]:=hy.tup_inv;show#[p,q,xs,ys,rfl,rfl,SqT.of h1,SqT.of g1,by rw[h2.len,g2.len];show hz,λe=> ?_,λ_ e=> ?_,λ_ _ l hl=> ?_];subst e;obtain rfl:=C7.1 h2.len.symm;show k _ _ _ Ext.refl E1 hy;subst e;obtain rfl:=C7.1 g2.len.symm;show k _ _ _ Ext.refl E1 ?_;rw[Aw];show hx;have#[E2,X2]:=E1.new (o:= .tup (xs++ys)) hl;show k _ _ _ X2 E2 (.tup zW ((h2.append g2).mono X2));cases h;cases h
noncomputable def zny(g:Int->Xv):Opn:=λxs S=>match xs with
 |[.int i]=>eO (g i,S)
 |_=>fX
def zpC{g:Int->V}{g':Int->Xv}(hg:∀i j H,Xis K j H (g' i) (g i)):zaf K (λxs H Q=>∃i,xs=[V.int i]/\Q (g i) H) (zny g'):=by
 walk_at "!f";unfold zny at h;split at h;cases h;have#[x,rfl,hx]:=hv.d1;show#[_,by rw[hx.int_inv],k _ _ _ Ext.refl E1 (hg _ _ _)];cases h
noncomputable def zkD(g:Int->Int->Xv):Opn:=λxs S=>match xs with
 |[.int i,.int j]=>eO (g i j,S)
 |_=>fX
def zkE{g:Int->Int->V}{g':Int->Int->Xv}(hg:∀i k j H,Xis K j H (g' i k) (g i k)):zaf K (λxs H Q=>∃i j,xs=[V.int i,V.int j]/\Q (g i j) H) (zkD g'):=by
 walk_at "!f";unfold zkD at h;split at h;cases h;have#[x,y,rfl,hx,hy]:=hv.d2;show#[_,_,by rw[hx.int_inv,hy.int_inv],k _ _ _ Ext.refl E1 (hg _ _ _ _)];cases h
def zlO:Opn:=zny λi=> .int (if i<0 then -i else i)
def zrZ:Opn:=zkD λi j=> .int (if j<i then j else i)
def zr0:Opn:=zkD λi j=> .int (if j>i then j else i)
def znz:zaf K (λxs H Q=>∃i,xs=[V.int i]/\Q (.int (if i<0 then -i else i)) H) zlO:=zpC λ_ _ _=> .int _
def znA:zaf K (λxs H Q=>∃i j,xs=[V.int i,V.int j]/\Q (.int (if j<i then j else i)) H) zrZ:=zkE λ_ _ _ _=> .int _
def znB:zaf K (λxs H Q=>∃i j,xs=[V.int i,V.int j]/\Q (.int (if j>i then j else i)) H) zr0:=zkE λ_ _ _ _=> .int _
noncomputable def wx:Opn:=λxs S=>match xs with
 |[x]=>(Yu S x).map λl=>(.int l.length,S)
 |_=>fX
set_option tactic.hygienic true in
def zfQ:zaf K (λxs H Q=>∃p ys,xs=[V.ref p]/\(SqL K H p ys\/SqT K H p ys)/\Q (.int ys.length) H) wx:=by
 walk_at "!f";unfold wx at h;split at h
 .rename_i x;cases e:Yu S x with
  |none=>rw[e] at h;cases h
  |some l=>
   rw[e] at h;cases h;have#[w,rfl,hx]:=hv.d1;have#[a,ws,rfl,h1,h2]:=E1.seqAt hx e;show#[a,ws,rfl,?_,k _ _ _ Ext.refl E1 (by rw[h2.len];show .int _)];rcases h1 with h1|h1;show .inl h1.sql;show .inr h1
 cases h
noncomputable def zkF:Opn:=λxs S=>match xs with
 |[x]=>(Yu S x).map λl=>(.ref S.length,S++[.lst l])
 |_=>fX
set_option tactic.hygienic true in
def zkG:zaf K (λxs H Q=>∃p ys,xs=[V.ref p]/\(SqL K H p ys\/SqT K H p ys)/\∀l,H l=fX->Q (.ref l) (upd H l (.lst ys))) zkF:=by
 walk_at "!f";unfold zkF at h;split at h
 .rename_i x;cases e:Yu S x with
  |none=>rw[e] at h;cases h
  |some l=>
   rw[e] at h;cases h;have#[w,rfl,hx]:=hv.d1;have#[a,ws,rfl,h1,h2]:=E1.seqAt hx e;show#[a,ws,rfl,?_,λp hp=> ?_];rcases h1 with h1|h1;show .inl h1.sql;show .inr h1;have#[E2,X2,h3]:=E1.lst h2 hp;show k _ _ _ X2 E2 h3
 cases h
noncomputable def XZ:Opn:=λxs S=>match xs with
 |[.tup l]=>eO (.tup l,S)
 |[x]=>(yo S x).map λl=>(.tup l,S)
 |_=>fX
set_option tactic.hygienic true in
def zhr:zaf K (λxs H Q=>∃p ys,xs=[V.ref p]/\((SqL K H p ys/\∀l,H l=fX->Q (.ref l) (upd H l (.tup ys)))\/(SqT K H p ys/\Q (.ref p) H))) XZ:=by
 walk_at "!f";unfold XZ at h;split at h;cases h;have#[w,rfl,hx]:=hv.d1;have#[a,ws,rfl,h1,h2]:=hx.tup_inv;show#[a,ws,rfl,.inr #[SqT.of h1,k _ _ _ Ext.refl E1 hx]]
 .rename_i x _;cases e:yo S x with
  |none=>rw[e] at h;cases h
  |some l=>
   rw[e] at h;cases h;have#[w,rfl,hx]:=hv.d1;have#[a,ws,rfl,h1,h2]:=E1.lstAt hx e;show#[a,ws,rfl,.inl #[h1.sql,λp hp=> ?_]];have#[E2,X2]:=E1.new (o:= .tup ws) hp;show k _ _ _ X2 E2 (.tup zW (h2.mono X2))
 cases h
noncomputable def Yv:kh Xv->mw (kh Int)
 |[]=>eO []
 | .int i::r=>(Yv r).map (i:: ·)
 |_::_=>fX
theorem zaU:∀{xs:kh Xv} {ns:kh Int} {vs:kh V},Yv xs=eO ns->yn K j H xs vs->vs=ns.map V.int
 |[],ns,vs,e,h=>by cases e;show h.nil_inv
 |x::r,ns,vs,e,h=>by
  have#[v,ws,rfl,h1,h2]:=h.cons_inv;cases x<;>simp only[Yv,reduceCtorEq] at e
  cases e2:Yv r with
  |none=>rw[e2] at e;cases e
  |some ms=>
   rw[e2] at e;cases e;rw[h1.int_inv,zaU e2 h2];rfl
def zeU(ns:kh Int):Yv (ns.map Xv.int)=eO ns:=by
 induction ns with
 |nil=>rfl
 |cons n r ih=>simp[Yv,ih]
noncomputable def Zr:kh Xv->mw (kh Bool)
 |[]=>eO []
 | .bl i::r=>(Zr r).map (i:: ·)
 |_::_=>fX
theorem zdj:∀{xs:kh Xv} {ns:kh Bool} {vs:kh V},Zr xs=eO ns->yn K j H xs vs->vs=ns.map V.bl
 |[],ns,vs,e,h=>by cases e;show h.nil_inv
 |x::r,ns,vs,e,h=>by
  have#[v,ws,rfl,h1,h2]:=h.cons_inv;cases x<;>simp only[Zr,reduceCtorEq] at e
  cases e2:Zr r with
  |none=>rw[e2] at e;cases e
  |some ms=>
   rw[e2] at e;cases e;rw[h1.bl_inv,zdj e2 h2];rfl
noncomputable def znC:Opn:=λxs S=>match xs with
 |[x]=>((yo S x).bind Yv).map λns=>(.int ns.sum,S)
 |_=>fX
set_option tactic.hygienic true in
def znD:zaf K (ztn K) znC:=by
 walk_at "!f";unfold znC at h;split at h
 .rename_i x;cases e:yo S x with
  |none=>rw[e] at h;cases h
  |some l=>
   rw[e] at h;cases e2:Yv l with
   |none=>simp[e2] at h
   |some ns=>
    simp[e2] at h;have#[rfl,rfl]:=h;have#[w,rfl,hx]:=hv.d1;have#[p,ws,rfl,h1,h2]:=E1.lstAt hx e;show#[p,ns,rfl,?_,k _ _ _ Ext.refl E1 (.int _)];rw[<-zaU e2 h2];show h1.sql
 cases h
noncomputable def zdk:Opn:=λxs S=>match xs with
 |[x]=>(x.tupOf.bind Yv).map λns=>(.int ns.sum,S)
 |_=>fX
set_option tactic.hygienic true in
def zkH:zaf K (zq4 K) zdk:=by
 walk_at "!f";unfold zdk at h;split at h
 .rename_i x;cases e:x.tupOf with
  |none=>rw[e] at h;cases h
  |some l=>
   rw[e] at h;cases e2:Yv l with
   |none=>simp[e2] at h
   |some ns=>
    simp[e2] at h;have#[rfl,rfl]:=h;have#[w,rfl,hx]:=hv.d1;have#[p,ws,rfl,h1,h2]:=hx.tupO e;show#[p,ns,rfl,?_,k _ _ _ Ext.refl E1 (.int _)];rw[<-zaU e2 h2];show h1
 cases h
noncomputable def zhs:Opn:=λxs S=>match xs with
 |[x]=>((yo S x).bind Zr).map λns=>(.bl (ns.any id),S)
 |_=>fX
noncomputable def zht:Opn:=λxs S=>match xs with
 |[x]=>((yo S x).bind Zr).map λns=>(.bl (ns.all id),S)
 |_=>fX
set_option tactic.hygienic true in
def zjh:zaf K (ztp K) zhs:=by
 walk_at "!f";unfold zhs at h;split at h
 .rename_i x;cases e:yo S x with
  |none=>rw[e] at h;cases h
  |some l=>
   rw[e] at h;cases e2:Zr l with
   |none=>simp[e2] at h
   |some ns=>
    simp only[y0,e2,AZ,A8,D3] at h;have#[rfl,rfl]:=h;have#[w,rfl,hx]:=hv.d1;have#[p,ws,rfl,h1,h2]:=E1.lstAt hx e;show#[p,ns,rfl,?_,k _ _ _ Ext.refl E1 (.bl _)];rw[<-zdj e2 h2];show h1.sql
 cases h
set_option tactic.hygienic true in
def znE:zaf K (ztq K) zht:=by
 walk_at "!f";unfold zht at h;split at h
 .rename_i x;cases e:yo S x with
  |none=>rw[e] at h;cases h
  |some l=>
   rw[e] at h;cases e2:Zr l with
   |none=>simp[e2] at h
   |some ns=>
    simp only[y0,e2,AZ,A8,D3] at h;have#[rfl,rfl]:=h;have#[w,rfl,hx]:=hv.d1;have#[p,ws,rfl,h1,h2]:=E1.lstAt hx e;show#[p,ns,rfl,?_,k _ _ _ Ext.refl E1 (.bl _)];rw[<-zdj e2 h2];show h1.sql
 cases h
set_option backward.eqns.nonrecursive false in
noncomputable def yH(neg:Bool):Op2:=λx y S=>match x,y with
 | .int a,.int b=>eO (.bl (neg !=decide (a=b)),S)
 | .str a,.str b=>eO (.bl (neg !=decide (a=b)),S)
 | .bl a,.bl b=>eO (.bl (neg !=decide (a=b)),S)
 | .non,.non=>eO (.bl (neg !=gP),S)
 | .int _,.str _=>eO (.bl (neg !=kb),S)
 | .str _,.int _=>eO (.bl (neg !=kb),S)
 |_,_=>fX
def Wa:Xo K rEq (yH kb):=by
 walk_at "!h";cases hx<;>cases hy<;>simp only[yH,reduceCtorEq,A8,D3,DQ] at h<;>have#[rfl,rfl]:=h<;>show#[rfl,k _ _ _ Ext.refl E1 ?_]<;>simp<;>show .bl _
def znF:Xo K rNe (yH gP):=by
 walk_at "!h";cases hx<;>cases hy<;>simp only[yH,reduceCtorEq,A8,D3,Eb] at h<;>have#[rfl,rfl]:=h<;>show#[rfl,k _ _ _ Ext.refl E1 ?_]<;>simp<;>show .bl _
noncomputable def wo:Xv->Bool
 | .non=>gP
 | .bl _=>gP
 | .int _=>gP
 | .str _=>gP
 |_=>kb
noncomputable def zfR:Xv->Xv->Bool
 | .non,.non=>gP
 | .bl a,.bl b=>a==b
 | .bl a,.int b=>(if a then 1 else 0)==b
 | .int a,.bl b=>a==(if b then 1 else 0)
 | .int a,.int b=>a==b
 | .str a,.str b=>a==b
 |_,_=>kb
noncomputable def dIn(neg:Bool):Op2:=λx y S=>(Yu S y).bind λl=>if wo x&&l.all wo then eO (.bl (neg !=l.any λz=>zfR z x),S) else fX
def zdl(h:Xis K j H x v):Xt v=wo x:=by cases h<;>rfl
def zji(h:Xis K j H x v)(g:Xis K j H y w)(fx:wo x=gP)(fy:wo y=gP):eqV v w=zfR x y:=by cases h<;>cases g<;>first|rfl|cases fx|cases fy
def zkI(h:yn K j H xs vs):vs.all Xt=xs.all wo:=
 h.ind (m:=λxs vs=>vs.all Xt=xs.all wo) rfl λh _ ih=>by rw[Cm,Cm,zdl h,ih]
def zpD(hx:Xis K j H x v)(fx:wo x=gP)(h:yn K j H xs vs):xs.all wo=gP->inV v vs=xs.any λz=>zfR z x:=
 h.ind (m:=λxs vs=>xs.all wo=gP->inV v vs=xs.any λz=>zfR z x) (λ_=>rfl) λh _ ih f=>by
  rw[Cm,A5] at f;have:=ih f.2;unfold inV at this ⊢;rw[Bc,Bc,zji h hx f.1 fx,this]
set_option tactic.hygienic true in
def ztE:Xo K (rIn K neg) (dIn neg):=by
 walk_at "!h";unfold dIn at h;cases e:Yu S y with
 |none=>rw[e] at h;cases h
 |some l=>
  rw[e] at h;dsimp only[BI] at h;split at h
  .rename_i hf;have hf:=DW.1 hf;cases h;have#[p,ws,rfl,h1,h2]:=E1.seqAt hy e;show#[p,ws,rfl,?_,by rw[zdl hx];show hf.1,by rw[zkI h2];show hf.2,k _ _ _ Ext.refl E1 ?_];rcases h1 with h1|h1;show .inl h1.sql;show .inr h1
   rw[zpD hx hf.1 h2 hf.2];cases neg<;>simp<;>show .bl _
  cases h
noncomputable def D.many:D->Bool
 | .tup _=>gP
 | .lst _=>gP
 |_=>kb
noncomputable def znG(c:String)(S:Sto):Xv->mw Bool
 | .non=>eO kb
 | .int _=>eO (c=="int")
 | .bl _=>eO (c=="bool"||c=="int")
 | .str _=>eO (c=="str")
 | .tup _=>eO (c=="tuple")
 | .ct _=>eO (c=="tuple")
 | .ref n=>(yo S (.ref n)).map λ_=>c=="list"
 | .lam _ _=>fX
structure zdm(c:String):Prop where
 non:∀K,Ad K (.type "NoneType") (.type c)=eO kb
 bl:∀K,Ad K (.type "bool") (.type c)=eO (c=="bool"||c=="int")
 int:∀K,Ad K (.type "int") (.type c)=eO (c=="int")
 str:∀K,Ad K (.type "str") (.type c)=eO (c=="str")
 tup:∀K,Ad K (.type "tuple") (.type c)=eO (c=="tuple")
 lst:∀K,Ad K (.type "list") (.type c)=eO (c=="list")
def YO(a b:String)(K:uG)(h1:(Value.type a==Value.type b)=kb)(h:(fastBuiltinMro a).map (·.contains (.type b))=eO kb)(hm:Br b=gP):Ad K (.type a) (.type b)=eO kb:=zrL h1 h hm rfl
def zkJ:zdm "int":=#[λK=>YO _ _ K ∅ (*...*) (*...*),λK=>zfE,λK=>Uk,λK=>YO _ _ K ∅ (*...*) (*...*),λK=>YO _ _ K ∅ (*...*) (*...*),λK=>YO _ _ K ∅ (*...*) (*...*)]
def zhu:zdm "bool":=#[λK=>YO _ _ K ∅ (*...*) (*...*),λK=>Uk,λK=>zfF,λK=>YO _ _ K ∅ (*...*) (*...*),λK=>YO _ _ K ∅ (*...*) (*...*),λK=>YO _ _ K ∅ (*...*) (*...*)]
def zkK:zdm "str":=#[λK=>YO _ _ K ∅ (*...*) (*...*),λK=>YO _ _ K ∅ (*...*) (*...*),λK=>YO _ _ K ∅ (*...*) (*...*),λK=>Uk,λK=>YO _ _ K ∅ (*...*) (*...*),λK=>YO _ _ K ∅ (*...*) (*...*)]
def zeV:zdm "tuple":=#[λK=>YO _ _ K ∅ (*...*) (*...*),λK=>YO _ _ K ∅ (*...*) (*...*),λK=>YO _ _ K ∅ (*...*) (*...*),λK=>YO _ _ K ∅ (*...*) (*...*),λK=>Uk,λK=>YO _ _ K ∅ (*...*) (*...*)]
def zhv:zdm "list":=#[λK=>YO _ _ K ∅ (*...*) (*...*),λK=>YO _ _ K ∅ (*...*) (*...*),λK=>YO _ _ K ∅ (*...*) (*...*),λK=>YO _ _ K ∅ (*...*) (*...*),λK=>YO _ _ K ∅ (*...*) (*...*),λK=>Uk]
noncomputable def Vd(c:String):Xv->Sto->mw (Xv×Sto):=λx S=>(znG c S x).map λb=>(.bl b,S)
def zpE{c:String}(ok:zdm c)(E1:En K F j H σ ρ S){b:Bool}{Q:VK}(h:Xis K j H x v)(e:znG c S x=eO b)(k:Q (.bl b) H):zpk K [v,.ty c] H Q:=by
 cases h with
 |non=>cases e;show#[_,_,_,_,_,rfl,rfl,.of .non,ok.non K,k]
 |bl b=>cases e;show#[_,_,_,_,_,rfl,rfl,.of (.bl b),ok.bl K,k]
 |int i=>cases e;show#[_,_,_,_,_,rfl,rfl,.of (.int i),ok.int K,k]
 |str z=>cases e;show#[_,_,_,_,_,rfl,rfl,.of (.str z),ok.str K,k]
 |tup h l=>cases e;show#[_,_,_,_,_,rfl,rfl,.sqt (SqT.of h),ok.tup K,k]
 |ct h l=>cases e;show#[_,_,_,_,_,rfl,rfl,.sqt (h H),ok.tup K,k]
 |lam h l=>cases e
 | @ref n a h=>
  simp only[znG] at e;cases e1:yo S (.ref n) with
  |none=>rw[e1] at e;cases e
  |some l=>
   rw[e1] at e;cases e;have#[a',vs,ea,g1,g2]:=E1.lstAt (.ref h) e1;cases ea;show#[_,_,_,_,_,rfl,rfl,.sql g1.sql,ok.lst K,k]
def zr1(ok:zdm c)(h:RE K E t m):RE K E (tCB (zpk K) (zb6 t (zb6 (tC (.ty c)) zlr))) (eUn (Vd c) m):=by
 walk_at "!a"
 .obtain⟨z,S3,e3,rfl⟩:=YN e;unfold Vd at e3;cases e4:znG c S1 x with
  |none=>rw[e4] at e3;cases e3
  |some b=>
   rw[e4] at e3;cases e3;show h En0 e1 λj1 H1 X1 E1 u hu=>zpE ok E1 hu e4 (k _ _ X1 E1 _ (.bl _))
 show h En0 e1 k
noncomputable def Uo:Xv->Sto->mw (Xv×Sto):=λx S=>(yo S x).map λl=>(.ref S.length,S++[.lst l.reverse])
def zjj(h:RE K E t m):RE K E (zhk K t) (eUn Uo m):=by
 walk_at "!a"
 .obtain⟨z,S3,e3,rfl⟩:=YN e;unfold Uo at e3;cases e4:yo S1 x with
  |none=>rw[e4] at e3;cases e3
  |some l=>
   rw[e4] at e3;cases e3;show h En0 e1 λj1 H1 X1 E1 u hu=> ?_;have#[p,ys,rfl,h1,h2]:=E1.lstAt hu e4;show#[p,ys,rfl,h1,λl hl=> ?_];have#[E2,X2,h3]:=E1.lst h2.reverse hl;show k _ _ (X1.trans X2) E2 _ h3
 show h En0 e1 k
end
end L2
namespace L2
noncomputable def zaj:Xv->mw Key
 | .int i=>eO (.inl i)
 | .str z=>eO (.inr z)
 |_=>fX
noncomputable def zaV(S:Sto):Xv->mw (Nat×kh (Key×Xv))
 | .ref n=>match S[n]? with
  |some (.dk af)=>eO (n,af)
  |_=>fX
 |_=>fX
noncomputable def zlP(S:Sto):Xv->mw (Nat×kh (Key×Xv))
 | .ref n=>match S[n]? with
  |some (.dk af)=>eO (n,af)
  |some (.fdk af)=>eO (n,af)
  |_=>fX
 |_=>fX
noncomputable def wS{κ:Type}[DecidableEq κ](af:kh (κ×Xv))(k:κ):mw Xv:=(af.find? λkv=>decide (kv.1=k)).map (·.2)
noncomputable def zdn{κ:Type}[DecidableEq κ](af:kh (κ×Xv))(k:κ)(x:Xv):kh (κ×Xv):=
 if (af.any λkv=>decide (kv.1=k))=gP then af.map (λkv=>if kv.1=k then (kv.1,x) else kv) else af++[(k,x)]
section
variable{E:XK}{F:Fm}{j:kh oN}{x:Xv}{v:V}{κ:Type}
def zaW(h:Xis K j H x v)(e:zaj x=eO k):v=kV k:=by
 cases h<;>simp only[zaj,A8,reduceCtorEq] at e<;>subst e<;>rfl
def zbJ(h:zaV S x=eO (n,af)):x= .ref n/\S[n]? =eO (.dk af):=by
 cases x<;>simp only[zaV,reduceCtorEq] at h
 split at h;cases h;show#[rfl,by assumption];cases h
def En.dk(E1:En K F j H σ ρ S)(hx:Xis K j H x v)(h:zaV S x=eO (n,af)):∃a ks,v= .ref a/\j[n]? =eO a/\H a=eO (.dK ks)/\KX K j H af ks:=by
 have#[rfl,hs]:=zbJ h;have#[a,rfl,hj]:=hx.ref_inv;have#[ks,e1,e2]:=E1.cel _ _ _ hs hj;show#[a,ks,rfl,hj,e1,e2]
def zpF(h:zaV S x=eO p):zlP S x=eO p:=by
 have#[n,af]:=p;have#[rfl,e]:=zbJ h;unfold zlP;dsimp only;rw[e]
set_option tactic.hygienic true in
def En.dr(E1:En K F j H σ ρ S)(hx:Xis K j H x v)(h:zlP S x=eO (n,af)):∃a ks,v= .ref a/\j[n]? =eO a/\Rd H a (.dK ks)/\KX K j H af ks:=by
 cases x<;>simp only[zlP,reduceCtorEq] at h
 have#[a,rfl,hj]:=hx.ref_inv;split at h;rename_i hs;cases h;have#[ks,e1,e2]:=E1.cel _ _ _ hs hj;show#[a,ks,rfl,hj,.inl e1,e2];rename_i hs;cases h;have#[o,ks,e1,e2]:=E1.cel _ _ _ hs hj;show#[a,ks,rfl,hj,.inr #[o,e1],e2];cases h
def zbC.r{a:oN}{af:kh (Key×V)}{k:Key}(e:Rd H a (.dK af)):zbC H a (kV k) (VX af k):= .inl #[af,k,e,rfl,rfl]
def KX.len{af:kh (κ×Xv)}{ks:kh (κ×V)}(h:KX K j H af ks):ks.length=af.length:=by
 induction h with
 |nil=>show rfl
 |cons h _ ih=>show congrArg (· +1) ih
def KX.val[DecidableEq κ]{k:κ}{af:kh (κ×Xv)}{ks:kh (κ×V)}(h:KX K j H af ks):(∀y,wS af k=eO y->∃w,VX ks k=eO w/\Xis K j H y w)/\(wS af k=fX->VX ks k=fX):=by
 induction h with
 |nil=>show#[λ_ e=>by simp[wS] at e,λ_=>rfl]
 | @cons k1 y1 w1 r rs h l ih=>
  have#[i1,i2]:=ih;by_cases e:k1=k;subst e;show#[λy ey=> ?_,λey=> ?_];simp[wS] at ey;subst ey;show#[w1,by simp[VX],h];simp[wS] at ey
  have e1:wS ((k1,y1)::r) k=wS r k:=by simp[wS,z0,e]
  have e2:VX ((k1,w1)::rs) k=VX rs k:=by simp[VX,z0,e]
  rw[e1,e2];show#[i1,i2]
def KX.append{af r:kh (κ×Xv)}{ks rs:kh (κ×V)}(h:KX K j H af ks)(g:KX K j H r rs):KX K j H (af++r) (ks++rs):=by
 induction h with
 |nil=>show g
 |cons h _ ih=>show .cons h ih
def KX.any{f:κ->Bool}(h:KX K j H af ks):(ks.any λp=>f p.1)=af.any λp=>f p.1:=by
 induction h with
 |nil=>rfl
 |cons h _ ih=>rw[Bc,Bc,ih]
set_option tactic.hygienic true in
def KX.put[DecidableEq κ]{k:κ}(hx:Xis K j H x v){af:kh (κ×Xv)}{ks:kh (κ×V)}(h:KX K j H af ks):KX K j H (zdn af k x) (zbB ks k v):=by
 unfold zdn zbB;rw[h.any (f:=λa=>decide (a=k))];split
 .rename_i hc;clear hc
  induction h with
  |nil=>show .nil
  | @cons k1 y w r rs h l ih=>
   rw[y4,y4];by_cases e:k1=k;rw[Gv e,Gv e];show .cons hx ih;rw[Gw e,Gw e];show .cons h ih
 show h.append (.cons hx .nil)
def En.wdk(E1:En K F j H σ ρ S)(h:zaV S x=eO (n,af))(hj:j[n]? =eO a)(hw:KX K j H kvs' ws):En K F j (upd H a (.dK ws)) σ ρ (S.set n (.dk kvs'))/\Ext j H j (upd H a (.dK ws)):=
 E1.write (zbJ h).2 rfl hj rfl λX=>#[ws,zW,hw.mono X]
noncomputable def Ve:TwE:=λ_ S=>eO (.ok (.ref S.length) (S++[.dk []]))
def zfS:RE K E zmH Ve:=by
 intro F j σ H ρ S r Q En0 e k p hp;cases e;have X:Ext j H (j++[p]) (upd H p (.dK [])):=#[λn a e=>by rw[uN (uF.1 e).1];show e,vn.same (wD hp)];have#[E1,_]:=En0.cell (o:= .dK []) (c:= .dk []) hp #[[],zW,.nil];show k _ _ X E1 _ (.ref (by rw[<-En0.jl];simp))
def zkL(d k:TwE):TwE:=λρ S=>rb (d ρ S) λx S1=>rb (k ρ S1) λy S2=>match zlP S2 x,zaj y with
 |some (_,af),eO key=>(wS af key).map λz=> .ok z S2
 |_,_=>fX
set_option tactic.hygienic true in
def zpG(hd:RE K E td d)(hk:RE K E ty k):RE K E (zqZ td ty) (zkL d k):=by
 intro F j σ H ρ S r Q En0 e kk;rcases zK e with⟨x,S1,e1,e⟩|⟨c,S1,e1,rfl⟩
 .show hd En0 e1 λj1 H1 X1 E1 u hu=> ?_;rcases zK e with⟨y,S2,e2,e⟩|⟨c,S2,e2,rfl⟩
  .show hk E1 e2 λj2 H2 X2 E2 w hw=> ?_;split at e
   .rename_i n af key ed ek;cases ev:wS af key with
    |none=>rw[ev] at e;cases e
    |some z=>
     rw[ev] at e;cases e;have#[a,ks,rfl,hj,f1,f2]:=E2.dr (hu.mono X2) ed;have#[z',g1,g2]:=f2.val.1 _ ev;show#[a,z',rfl,?_,kk _ _ (X1.trans X2) E2 _ g2];rw[zaW hw ek,<-g1];show zbC.r f1
   cases e
  show hk E1 e2 (PX.mono kk X1)
 show hd En0 e1 kk
def zr2(neg:Bool)(k d:TwE):TwE:=λρ S=>rb (k ρ S) λy S1=>rb (d ρ S1) λx S2=>match zaV S2 x,zaj y with
 |some (_,af),eO key=>eO (.ok (.bl (neg !=(wS af key).isSome)) S2)
 |_,_=>fX
def Tr(f1:H a=eO (.dK ks))(f2:KX K j H af ks):∃o,zbC H a (kV key) o/\o.isSome=(wS af key).isSome/\∀z zd,Xis K j H z zd->Xis K j H ((wS af key).getD z) (o.getD zd):=by
 show#[_,zbC.k f1,?_,λz zd hz=> ?_]
 .cases ev:wS af key with
  |none=>rw[f2.val.2 ev];rfl
  |some y=>have#[w,g1,_]:=f2.val.1 _ ev;rw[g1];rfl
 cases ev:wS af key with
 |none=>rw[f2.val.2 ev];show hz
 |some y=>have#[w,g1,g2]:=f2.val.1 _ ev;rw[g1];show g2
set_option tactic.hygienic true in
def zlQ(hk:RE K E ty k)(hd:RE K E td d):RE K E (zkv ty td) (zr2 gP k d):=by
 intro F j σ H ρ S r Q En0 e kk;rcases zK e with⟨y,S1,e1,e⟩|⟨c,S1,e1,rfl⟩
 .show hk En0 e1 λj1 H1 X1 E1 u hu=> ?_;rcases zK e with⟨x,S2,e2,e⟩|⟨c,S2,e2,rfl⟩
  .show hd E1 e2 λj2 H2 X2 E2 w hw=> ?_;split at e;rename_i n af key ed ek;cases e;have#[a,ks,rfl,hj,f1,f2]:=E2.dk hw ed;have#[o,g1,g2,_]:=Tr (key:=key) f1 f2;show#[a,o,rfl,by rw[zaW (hu.mono X2) ek];show g1,kk _ _ (X1.trans X2) E2 _ ?_];rw[g2,Eb];show .bl _;cases e
  show hd E1 e2 (PX.mono kk X1)
 show hk En0 e1 kk
def zjk(d k v:TwE):TwS:=λρ S=>sb (v ρ S) λz S1=>sb (d ρ S1) λx S2=>sb (k ρ S2) λy S3=>match zaV S3 x,zaj y with
 |some (n,af),eO key=>if af.length<FC then eO (.nx ρ (S3.set n (.dk (zdn af key z)))) else fX
 |_,_=>fX
set_option tactic.hygienic true in
def zpH{td ty tv:TE}{d k v:TwE}(hd:RE K E td d)(hk:RE K E ty k)(hv:RE K E tv v):RS K E (zq0 td ty tv) (zjk d k v):=by
 intro F j D' σ H ρ S fl E0 e kk;rcases xY e with⟨z,S1,e1,e⟩|⟨c,S1,e1,rfl⟩
 .show hv E0 e1 λj1 H1 X1 E1 wz n9=> ?_;rcases xY e with⟨x,S2,e2,e⟩|⟨c,S2,e2,rfl⟩
  .show hd E1 e2 λj2 H2 X2 E2 u hu=> ?_;rcases xY e with⟨y,S3,e3,e⟩|⟨c,S3,e3,rfl⟩
   .show hk E2 e3 λj3 H3 X3 E3 w hw=> ?_;split at e;rename_i n af key ed ek;split at e;rename_i hl;cases e;have#[a,ks,rfl,hj,f1,f2]:=E3.dk (hu.mono X3) ed;have#[E4,X4]:=E3.wdk ed hj (f2.put (k:=key) (n9.mono (X2.trans X3)));show#[a,_,rfl,?_,kk _ _ _ (X1.trans (X2.trans (X3.trans X4))) E4];rw[zaW hw ek];show ziU.k f1 (by rw[f2.len];show hl);cases e;cases e
   show hk E2 e3 (PX.mono kk (X1.trans X2))
  show hd E1 e2 (PX.mono kk X1)
 show hv E0 e1 kk
end
open PySem.Builtin.Int (intBits)
def W{α:Type}(r:mw (Rs α))(P:α->Sto->Prop):Prop:=∃a S,r=eO (.ok a S)/\P a S
def WO(r:mw (Xv×Sto))(P:Xv->Sto->Prop):Prop:=∃a S,r=eO (a,S)/\P a S
def WS(r:mw Fl)(N:Rho->Sto->Prop)(R:Xv->Sto->Prop):Prop:=(∃ρ S,r=eO (.nx ρ S)/\N ρ S)\/∃x S,r=eO (.rt x S)/\R x S
section
variable{s t:TwS}{PB:Bool->Sto->Prop}{PL:kh Xv->Sto->Prop}{PO:mw Int->Sto->Prop}
def W.of{α:Type}{r:mw (Rs α)}{a:α}{P:α->Sto->Prop}(e:r=eO (.ok a S))(h:P a S):W r P:=#[a,S,e,h]
def WO.of(e:r=eO (x,S))(h:P x S):WO r P:=#[x,S,e,h]
def W.imp{α:Type}{r:mw (Rs α)}{P Q:α->Sto->Prop}(h:W r P)(k:∀a S,P a S->Q a S):W r Q:=by
 have#[a,S,e,h]:=h;show#[a,S,e,k _ _ h]
theorem W.zW0{r:Option (Rs Xv)}{f:Sto->Xv}{Q:Sto->Prop}{P:Xv->Sto->Prop}(h:W r fun v S=>v=f S/\Q S)(k:∀S,Q S->P (f S) S):W r P:=W.imp h fun v S z=>by cases z.1;exact k S z.2
theorem W.zW1{ta:Type _}{r:Option (Rs Xv)}{f:ta->Sto->Xv}{Q:ta->Sto->Prop}{P:Xv->Sto->Prop}(h:W r fun v S=>∃a,v=f a S/\Q a S)(k:∀a,∀S,Q a S->P (f a S) S):W r P:=W.imp h fun v S z=>by cases z with|_ a z=> cases z.1;exact k a S z.2
theorem W.zW2{ta:Type _}{tb:Type _}{r:Option (Rs Xv)}{f:ta->tb->Sto->Xv}{Q:ta->tb->Sto->Prop}{P:Xv->Sto->Prop}(h:W r fun v S=>∃a,∃b,v=f a b S/\Q a b S)(k:∀a,∀b,∀S,Q a b S->P (f a b S) S):W r P:=W.imp h fun v S z=>by cases z with|_ a z=> cases z with|_ b z=> cases z.1;exact k a b S z.2
def WS.nx(e:r=eO (.nx ρ S))(h:N ρ S):WS r N R:= .inl #[ρ,S,e,h]
def WS.rt(e:r=eO (.rt x S))(h:R x S):WS r N R:= .inr #[x,S,e,h]
def W.bind{α β:Type}{r:mw (Rs α)}{f:α->Sto->mw (Rs β)}{P:β->Sto->Prop}(h:W r λa S=>W (f a S) P):W (rb r f) P:=by
 have#[a,S,rfl,h]:=h;show h
def WS.bind{α:Type}{r:mw (Rs α)}{f:α->Sto->mw Fl}(h:W r λa S=>WS (f a S) N R):WS (sb r f) N R:=by
 have#[a,S,rfl,h]:=h;show h
def W.okP(h:WO r P):W (okP r) P:=by
 have#[a,S,rfl,h]:=h;show#[a,S,rfl,h]
def zr(h:ρ[i]? =eO (eO d))(k:P d S):W (zi i ρ S) P:= .of (by unfold zi;rw[h]) k
def ZU(k:P d S):W (eC d ρ S) P:= .of rfl k
def zN(h:W (a ρ S) λx S1=>W (b ρ S1) λy S2=>WO (f x y S2) P):W (eOp f a b ρ S) P:=W.bind (h.imp λ_ _ h=>W.bind (h.imp λ_ _ h=>W.okP h))
def znH{f:Xv->Sto->mw (Xv×Sto)}(h:W (a ρ S) λx S1=>WO (f x S1) P):W (eUn f a ρ S) P:=W.bind (h.imp λ_ _ h=>W.okP h)
def xj(h:W (a ρ S) λx S1=>∃v,x= .bl v/\PB v S1):W (bE a ρ S) PB:=W.bind (h.imp λx S1 h=>by have#[v,rfl,k]:=h;show .of rfl k)
def ztF(h:W (c ρ S) λv S1=>P (.bl v) S1):W (eB c ρ S) P:=W.bind (h.imp λ_ _ k=> .of rfl k)
def zfT(h:W (c ρ S) λv S1=>PB (!v) S1):W (Um c ρ S) PB:=W.bind (h.imp λ_ _ k=> .of rfl k)
def xy(h:W (c ρ S) λv S1=>(v=gP->W (c2 ρ S1) PB)/\(v=kb->PB kb S1)):W (zbG c c2 ρ S) PB:=W.bind (h.imp λv S1 k=>by
 cases v with
 |true=>rw[Gv rfl];show k.1 rfl
 |false=>show .of rfl (k.2 rfl))
def zcb(h:W (c ρ S) λv S1=>(v=gP->PB gP S1)/\(v=kb->W (c2 ρ S1) PB)):W (bOr c c2 ρ S) PB:=W.bind (h.imp λv S1 k=>by
 cases v with
 |true=>show .of rfl (k.1 rfl)
 |false=>rw[Gw (by simp)];show k.2 rfl)
def Xy(h:W (a ρ S) λx S1=>∃v,x= .bl v/\(v=gP->W (b ρ S1) P)/\(v=kb->P (.bl kb) S1)):W (zct a b ρ S) P:=W.bind ((xj h).imp λv S1 k=>by
 cases v with
 |true=>rw[Gv rfl];show k.1 rfl
 |false=>show .of rfl (k.2 rfl))
def Wb(h:W (c ρ S) λv S1=>(v=gP->W (a ρ S1) P)/\(v=kb->W (b ρ S1) P)):W (eIf c a b ρ S) P:=W.bind (h.imp λv S1 k=>by
 cases v with
 |true=>rw[Gv rfl];show k.1 rfl
 |false=>rw[Gw (by simp)];show k.2 rfl)
def yw(k:PL [] S):W (evL [] ρ S) PL:= .of rfl k
def zm(h:W (m ρ S) λd S1=>W (evL ms ρ S1) λds S2=>PL (d::ds) S2):W (evL (m::ms) ρ S) PL:=W.bind (h.imp λ_ _ h=>W.bind (h.imp λ_ _ k=> .of rfl k))
def YQ(h:W (evL ms ρ S) λds S1=>P (.tup ds) S1):W (yQ ms ρ S) P:=W.bind (h.imp λ_ _ k=> .of rfl k)
def zjl(h:W (evL ms ρ S) λds S1=>P (.ref S1.length) (S1++[.lst ds])):W (TJ ms ρ S) P:=W.bind (h.imp λ_ _ k=> .of rfl k)
def xR(h:W (evL ms ρ S) λds S1=>WO (f ds S1) P):W (eFn f ms ρ S) P:=W.bind (h.imp λ_ _ h=>W.okP h)
def yb(h:W (evL ms ρ S) λds S1=>W (tw ds S1) P):W (zx tw ms ρ S) P:=W.bind h
def zr3(k:PO fX S):W (oNo ρ S) PO:= .of rfl k
def znI(h:W (m ρ S) λx S1=>∃k,x= .int k/\PO (eO k) S1):W (WI m ρ S) PO:=W.bind (h.imp λx S1 h=>by have#[v,rfl,k]:=h;show .of rfl k)
def zkM{f:Xv->mw Int->mw Int->Sto->mw (Xv×Sto)}{lo hi:TwO}(h:W (m ρ S) λx S1=>W (lo ρ S1) λu S2=>W (hi ρ S2) λv S3=>WO (f x u v S3) P):W (eSl f m lo hi ρ S) P:=
 W.bind (h.imp λ_ _ h=>W.bind (h.imp λ_ _ h=>W.bind (h.imp λ_ _ h=>W.okP h)))
def TU(h:W (o ρ S) λx S1=>(∃l,yo S1 x=eO l)/\W (evL ms ρ S1) λys S2=>WO (f x ys S2) P):W (eMt f o ms ρ S) P:=W.bind (h.imp λx S1 h=>by
 have#[#[l,e],h]:=h;rw[e,y0]
 show W.bind (h.imp λ_ _ h=>W.okP h))
def znJ(k:P (.ref S.length) (S++[.dk []])):W (Ve ρ S) P:= .of rfl k
def znK(h:W (a ρ S) λx S1=>W (b ρ S1) λy S2=>∃n af k z,zlP S2 x=eO (n,af)/\zaj y=eO k/\wS af k=eO z/\P z S2):W (zkL a b ρ S) P:=
 W.bind (h.imp λ_ _ h=>W.bind (h.imp λ_ _ h=>by have#[n,af,k,z,e1,e2,e3,q]:=h;rw[e1,e2];dsimp only;rw[e3];show .of rfl q))
def zpI(h:W (a ρ S) λx S1=>W (b ρ S1) λy S2=>∃n af k z,zaV S2 x=eO (n,af)/\zaj y=eO k/\wS af k=eO z/\P z S2):W (zkL a b ρ S) P:=znK (h.imp λ_ _ h=>h.imp λ_ _ ⟨n,af,k,z,e,r⟩=>#[n,af,k,z,zpF e,r])
def zr4(h:W (a ρ S) λy S1=>W (b ρ S1) λx S2=>∃n af k,zaV S2 x=eO (n,af)/\zaj y=eO k/\P (.bl (neg !=(wS af k).isSome)) S2):W (zr2 neg a b ρ S) P:=
 W.bind (h.imp λ_ _ h=>W.bind (h.imp λ_ _ h=>by have#[n,af,k,e1,e2,q]:=h;rw[e1,e2];show .of rfl q))
def zpJ(h:W (m ρ S) λz S1=>W (a ρ S1) λx S2=>W (b ρ S2) λy S3=>∃n af k,zaV S3 x=eO (n,af)/\zaj y=eO k/\af.length<FC/\N ρ (S3.set n (.dk (zdn af k z)))):WS (zjk a b m ρ S) N R:=
 WS.bind (h.imp λ_ _ h=>WS.bind (h.imp λ_ _ h=>WS.bind (h.imp λ_ _ h=>by have#[n,af,k,e1,e2,e3,q]:=h;rw[e1,e2];dsimp only;rw[Gv e3];show .nx rfl q)))
def zo(h:WS (s ρ S) (λρ1 S1=>WS (t ρ1 S1) N R) R):WS (zw s t ρ S) N R:=by
 unfold zw;rcases h with⟨ρ1,S1,e,h⟩|⟨x,S1,e,h⟩
 .rw[e];show h
 rw[e];show .rt rfl h
def zt(h:N ρ S):WS (zP ρ S) N R:= .nx rfl h
def zR(h:W (m ρ S) λd S1=>N (ρ.set i (eO d)) S1):WS (zI m (gN i) ρ S) N R:=WS.bind (h.imp λ_ _ k=> .nx rfl k)
def zdo(h:W (m ρ S) λd S1=>W (a ρ S1) λx S2=>W (b ρ S2) λy S3=>∃n l q j,zag S3 x=eO (n,l)/\y= .int q/\ixN l.length q=eO j/\N ρ (S3.set n (.lst (l.set j d)))):WS (zI m (zdb a b) ρ S) N R:=
 WS.bind (h.imp λd S1 h=>WS.bind (W.bind (h.imp λx S2 h=>W.bind (h.imp λy S3 h=>by
  have#[n,l,q,j,e1,rfl,e2,k]:=h;rw[e1];dsimp only;rw[e2]
  show .of rfl (.nx rfl k)))))
def zaX(h:W (m ρ S) λ_ S1=>N ρ S1):WS (VO m ρ S) N R:=WS.bind (h.imp λ_ _ k=> .nx rfl k)
def yc(h:W (m ρ S) λd S1=>R d S1):WS (zO m ρ S) N R:=WS.bind (h.imp λ_ _ k=> .rt rfl k)
def zy(h:W (c ρ S) λv S1=>(v=gP->WS (s ρ S1) N R)/\(v=kb->WS (t ρ S1) N R)):WS (sIf c s t ρ S) N R:=WS.bind (h.imp λv S1 k=>by
 cases v with
 |true=>rw[Gv rfl];show k.1 rfl
 |false=>rw[Gw (by simp)];show k.2 rfl)
def ZB(I:Rho->Sto->Prop)(h:WS r I R)(k:∀ρ S,I ρ S->N ρ S):WS r N R:=by
 rcases h with⟨ρ,S,e,h⟩|h;show .inl #[ρ,S,e,k ρ S h];show .inr h
def zkN(h:WS (zai c s n ρ S) N R):WS (sWh n c s ρ S) N R:=h
def Xz(h:W (c ρ S) λv S1=>(v=gP->WS (s ρ S1) (λρ2 S2=>WS (zai c s n ρ2 S2) N R) R)/\(v=kb->N ρ S1)):WS (zai c s (n+1) ρ S) N R:=by
 unfold zai;show WS.bind (h.imp λv S1 k=> ?_);cases v with
 |true=>
  rw[Gv rfl];rcases k.1 rfl with⟨ρ2,S2,e2,h⟩|⟨x,S2,e2,h⟩
  .rw[e2];show h
  rw[e2];show .rt rfl h
 |false=>show .nx rfl (k.2 rfl)
def xJ(h:W (n ρ S) λget S1=>∃xs,get S1=eO xs/\WS (TQ get g s (xs.length+1) 0 ρ S1) N R):WS (vQ n g s ρ S) N R:=WS.bind (h.imp λget S1 h=>by
 have#[xs,e,h]:=h;rw[e,y0]
 show h)
def yZ{get:Sto->mw (kh Xv)}(J:Nat->Rho->Sto->Prop)(hg:∀i ρ S,i<=xs.length->J i ρ S->get S=eO xs)
  (h:∀(i:Nat) (x:Xv) ρ S,xs[i]? =eO x->J i ρ S->W (g x ρ S) λρ1 S1=>WS (s ρ1 S1) (λρ2 S2=>J (i+1) ρ2 S2) R) (h0:J 0 ρ S) (k:∀ρ S,J xs.length ρ S->N ρ S):WS (TQ get g s (xs.length+1) 0 ρ S) N R:=by
 have aux:∀(n i:Nat) (ρ:Rho) (S:Sto),i+n=xs.length->J i ρ S->WS (TQ get g s (n+1) i ρ S) N R:=by
  intro n
  induction n with
  |zero=>
   intro i ρ S e hj;unfold TQ;rw[hg i ρ S ⋯ hj,y0,x8 ⋯];dsimp only;rw[Gv ⋯];show .nx rfl (k ρ S (by rw[show xs.length=i by omega];show hj))
  |succ n ih=>
   intro i ρ S e hj;unfold TQ;have hi:i<xs.length:=by omega
   rw[hg i ρ S ⋯ hj,y0,uH hi];show WS.bind ((h i _ ρ S (uH hi) hj).imp λρ1 S1 h1=> ?_);rcases h1 with⟨ρ2,S2,e2,h2⟩|⟨x,S2,e2,h2⟩
   .rw[e2];show ih (i+1) ρ2 S2 ⋯ h2
   rw[e2];show .rt rfl h2
 show aux xs.length 0 ρ S ⋯ h0
def TV(h:W (m ρ S) λx S1=>∃l,yo S1 x=eO l/\Q' (λS=>yo S x) S1):W (iL m ρ S) Q':=W.bind (h.imp λx S1 h=>by
 have#[l,e,k]:=h;rw[e]
 show .of rfl k)
def zeW{Q':(Sto->mw (kh Xv))->Sto->Prop}(h:W (m ρ S) λx S1=>∃l,x.tupOf=eO l/\Q' (λ_=>eO l) S1):W (iT m ρ S) Q':=W.bind (h.imp λx S1 h=>by
 have#[l,e,k]:=h;rw[e]
 show .of rfl k)
def wA{Q':(Sto->mw (kh Xv))->Sto->Prop}(h:W (m ρ S) λx S1=>∃k:Int,x= .int k/\(-(2^62)<=k/\k<2^62)/\Q' (λ_=>eO (wd 0 k.toNat)) S1):W (iR1 m ρ S) Q':=W.bind (h.imp λx S1 h=>by
 have#[k,rfl,hk,q]:=h;dsimp only;rw[Gv hk]
 show .of rfl q)
def xf{lo:Int}{n i:Nat}{x:Xv}(h:(wd lo n)[i]? =eO x):i<n/\x= .int (lo+i):=by
 unfold wd at h;rw[uK] at h;have hi:i<n:=by
  apply BX;intro hn;rw[x8 (by simp;omega)] at h;cases h
 rw[CH hi] at h;cases h;show#[hi,rfl]
def yd{lo:Int}{n:Nat}:(wd lo n).length=n:=by simp[wd]
def xN(h:W (n ρ S) λget S1=>∃xs,get S1=eO xs/\W (XY get g c m (vI cap ρ) (xs.length+1) 0 [] S1) P):W (xP cap n g c m ρ S) P:=W.bind (h.imp λget S1 h=>by
 have#[xs,e,h]:=h;rw[e,y0]
 show h)
def xb{get:Sto->mw (kh Xv)}(hl:xs.length<=FC)(J:Nat->kh Xv->Sto->Prop)(hg:∀i es S,i<=xs.length->J i es S->get S=eO xs)
  (h:∀(i:Nat) (x:Xv) es S,xs[i]? =eO x->es.length=i->J i es S->W (g x ρc S) λρ1 S1=>W (c ρ1 S1) λb S2=>b=gP/\W (m ρ1 S2) λy S3=>J (i+1) (es++[y]) S3) (h0:J 0 [] S)
  (k:∀es S,es.length=xs.length->J xs.length es S->P (.ref S.length) (S++[.lst es])):W (XY get g c m ρc (xs.length+1) 0 [] S) P:=by
 have aux:∀(n i:Nat) (es:kh Xv) (S:Sto),i+n=xs.length->es.length=i->J i es S->W (XY get g c m ρc (n+1) i es S) P:=by
  intro n
  induction n with
  |zero=>
   intro i es S e el hj;unfold XY;rw[hg i es S ⋯ hj,y0,x8 ⋯];dsimp only;rw[Gv ⋯];show .of rfl (k es S ⋯ (by rw[show xs.length=i by omega];show hj))
  |succ n ih=>
   intro i es S e el hj;unfold XY;have hi:i<xs.length:=by omega
   rw[hg i es S ⋯ hj,y0,uH hi];have#[ρ1,S1,e1,b,S2,e2,rfl,y,S3,e3,q]:=h i _ es S (uH hi) el hj;dsimp only[rn];rw[e1];dsimp only[rn];rw[e2];dsimp only[rn];rw[Gv rfl,e3];dsimp only[rn];rw[Gv ⋯];show ih (i+1) (es++[y]) S3 ⋯ (by simp[el]) q
 show aux xs.length 0 [] S ⋯ rfl h0
def zpK(k:PB gP S):W (xQ ρ S) PB:= .of rfl k
def zr5{ρ0:Rho}(hn:xs.length=n)(h0:xs.map eO++w5 k fX=ρ0)(h:WS (s ρ0 S) (λ_ S1=>P .non S1) P):W (zQ n k s xs S) P:=by
 unfold zQ;rw[Gv hn,h0];rcases h with⟨ρ,S1,e,h⟩|⟨x,S1,e,h⟩
 .rw[e];show .of rfl h
 rw[e];show .of rfl h
def zr6(k:P (.int (p+q)) S):WO (vR (.int p) (.int q) S) P:= .of rfl k
def zr7(k:P (.int (p-q)) S):WO (zfO (.int p) (.int q) S) P:= .of rfl k
def ztG(k:P (.bl (decide (p<q))) S):WO (dLt (.int p) (.int q) S) P:= .of rfl k
def ztH(k:P (.bl (decide (q<p))) S):WO (dGt (.int p) (.int q) S) P:= .of rfl k
def ztI(k:P (.bl (decide (q<=p))) S):WO (dGe (.int p) (.int q) S) P:= .of rfl k
def zjm(k:P (.bl (decide (p=q))) S):WO (vV (.int p) (.int q) S) P:= .of rfl k
def znL(k:P (.bl (!decide (p=q))) S):WO (zdh (.int p) (.int q) S) P:= .of rfl k
def vt(h:0<q)(k:P (.int (p % q)) S):WO (YB (.int p) (.int q) S) P:= .of (by unfold YB xIC;show Gv (by simpa using h)) k
def xa(h:intBits p+intBits q<=134217728)(k:P (.int (p*q)) S):WO (xZ (.int p) (.int q) S) P:= .of (by unfold xZ xIC;show Gv (by simpa using h)) k
def zr8(h:(-(2^64)<p/\p<2^64)\/(-(2^64)<q/\q<2^64))(k:P (.int (p*q)) S):WO (zlN (.int p) (.int q) S) P:= .of (by unfold zlN xIC;show Gv (decide_eq_true h)) k
def zr9(h:0<=q/\q<=1000000/\p.natAbs<2^64)(k:P (.int (p^q.toNat)) S):WO (zfP (.int p) (.int q) S) P:= .of (by unfold zfP xIC;show Gv (decide_eq_true h)) k
def zcM(h:0<q/\q<1073741824)(k:P (.int (p / q)) S):WO (zaR (.int p) (.int q) S) P:= .of (by unfold zaR xIC;show Gv (decide_eq_true h)) k
def zhw(h:q≠0/\intBits q<=9000)(k:P (.int (p.fdiv q)) S):WO (zdg (.int p) (.int q) S) P:= .of (by unfold zdg xIC;show Gv (decide_eq_true h)) k
def zsa(k:P (.int (if q<p then q else p)) S):WO (zrZ [.int p,.int q] S) P:= .of rfl k
def zsb(k:P (.int (if q>p then q else p)) S):WO (zr0 [.int p,.int q] S) P:= .of rfl k
def zfU(h:yo S x=eO l)(k:P (.int l.length) S):WO (wx [x] S) P:= .of (by
 unfold wx Yu;dsimp only;have:x.tupOf=fX:=by cases x<;>first|rfl|cases h
 rw[this];dsimp only;rw[h]
 rfl) k
def xk(h:yo S x=eO l)(e:atI l p=eO z)(k:P z S):WO (wR x (.int p) S) P:= .of (by unfold wR;rw[h];dsimp only;rw[e];rfl) k
def zH(h:x.tupOf=eO l)(e:atI l p=eO z)(k:P z S):WO (zG x (.int p) S) P:= .of (by unfold zG;rw[h];dsimp only;rw[e];rfl) k
def Up{β:Type}{x:β}{l:kh β}:atI (x::l) 0=eO x:=by
 unfold atI ixN;rw[Gv (show(0:Int)<=0 by decide),Gv (by simp only[uW];omega)];rfl
def VR{β:Type}{x y:β}{l:kh β}:atI (x::y::l) 1=eO y:=by
 unfold atI ixN;rw[Gv (show(0:Int)<=1 by decide),Gv (by simp only[uW];omega)];rfl
def zsc(k:P x S):WO (zG (.tup (x::l)) (.int 0) S) P:=zH rfl Up k
def zsd(k:P y S):WO (zG (.tup (x::y::l)) (.int 1) S) P:=zH rfl VR k
def zbK{β:Type}{l:kh β}{z:β}(h0:0<=k)(h:l[k.toNat]? =eO z):atI l k=eO z:=by
 have hk:=(uF.1 h).1;unfold atI ixN;rw[Gv h0,Gv ⋯];show h
def YH(h:zag S x=eO (n,l))(hz:l.length<FC)(k:P .non (S.set n (.lst (l++[y])))):WO (vD x [y] S) P:= .of (by unfold vD;rw[h];dsimp only;rw[Gv hz]) k
def znM{l:kh Xv}{lo hi:mw Int}(h:yo S x=eO l)(k:P (.ref S.length) (S++[.lst (zbH l lo hi)])):WO (zhp x lo hi S) P:= .of (by unfold zhp;rw[h];rfl) k
def ztJ(h:Yu S y=eO l)(hf:(wo x&&l.all wo)=gP)(k:P (.bl (neg !=l.any λz=>zfR z x)) S):WO (dIn neg x y S) P:= .of (by unfold dIn;rw[h,y0,Gv hf]) k
def vJ(h:znG c S x=eO v)(k:P (.bl v) S):WO (Vd c x S) P:= .of (by unfold Vd;rw[h];rfl) k
end
def wG:yo (S++[.lst l]) (.ref S.length)=eO l:=by simp[yo]
def vh(h:S[n]? =eO (.lst l)):zag S (.ref n)=eO (n,l):=by simp[zag,h]
def zA(h:S[n]? =eO (.lst l)):yo S (.ref n)=eO l:=by simp[yo,h]
def zaY(h:S[n]? =eO (.dk l)):zaV S (.ref n)=eO (n,l):=by simp[zaV,h]
end L2
namespace L2
open PySem.Calls
section
variable{E:XK}
noncomputable def zdp(xs ys:kh Xv):kh Xv:=(xs.zip ys).map λp=> .tup [p.1,p.2]
def zkO{xs ys:kh Xv}{i:Nat}{z:Xv}(h:(zdp xs ys)[i]? =eO z):∃x y,xs[i]? =eO x/\ys[i]? =eO y/\z= .tup [x,y]:=by
 unfold zdp at h;rw[uK] at h;cases e:(xs.zip ys)[i]? with
 |none=>rw[e] at h;cases h
 |some p=>
  rw[e] at h;cases h;have:=BZ.1 e;show#[p.1,p.2,this.1,this.2,rfl]
def zhx(xs ys:kh Xv):(zdp xs ys).length=min xs.length ys.length:=by simp[zdp]
end
end L2
namespace L2
open PySem.Calls PySem.W
section
variable{cmp:Nat->Nat->(Bool->oM->Prop)->oM->Prop}{r:Nat->Int}{n:Nat}
end
section
variable{w:World}
end
open PySem.AutoSeq1 (wpAny_loadPart')
open PySem.MeetsSeq PySem.MeetsSeq2 PySem.MeetsSeq3
section
variable{w:World}
end
end L2
namespace L2
open PySem.Calls PySem.W
section
variable{a:oN}{d:V}{u r:oJ}{af:kh (Key×V)}{k:Key}
end
section
variable{o e f:Expr}{apos bV:Pos}{td ty tx:TE}
end
open PySem.AutoSeq1 (wpAny_loadPart')
section
variable{w:World}
end
end L2
namespace L2
open PySem.Calls PySem.W
section
variable{w:World}
end
open PySem.AutoSeq1 (wpAny_loadPart')
section
variable{w:World}
end
end L2
namespace L2
open PySem.Calls
mutual
inductive vS(h:Heap):NK->Value->Prop where
 |int (i:Int) (t:Tok):vS h (.int i) (.int i t)
 |str (x:Str) (t:Tok):vS h (.str x) (.str x t)
 |tup {a:Addr} {o:Obj} {items:Array Value} {n:Nat} {l:List NK}:h.get? a=eO o->o.cls= .type "tuple"->o.data= .seq items n->Zs h l items.toList->vS h (.tup l) (.ref a)
inductive Zs(h:Heap):List NK->List Value->Prop where
 |nil:Zs h [] []
 |cons {k:NK} {v:Value} {ks:List NK} {vs:List Value}:vS h k v->Zs h ks vs->Zs h (k::ks) (v::vs)
end
mutual
noncomputable def TW:NK->Nat
 | .int _=>1
 | .str _=>1
 | .tup l=>vW l+1
noncomputable def vW:kh NK->Nat
 |[]=>0
 |k::r=>TW k+vW r
end
section
def vS.inj(hx:vS h x v):vS h y v->x=y:=by
 show vS.rec (motive_1:=λx v _=>∀y,vS h y v->x=y) (motive_2:=λx v _=>∀y,Zs h y v->x=y) ?_ ?_ ?_ ?_ ?_ hx y;intro i t y hy;cases hy;rfl;intro x t y hy;cases hy;rfl
 .intro a o items n l e1 e2 e3 l1 ih y hy;cases hy with
  |tup f1 f2 f3 l2=>
   rw[e1] at f1;cases f1;rw[e3] at f3;injection f3 with g1 g2;subst g1;rw[ih _ l2]
 .intro y hy;cases hy;rfl
 intro k v ks vs a l i1 i2 y hy;cases hy with
 |cons b m=>rw[i1 _ b,i2 _ m]
def Zs.ind{m:kh NK->kh oJ->Prop}(h0:m [] [])(h1:∀{k:NK} {v:oJ} {ks:kh NK} {vs:kh oJ},vS h k v->Zs h ks vs->m ks vs->m (k::ks) (v::vs)){v:kh oJ}(hx:Zs h x v):m x v:=
 Zs.rec (motive_1:=λ_ _ _=>True) (motive_2:=λx v _=>m x v) (λ_ _=>trivial) (λ_ _=>trivial) (λ_ _ _ _ _=>trivial) h0 (λa b _ c=>h1 a b c) hx
def vS.keeps(ho:h.get? d=eO o)(hd:o.data= .dict es ep)(hs:Heap.SameBut d h h')(hx:vS h x v):vS h' x v:=
 vS.rec (motive_1:=λx v _=>vS h' x v) (motive_2:=λx v _=>Zs h' x v) .int .str (λ{a} {_ _ _ _} e1 e2 e3 _ ih=>by
  have di:a≠d:=by
   rintro rfl;rw[ho] at e1;cases e1;rw[hd] at e3;show nomatch e3
  show .tup ((hs.2 a di).trans e1) e2 e3 ih) .nil (λ_ _ a l=> .cons a l) hx
def Zs.len(hx:Zs h x v):x.length=v.length:=hx.ind (m:=λx v=>x.length=v.length) rfl λ_ _ e=>congrArg (· +1) e
def Zs.get{x:kh NK}{v:kh oJ}{i:Nat}{k:NK}(hx:Zs h x v):x[i]? =eO k->∃u,v[i]? =eO u/\vS h k u:=
 hx.ind (m:=λx v=>∀i,x[i]? =eO k->∃u,v[i]? =eO u/\vS h k u) (λi e=>by simp at e) (λa _ ih i e=>by
  cases i with
  |zero=>simp at e;subst e;show#[_,rfl,a]
  |succ i=>show ih i e) i
end
theorem Tt:∀{l:kh NK} {k:NK},k∈l->Zu k<=VM l
 |[],_,h=>by cases h
 |a::r,k,h=>by
  unfold VM;rcases uU.1 h with rfl|h;show Nat.le_max_left _ _;show uP (Tt h) (Nat.le_max_right _ _)
section
def zpL:∀(n:Nat) {A:Around} {s:oM} {k:NK} {v:oJ} {Q:Int->oM->Prop},Zu k<=n->A.units+n<cLine->vS s.heap k v->Q (VL w k) {s with toks:=s.toks+TW k}->wpAny (model prog w) A (pyHash v) Q E s:=by
 intro n
 induction n with
 |zero=>
  intro A s k v Q hn hu hk h;cases hk with
  |int i t=>show wpAny_pyHash_int (by simpa [VL,TW,ziB] using h)
  |str x t=>show wpAny_pyHash_str (by simpa [VL,TW,ziB] using h)
  |tup _ _ _ _=>unfold Zu at hn;omega
 |succ n ih=>
  intro A s k v Q hn hu hk h;cases hk with
  |int i t=>show wpAny_pyHash_int (by simpa [VL,TW,ziB] using h)
  |str x t=>show wpAny_pyHash_str (by simpa [VL,TW,ziB] using h)
  | @tup a o items m ks ho hc hd hi=>
   have ty:s.TypeIs (.ref a) "tuple":=#[o,ho,hc];have gK:VM ks<=n:=by unfold Zu at hn;omega
   have sl:=F.slot_tuple_hash;unfold pyHash
   (try unfold pyHashByItsType)
   have main:∀{R:oJ->oM->Prop},R (.int (Builtin.Tuple.tupleHashOf (XV w ks)) (s.toks+vW ks)) {s with toks:=s.toks+vW ks+1}->wpAny (model prog w) A.in1 (Gk.«tuple.__hash__» #[[.ref a],[]]) (λfin s'=>∃v,fin=PySem.Fin.done (.ret v)/\R v s') E s:=λ{R} hR=>by
    show qx (m:=Builtin.Tuple.tupleItemsOf (.ref a)) (wpAny_tupleItemsOf ho hd (qx ?_));rw[<-Em];show wpAny_forIn_list _ (λrest (acc:Array Int) s'=>∃pre post,ks=pre++post/\Zs s.heap post rest/\acc.toList=XV w pre/\s'={s with toks:=s.toks+vW pre}) _ ?_ ?_ _ _ #[[],ks,rfl,hi,by simp[XV],by simp[vW]]
    .intro v1 more acc _ #[pre,post,rfl,hl,hb,rfl];cases hl with
     | @cons k _ post' _ h1 iu=>
      have app:∀(l:kh NK) (k:NK),XV w (l++[k])=XV w l++[VL w k]/\vW (l++[k])=vW l+TW k:=λl k=>by
       induction l with
       |nil=>simp[XV,vW]
       |cons a r ih=>show#[by simp[XV,ih.1],by simp[vW,ih.2];omega]
      show qx (ih (uP (Tt (by simp)) gK) (show A.units+1+n<cLine by omega) (show vS s.heap k v1 from h1) ?_);have goal:∃jq iZ,pre++k::post'=jq++iZ/\Zs s.heap iZ more/\(acc.push (VL w k)).toList=XV w jq/\({s with toks:=s.toks+vW pre+TW k}:oM)={s with toks:=s.toks+vW jq}:=#[pre++[k],post',by simp,iu,by rw[(app pre k).1];simp[hb],by rw[(app pre k).2,Ec]]
      first|exact qH goal|exact qx (qH (qH goal))
    intro acc _ #[pre,post,rfl,hl,hb,rfl];cases hl;rw[Aw] at hR;change wpAny _ _ (retInt (Builtin.Tuple.tupleHashOf acc.toList)) _ _ _;rw[hb];show wpAny_ret_mkInt ?_;show hR
   show qx (wpAny_cRoomFor_or (.inr (show A.units<cLine by omega)) (qx (FT ty sl.lookup ?_)));show Gg (λz=>absurd z (by rw[beq_builtin_none];decide)) λ_=>qx (FT ty sl.lookup ?_);show qx (m:=callSpecialIfBoundUnlessNone? (.ref a) "__hash__" _) (wpAny_callSpecialIfBoundUnlessNone?_slot ty sl (FH sl ty F.entry_tuple_hash (main ?_) (F.args_tuple_hash_1 _)));unfold VL TW reduceHash at h;have en:({s with toks:=s.toks+vW ks+1}:oM)={s with toks:=s.toks+(vW ks+1)}:=by rw[Ec]
   rw[en];show Gg (λz=> ?_) λz=>qx (wpAny_rule ?_);rw[Gv z] at h;show qH h;rw[Gw z] at h;show qH h
def zaZ(hu:A.units<cLine)(hk:vS s.heap k v)(hj:vS s.heap j u)(hd:(∀l,k≠ .tup l)\/∀l,j≠ .tup l):SeqAt.EqAt A s v u (decide (k=j)):=by
 have tp:∀{a:oN} {o:Obj} {items:Array oJ} {n:Nat},s.heap.get? a=eO o->o.cls= .type "tuple"->o.data= .seq items n->s.heap.IsTuple a items:=λa b c=>#[_,a,b,_,c];cases hk with
 |int i t=>
  cases hj with
  |int j t'=>
   rw[show decide (NK.int i=NK.int j)=(i==j) by rw[Av,decide_eq_true_iff,beq_iff_eq];show#[λe=>by cases e;rfl,λe=>by rw[e]]];show SeqAt.EqAt.int_int _ _ _ _
  |str y t'=>rw[decide_eq_false (by intro e;cases e)];show SeqAt.EqAt.int_str _ _ _ _
  |tup a b c _=>rw[decide_eq_false (by intro e;cases e)];show SeqAt.EqAt.int_tuple _ _ (tp a b c) hu
 |str x t=>
  cases hj with
  |int j t'=>rw[decide_eq_false (by intro e;cases e)];show SeqAt.EqAt.str_int _ _ _ _
  |str y t'=>
   rw[show decide (NK.str x=NK.str y)=(x==y) by rw[Av,decide_eq_true_iff,beq_iff_eq];show#[λe=>by cases e;rfl,λe=>by rw[e]]];show SeqAt.EqAt.str_str _ _ _ _
  |tup a b c _=>rw[decide_eq_false (by intro e;cases e)];show SeqAt.EqAt.str_tuple _ _ (tp a b c) hu
 |tup a b c _=>
  cases hj with
  |int j t'=>rw[decide_eq_false (by intro e;cases e)];show SeqAt.EqAt.tuple_int _ _ (tp a b c) hu
  |str y t'=>rw[decide_eq_false (by intro e;cases e)];show SeqAt.EqAt.tuple_str _ _ (tp a b c) hu
  |tup _ _ _ _=>
   rcases hd with h|h;show (h _ rfl).elim;show (h _ rfl).elim
def zhy{α:Type}(l m:kh α)(e:Nat->Bool)(he:∀(j:Nat) a b,l[j]? =eO a->m[j]? =eO b->(e j=gP↔a=b)):((z8 (min l.length m.length)).all e&&(l.length==m.length))=gP↔l=m:=by
 rw[A5,Ao,beq_iff_eq];constructor
 .intro#[h1,h2];show BM λj=> ?_;by_cases hj:j<l.length
  .have m7:j<m.length:=by omega
   rw[uH hj,uH m7];show congrArg eO ((he j _ _ (uH hj) (uH m7)).1 (h1 j (AV.2 ⋯)))
  rw[x8 ⋯,x8 ⋯]
 rintro rfl;show#[λj hj=> ?_,rfl];have hj:=AV.1 hj;have hj:j<l.length:=by omega
 show(he j _ _ (uH hj) (uH hj)).2 rfl
def ztK:∀(n:Nat) {A:Around} {s:oM} {k j:NK} {v u:oJ},Zu k<=n->A.units+n<cLine->vS s.heap k v->vS s.heap j u->SeqAt.EqAt A s v u (decide (k=j)):=by
 intro n
 induction n with
 |zero=>
  intro A s k j v u hn hu hk hj;show zaZ ⋯ hk hj (.inl λl e=> ?_);subst e;unfold Zu at hn;omega
 |succ n ih=>
  intro A s k j v u hn hu hk hj;cases hk with
  |int i t=>show zaZ ⋯ (.int i t) hj (.inl λl e=>by cases e)
  |str i t=>show zaZ ⋯ (.str i t) hj (.inl λl e=>by cases e)
  | @tup a o items m l ho hc hd hi=>
   cases hj with
   |int i t=>show zaZ ⋯ (.tup ho hc hd hi) (.int i t) (.inr λl e=>by cases e)
   |str i t=>show zaZ ⋯ (.tup ho hc hd hi) (.str i t) (.inr λl e=>by cases e)
   | @tup a' o' items' m' l' iq iB gM jF=>
    have gK:VM l<=n:=by unfold Zu at hn;omega
    by_cases i7:a=a';subst i7;have e:=(vS.tup ho hc hd hi).inj (vS.tup iq iB gM jF);rw[decide_eq_true e];show SeqAt.EqAt.same _
    show SeqAt.EqAt.of_refs i7 ?_;have s1:items.size=l.length:=by have:=hi.len;simpa using this.symm
    have s2:items'.size=l'.length:=by have:=jF.len;simpa using this.symm
    have:=SeqAt.RcAt.tuples (A:=A) (s:=s) (e:=λq=>decide (l[q]? =l'[q]?)) #[o,ho,hc,m,hd] #[o',iq,iB,m',gM] ⋯ (λq h1 h2=>by
     have q1:l[q]? =eO l[q]:=uH ⋯;have q2:l'[q]? =eO l'[q]:=uH ⋯;have#[u1,f1,g1]:=hi.get q1;have#[u2,f2,g2]:=jF.get q2;have e1:items[q]=u1:=by rw[Bq] at f1;rw[Df h1] at f1;show y9 f1
     have e2:items'[q]=u2:=by rw[Bq] at f2;rw[Df h2] at f2;show y9 f2
     rw[e1,e2];have:=ih (A:=A.in1) (uP (Tt (y8 ⋯)) gK) (by change A.units+1+n<cLine;omega) g1 g2
     rwa [show decide (l[q]? =l'[q]?)=decide (l[q]=l'[q]) by rw[q1,q2,decide_eq_decide,A8]])
    rw[s1,s2] at this;have nT:((z8 (min l.length l'.length)).all (λq=>decide (l[q]? =l'[q]?))&&(l.length==l'.length))=decide (NK.tup l=NK.tup l'):=by
     rw[Av,decide_eq_true_iff,zhy l l' _ λj a b ha hb=>by rw[decide_eq_true_iff,ha,hb,A8]];show#[λe=>by rw[e],λe=>by cases e;rfl]
    rwa [nT] at this
def znN:∀(n:Nat) {A:Around} {s:oM} {k:NK} {v:oJ} {Q:Bool->oM->Prop},Zu k<=n->vS s.heap k v->Q gP s->wpAny (model prog w) A (eqIsQuiet n v) Q E s:=by
 intro n
 induction n with
 |zero=>
  intro A s k v Q hn hk h;cases hk with
  |int i t=>rw[eqIsQuiet_byValue _ rfl];show qH h
  |str x t=>rw[eqIsQuiet_byValue _ rfl];show qH h
  |tup _ _ _ _=>unfold Zu at hn;omega
 |succ n ih=>
  intro A s k v Q hn hk h;cases hk with
  |int i t=>rw[eqIsQuiet_byValue _ rfl];show qH h
  |str x t=>rw[eqIsQuiet_byValue _ rfl];show qH h
  | @tup a o items m ks ho hc hd hi=>
   have ty:s.TypeIs (.ref a) "tuple":=#[o,ho,hc];have gK:VM ks<=n:=by unfold Zu at hn;omega
   unfold eqIsQuiet;show qx (FT ty F.slot_tuple_eq.lookup (qx (m:=isInstance (.ref a) (.type "tuple")) (FY ty isSubtype_tuple_tuple ?_)));show Gg nofun λ_=>qx (FN ho hd (qx (m:=forIn items _ _) ?_));rw[<-Em];show wpAny_forIn_list _ (λrest acc s'=>acc.1=fX/\s'=s/\∃post,(∀k∈post,Zu k<=n)/\Zs s.heap post rest) _ ?_ ?_ _ _ #[rfl,rfl,ks,λk hk=>uP (Tt hk) gK,hi]
   .intro v1 rest acc _ #[ha,rfl,post,gD,hl];cases hl with
    | @cons k _ post' _ h1 iu=>show qx (ih (gD k (by simp)) h1 (Gg nofun λ_=>qH #[rfl,rfl,post',λu hu=>gD u (uR _ hu),iu]))
   intro#[a1,a2] _ #[ha,rfl,_];cases ha;show qH h
end
noncomputable def za0(prog:Program)(w:World):HeapKind prog w NK where
 is:=λh k a=>vS h k (.ref a)/\Zu k<=8
 hash:=VL w
 draws:=TW
 room:=λA=>A.units+8<cLine
 inj:=λhx hy=>hx.1.inj hy.1
 keeps:=λx ho hd hs=>#[x.1.keeps ho hd hs,x.2]
 pyHash:=λhu hk h=>zpL 8 hk.2 hu hk.1 h
 eqBool:=λhu hx hy h=>ztK 8 hx.2 hu hx.1 hy.1 _ _ _ _ h
 quiet:=λhk h=>znN 8 hk.2 hk.1 h
mutual
inductive NIs(K:uG)(H:Hp):V->NK->Prop where
 |int (i:Int):NIs K H (.int i) (.int i)
 |str (x:Str):NIs K H (.str x) (.str x)
 |tup {a:Addr} {vs:List V} {l:List NK}:SqT K H a vs->znO K H vs l->NIs K H (.ref a) (.tup l)
inductive znO(K:uG)(H:Hp):List V->List NK->Prop where
 |nil:znO K H [] []
 |cons {v:V} {k:NK} {vs:List V} {ks:List NK}:NIs K H v k->znO K H vs ks->znO K H (v::vs) (k::ks)
end
def NIs.isNK(I:Inv X pins σ H s)(hv:NIs X.K H v k):yp v u->vS s.heap k u:=by
 show NIs.rec (motive_1:=λv k _=>∀u,yp v u->vS s.heap k u) (motive_2:=λv k _=>∀u,yk v u->Zs s.heap k u) ?_ ?_ ?_ ?_ ?_ hv u;intro i u r;have#[t,rfl]:=(show ∃t,_=Value.int i t from r);show .int i t;intro x u r;have#[t,rfl]:=(show ∃t,_=Value.str x t from r);show .str x t;intro a vs l h _ ih u r;cases (show _=Value.ref a from r);have#[ah,r1,#[o,p1,p2,n,p3],_]:=I.tuple h;show .tup p1 p2 p3 (ih _ (by simpa using r1));intro u r;cases r;show .nil
 intro v k vs ks _ _ i1 i2 u r;cases r with
 |cons a b=>show .cons (i1 _ a) (i2 _ b)
def zlR(K:uG)(H:Hp)(ks:kh (NK×oN×V)):Prop:=∀p∈ks,NIs K H (.ref p.2.1) p.1/\Zu p.1<=8
noncomputable def Vf(ks:kh (NK×oN×V))(k:NK):mw V:=(ks.find? λp=>decide (p.1=k)).map (·.2.2)
noncomputable def zfV(ks:kh (NK×oN×V))(k:NK)(b:oN)(v:V):kh (NK×oN×V):=if (Vf ks k).isSome=gP then ks.map (λp=>if p.1=k then (p.1,p.2.1,v) else p) else ks++[(k,b,v)]
def zhz(ks:kh (NK×oN×V))(k:NK)(b:oN)(v:V):(zfV ks k b v).length<=ks.length+1:=by
 unfold zfV;split;rw[uM];omega;simp
noncomputable abbrev PN:kh (NK×oN×V)->kh (NK×oN×oJ)->Prop:=Paired λ(p:NK×oN×V) (q:NK×oN×oJ)=>p.1=q.1/\p.2.1=q.2.1/\yp p.2.2 q.2.2
def PN.val(r:PN ks xs)(k:NK):WT (Vf ks k) ((atKey xs k).map (·.2)):=by
 induction r with
 |nil=>show Ay
 | @cons p q ps qs h t ih=>
  have#[h1,_,h2]:=h;by_cases e:p.1=k
  .have e':q.1=k:=h1.symm.trans e;have b:atKey (q::qs) k=eO q.2:=by simp[atKey,z0,e']
   have a:Vf (p::ps) k=eO p.2.2:=by simp[Vf,z0,e]
   rw[a,b];show h2
  have e':¬q.1=k:=λz=>e (h1.trans z);have b:atKey (q::qs) k=atKey qs k:=by simp[atKey,z0,e']
  have a:Vf (p::ps) k=Vf ps k:=by simp[Vf,z0,e]
  rw[a,b];show ih
def PN.put(r:PN ks xs)(k:NK)(ry:yp y u):PN (zfV ks k b y) (storedH xs k b u):=by
 have e:(Vf ks k).isSome=(atKey xs k).isSome:=by rw[(r.val k).isSome_eq,Cd]
 unfold zfV storedH;rw[e];by_cases q:(atKey xs k).isSome=gP
 .rw[Gv q,Gv q];clear q e
  induction r with
  |nil=>show .nil
  | @cons p q ps qs h t ih=>
   rw[y4,y4];show .cons ?_ ih;have#[h1,h2,h3]:=h;unfold putAt;by_cases e:p.1=k;rw[Gv e,Gv (h1.symm.trans e)];show#[h1,h2,ry];rw[Gw e,Gw (λz=>e (h1.trans z))];show#[h1,h2,h3]
 rw[Gw q,Gw q];show Paired.snoc r #[rfl,rfl,ry]
def PN.all{P:NK->oN->Prop}(r:PN ks xs)(h:∀p∈ks,P p.1 p.2.1):∀x∈xs,P x.1 x.2.1:=by
 induction r with
 |nil=>intro x hx;cases hx
 | @cons p q ps qs h' t ih=>
  intro x hx;rcases uU.1 hx with rfl|hx;have#[e1,e2,_]:=h';rw[<-e1,<-e2];show h p (by simp);show ih (λp hp=>h p (by simp[hp])) x hx
section
def zq6(I:Inv X pins σ H s)(e:Rd H a (.dN ks))(hk:zlR X.K H ks):ks.length<=FC/\(a==FQ)=kb/\∃xs,PN ks xs/\s.heap.DictOfH (za0 X.prog X.w) a xs:=by
 have q:yW X.prog X.w H s.heap a (.dN ks):=by
  rcases e with e|⟨o,e⟩
  .show I.hok a _ e
  show (show yW X.prog X.w H s.heap a (.frz o (.dN ks)) from I.hok a _ e).2
 have#[z,y,xs,r,o,es,ep,h1,h2,h3,h4,h5]:=q;show#[z,y,xs,r,o,es,ep,h1,h2,h3,h4,?_,h5];show PN.all r (P:=λk b=>(za0 X.prog X.w).is s.heap k b) λp hp=>#[(hk p hp).1.isNK I rfl,(hk p hp).2]
def ztL(I:Inv X pins σ H s)(e:H a=eO (.dN ks))(hk:zlR X.K H ks):ks.length<=FC/\(a==FQ)=kb/\∃xs,PN ks xs/\s.heap.DictOfH (za0 X.prog X.w) a xs:=zq6 I (.inl e) hk
def znP(I:Inv X pins σ H s)(e:H a=eO (.dK [])):(a==FQ)=kb/\s.heap.DictOfH (za0 X.prog X.w) a []:=by
 have#[z,y,vs,r,o,es,ep,h1,h2,h3,h4,h5,_]:=zqY I.hok e;cases r;show#[y,o,es,ep,h1,h2,h3,?_,by simp,by simp];have:es.toList=[]:=by
  have:=h5.length;simpa using this
 rw[this];rfl
end
def zeX(K:uG)(H:Hp)(a:oN)(y:V)(r:mw V):Prop:=
 zbC H a y r\/∃k b,y= .ref b/\NIs K H y k/\Zu k<=8/\((∃ks,Rd H a (.dN ks)/\zlR K H ks/\r=Vf ks k)\/(H a=eO (.dK [])/\r=fX))
def znQ(K:uG)(H:Hp)(a:oN)(y v:V)(H':Hp):Prop:=
 ziU H a y v H'\/∃k b,y= .ref b/\NIs K H y k/\Zu k<=8/\((∃ks,H a=eO (.dN ks)/\zlR K H ks/\ks.length<FC/\H'=upd H a (.dN (zfV ks k b v)))\/(H a=eO (.dK [])/\H'=upd H a (.dN [(k,b,v)])))
section
def dgN(I:Inv X pins σ H s)(h:(∃ks,Rd H a (.dN ks)/\zlR X.K H ks/\o=Vf ks k)\/(H a=eO (.dK [])/\o=fX)):(a==FQ)=kb/\∃xs,s.heap.DictOfH (za0 X.prog X.w) a xs/\WT o ((atKey xs k).map (·.2)):=by
 rcases h with⟨ks,e,hk,rfl⟩|⟨e,rfl⟩
 .obtain⟨_,hd,xs,rel,dd⟩:=zq6 I e hk;show#[hd,xs,dd,rel.val k]
 have#[hd,dd]:=znP I e;show#[hd,[],dd,Ay]
def zjn(hu:A.units+9<cLine)(I:Inv X pins σ H s)(g:zeX X.K H a y (eO v))(ry:yp y u)(h:∀w' s',Inv X pins σ H s'->yp v w'->Q w' s'):wpAny (model X.prog X.w) A (getItem (.ref a) u) Q E s:=by
 rcases g with g|⟨k,b,rfl,hk,hd,g⟩
 .show zeK ⋯ I g ry h
 cases (show u=Value.ref b from ry);have#[_,xs,dd,rel]:=dgN I g;have#[w',hw,rw']:=WT.some_of rel;have#[p,hp,nC]:=uV.mp hw;show wpAny_getItem_heap (knd:=za0 X.prog X.w) (by change A.units+1+8<cLine;omega) #[hk.isNK I rfl,hd] dd hp ?_;rw[nC];show h w' _ (I.tok _) rw'
def znR(hu:A.units+9<cLine)(I:Inv X pins σ H s)(g:zeX X.K H a y o)(ry:yp y u)(h:∀s',Inv X pins σ H s'->Q (.bool (!o.isSome)) s'):wpAny (model X.prog X.w) A (Gq .NotIn u (.ref a)) Q E s:=by
 rcases g with g|⟨k,b,rfl,hk,hd,g⟩
 .show zkt ⋯ I g ry h
 cases (show u=Value.ref b from ry);have#[hs,xs,dd,rel]:=dgN I g;show wpAny_notIn_heap (knd:=za0 X.prog X.w) (by change A.units+1+8<cLine;omega) #[hk.isNK I rfl,hd] hs dd ?_;have q:=rel.isSome_eq;rw[Cd] at q;rw[<-q];show h _ (I.tok _)
def zjo{Q:Unit->oM->Prop}(hu:A.units+9<cLine)(I:Inv X pins σ H s)(g:znQ X.K H a y v H')(ry:yp y u)(rv:yp v r)(h:∀s',Inv X pins σ H' s'->Q () s'):
  wpAny (model X.prog X.w) A (setItem (.ref a) u r) Q E s:=by
 rcases g with g|⟨k,b,rfl,hk,hd,⟨ks,e,eJ,hl,rfl⟩|⟨e,rfl⟩⟩
 .show zeL ⋯ I g ry rv h
 .cases (show u=Value.ref b from ry);have#[z,hs,xs,rel,dd]:=ztL I e eJ;have hz:xs.length<=FC:=by rw[<-Paired.length rel];show z
  have fG:(zfV ks k b v).length<=FC:=by have:=zhz ks k b v;omega
  show wpAny_setItem_heap (knd:=za0 X.prog X.w) (hsz:=hz) (by change A.units+1+8<cLine;omega) #[hk.isNK I rfl,hd] dd λh' dd' hU=>h _ ?_;have#[q,es,ep,hq,h2,h3,h4,_,h5]:=dd';show zaM I (by rw[e];show Ay) hU #[q,hq] #[fG,hs,_,rel.put k rv,q,es,ep,hq,h2,h3,h4,h5]
 cases (show u=Value.ref b from ry);have#[hs,dd]:=znP I e;show wpAny_setItem_heap (knd:=za0 X.prog X.w) (hsz:=Ci _) (by change A.units+1+8<cLine;omega) #[hk.isNK I rfl,hd] dd λh' dd' hU=>h _ ?_;have#[q,es,ep,hq,h2,h3,h4,_,h5]:=dd';show zaM I (by rw[e];show Ay) hU #[q,hq] #[by simp;decide,hs,_,?_,q,es,ep,hq,h2,h3,h4,h5];show .cons #[rfl,rfl,rv] .nil
def zfW(I:Inv X pins σ H s)(g:zeX X.K H a y o):s.TypeIs (.ref a) "dict":=by
 rcases g with g|⟨k,b,rfl,hk,hd,g⟩
 .show zb9 I g
 have#[_,xs,dd,_]:=dgN I g;show dd.typeIs
end
def znS(K:uG)(td ty:TE):TE:=λσ H Q=>td σ H λx H1=>ty σ H1 λy H2=>∃a v,x= .ref a/\zeX K H2 a y (eO v)/\Q v H2
def zq7(K:uG)(neg:Bool)(ty td:TE):TE:=λσ H Q=>ty σ H λy H1=>td σ H1 λx H2=>∃a o,x= .ref a/\zeX K H2 a y o/\Q (.bl (neg !=o.isSome)) H2
def znT(K:uG)(td ty tv:TE):TS:=λD σ H=>tv σ H λv H1=>td σ H1 λx H2=>ty σ H2 λy H3=>∃a H4,x= .ref a/\znQ K H3 a y v H4/\D.nx σ H4
section
def znU(hr:ww r X.A):X.A.units+9<cLine:=by have:=hr.un;omega
def Uq(hr:ww r X.A)(ho:PE X o td)(hi:PE X i ty)(hs:zrJ i)(hK:X.K=K:=by rfl):PE X (.Subscript o i pos) (znS K td ty):=by
 subst hK;intro pins s σ H Q I h;show zku De.lookup hs (thn (ho pins s σ H _ I h) ?_);intro u s1 #[x,H1,I1,rx,q1];show thn (hi pins s1 σ H1 _ I1 q1) ?_;intro iv s2 #[y,H2,I2,ry,a,v,ex,g,q2];subst ex;obtain rfl:u=Value.ref a:=rx;show#[zfW I2 g,zjn (znU hr) I2 g ry λw' s3 I3 rw'=>#[v,H2,I3,rw',q2]]
def zdq(hr:ww r X.A)(hi:PE X i ty)(ho:PE X o td)(hK:X.K=K:=by rfl):PC X .NotIn i o (zq7 K gP ty td):=by
 subst hK;intro pins s σ H Q I h;show thn (hi pins s σ H _ I h) ?_;intro iv s1 #[y,H1,I1,ry,q1];show thn (ho pins s1 σ H1 _ I1 q1) ?_;intro u s2 #[x,H2,I2,rx,a,ov,ex,g,q2];subst ex;obtain rfl:u=Value.ref a:=rx;show znR (znU hr) I2 g ry λs3 I3=>#[.bl (gP !=ov.isSome),H2,I3,by cases ov.isSome<;>rfl,q2]
def za1(hr:ww r X.A)(ho:PE X o td)(hi:PE X i ty)(hv:PE X value tv)(hs:swapsWith value (eO (.Subscript o i pos')) pos.line X.env=pure kb)(hK:X.K=K:=by rfl):
  PS X (.Assign [.Subscript o i pos'] value pos) (znT K td ty tv):=by
 subst hK;intro pins s σ H D I h;show wpAny_Assign_Subscript (thn (hv pins s σ H _ I h) ?_) hs;intro r s1 #[v,H1,I1,rv,q1];show thn (ho pins s1 σ H1 _ I1 q1) ?_;intro u s2 #[x,H2,I2,rx,q2];show thn (hi pins s2 σ H2 _ I2 q2) ?_;intro iv s3 #[y,H3,I3,ry,a,H4,ex,g,q3];subst ex;obtain rfl:u=Value.ref a:=rx;show zjo (znU hr) I3 g ry rv λs4 I4=>#[σ,H4,I4,q3]
end
end L2
namespace L2
open PySem.Calls PySem.W
def zjp(h:Heap)(a:oN)(es:Array DictEntry)(ep:Nat):Prop:=∃o,h.get? a=eO o/\o.ExactDict/\o.data= .dict es ep
section
def zjp.type(x:zjp s.heap d es ep):s.TypeIs (.ref d) "dict":=by
 have#[o,h1,h2,_]:=x;show#[o,h1,h2.1]
def znV(lo:(d==FQ)=kb)(x:zjp s.heap d es ep)(q:Q (.ref #v[s]) {s with heap:=s.heap.push {cls:= .type "dict_keyiterator",data:= .fields [.ref d,.int 0 0,.int es.size 0,.int ep 0].toArray}}):
  wpAny (model prog w) A (pyIter (.ref d)) Q E s:=by
 have ty:=x.type;have#[o,h1,h2,h3]:=x;show wpAny_pyIter_slot ty F.slot_dict_iter (FH F.slot_dict_iter ty F.entry_dict_iter ?_ (F.args_dict_iter_1 _));unfold Gk.«dict.__iter__» Builtin.Dict.dictSlotNone;show qx (qx (wpAny_notOrdered_dict ty (qH (a:=Value.ref d) (qx (m:=Builtin.Dict.showsAll d) ?_))));unfold Builtin.Dict.showsAll;show Gg (λz=>by rw[lo] at z;cases z) λ_=>qH (qx (wpAny_dictEntries h1 h3 (qx (wpAny_dictEpoch h1 h3 (qx (FG (qH #[_,rfl,"dict_keyiterator",_,#[_,Heap.get?_push_size _ rfl,rfl],F.slot_dict_keyiterator_next.lookup,?_])))))));simpa [Gc] using q
def znW{Q:mw oJ->oM->Prop}(hit:s.heap.IsKeyIter it d i es.size ep)(x:zjp s.heap d es ep)(he:es[i]? =eO e)
  (q:∀h',h'.IsKeyIter it d (i+1) es.size ep->Heap.SameBut it s.heap h'->Q (eO e.key) {s with heap:=h'}):wpAny (model prog w) A (pyNext (.ref it)) Q E s:=by
 have ty:=hit.typeIs;have#[o,ho,hc,hd]:=id hit;have#[od,h1,h2,h3]:=x;have own:Builtin.Dict_items.ownsTuple "dict_keyiterator"=kb:=by decide
 unfold pyNext;show qx (FZ (FE (name:=Str.ofString "__next__") ty F.slot_dict_keyiterator_next (FH F.slot_dict_keyiterator_next ty F.entry_dict_keyiterator_next (qx (qH (qx (qx ?_)))) (F.args_dict_keyiterator_next_1 _))));have hsz:i<es.size:=(BU.1 he).1;have kg:(s.heap.update it (Obj.mapFields (·.setIfInBounds 1 (Gc ((i:Int)+1))))).IsKeyIter it d (i+1) es.size ep:=
  #[_,Heap.get?_update_self _ ho (Obj.isFreed_of_fields (Obj.data_mapFields hd _)),(Obj.cls_mapFields ..).trans hc,by rw[Obj.data_mapFields hd];simp[Gc]]
 have nm:∀{R:String->oM->Prop},R "dict_keyiterator" s->wpAny (model prog w) A.in1 (typeNameOfWhole (.ref it)) R E s:=λh=>FO ty h;show qx (FO ty (qH (qx (wpAny_fieldsOf ho hd ?_))));simp only[own,CV,if_false];show Gg (c:=(Value.ref d==Value.none)=gP) nofun λ_=>qx (qH (qx (wpAny_dictEntries h1 h3 ?_)));rw[Gw (by simp)];show qx (qH (qx (wpAny_dictEpoch h1 h3 ?_)));rw[Gw (by simp)];show qH ?_;simp only[show ¬((i:Int)<0) from by omega,if_false,x4,he];show qx (qx (FO ty (qH (qx (wpAny_isOneOf_keyiter ty ?_)))));show qx (m:=setField (.ref it) 1 (Gc ((i:Int)+1))) (wpAny_setField ho hd (by simp) (qx (FR (qx (wpAny_isOneOf_keyiter (s:={s with heap:=s.heap.update it (Obj.mapFields (·.setIfInBounds 1 (Gc ((i:Int)+1))))}) kg.typeIs ?_)))));show qH (a:=e.key) (qH #[_,rfl,qH (q _ kg (Heap.SameBut.update ..))])
def zpM{Q:mw oJ->oM->Prop}(hh:A.handled=fX)(hit:s.heap.IsKeyIter it d i es.size ep)(x:zjp s.heap d es ep)(he:es[i]? =fX)(q:∀h',Heap.ExtBut it s.heap h'->Q fX {s with heap:=h'}):wpAny (model prog w) A (pyNext (.ref it)) Q E s:=by
 have ty:=hit.typeIs;have#[o,ho,hc,hd]:=id hit;have#[od,h1,h2,h3]:=x;have own:Builtin.Dict_items.ownsTuple "dict_keyiterator"=kb:=by decide
 unfold pyNext;show qx (FZ (FE (name:=Str.ofString "__next__") ty F.slot_dict_keyiterator_next (FH F.slot_dict_keyiterator_next ty F.entry_dict_keyiterator_next (qx (qH (qx (qx ?_)))) (F.args_dict_keyiterator_next_1 _))));show qx (FO ty (qH (qx (wpAny_fieldsOf ho hd ?_))));simp only[own,CV,if_false];show Gg (c:=(Value.ref d==Value.none)=gP) nofun λ_=>qx (qH (qx (wpAny_dictEntries h1 h3 ?_)));rw[Gw (by simp)];show qx (qH (qx (wpAny_dictEpoch h1 h3 ?_)));rw[Gw (by simp)];show qH ?_;simp only[show ¬((i:Int)<0) from by omega,if_false,x4,he];show qx (qx (FO ty (qH (qx (m:=setField (.ref it) 0 .none) (wpAny_setField ho hd (by simp) (qx (m:=newExc (.type "StopIteration") []) ?_))))));simp only[newExc,newTuple];show qx (FG (qx (m:=Gn _ _) (Gb (a:=Value.none) (by first|rfl|(simp only[Gn];rfl)) (FG ?_ (by size_fits)))) (by size_fits));simp only[raiseNew];show qx (wpAny_handled ?_);rw[show A.in1.handled=fX from hh];show qx (qH (wpAny_throw ?_));show qx (FY (b:=gP) (T:="StopIteration") #[_,Heap.get?_push_size _ rfl,rfl] isSubtype_stop ?_);show qH (q _ (((Heap.SameBut.update ..).extBut.push _).push _))
end
section
variable{w:World}
end
section
variable{w:World}{T:String}{r d:oN}{n:Nat}{P:Nat->oJ->Prop}{OK:Heap->Prop}
end
end L2
namespace L2
open PySem.Calls
open AutoSeq1 (wpAny_loadPart')
section
variable{w:World}{it t:oN}{ah:Array oJ}
end
end L2
namespace L2
open PySem.Calls PySem.W
section
variable{cmp:Nat->Nat->(Bool->oM->Prop)->oM->Prop}{r:Nat->Int}{n:Nat}
end
section
variable{w:World}{κ:SortKind}{it:Array Keyed}
end
section
variable{h':Heap}
end
section
variable{k:Nat}{f:oN}{fd:FW}{ps:kh Str}{sp:Sp}
end
end L2
namespace L2
namespace Sm
noncomputable def inB(b j:Nat):Bool:=b.testBit j
noncomputable def plL(b:Nat):kh Nat:=(z8 8).filter (inB b)
noncomputable def pl(b:Nat):Array Nat:=(plL b).toArray
noncomputable def st(h:Int):Nat->Nat×Nat
 |0=>(SetTable.bits h % 8,SetTable.bits h)
 |n+1=>SetTable.leap 7 (st h n).1 (st h n).2
noncomputable def pos(h:Int)(n:Nat):Nat:=(st h n).1
structure Tb(t:SetTable)(b:Nat):Prop where
 mask:t.mask=7
 place:t.place=pl b
 uE:t.dummies= [].toArray
noncomputable def ix(b j:Nat):Nat:=((z8 j).filter (inB b)).length
end Sm
open PySem.Calls PySem.W
section
variable{w:World}
variable{a:oN}{b:Nat}{f:Nat->Int×oJ}{kf:Nat->NK}{o:Obj}{ep:Nat}{t:SetTable}
end
section
variable{h h':Heap}
end
section
variable{w:World}
variable{a:oN}{b:Nat}{f:Nat->Int×oJ}{kf:Nat->NK}{o:Obj}{ep:Nat}{t:SetTable}
end
section
variable{h h':Heap}
end
section
variable{w:World}
variable{R:Result->oM->Prop}{I:oN}{fp wr:kh oN}{G:Array Gp->Array Gp->Prop}{n:Nat}{P:Nat->oJ->Prop}{St:Nat->oM->Prop}
end
section
variable{w:World}
end
end L2
set_option maxHeartbeats 3200000
namespace L2
open PySem.Calls PySem.W
section
variable{w:World}
end
section
variable{w:World}{d it:oN}
variable{b:Nat}{f:Nat->Int×oJ}{o:Obj}{ep:Nat}{t:SetTable}
variable{b:Nat}{f:Nat->Int×oJ}{o:Obj}{ep:Nat}{t:SetTable}{i:Nat}
end
mutual
noncomputable def cp:NK->NK->Bool
 | .int _,.int _=>gP
 | .tup x,.tup y=>cpL x y
 |_,_=>kb
noncomputable def cpL:kh NK->kh NK->Bool
 |a::x,b::y=>cp a b&&cpL x y
 |_,_=>gP
end
section
open PySem.SeqAt
open PySem.AutoSeq1 (wpAny_loadPart')
open PySem.MeetsSeq PySem.MeetsSeq2 PySem.MeetsSeq3
variable{w:World}
end
section
variable{w:World}
end
section
def zpN(hd:(d==FQ)=kb)(x:zjp s.heap d es ep)(sL:(es.size:Int)<2^63)
  (h:∀t,Q (.int es.size t) {s with toks:=s.toks+1+1}):wpAny (model prog w) A (call (.builtin "len") [.ref d]) Q E s:=by
 have ty:=x.type;have#[o,h1,h2,h3]:=id x;show Calls.call_function_entry kind_len plain_len entry_len (args_len1 _) ?_;unfold Gk.«len»;show qx (m:=oneArg "len" _) (qH ?_)
 show qx (m:=callSpecial? (.ref d) (Str.ofString "__len__")) (FE (name:=Str.ofString "__len__") ty F.slot_dict_len
  (FH F.slot_dict_len ty F.entry_dict_len ?_ (F.args_dict_len_1 _)))
 change wpAny _ _ (dictSize d>>=_) _ _ s;unfold dictSize;show qx (qx (wpAny_dictEntries h1 h3 (qH ?_)));change wpAny _ _ (Builtin.Dict.pendingCount d>>=_) _ _ s;show qx (wpAny_pendingCount_other hd ?_);show wpAny_ret_mkInt ?_;rw[Nat.add_zero];change wpAny _ _ _ _ _ {s with toks:=s.toks+1};show qx (FR (qH ?_));show qx (wpAny_letGo ?_);change wpAny _ _ (if ((es.size:Nat):Int)<0 then _ else _) _ _ _;rw[Gw ⋯];change wpAny _ _ (if ((es.size:Nat):Int)≥2^63 then _ else _) _ _ _;rw[Gw ⋯];show qx (wpAny_mkInt (qH #[_,rfl,h _]))
end
def zq9:kh V->Hp->VK->Prop:=λxs H Q=>∃a,xs=[V.ref a]/\((∃af,Rd H a (.dK af)/\Q (.int af.length) H)\/∃ks,H a=eO (.dN ks)/\Q (.int ks.length) H)
def zlS:vT X (.builtin "len") zq9:=by
 intro pins s σ H xs us Q I r h;have#[a,rfl,h]:=h;have#[u,rfl,ru]:=VN r;cases ru;rcases h with⟨af,ha,q⟩|⟨ks,ha,q⟩
 .show ztl I ha λt s' I'=>#[.int af.length,H,I',#[t,rfl],q]
 have#[hz,lo,xs,rel,o,es,ep,h1,h2,h3,h4,h5]:=(show yW X.prog X.w H s.heap a (.dN ks) from I.hok a _ ha);have hl:es.size=ks.length:=by
  have e1:es.size=xs.length:=by rw[<-B4,h4,uM]
  have e2:ks.length=xs.length:=by
   clear h4 h5 ha hz q e1
   induction rel with
   |nil=>rfl
   |cons _ _ ih=>simp[ih]
  omega
 show zpN lo #[o,h1,h2,h3] (by rw[hl];rw[sizeLine_eq] at hz;omega) λt=> ?_;rw[hl];show#[.int ks.length,H,I.tok _,#[t,rfl],q]
section
variable{w:World}
end
section
variable{H':Hp}{h':Heap}
end
open PySem.AutoSeq1 (wpAny_loadPart')
open PySem.MeetsSeq PySem.MeetsSeq2 PySem.MeetsSeq3
section
variable{w:World}
end
end L2
namespace L2
open PySem.Calls
section
variable{tg:Expr}
end
section
variable{w:World}{I:oN}{fp wr:kh oN}{G:Array Gp->Array Gp->Prop}{n:Nat}{P:Nat->oJ->Prop}{St:Nat->oM->Prop}{R:Result->oM->Prop}
end
section
variable{w:World}
end
section
variable{w:World}{h:Heap}{g:Array Gp}{d:Drawn}{t:Nat}{os:OsState}{a:oN}
end
section
variable{w:World}{I:oN}{fp wr:kh oN}{G:Array Gp->Array Gp->Prop}{n:Nat}{P:Nat->oJ->Prop}{St:Nat->oM->Prop}{R:Result->oM->Prop}{KK:Type}[DecidableEq KK]{knd:KeyKind prog w KK}
end
section
variable{w:World}{I:oN}{fp wr:kh oN}{G:Array Gp->Array Gp->Prop}{n:Nat}{P:Nat->oJ->Prop}{St:Nat->oM->Prop}{R:Result->oM->Prop}
end
section
variable{w:World}
end
section
variable{E:XK}
end
section
variable{x y:Xv}{p q:Int}
end
section
variable{E:XK}
end
noncomputable def Ur(y:Xv):mw NK:=match y with
 | .tup l=>(YM (.tup l)).bind λk=>if Zu k<=8 then eO k else fX
 | .ct l=>(YM (.ct l)).bind λk=>if Zu k<=8 then eO k else fX
 |_=>fX
noncomputable def yI(af:kh (NK×Xv×Xv))(k:NK):mw Xv:=(af.find? λp=>decide (p.1=k)).map (·.2.2)
noncomputable def XA(af:kh (NK×Xv×Xv))(k:NK)(x y:Xv):kh (NK×Xv×Xv):=if (yI af k).isSome=gP then af.map (λp=>if p.1=k then (p.1,p.2.1,y) else p) else af++[(k,x,y)]
noncomputable def YR(S:Sto)(x y:Xv):mw (mw Xv):=match x with
 | .ref n=>match S[n]? with
  |some (.dk af)=>match zaj y with
   |some key=>eO (wS af key)
   |none=>if af.isEmpty=gP/\(Ur y).isSome=gP then eO fX else fX
  |some (.dn af)=>(Ur y).map (yI af)
  |some (.fdn af)=>(Ur y).map (yI af)
  |_=>fX
 |_=>fX
noncomputable def TX(S:Sto)(x y z:Xv):mw Sto:=match x with
 | .ref n=>match S[n]? with
  |some (.dk af)=>match zaj y with
   |some key=>if af.length<FC then eO (S.set n (.dk (zdn af key z))) else fX
   |none=>if af.isEmpty=gP then (Ur y).map λk=>S.set n (.dn [(k,y,z)]) else fX
  |some (.dn af)=>if af.length<FC then (Ur y).map λk=>S.set n (.dn (XA af k y z)) else fX
  |_=>fX
 |_=>fX
section
variable{E:XK}
def Xis.nis(h:Xis K j H x v):YM x=eO k->NIs K H v k:=by
 show Xis.rec (motive_1:=λx v _=>∀k:NK,YM x=eO k->NIs K H v k) (motive_2:=λx v _=>∀k:kh NK,WH x=eO k->znO K H v k) ?_ ?_ ?_ ?_ ?_ ?_ ?_ ?_ ?_ ?_ h k;intro k e;simp[YM] at e;intro b k e;simp[YM] at e;intro i k e;simp[YM] at e;subst e;show .int i;intro i k e;simp[YM] at e;subst e;show .str i;intro a vs xs h l ih k e;simp only[YM,uV] at e;have#[m,e1,rfl]:=e;show .tup (SqT.of h) (ih m e1);intro a vs xs h l ih k e;simp only[YM,uV] at e;have#[m,e1,rfl]:=e;show .tup (h H) (ih m e1);intro n a h k e;simp[YM] at e;intro f vs L xs h l ih k e;simp[YM] at e;intro k e;simp[WH] at e;subst e;show .nil;intro x v xs vs h l qS qR k e;simp only[WH,Aa,uV] at e;have#[a,e1,b,e2,rfl]:=e;show .cons (qS a e1) (qR b e2)
def za2(h:Xis K j H x v)(e:Ur x=eO k):∃b,v= .ref b/\NIs K H v k/\Zu k<=8/\YM x=eO k:=by
 cases h with
 |tup h l=>
  simp only[Ur,Aa] at e;have#[k',e1,e2]:=e;split at e2;cases e2;show#[_,rfl,(Xis.tup h l).nis e1,by assumption,e1];cases e2
 |ct h l=>
  simp only[Ur,Aa] at e;have#[k',e1,e2]:=e;split at e2;cases e2;show#[_,rfl,(Xis.ct h l).nis e1,by assumption,e1];cases e2
 |_=>simp[Ur] at e
def NX.len(h:NX K j H af ks):ks.length=af.length:=by
 induction h with
 |nil=>rfl
 |cons _ _ _ _ ih=>show congrArg (· +1) ih
def NX.nis(h:NX K j H af ks):zlR K H ks:=by
 induction h with
 |nil=>intro p hp;cases hp
 |cons e h1 _ _ ih=>
  intro p hp;rcases uU.1 hp with rfl|hp;show#[h1.nis e.1,e.2];show ih p hp
def NX.val(h:NX K j H af ks):(∀y,yI af k=eO y->∃w,Vf ks k=eO w/\Xis K j H y w)/\(yI af k=fX->Vf ks k=fX):=by
 induction h with
 |nil=>show#[λ_ e=>by simp[yI] at e,λ_=>rfl]
 | @cons k1 x1 y1 b1 w1 r rs ek h1 h l ih=>
  have#[i1,i2]:=ih;by_cases e:k1=k;subst e;show#[λy ey=> ?_,λey=> ?_];simp[yI] at ey;subst ey;show#[w1,by simp[Vf],h];simp[yI] at ey
  have e1:yI ((k1,x1,y1)::r) k=yI r k:=by simp[yI,z0,e]
  have e2:Vf ((k1,b1,w1)::rs) k=Vf rs k:=by simp[Vf,z0,e]
  rw[e1,e2];show#[i1,i2]
def NX.append(h:NX K j H af ks)(g:NX K j H r rs):NX K j H (af++r) (ks++rs):=by
 induction h with
 |nil=>show g
 |cons e h1 h _ ih=>show .cons e h1 h ih
set_option tactic.hygienic true in
def NX.put(hk:YM x=eO k/\Zu k<=8)(hx:Xis K j H x (.ref b))(hy:Xis K j H y v)(h:NX K j H af ks):NX K j H (XA af k x y) (zfV ks k b v):=by
 have e:(Vf ks k).isSome=(yI af k).isSome:=by
  cases ev:yI af k with
  |none=>rw[h.val.2 ev];rfl
  |some z=>have#[w,g,_]:=h.val.1 _ ev;rw[g];rfl
 unfold XA zfV;rw[e];split
 .rename_i hc;clear hc e
  induction h with
  |nil=>show .nil
  | @cons k1 x1 y1 b1 v1 r rs ek h1 h l ih=>
   rw[y4,y4];by_cases e:k1=k;rw[Gv e,Gv e];show .cons ek h1 hy ih;rw[Gw e,Gw e];show .cons ek h1 h ih
 show h.append (.cons hk hx hy .nil)
def En.dn(E1:En K F j H σ ρ S)(hx:Xis K j H (.ref n) v)(h:S[n]? =eO (.dn af)):∃a ks,v= .ref a/\j[n]? =eO a/\H a=eO (.dN ks)/\NX K j H af ks:=by
 have#[a,rfl,hj]:=hx.ref_inv;have#[ks,e1,e2]:=E1.cel _ _ _ h hj;show#[a,ks,rfl,hj,e1,e2]
set_option tactic.hygienic true in
def En.dgetN(E1:En K F j H σ ρ S)(hx:Xis K j H x u)(hy:Xis K j H y w)(h:YR S x y=eO r):∃a o,u= .ref a/\zeX K H a w o/\o.isSome=r.isSome/\(∀z zd,Xis K j H z zd->Xis K j H (r.getD z) (o.getD zd))/\∀z,r=eO z->∃z',o=eO z'/\Xis K j H z z':=by
 unfold YR at h;split at h
 .rename_i n;split at h
  .rename_i af hs;have hd:zaV S (.ref n)=eO (n,af):=zaY hs;have#[a,ks,rfl,hj,f1,f2]:=E1.dk hx hd;split at h
   .rename_i key ek;cases h;have#[o,g1,g2,g3]:=Tr (key:=key) f1 f2;show#[a,o,rfl,.inl (by rw[zaW hy ek];show g1),g2,g3,λz hz=> ?_];have:=g3 .non .non .non;rw[hz] at this g2;cases o with
    |none=>cases g2
    |some z'=>show#[z',rfl,this]
   split at h;rename_i hc;cases h;have#[k,hk]:=Al.1 hc.2;have#[b,rfl,hn,hZ,_]:=za2 hy hk;have:af=[]:=EJ.1 hc.1;subst this;cases f2;show#[a,fX,rfl,.inr #[k,b,rfl,hn,hZ,.inr #[f1,rfl]],rfl,λz zd hz=>hz,λz hz=>by cases hz];cases h
  .rename_i af hs;have#[a,ks,rfl,hj,f1,f2]:=E1.dn hx hs;rw[uV] at h;have#[k,hk,rfl]:=h;have#[b,rfl,hn,hZ,_]:=za2 hy hk;show#[a,Vf ks k,rfl,.inr #[k,b,rfl,hn,hZ,.inl #[ks,.inl f1,f2.nis,rfl]],?_,λz zd hz=> ?_,λz hz=>f2.val.1 z hz]
   .cases ev:yI af k with
    |none=>rw[f2.val.2 ev];rfl
    |some z=>have#[w,g,_]:=f2.val.1 _ ev;rw[g];rfl
   cases ev:yI af k with
   |none=>rw[f2.val.2 ev];show hz
   |some z=>have#[w,g,g2]:=f2.val.1 _ ev;rw[g];show g2
  .rename_i af hs;have#[a,rfl,hj]:=hx.ref_inv;have#[o,ks,f1,f2]:=E1.cel _ _ _ hs hj;rw[uV] at h;have#[k,hk,rfl]:=h;have#[b,rfl,hn,hZ,_]:=za2 hy hk;show#[a,Vf ks k,rfl,.inr #[k,b,rfl,hn,hZ,.inl #[ks,.inr #[o,f1],f2.nis,rfl]],?_,λz zd hz=> ?_,λz hz=>f2.val.1 z hz]
   .cases ev:yI af k with
    |none=>rw[f2.val.2 ev];rfl
    |some z=>have#[w,g,_]:=f2.val.1 _ ev;rw[g];rfl
   cases ev:yI af k with
   |none=>rw[f2.val.2 ev];show hz
   |some z=>have#[w,g,g2]:=f2.val.1 _ ev;rw[g];show g2
  cases h
 cases h
set_option tactic.hygienic true in
def En.dputN(E1:En K F j H σ ρ S)(hx:Xis K j H x u)(hy:Xis K j H y w)(hz:Xis K j H z v)(h:TX S x y z=eO S'):∃a H',u= .ref a/\znQ K H a w v H'/\En K F j H' σ ρ S'/\Ext j H j H':=by
 unfold TX at h;split at h;rename_i n;split at h;rename_i af hs;have hd:zaV S (.ref n)=eO (n,af):=zaY hs;have#[a,ks,rfl,hj,f1,f2]:=E1.dk hx hd;split at h;rename_i key ek;split at h;rename_i hl;cases h;have#[E4,X4]:=E1.wdk hd hj (f2.put (k:=key) hz);show#[a,_,rfl,.inl ?_,E4,X4];rw[zaW hy ek];show ziU.k f1 (by rw[f2.len];show hl);cases h;split at h;rename_i hc;rw[uV] at h;have#[k,hk,rfl]:=h;have#[b,rfl,hn,hZ,n8]:=za2 hy hk;have:af=[]:=EJ.1 hc;subst this;cases f2;have#[E4,X4]:=E1.write (o:= .dN [(k,b,v)]) (c':= .dn [(k,y,z)]) hs rfl hj rfl λX=>#[_,zW,.cons #[n8,hZ] (hy.mono X) (hz.mono X) .nil];show#[a,_,rfl,.inr #[k,b,rfl,hn,hZ,.inr #[f1,rfl]],E4,X4];cases h;rename_i af hs;have#[a,ks,rfl,hj,f1,f2]:=E1.dn hx hs;split at h;rename_i hl;rw[uV] at h;have#[k,hk,rfl]:=h;have#[b,rfl,hn,hZ,n8]:=za2 hy hk;have#[E4,X4]:=E1.write (o:= .dN (zfV ks k b v)) (c':= .dn (XA af k y z)) hs rfl hj rfl λX=>#[_,zW,(f2.put #[n8,hZ] hy hz).mono X];show#[a,_,rfl,.inr #[k,b,rfl,hn,hZ,.inl #[ks,f1,f2.nis,by rw[f2.len];show hl,rfl]],E4,X4];cases h;cases h;cases h
noncomputable def zak(d k:TwE):TwE:=λρ S=>rb (d ρ S) λx S1=>rb (k ρ S1) λy S2=>(YR S2 x y).bind λo=>o.map λz=> .ok z S2
def zhA(hd:RE K E td d)(hk:RE K E ty k):RE K E (znS K td ty) (zak d k):=by
 intro F j σ H ρ S r Q En0 e kk;rcases zK e with⟨x,S1,e1,e⟩|⟨c,S1,e1,rfl⟩
 .show hd En0 e1 λj1 H1 X1 E1 u hu=> ?_;rcases zK e with⟨y,S2,e2,e⟩|⟨c,S2,e2,rfl⟩
  .show hk E1 e2 λj2 H2 X2 E2 w hw=> ?_;cases ed:YR S2 x y with
   |none=>rw[ed] at e;cases e
   |some o=>
    rw[ed,y0] at e;cases o with
    |none=>cases e
    |some z=>
     cases e;have#[a,o,rfl,g,_,_,g3]:=E2.dgetN (hu.mono X2) hw ed;have#[z',rfl,hz]:=g3 z rfl;show#[a,z',rfl,g,kk _ _ (X1.trans X2) E2 _ hz]
  show hk E1 e2 (PX.mono kk X1)
 show hd En0 e1 kk
noncomputable def zkP(neg:Bool)(k d:TwE):TwE:=λρ S=>rb (k ρ S) λy S1=>rb (d ρ S1) λx S2=>(YR S2 x y).map λo=> .ok (.bl (neg !=o.isSome)) S2
def zkQ(hk:RE K E ty k)(hd:RE K E td d):RE K E (zq7 K neg ty td) (zkP neg k d):=by
 intro F j σ H ρ S r Q En0 e kk;rcases zK e with⟨y,S1,e1,e⟩|⟨c,S1,e1,rfl⟩
 .show hk En0 e1 λj1 H1 X1 E1 u hu=> ?_;rcases zK e with⟨x,S2,e2,e⟩|⟨c,S2,e2,rfl⟩
  .show hd E1 e2 λj2 H2 X2 E2 w hw=> ?_;cases ed:YR S2 x y with
   |none=>rw[ed] at e;cases e
   |some o=>
    rw[ed] at e;cases e;have#[a,o',rfl,g,g1,_,_]:=E2.dgetN hw (hu.mono X2) ed;show#[a,o',rfl,g,kk _ _ (X1.trans X2) E2 _ ?_];rw[g1];show .bl _
  show hd E1 e2 (PX.mono kk X1)
 show hk En0 e1 kk
def XB(d k v:TwE):TwS:=λρ S=>sb (v ρ S) λz S1=>sb (d ρ S1) λx S2=>sb (k ρ S2) λy S3=>(TX S3 x y z).map λS4=> .nx ρ S4
def zhB(hd:RE K E td d)(hk:RE K E ty k)(hv:RE K E tv v):RS K E (znT K td ty tv) (XB d k v):=by
 intro F j D' σ H ρ S fl E0 e kk;rcases xY e with⟨z,S1,e1,e⟩|⟨c,S1,e1,rfl⟩
 .show hv E0 e1 λj1 H1 X1 E1 wz n9=> ?_;rcases xY e with⟨x,S2,e2,e⟩|⟨c,S2,e2,rfl⟩
  .show hd E1 e2 λj2 H2 X2 E2 u hu=> ?_;rcases xY e with⟨y,S3,e3,e⟩|⟨c,S3,e3,rfl⟩
   .show hk E2 e3 λj3 H3 X3 E3 w hw=> ?_;cases ed:TX S3 x y z with
    |none=>rw[ed] at e;cases e
    |some S4=>
     rw[ed] at e;cases e;have#[a,H4,rfl,g,E4,X4]:=E3.dputN (hu.mono X3) hw (n9.mono (X2.trans X3)) ed;show#[a,H4,rfl,g,kk _ _ _ (X1.trans (X2.trans (X3.trans X4))) E4]
   show hk E2 e3 (PX.mono kk (X1.trans X2))
  show hd E1 e2 (PX.mono kk X1)
 show hv E0 e1 kk
end
section
variable{j:kh oN}
end
section
def Us(h:W (a ρ S) λx S1=>W (b ρ S1) λy S2=>∃z,YR S2 x y=eO (eO z)/\P z S2):W (zak a b ρ S) P:=
 W.bind (h.imp λ_ _ h=>W.bind (h.imp λ_ _ h=>by have#[z,e1,q]:=h;rw[e1];show .of rfl q))
def zkR(h:W (a ρ S) λy S1=>W (b ρ S1) λx S2=>∃o,YR S2 x y=eO o/\P (.bl (neg !=o.isSome)) S2):W (zkP neg a b ρ S) P:=
 W.bind (h.imp λ_ _ h=>W.bind (h.imp λ_ _ h=>by have#[o,e1,q]:=h;rw[e1];show .of rfl q))
def Ut(h:W (m ρ S) λz S1=>W (a ρ S1) λx S2=>W (b ρ S2) λy S3=>∃S4,TX S3 x y z=eO S4/\N ρ S4):WS (XB a b m ρ S) N R:=
 WS.bind (h.imp λ_ _ h=>WS.bind (h.imp λ_ _ h=>WS.bind (h.imp λ_ _ h=>by have#[S4,e1,q]:=h;rw[e1];show .nx rfl q)))
end
noncomputable def zdr(S:Sto)(x:Xv)(nm:Str):mw (Nat×kh (Str×Xv)):=match x with
 | .ref n=>match S[n]? with
  |some (.ins nm' fs)=>if nm'=nm then eO (n,fs) else fX
  |_=>fX
 |_=>fX
set_option tactic.hygienic true in
def zeY(h:zdr S x nm=eO (n,fs)):x= .ref n/\S[n]? =eO (.ins nm fs):=by
 unfold zdr at h;split at h;split at h;split at h;rename_i e1 e2;cases h;subst e2;show#[rfl,e1];cases h;cases h;cases h
def zfX(h:S[n]? =eO (.ins nm fs)):zdr S (.ref n) nm=eO (n,fs):=by
 unfold zdr;dsimp only;rw[h];dsimp only;rw[Gv rfl]
noncomputable def zeb(f:Str)(v:Xv):kh (Str×Xv)->kh (Str×Xv)
 |[]=>[(f,v)]
 |(g,x)::r=>if g=f then (g,v)::r else (g,x)::zeb f v r
section
variable{E:XK}{F:Fm}{j:kh oN}{x:Xv}{v:V}{nm f m:Str}{C:oN}
def KX.look(h:KX K j H fs vs):(∀y,fs.lookup f=eO y->∃w,vs.lookup f=eO w/\Xis K j H y w)/\(fs.lookup f=fX->vs.lookup f=fX):=by
 induction h with
 |nil=>show#[(λ_ e=>by cases e),λ_=>rfl]
 | @cons g y1 w1 r rs h l ih=>
  have#[i1,i2]:=ih;rw[An,An];cases hb:(f==g) with
  |true=>show#[(λy e=>by cases e;show#[w1,rfl,h]),(λe=>by cases e)]
  |false=>show#[i1,i2]
def KX.putF(hx:Xis K j H x v)(h:KX K j H fs vs):KX K j H (zeb f x fs) (WW f v vs):=by
 induction h with
 |nil=>show .cons hx .nil
 | @cons g y1 w1 r rs h l ih=>
  unfold zeb L2.WW;by_cases e:g=f;rw[Gv e,Gv e];show .cons hx l;rw[Gw e,Gw e];show .cons h ih
def En.ins{n:Nat}{fs:kh (Str×Xv)}(eG:v5 K tP nm=eO (eO (.ref C)))(E1:En K F j H σ ρ S)(hx:Xis K j H x v)(h:zdr S x nm=eO (n,fs)):∃a dx vs,v= .ref a/\j[n]? =eO a/\H a=eO (.ins C dx vs)/\KX K j H fs vs:=by
 have#[rfl,hs]:=zeY h;have#[a,rfl,hj]:=hx.ref_inv;have#[C',dx,vs,e0,e1,e2]:=E1.cel _ _ _ hs hj;rw[eG] at e0;cases e0;show#[a,dx,vs,rfl,hj,e1,e2]
noncomputable def wq(nm f:Str)(o:TwE):TwE:=λρ S=>rb (o ρ S) λx S1=>(zdr S1 x nm).bind λp=>(p.2.lookup f).map λy=> .ok y S1
def vF(eG:v5 K tP nm=eO (eO (.ref C)))(hc:Cls K C)(hn:YK K C f)(h:RE K E to o):RE K E (ztc K to f) (wq nm f o):=by
 walk_at "!a"
 .show h En0 e1 λj1 H1 X1 E1 u hu=> ?_;rw[Aa] at e;have#[#[n,fs],e2,e]:=e;rw[uV] at e;have#[y,e3,rfl]:=e;have#[a,dx,vs,rfl,hj,f1,f2]:=E1.ins eG hu e2;have#[w,g1,g2]:=f2.look.1 y e3;show#[a,C,dx,vs,w,rfl,f1,hc,hn,g1,k _ _ X1 E1 _ g2]
 show h En0 e1 k
def zhC(nm f:Str)(o m:TwE):TwS:=λρ S=>sb (m ρ S) λy S1=>sb (o ρ S1) λx S2=>(zdr S2 x nm).bind λp=>if p.2.length<1000 then eO (.nx ρ (S2.set p.1 (.ins nm (zeb f y p.2)))) else fX
def KX.len2{fs:kh (Str×Xv)}{vs:kh (Str×V)}(h:KX K j H fs vs):vs.length=fs.length:=by
 induction h with
 |nil=>rfl
 |cons h _ ih=>show congrArg (· +1) ih
set_option tactic.hygienic true in
def zkS{to tv:TE}{o m:TwE}(eG:v5 K tP nm=eO (eO (.ref C)))(hc:Cls K C)(hn:YK K C f)(ho:RE K E to o)(hv:RE K E tv m):RS K E (ztd K to tv f) (zhC nm f o m):=by
 intro F j D' σ H ρ S fl E0 e kk;rcases xY e with⟨y,S1,e1,e⟩|⟨c,S1,e1,rfl⟩
 .show hv E0 e1 λj1 H1 X1 E1 wy rm=> ?_;rcases xY e with⟨x,S2,e2,e⟩|⟨c,S2,e2,rfl⟩
  .show ho E1 e2 λj2 H2 X2 E2 u hu=> ?_;rw[Aa] at e;have#[#[n,fs],e3,e]:=e;dsimp only at e;split at e;rename_i hl;cases e;have#[a,dx,vs,rfl,hj,f1,f2]:=E2.ins eG hu e3;have#[E4,X4]:=E2.write (o:= .ins C dx (L2.WW f wy vs)) (c':= .ins nm (zeb f y fs)) (zeY e3).2 rfl hj rfl λX=>#[C,dx,_,eG,zW,(KX.putF (rm.mono X2) f2).mono X];show#[a,C,dx,vs,rfl,f1,hc,hn,by rw[f2.len2];show hl,kk _ _ _ (X1.trans (X2.trans X4)) E4];cases e
  show ho E1 e2 (PX.mono kk X1)
 show hv E0 e1 kk
noncomputable def yx(nm m:Str)(tw:TwF)(o:TwE)(ms:kh TwE):TwE:=λρ S=>rb (o ρ S) λx S1=>(zdr S1 x nm).bind λp=>if p.2.lookup m=fX then rb (evL ms ρ S1) λxs S2=>tw (x::xs) S2 else fX
set_option tactic.hygienic true in
def wE(eG:v5 K tP nm=eO (eO (.ref C)))(ho:RE K E to o)(h:RL K E t (evL ms))(hn:ms.length+1=n:=by rfl):RE K E (zmx C m (sTw K n tw) [] E to t) (yx nm m tw o ms):=by
 walk_at "!a"
 .show ho En0 e1 λj1 H1 X1 E1 u hu=> ?_;rw[Aa] at e;have#[#[q,fs],e2,e]:=e;dsimp only at e;split at e
  .rename_i kS;have#[a,dx,mz,rfl,hj,f1,f2]:=E1.ins eG hu e2;show#[a,dx,mz,rfl,f1,f2.look.2 kS,?_];rcases zK e with⟨xs,S2,e3,e⟩|⟨c,S2,e3,rfl⟩
   .show h E1 e3 λj2 H2 X2 E2 vs hv=> ?_;rw[Aw];show WJ E2 (.cons (hu.mono X2) hv) (by rw[uW,hv.len,Xw e3,hn]) e (k.step (X1.trans X2))
   show h E1 e3 (k.step X1)
  cases e
 show ho En0 e1 k
noncomputable def zfY(nm:Str)(tw:TwF)(ms:kh TwE):TwE:=λρ S=>rb (evL ms ρ S) λxs S1=>match tw (.ref S1.length::xs) (S1++[.ins nm []]) with
 |some (.ok .non S2)=>eO (.ok (.ref S1.length) S2)
 |_=>fX
set_option tactic.hygienic true in
def zhD(eG:v5 K tP nm=eO (eO (.ref C)))(h:RL K E t (evL ms))(hn:ms.length+1=n:=by rfl):RE K E (zqU C (sTw K n tw) [] E t) (zfY nm tw ms):=by
 walk_at "!e"
 .show h En0 e1 λj1 H1 X1 E1 vs hv=> ?_;intro x dx hx sN di;rw[Aw];split at e
  .rename_i S2 e2;cases e;have kG:upd H1 dx (.own x) x=fX:=by rw[zT (λz=>di z.symm)];show hx
   have#[E2,X2]:=E1.new (p:=dx) (o:= .own x) sN;have#[E3,X3]:=E2.cell (p:=x) (o:= .ins C dx []) (c:= .ins nm []) kG #[C,dx,[],eG,zW,.nil];have X23:=X2.trans X3;have hr:Xis K (j1++[x]) (upd (upd H1 dx (.own x)) x (.ins C dx [])) (.ref S1.length) (.ref x):= .ref (by rw[<-E1.jl];simp);show WJ E3 (.cons hr (hv.mono X23)) (by rw[uW,hv.len,Xw e1,hn]) e2 λj' H' X E4 v hw=> ?_;show#[hw.non_inv,k _ _ (X1.trans (X23.trans X)) E4 _ (hr.mono X)]
  cases e
 show h En0 e1 k
end
section
def xl(h:W (o ρ S) λx S1=>∃n fs y,x= .ref n/\S1[n]? =eO (.ins nm fs)/\fs.lookup f=eO y/\P y S1):W (wq nm f o ρ S) P:=
 W.bind (h.imp λ_ _ h=>by have#[n,fs,y,rfl,e1,e2,q]:=h;rw[zfX e1,y0,e2];show .of rfl q)
def zfZ(h:W (m ρ S) λy S1=>W (o ρ S1) λx S2=>∃n fs,x= .ref n/\S2[n]? =eO (.ins nm fs)/\fs.length<1000/\N ρ (S2.set n (.ins nm (zeb f y fs)))):WS (zhC nm f o m ρ S) N R:=
 WS.bind (h.imp λ_ _ h=>WS.bind (h.imp λ_ _ h=>by have#[n,fs,rfl,e1,e2,q]:=h;rw[zfX e1,y0,Gv e2];show .nx rfl q))
def yi(h:W (o ρ S) λx S1=>∃n fs,x= .ref n/\S1[n]? =eO (.ins nm fs)/\fs.lookup f=fX/\W (evL ms ρ S1) λxs S2=>W (tw (x::xs) S2) P):W (yx nm f tw o ms ρ S) P:=
 W.bind (h.imp λ_ _ h=>by have#[n,fs,rfl,e1,e2,q]:=h;rw[zfX e1,y0,Gv e2];show W.bind (q.imp λ_ _ h=>h))
def zpO(h:W (evL ms ρ S) λxs S1=>W (tw (.ref S1.length::xs) (S1++[.ins nm []])) λv S2=>v= .non/\P (.ref S1.length) S2):W (zfY nm tw ms ρ S) P:=
 W.bind (h.imp λxs S1 h=>by
  have#[v,S2,e,rfl,q]:=h;rw[e]
  show .of rfl q)
end
def Tu(h:X.K=K:=by rfl):IxR X (rIx K):=h ▸ zrE
section
variable{E:XK}{j:kh oN}
end
section
variable{E:XK}{F:Fm}{j:kh oN}{x:Xv}{v:V}{c:Str}{C:oN}
end
end L2
namespace L2
section
variable{S':Sto}{x y:Xv}{a b m o:TwE}{c:TwT}{s t:TwS}{i k:Nat}{PL:kh Xv->Sto->Prop}{X:Str->Sto->Prop}
end
open PySem.Calls
section
variable{E:XK}
noncomputable def zds:OpM:=λx ys S=>match zag S x,ys with
 |some (_,l),[y]=>if wo y&&l.all wo then (l.findIdx? λz=>zfR z y).map λ(k:Nat)=>(Xv.int (k:Int),S) else fX
 |_,_=>fX
set_option tactic.hygienic true in
def zhE:zlL K zmW zds:=by
 intro F j σ H ρ S S' x z ys u vs Q E0 hx hy h k;unfold zds at h;split at h
 .rename_i n l y e;split at h
  .rename_i hf;have hf:=DW.1 hf;rw[uV] at h;have#[q,e3,h]:=h;cases h;have#[a,ws,rfl,hj,h1,h2]:=E0.wl hx e;have#[w0,rfl,hw]:=hy.d1;have#[fA,sD,m7]:=B6.1 e3;have#[w,w1,w2]:=h2.get (uH fA);have fl:∀(m:Nat) (hm:m<l.length),wo l[m]=gP:=λm hm=>Ao.1 hf.2 _ (y8 hm);show#[a,ws,w0,q,rfl,rfl,h1,?_,?_,#[w,w1,?_],λm z hm hz=> ?_,k _ _ _ Ext.refl E0 (.int _)];rw[zdl hw];show hf.1;rw[zkI h2];show hf.2;rw[zji w2 hw (fl _ fA) hf.1];show sD
   have kR:m<l.length:=by omega
   have#[y',y1,y2]:=h2.get (uH kR);rw[hz] at y1;cases y1;rw[zji y2 hw (fl _ kR) hf.1];have:=m7 m hm;simpa using this
  cases h
 cases h
def znX(h:zag S x=eO (n,l))(hf:(wo y&&l.all wo)=gP)(e:(l.findIdx? λz=>zfR z y)=eO k)(q:P (.int (k:Int)) S):WO (zds x [y] S) P:= .of (by unfold zds;rw[h];dsimp only;rw[Gv hf,e];rfl) q
noncomputable def zsf(m:TwE):TwI:=λρ S=>rb (m ρ S) λx S1=>x.tupOf.map λl=> .ok (λ_=>eO l.reverse) S1
def zpP(h:RE K E t m):RI K E (zto K (zb6 t zlr)) (zsf m):=by
 walk_at "!d"
 .cases el:x.tupOf with
  |none=>rw[el] at e;cases e
  |some l=>
   rw[el] at e;cases e;show h En0 e1 λj1 H1 X1 E1 u hu=> ?_;have#[a,vs,rfl,h1,nc]:=hu.tupO el;show#[a,vs,rfl,h1,k _ _ X1 E1 _ ?_];intro F2 j2 H2 σ2 ρ2 S2 xs i X2 E2 e2;cases e2;have#[a',ws,ea,g1,g2]:=(hu.mono X2).tupO el;cases ea;have n1:=nc.len;have n2:=g2.len;show#[λy ey=> ?_,λhle=> ?_]
   .have hi:i<l.length:=by
     have:=(uF.1 ey).1;simpa using this
    rw[Cr hi] at ey;have#[w,f1,f2]:=g2.get ey;show#[#[⋯,ws,g1,⋯],?_];intro v' H' #[rfl,hx];have:=hx ws g1;rw[show vs.length-1-i=l.length-1-i by omega,f1] at this;cases this;show#[YL.refl _,f2]
   change i=vs.length;simp at hle;omega
 show h En0 e1 k
def zpQ{Q':(Sto->mw (kh Xv))->Sto->Prop}(h:W (m ρ S) λx S1=>∃l,x.tupOf=eO l/\Q' (λ_=>eO l.reverse) S1):W (zsf m ρ S) Q':=W.bind (h.imp λx S1 h=>by
 have#[l,e,k]:=h;rw[e]
 show .of rfl k)
noncomputable def zhF:Op2:=λx y S=>match x,y with
 | .tup u,.int k=>if -(2^63)<=k/\k<2^63/\u.length*k.toNat<=FC then eO (.tup (w5 k.toNat u).flatten,S) else fX
 |_,_=>fX
theorem zhG(h:yn K j H xs vs):∀n:Nat,yn K j H (w5 n xs).flatten (w5 n vs).flatten
 |0=> .nil
 |n+1=>by
  rw[Aq,Aq,Au,Au];show h.append (zhG h n)
set_option tactic.hygienic true in
def zkT:Xo K (zq5 K) zhF:=by
 walk_at "!h";unfold zhF at h;split at h
 .rename_i ds q;split at h
  .rename_i hz;cases h;have#[p,xs,rfl,h1,h2]:=hx.tup_inv;show#[p,_,xs,rfl,hy.int_inv,SqT.of h1,hz.1,hz.2.1,by rw[h2.len];show hz.2.2,λhc=> ?_,λhc l hl=> ?_]
   .have e:(w5 q.toNat ds).flatten=ds:=by
     rcases hc with hc|hc;subst hc;obtain rfl:=C7.1 h2.len.symm;simp;subst hc;simp
    rw[e] at k;show k _ _ _ Ext.refl E1 hx
   have#[E2,X2]:=E1.new (o:= .tup (w5 q.toNat xs).flatten) hl;show k _ _ _ X2 E2 (.tup zW ((zhG h2 _).mono X2))
  cases h
 cases h
def zpR(h:0<=p/\p<=1000000/\u.length*p.toNat<=FC)(k:P (.tup (w5 p.toNat u).flatten) S):WO (zhF (.tup u) (.int p) S) P:= .of (by unfold zhF;show Gv #[⋯,⋯,h.2.2]) k
end
section
variable{E:XK}{j:kh oN}
end
section
variable{E:XK}{F:Fm}{j:kh oN}
end
section
variable{E:XK}
def znY(h:S[n]? =eO c):S.set n c=S:=by
 have#[hi,e]:=uF.1 h;rw[<-e];show List.set_getElem_self hi
end
noncomputable def zhH:Opn:=λxs S=>match xs with
 |[.ref n]=>match S[n]? with
  |some (.dk af)=>eO (.int af.length,S)
  |some (.fdk af)=>eO (.int af.length,S)
  |some (.dn af)=>eO (.int af.length,S)
  |_=>fX
 |_=>fX
set_option tactic.hygienic true in
def zkU:zaf K zq9 zhH:=by
 walk_at "!f";unfold zhH at h;split at h;rename_i n;have#[w,rfl,hx]:=hv.d1;have#[a,rfl,hj]:=hx.ref_inv;show#[a,rfl,?_];split at h;rename_i af hs;cases h;have#[ks,e1,e2]:=E1.cel _ _ _ hs hj;show .inl #[ks,.inl e1,k _ _ _ Ext.refl E1 (by rw[e2.len];show .int _)];rename_i af hs;cases h;have#[o,ks,e1,e2]:=E1.cel _ _ _ hs hj;show .inl #[ks,.inr #[o,e1],k _ _ _ Ext.refl E1 (by rw[e2.len];show .int _)];rename_i af hs;cases h;have#[ks,e1,e2]:=E1.cel _ _ _ hs hj;show .inr #[ks,e1,k _ _ _ Ext.refl E1 (by rw[e2.len];show .int _)];cases h;cases h
section
variable{E:XK}
end
section
variable{x y:Xv}
end
section
variable{E:XK}
end
section
variable{m:TwE}
end
section
variable{E:XK}
end
section
variable{x:Xv}
end
section
def zra(K:uG)(tl:TE):TI:=λσ H R=>tl σ H λx H1=>∃a,x= .ref a/\(((∃xs,SqL K H1 a xs)/\R (Itl K a) H1)\/((∃xs,SqT K H1 a xs)/\R (Itt K a) H1))
def zkV(hl:PE X l tl)(hK:X.K=K:=by rfl):PI X tg l (zra K tl):=by
 subst hK;intro pins s σ H R I h;show thn (hl pins s σ H _ I h) ?_;rintro v s1 ⟨x,H1,I1,r1,a,rfl,⟨⟨xs,hq⟩,q⟩|⟨⟨xs,hq⟩,q⟩⟩
 .cases r1;have#[ah,rv,p,hz]:=I1.list hq;show Ge p.isList ?_;show#[#v[s1],[#v[s1]],_,_,H1,rfl,I1.kept (t':=s1.toks) λb o e=>Heap.get?_push_of_some _ e,zeD a _,#[_,Heap.get?_push_size _ rfl,rfl,rfl],λb hb=> ?_,q];have e:b=#v[s1]:=by simpa using hb
  subst e;show I1.fpOk (uL _) (I1.hok.fresh (uL _))
 cases r1;have#[ah,rv,p,hz]:=I1.tuple hq;show wpAny_pyIter_tuple (show s1.heap.IsTuple a ah.toArray from p) ?_;show#[#v[s1],[#v[s1]],_,_,H1,rfl,I1.kept (t':=s1.toks) λb o e=>Heap.get?_push_of_some _ e,zcQ a _,#[_,Heap.get?_push_size _ rfl,rfl,rfl],λb hb=> ?_,q];have e:b=#v[s1]:=by simpa using hb
 subst e;show I1.fpOk (uL _) (I1.hok.fresh (uL _))
end
noncomputable def iA(m:TwE):TwI:=λρ S=>rb (m ρ S) λx S1=>match x with
 | .ref n=>(yo S1 (.ref n)).map λ_=> .ok (λS=>yo S (.ref n)) S1
 |y=>y.tupOf.map λl=> .ok (λ_=>eO l) S1
section
variable{E:XK}
set_option tactic.hygienic true in
def zkW(h:RE K E t m):RI K E (zra K t) (iA m):=by
 walk_at "!d"
 .have mB:∀y:Xv,x=y->y.tupOf.map (λl=>Rs.ok (λ_=>eO l) S1)=eO r->t σ H (λx H1=>∃a,x= .ref a/\(((∃xs,SqL K H1 a xs)/\R (Itl K a) H1)\/((∃xs,SqT K H1 a xs)/\R (Itt K a) H1))):=by
   rintro y rfl e;cases el:x.tupOf with
   |none=>rw[el] at e;cases e
   |some l=>
    rw[el] at e;cases e;show h En0 e1 λj1 H1 X1 E1 u hu=> ?_;have#[a,vs,rfl,h1,_]:=hu.tupO el;show#[a,rfl,.inr #[#[vs,h1],k _ _ X1 E1 _ ?_]];intro F2 j2 H2 σ2 ρ2 S2 xs i X2 E2 e2;cases e2;have#[a',ws,ea,g1,g2]:=(hu.mono X2).tupO el;cases ea;show#[λy ey=> ?_,λhle=>#[ws,g1,by rw[g2.len];omega]];have#[w,f1,f2]:=g2.get ey;show#[#[ws,w,g1,f1],?_];intro v' H' #[rfl,hx];have:=hx ws g1;rw[f1] at this;cases this;show#[YL.refl _,f2]
  split at e
  .rename_i n;cases el:yo S1 (.ref n) with
   |none=>rw[el] at e;cases e
   |some l=>
    rw[el] at e;cases e;show h En0 e1 λj1 H1 X1 E1 u hu=> ?_;have#[a,vs,rfl,h1,_]:=E1.lstAt hu el;show#[a,rfl,.inl #[#[vs,h1.sql],k _ _ X1 E1 _ ?_]];intro F2 j2 H2 σ2 ρ2 S2 xs i X2 E2 e2;have#[a',ws,ea,g1,g2]:=E2.lstAt (hu.mono X2) e2;cases ea;show#[λy ey=> ?_,λhle=>#[ws,g1.sql,by rw[g2.len];omega]];have#[w,f1,f2]:=g2.get ey;show#[#[ws,w,g1.sql,f1],?_];intro v' H' #[rfl,hx];have:=hx ws g1.sql;rw[f1] at this;cases this;show#[YL.refl _,f2]
  show mB _ rfl e
 show h En0 e1 k
end
section
def znZ{Q':(Sto->mw (kh Xv))->Sto->Prop}(h:W (m ρ S) λx S1=>∃l,x= .tup l/\Q' (λ_=>eO l) S1):W (iA m ρ S) Q':=W.bind (h.imp λx S1 h=>by
 have#[l,rfl,k]:=h
 show .of rfl k)
end
end L2
namespace L2
open PyProof
open Builtin Builtin.Str
end L2
namespace L2
open PyProof
end L2
namespace L2
section
variable{E:XK}{F:Fm}{j:kh oN}
end
section
variable{E:XK}{j:kh oN}
end
section
variable{o m:TwE}{x y:Xv}
end
open PyProof
section
variable{E:XK}
end
end L2
namespace L2
theorem zeZ:∀{ns:kh (Str×Ga)} {cs:kh (Str×oN)} {p:Str×oN},p∈zcr env ns cs->p∈cs\/(p.1,NameKind.free)∈ns
 |[],_,_,h=> .inl h
 |(n,k)::r,cs,p,h=>by
  unfold zcr at h;rcases zeZ h with h|h
  .by_cases hk:(k== .free)=gP
   .rw[Gv hk] at h;have iy:k= .free:=by simpa using hk
    cases e:env.cells.lookup n with
    |none=>rw[e] at h;show .inl h
    |some c=>
     rw[e] at h;rcases uU.mp h with rfl|h;show .inr (by rw[iy];show uY);show .inl h
   rw[Gw hk] at h;show .inl h
  show .inr (uR _ h)
set_option tactic.hygienic true in
def zjr(l:kh oJ)(h:TriplesOk l):codeAmong pos (l++[Gc a,Gc b,c])=eO cv->codeAmong pos l=eO cv\/cv=c:=by
 fun_induction TriplesOk l with
 |case1=>
  intro e;simp only[DG,codeAmong,Gc] at e;split at e;cases e;show .inr rfl;cases e
 |case2 a t b u x rest ih=>
  intro e;simp only[AA,codeAmong] at e ⊢;split at e;rename_i hc;rw[Gv hc];show .inl e;rename_i hc;rw[Gw hc];show ih h e
 |case3 l h1 h2=>show h.elim
section
def Inv.freeze(I:Inv X pins σ H s)(hx:X.env.cells.lookup x=eO c)(hz:X.zn x=gP)(hf:X.fn x=kb):∃H' o,Inv X pins σ H' s/\YL H H'/\H' c=eO (.frz o (.own 0))/\s.heap.get? c=eO o:=by
 have#[v,o,ho,hd]:=I.cell x c hx;rcases I.freeC x c hx with hn|⟨_,o',h'⟩
 .have i7:=I.ok.cab x c (.inr hz) hx;have ne:∀b u,H b=eO u->b≠c:=λb u e z=>by rw[z,hn] at e;cases e
  show#[upd H c (.frz o (.own 0)),o,#[I.ok,I.os,I.bare,#[I.base.keep,I.base.slot,λb ob e n kG=> ?_,I.base.there,λb xs e=> ?_,λb ob u e=> ?_,λb ps e=> ?_],I.loc,I.cell,?_,λy d e=> ?_,λp hp=> ?_,λb u e=> ?_,I.len],wD hn,zW,ho];rw[zT (y6 (x9 (Heap.lt_size e) i7))];show I.base.free b ob e n kG;have:=I.base.tups b xs e;rw[zT (ne b _ this)];show this;have:=I.base.frzs b ob u e;rw[zT (ne b _ this)];show this;have#[m,q]:=I.base.tbls b ps e;show#[m,by rw[zT (ne b _ q)];show q];rw[zT (B3 (I.cne x c hx))];show I.free;by_cases pW:d=c;subst pW;obtain rfl:=I.ok.inj y x d e hx;show .inr #[hf,o,zW];rw[zT pW];show I.freeC y d e;have#[e,n,r1,r2,r3]:=I.pin p hp;show#[e,?_,r1,r2,r3];rw[zT];show n;intro q;rw[q,ho] at e;cases e;show r3 v hd;by_cases hb:b=c;subst hb;rw[zW] at e;cases e;show#[ho,o,ho]
  rw[zT hb] at e;show(I.hok b u e).stay (λ_ _ _ q=>q) (λd q=>by rw[zT (ne d _ q)];show q) λd xs q=>by rw[zT (ne d _ q)];show q
 show#[H,o',I,λ_ _ e=>e,h',(I.hok c _ h').1]
theorem Inv.freezeL(I:Inv X pins σ H s):∀(l:kh (Str×oN)),(∀p∈l,X.env.cells.lookup p.1=eO p.2/\X.zn p.1=gP/\X.fn p.1=kb)->∃H',Inv X pins σ H' s/\YL H H'/\∀p∈l,∃o,H' p.2=eO (.frz o (.own 0))/\s.heap.get? p.2=eO o
 |[],_=>#[H,I,λ_ _ e=>e,λp hp=>nomatch hp]
 |p::r,h=>by
  have#[H1,I1,S1,f1]:=I.freezeL r λq hq=>h q (uR _ hq);have#[a1,a2,a3]:=h p uY;have#[H2,o,I2,S2,e1,e2]:=I1.freeze a1 a2 a3;show#[H2,I2,λb u e=>S2 b u (S1 b u e),λq hq=> ?_];rcases uU.mp hq with rfl|hq;show#[o,e1,e2];have#[o',e3,e4]:=f1 q hq;show#[o',S2 _ _ e3,e4]
def Inv.lamMade{P c f:oN}(I:Inv X pins σ H s)(hP:H P=eO (.tbl ps))(hx:∀b o,b≠P->s.heap.get? b=eO o->h'.get? b=eO o)
  (q8:h'.get? P=eO (BO (ps++more))) (hc:#v[s]<=c) (jZ:h'.get? c=eO oc) (hf:#v[s]<=f) (jG:h'.get? f=eO fo) (uo:c≠f):
  Inv X pins σ (upd (upd (upd H P (.tbl (ps++more))) c (.frz oc (.own 0))) f (.frz fo (.own 0))) {s with heap:=h',toks:=t'}:=by
 have lS:P<#v[s]:=(I.hok P _ hP).lt;have gt:∀a b:Nat,a<#v[s]->#v[s]<=b->b≠a:=λa b h1 h2=>by omega
 have cP:c≠P:=gt P c lS hc;have fP:f≠P:=gt P f lS hf;have old:∀b,b<#v[s]->b≠P->upd (upd (upd H P (.tbl (ps++more))) c (.frz oc (.own 0))) f (.frz fo (.own 0)) b=H b:=λb hb hp=>by
  rw[zT (B3 (gt b f hb hf)),zT (B3 (gt b c hb hc)),zT hp]
 have kA:∀b u,H b=eO u->b<#v[s]:=λb u e=>(I.hok b u e).lt;have tO:upd (upd (upd H P (.tbl (ps++more))) c (.frz oc (.own 0))) f (.frz fo (.own 0)) P=eO (.tbl (ps++more)):=by
  rw[zT (B3 fP),zT (B3 cP),zW]
 have nP:∀b,H b=fX->b≠P:=λb n z=>by rw[z,hP] at n;cases n
 show I.step (g':=s.gens) (d':=s.drawn) (ch:=[]) (λ_ z=>nomatch z) (λb o _ _ _ e n=>hx b o (nP b n) e) (λb o _ _ _ e n=>#[o.slots,hx b o (nP b n) e]) (λb o _ e n=>by rw[old b (Heap.lt_size e) (nP b n)];show n)
  (λb o _ e=> ?_) (λb xs e=> ?_) (λb o u e=> ?_) (λb qs e=> ?_) (λm hm=> ?_) (λb u e=> ?_) I.bare
 .by_cases hb:b=P;subst hb;show#[_,q8];show#[o,hx b o hb e]
 .rw[old b (kA b _ e) (λz=>by rw[z,hP] at e;cases e)];show e
 .rw[old b (kA b _ e) (λz=>by rw[z,hP] at e;cases e)];show e
 .by_cases hb:b=P;subst hb;rw[hP] at e;cases e;show#[more,tO];show#[[].toArray,by rw[old b (kA b _ e) hb,e];simp]
 .obtain⟨o,es,ep,ho,r⟩:=hm;show#[o,es,ep,hx _ o (nP _ I.free) ho,r]
 by_cases h1:b=f;subst h1;rw[zW] at e;cases e;show#[jG,fo,jG];rw[zT h1] at e;by_cases h2:b=c;subst h2;rw[zW] at e;cases e;show#[jZ,oc,jZ];rw[zT h2] at e;by_cases h3:b=P;subst h3;rw[zW] at e;cases e;show q8;rw[zT h3] at e;show(I.hok b u e).stay (λd o q r=>hx d o ?_ r) (λd q=> ?_) λd xs q=> ?_;rcases q with q|q;rw[q];show h3;intro z;rw[z,hP] at q;cases q;rw[old d (kA d _ q) (λz=>by rw[z,hP] at q;cases q)];show q;rw[old d (kA d _ q) (λz=>by rw[z,hP] at q;cases q)];show q
end
structure zsg(X:Cx)(sc:Scope)(fr:kh Str)(is:kh Nat):Prop where
 blk:zfA X sc
 fre:∀(i:Nat) x,fr[i]? =eO x->sc.names.lookup x=eO .free/\∃k,is[i]? =eO k/\X.N[k]? =eO x
 all:∀y∈sc.names,y.2= .free->X.zn y.1=gP/\X.fn y.1=kb
def zsh(L:xx)(P:oN)(is:kh Nat):TE:=λσ H Q=>∃(ps:Array oJ) (vs:kh V),H P=eO (.tbl ps)/\TriplesOk ps.toList/\(∀pos cv,codeAmong pos ps.toList=eO cv->∃c,cv= .ref c/\TN H L.q c)/\
 is.map (λi=>(σ[i]?).join)=vs.map eO/\
 ∀f ps' H',YL (upd H P (.tbl ps')) H'->TriplesOk ps'.toList->(∀pos cv,codeAmong pos ps'.toList=eO cv->∃c,cv= .ref c/\TN H' L.q c)->zc8 H' L f vs->Q (.ref f) H'
def zsi{id:Nat}{par:Arguments}{body:Expr}{sc:Scope}{pos:Pos}{tn:Ul}{fr:kh Str}{is:kh Nat}{c P:oN}(S:zsg X sc fr is)(hq:X.env.qual=tn.d++".<locals>.")(gm:X.env.code= .ref c)(hC:BR X.K c P=gP)
  (jI:defaultsOf par X.env=([],[]):=by rfl):PE X (.Lambda par body sc pos) (zsh #[id,par,body,sc,tn,fr] P is):=by
 have hq:X.env.qual++"<lambda>"=tn.q:=by rw[hq];rfl
 generalize nA:tn.q=q at hq;intro pins s σ H Q I hh;have#[ps,vs,hP,ht,gk,nc,k]:=hh;simp only[xx.q,nA] at gk k;have mo:s.heap.get? P=eO (BO ps):=I.hok P _ hP;have hg:s.heap.Ns tP X.mg:=I.mod.glob.keeps I.bk;have sH:tP≠P:=λz=>by
  have#[o,es,ep,e,hd,_]:=hg;rw[z,mo] at e;cases e;cases hd
 have C:PySem.W.CodeHd s.heap c P:=Ed I.kIn hC;have hb:s.heap.BuiltinsAt X.mg P:=by
  have#[bm,ob,b1,b2,b3,b4,b5,b6]:=I.mod.bmn;have b3:=I.bk _ _ b3;show#[bm,ob,b1,b2,λz=> ?_,λz=> ?_,b3,b4,b5,b6];have#[o,es,ep,e,hd,_]:=hg;rw[z,e] at b3;cases b3;rw[hd] at b6;cases b6;rw[z,mo] at b3;cases b3;cases b4
 have fin:∀(f c':oN) (pm dM:oJ) (ps':Array oJ) (H1:Hp) (s1:oM),Inv X pins σ H1 s1->YL (upd H P (.tbl ps')) H1->TriplesOk ps'.toList->(∀pos cv,codeAmong pos ps'.toList=eO cv->∃c,cv= .ref c/\TN H1 q c)->
   H1 f=eO (.frz (Ba "<lambda>" q par body sc (WZ sc X.env) pm c' dM) (.own 0))->TN H1 q c'->EP X pins σ Q (.ref f) s1:=by
  intro f c' pm dM ps' H1 s1 I1 S1 t1 c1 hf iB;have cl:∀p∈WZ sc X.env,X.env.cells.lookup p.1=eO p.2/\X.zn p.1=gP/\X.fn p.1=kb:=λp hp=>by
   show#[zcX (cs:=[]) (λp hp=>nomatch hp) p hp,?_];rcases zeZ hp with z|z;cases z;show S.all _ z rfl
  have#[H2,I2,S2,f2]:=I1.freezeL (WZ sc X.env) cl;show#[.ref f,H2,I2,rfl,k f ps' H2 (λb u e=>S2 b u (S1 b u e)) t1 (λp cv e=> ?_) #[WZ sc X.env,pm,dM,c',by rw[show xx.q #[id,par,body,sc,tn,fr]=q from nA];show S2 _ _ hf,by rw[show xx.q #[id,par,body,sc,tn,fr]=q from nA];show iB.mono (vn.same S2),λi x v e1 e2=> ?_,λx y a e1 e2=> ?_,λy hy e=> ?_,λx a e=> ?_]];have#[d,e1,e2]:=c1 p cv e;show#[d,e1,e2.mono (vn.same S2)]
  .obtain⟨h1,n,h2,h3⟩:=S.fre i x e1;have hm:(x,NameKind.free)∈sc.names:=z3 h1;have hs:σ[n]? =eO (eO v):=by
    have e:=congrArg (λl=>l[i]?) nc;simp only[uK,h2,e2,AZ,A8] at e;cases q:σ[n]? with
    |none=>rw[q] at e;cases e
    |some z=>rw[q] at e;show congrArg eO e
   have#[m,hn,hl]:=I2.loc;have hk:=S.blk.free _ hm rfl;have#[u,r,l]:=hl n x v h3 hs (by rcases hk with k|k;show .inr (.inl k);show .inr (.inr k));rcases l with⟨k',_⟩|⟨_,a,ha,o,ho,hd⟩
   .rcases hk with k''|k'';rw[k'] at k'';cases k'';rw[k'] at k'';cases k''
   have lb:(WZ sc X.env).lookup x=eO a:=zcY hm ha;have#[o',e3,e4]:=f2 (x,a) (z3 lb);rw[ho] at e4;cases e4;show#[a,o,u,lb,e3,hd,r]
  .show I1.ok.inj x y a (WG e1) (WG e2)
  .obtain⟨a,ha⟩:=I1.ok.has y.1 (S.blk.free y hy e);show#[a,zcY (by rw[<-e];show hy) ha]
  have#[o,e3,e4]:=f2 (x,a) (z3 e);have#[u,o',e5,hd]:=I2.cell x a (WG e);rw[e4] at e5;cases e5;show#[o,u,e3,hd]
 show PySem.W.kla_eval jI ?_;rw[hq];cases o4:codeAmong pos ps.toList with
 |none=>
  show PySem.W.kla_makeFunction (I.closure S.blk) I.ok.glob hg gm C mo ht o4 sH hb λc' dM h' tk hx md fA nz rK=> ?_;have#[c₂,oc,fs,t,e2,m5,hd,hv]:=nz;cases e2;have I1:=I.lamMade (t':=tk) (h':=h'.push (Ba "<lambda>" q par body sc (WZ sc X.env) ((X.mg "__name__").getD .none) c' dM)) (fo:=Ba "<lambda>" q par body sc (WZ sc X.env) ((X.mg "__name__").getD .none) c' dM) (more:= [Gc pos.line,Gc pos.col,.ref c'].toArray) hP (λb o iC e=>Heap.get?_push_of_some _ (hx b o iC e)) (Heap.get?_push_of_some _ rK) md (Heap.get?_push_of_some _ m5) (uP md (z5 fA)) (Heap.get?_push_size _ rfl) (y6 fA);have lS:P<#v[s]:=(I.hok P _ hP).lt;have S1:YL (upd H P (.tbl (ps++ [Gc pos.line,Gc pos.col,.ref c'].toArray))) (upd (upd (upd H P (.tbl (ps++ [Gc pos.line,Gc pos.col,.ref c'].toArray))) c' (.frz oc (.own 0))) h'.objs.size (.frz (Ba "<lambda>" q par body sc (WZ sc X.env) ((X.mg "__name__").getD .none) c' dM) (.own 0))):=λb u e=>by
   have iC:b<#v[s]:=by
    by_cases iC:b=P;rw[iC];show lS;rw[zT iC] at e;show(I.hok b u e).lt
   rw[zT (y6 (x9 iC (uP md (z5 fA)))),zT (y6 (x9 iC md))];show e
  have ml:TN (upd (upd (upd H P (.tbl (ps++ [Gc pos.line,Gc pos.col,.ref c'].toArray))) c' (.frz oc (.own 0))) h'.objs.size (.frz (Ba "<lambda>" q par body sc (WZ sc X.env) ((X.mg "__name__").getD .none) c' dM) (.own 0))) q c':=#[oc,fs,t,by rw[zT (y6 fA),zW],hd,hv];show fin _ c' _ dM _ _ _ I1 S1 (by rw[CI];show TriplesOk_snoc _ _ _ _ ht) (λp cv e=> ?_) zW ml;rw[CI] at e;rcases zjr ps.toList ht e with e|rfl;have#[d,e1,oc',fs',t',e2,r]:=gk p cv e;show#[d,e1,oc',fs',t',S1 _ _ ?_,r];rw[zT (λz=>by rw[z,hP] at e2;cases e2)];show e2;show#[c',rfl,ml]
 |some cv=>
  have#[c',rfl,ml]:=gk pos cv o4;show PySem.W.kla_makeFunctionHit (I.closure S.blk) I.ok.glob hg gm C mo ht o4 hb λdM h' tk hk hsz=> ?_;have pT:H h'.objs.size=fX:=I.hok.fresh hsz;have I1:=I.laid (t':=tk) (a:=h'.objs.size) (o:= .frz (Ba "<lambda>" q par body sc (WZ sc X.env) ((X.mg "__name__").getD .none) c' dM) (.own 0)) (λb o e=>Heap.get?_push_of_some _ (hk b o e)) hsz #[Heap.get?_push_size _ rfl,_,Heap.get?_push_size _ rfl];have S1:YL H (upd H h'.objs.size (.frz (Ba "<lambda>" q par body sc (WZ sc X.env) ((X.mg "__name__").getD .none) c' dM) (.own 0))):=wD pT;show fin _ c' _ dM ps _ _ I1 (λb u e=>S1 b u ?_) ht (λp cv e=> ?_) zW (ml.mono (vn.same S1));by_cases iC:b=P;subst iC;rw[zW] at e;cases e;show hP;rw[zT iC] at e;show e;have#[d,e1,e2]:=gk p cv e;show#[d,e1,e2.mono (vn.same S1)]
noncomputable def ze0(P:Program)(w:World)(K:uG)(mg:Str->mw oJ)(base:Heap)(N:kh Str)(L:xx)(aW:kh (Str×oN))(f c:oN)(A:Around)(outer:kh Env)(s:oM)(H:Hp):Cx where
 prog:=P
 w:=w
 K:=K
 mg:=mg
 base:=base
 A:=A.deeper (Dq L.q L.sc #v[s] f (.ref c) aW)
 N:=N
 s₀:=s
 H₀:=H
 env:=Dq L.q L.sc #v[s] f (.ref c) aW
 outer:=outer
 stack:=Dq L.q L.sc #v[s] f (.ref c) aW::outer
 ex:=[]
 calm:=gP
 fn:=λ_=>kb
 zn:=λ_=>kb
 pn:=[]
 xe:=λ_ _=>False
structure zhI(ps fr:kh Str)(sc:Scope):Prop where
 kind:sc.kind= .function
 co:sc.isCoroutine=kb
 gen:sc.isGenerator=kb
 nd:ps.Nodup
 par:∀x∈ps,sc.names.lookup x=eO .local
 fre:∀x∈fr,sc.names.lookup x=eO .free
 noc:∀y∈sc.names,y.2≠ .cell
theorem za3:∀{l:kh (Str×oJ)},(l.map (·.1)).Nodup->(x,u)∈l->l.lookup x=eO u
 |[],_,h=>by cases h
 |(y,v)::r,nd,h=>by
  rw[y4,AY] at nd;rw[An];rcases uU.mp h with h'|h';cases h';simp
  have:x≠y:=by
   intro z;subst z;show nd.1 (z9.mpr #[_,h',rfl])
  rw[show(x==y)=kb by simpa using this];show za3 nd.2 h'
def zn0{ps:kh Str}{us:kh oJ}{i:Nat}{x:Str}{u:oJ}(nd:ps.Nodup)(hl:us.length=ps.length)(h1:ps[i]? =eO x)(h2:us[i]? =eO u):(ps.zip us).reverse.lookup x=eO u:=by
 show za3 ?_ (List.mem_reverse.mpr (uJ (i:=i) ?_));rw[EK,(List.reverse_perm _).nodup_iff,List.map_fst_zip ⋯];show nd;rw[BZ];show#[h1,h2]
def CL(outer:kh Env)(P:Program)(w:World)(H:Hp)(s:oM)(Q:VK)(r:Result)(s':oM):Prop:=match r with
 | .ok (.ret u)=>CE outer P w H s Q u s'
 |_=>False
def zpS{P:Program}{mg:Str->mw oJ}(S:zhI ps L.fr L.sc)
  (hb:∀(aW:kh (Str×oN)) (pm dM:oJ) (c:oN) (us:kh oJ),us.length=ps.length->bindArgs (F6 "<lambda>" L.q L.par L.body L.sc aW pm (.ref c) dM) #[us,[]]=pure (ps.zip us)) {us:kh oJ} {Q:VK} (hr:ww (k+1) A) (e0:zd4 P w K mg base A outer s H) (hL:zc8 H L f vs) (rD:vs.length=L.fr.length) (r:yk as us) (hl:as.length=ps.length)
  (du:∀(aW:kh (Str×oN)) (c:oN),ww k (ze0 P w K mg base (ps++L.fr) L aW f c A outer s H).A->∃t,PE (ze0 P w K mg base (ps++L.fr) L aW f c A outer s H) L.body t/\t ((as++vs).map eO) H Q):
  codeAny (model P w) A (.call (.ref f) #[us,[]]) (CL outer P w H s Q) s:=by
 have#[aW,pm,dM,c,h1,#[oc,fs,t,sT,iQ,sS],h3,h4,h5,h6]:=hL.ex;have jG:=(e0.hok f _ h1).1;have jZ:=(e0.hok c _ sT).1;have lim:s.heap.NoLimit:=e0.mod.nolimit.keeps λb o e=>(e0.bs b o e).1;have pD:us.length=ps.length:=by rw[<-r.length];show hl
 show PySem.W.kla_callFunE hr.depth jG rfl S.co S.gen rfl #[c,oc,fs,t,rfl,jZ,iQ,sS] ?_;rw[hb aW pm dM c us pD];show qH (wpAny_newFunctionEnv S.noc (λy hy=>S.par _ (BE hy).1) (λh₁ eG iJ=>#[lim.fresh _ iJ,?_]) S.kind);change codeAny _ _ (.expr L.body (Dq L.q L.sc #v[s] f (.ref c) aW)) _ _;have hk:∀b o,s.heap.get? b=eO o->h₁.get? b=eO o:=λb o e=>iJ.extBut b o (y6 (Heap.lt_size e)) (Heap.get?_push_of_some _ e);have iE:∀b:oN,b∉(ze0 P w K mg base (ps++L.fr) L aW f c A outer s H).ex:=λb z=>absurd (show b∈([]:kh oN) from z) (by simp);have I:Inv (ze0 P w K mg base (ps++L.fr) L aW f c A outer s H) [] ((as++vs).map eO) H {s with heap:=h₁,toks:=s.toks+(ps.zip us).length}:=by
  show#[#[e0.mod,S.kind,rfl,rfl,uL _,λy z a e1 e2=>h4 y z a e1 e2,λy hy=> ?_,λy a z _=>(z.elim (λz=>Cq z) λz=>Cq z),λ_=>hr.hd,Around.frames_deeper e0.frames,.inr #[rfl,rfl],λb z=>absurd z (iE b),e0.bs,e0.bsz,λb _ _=>iE b,λb z=>absurd z (iE b),e0.funs,e0.frf],
   rfl,e0.bare,Un.kept hk,#[_,eG,λi y v e1 e2 e3=> ?_],λy a e=> ?_,e0.hok.fresh (uL _),λy a e=> ?_,λp hp=>absurd (show p∈([]:kh (oN×Obj)) from hp) (by simp),e0.hok.kept hk,?_]
  .have hy:L.sc.names.lookup y=eO .cell\/L.sc.names.lookup y=eO .free:=hy;rcases hy with hy|hy;show absurd rfl (S.noc _ (z3 hy));show h5 _ (z3 hy) rfl
  .have e1:(ps++L.fr)[i]? =eO y:=e1;rw[uK,uV] at e2;have#[v',e2,lA]:=e2;cases lA;by_cases hi:i<ps.length;rw[uN hi] at e1;rw[uN ⋯] at e2;have#[u,hu,rv]:=r.get e2;show#[u,rv,.inl #[S.par y (uJ e1),zn0 S.nd pD e1 hu]];rw[uQ ⋯] at e1;rw[uQ ⋯,hl] at e2;have#[a,o,u,g1,g2,g3,g4]:=h3 _ _ _ e1 e2;show#[u,g4,.inr #[.inr (S.fre y (uJ e1)),a,g1,o,hk _ _ (e0.hok a _ g2).1,g3]]
  .obtain⟨o,u,g2,g3⟩:=h6 y a e;show#[u,o,hk _ _ (e0.hok a _ g2).1,g3]
  .obtain⟨o,u,g2,g3⟩:=h6 y a e;show .inr #[rfl,o,g2]
  change _=(ps++L.fr).length;rw[uM,uZ,uZ,hl,rD]
 have#[tt,ht,hq]:=du aW c (hr.deeper _);show PySem.W.kla_codeExpr (FU (ht [] _ _ H Q I hq) (λu s' hs=> ?_) λe s' z=>Ah z);have#[v,H',J,rv,q]:=hs;show#[v,H',J.os,J.bare,J.base,J.hok,rv,q]
def FnG(H:Hp)(x:V)(f:oN):Prop:=x= .ref f/\∃(fd:FW),H f=eO (.frz {cls:= .type "function",data:= .func fd} (.own 0))
def ztO(P:Program)(w:World)(K:uG)(mg:Str->mw oJ)(base:Heap)(k:Nat)(R:V->kh V->Hp->VK->Prop):Prop:=
 ∀(A:Around) (outer:kh Env) (s:oM) (H:Hp) (f:oN) (as:kh V) (us:kh oJ) (Q:VK),ww k A->zd4 P w K mg base A outer s H->yk as us->R (.ref f) as H Q->codeAny (model P w) A (.call (.ref f) #[us,[]]) (CL outer P w H s Q) s
def zn1(i:Nat)(R:V->kh V->Hp->VK->Prop)(t:TA):TE:=λσ H Q=>∃x f,σ[i]? =eO (eO x)/\FnG H x f/\t σ H λas H2=>FnG H2 x f/\R x as H2 Q
def FnG.at{P:Program}(g:FnG H x f)(hok:HOk P w H h):PySem.W.FnAt f h:=by
 have#[_,fd,e]:=g;show#[_,_,_,_,(hok f _ e).1]
def zdt{i k:Nat}{x:Str}{p pos:Pos}{e:Expr}{es:kh Expr}{t:TA}{R:V->kh V->Hp->VK->Prop}(hN:X.N[i]? =eO x)(hv:Vis X.env.scope x)(F:ztO X.prog X.w X.K X.mg X.base k R)(hr:ww k X.A)(ha:PA X (e::es) t)
  (hd:(x==("__debug__":Str))=kb:=by decide) (dA:(x==("__classdict__":Str))=kb:=by decide) (he:FD (e::es) X.env=(kb,eval e X.env)::FD es X.env:=by rfl) (dh:(backTo pos (FD es X.env)).any (·.1)=kb:=by rfl):
  PE X (.Call (.Name x p) (e::es) [] pos) (zn1 i R t):=by
 intro pins s σ H Q I h;have#[v,f,hs,hf,ht]:=h;have#[rfl,_]:=id hf;show FV ?_;have hx:= @zml X i x p hN hv hd dA pins s σ H (λy H1=>y= .ref f/\H1=H) I #[.ref f,hs,rfl,rfl];show thn hx ?_;intro u s1 #[y,H1,I1,r1,e1,e2];subst e1;rw[e2] at I1;obtain rfl:u=Value.ref f:=r1;show PySem.W.callWith_F (hf.at I1.hok) (thn (ha pos pins s1 σ H _ I1 ht) ?_) he dh;intro us s2 #[as,H2,I2,r2,eQ,q2];show#[eQ.at I2.hok,?_];show wpAny_call (codeAny_mono (F X.A X.stack s2 H2 f as us Q hr I2.env0 r2 q2) λr s' hq=> ?_);cases r with
 |error e=>show Ah hq
 |ok fl=>
  cases fl with
  |ret u=>show I2.after hq
  |next=>show Ah hq
  |brk=>show Ah hq
  |cont=>show Ah hq
noncomputable def zjs(ρ:Rho):kh Nat->mw (kh Xv)
 |[]=>eO []
 |i::r=>(ρ[i]?).join.bind λx=>(zjs ρ r).map (x:: ·)
noncomputable def zcu(L:xx)(n:Nat)(is:kh Nat):TwE:=λρ S=>match S[n]? with
 |some (.tab t)=> @ite _ (t=L.t) (C4 _) ((zjs ρ is).map λxs=> .ok (.lam L xs) S) fX
 |_=>fX
noncomputable def YS:kh (xx×(kh Xv->TwF))->xx->mw (kh Xv->TwF)
 |[],_=>fX
 |(M,t)::r,L=> @ite _ (M=L) (C4 _) (eO t) (YS r L)
noncomputable def zal(fns:kh (xx×(kh Xv->TwF)))(i:Nat)(ms:kh TwE):TwE:=λρ S=>match (ρ[i]?).join with
 |some (.lam L aX)=>rb (evL ms ρ S) λxs S1=>(YS fns L).bind λtw=>match tw aX xs S1 with
  |some (.ok x S2)=>eO (.ok x S2)
  |_=>fX
 |_=>fX
noncomputable def zcv(n m:Nat)(e:TwE):kh Xv->TwF:=λaX xs S=>if xs.length=n/\aX.length=m then e ((xs++aX).map eO) S else fX
section
variable{E:XK}
def XC{t:kh Xv->TwF}{r:kh (xx×(kh Xv->TwF))}:YS ((L,t)::r) L=eO t:=by unfold YS;show Gv rfl
def Vg{t:kh Xv->TwF}{r:kh (xx×(kh Xv->TwF))}(h:M.id≠L.id):YS ((M,t)::r) L=YS r L:=by
 rw[YS];show Gw λz=>h (congrArg xx.id z)
theorem zhJ{t:kh Xv->TwF}:∀{fns:kh (xx×(kh Xv->TwF))},YS fns L=eO t->(L,t)∈fns
 |[],h=>by cases h
 |(M,u)::r,h=>by
  unfold YS at h;by_cases e:M=L;rw[Gv e] at h;cases h;rw[e];show uY;rw[Gw e] at h;show uR _ (zhJ h)
def En.writeS(E1:En K F j H σ ρ S)(hs:S[n]? =eO c)(z:c.fz=kb)(hj:j[n]? =eO a)(Sm:YL (upd H a o) H')(hc:zc9 K j H' a c'):En K F j H' σ ρ (S.set n c')/\Ext j H j H':=by
 have#[o0,h0,m0]:=(E1.cel n c a hs hj).mu z;have S1:YL H (upd H' a o0):=λb u e=>by
  by_cases hb:b=a;subst hb;rw[zW];rw[h0] at e;show e;rw[zT hb];show Sm b u (by rw[zT hb];show e)
 have e2:upd (upd H' a o0) a o=H':=by
  funext b;by_cases hb:b=a;subst hb;rw[zW];show(Sm b o zW).symm;rw[zT hb,zT hb]
 have E2:=E1.heap S1;have#[E3,X3]:=E2.writeF (o:=o) (c':=c') hs z hj (λX=>by rw[e2];show hc);rw[e2] at E3 X3;show#[E3,(Ext.same S1).trans X3]
theorem zhK(E1:En K F j H σ ρ S):∀{is:kh Nat} {xs:kh Xv},zjs ρ is=eO xs->∃vs,is.map (λi=>(σ[i]?).join)=vs.map eO/\yn K j H xs vs
 |[],xs,h=>by cases h;show#[[],rfl,.nil]
 |i::r,xs,h=>by
  unfold zjs at h;cases e:(ρ[i]?).join with
  |none=>rw[e] at h;cases h
  |some x=>
   rw[e] at h;dsimp only[BI] at h;cases e2:zjs ρ r with
   |none=>rw[e2] at h;cases h
   |some ys=>
    rw[e2] at h;cases h;have#[vs,h1,h2]:=zhK E1 e2;have e':ρ[i]? =eO (eO x):=by
     cases q:ρ[i]? with
     |none=>rw[q] at e;cases e
     |some z=>rw[q] at e;show congrArg eO e
    have#[v,h3,h4]:=E1.slot i x e';show#[v::vs,by simp[h3,h1],.cons h4 h2]
set_option tactic.hygienic true in
def Uu{c P:oN}(hP:vq K L.t=eO (c,P)):RE K E (zsh L P is) (zcu L n is):=by
 intro F j σ H ρ S r Q En0 e k;unfold zcu at e;split at e
 .rename_i t es;by_cases ht:t=L.t
  .rw[Gv ht] at e;subst ht;cases e2:zjs ρ is with
   |none=>rw[e2] at e;cases e
   |some xs=>
    rw[e2] at e;cases e;have hn:n<j.length:=by rw[En0.jl];show(uF.1 es).1
    have hj:j[n]? =eO j[n]:=uH hn;have#[ps,d,hH,htk,hJ,gk]:=En0.cel n _ _ es hj;rw[hP] at htk;cases htk;have#[vs,h1,h2]:=zhK En0 e2;show#[ps,vs,hH,hJ,gk,h1,λf ps' H' Sm t' c' la=> ?_];have#[E2,X2]:=En0.writeS (c':= .tab L.t) es rfl hj Sm #[ps',c,Sm _ _ zW,hP,t',c'];have nu:S.set n (.tab L.t)=S:=by
     apply BM;intro m;rw[A4];split;rename_i q;subst q;rw[Gv (uF.1 es).1,es];rfl
    rw[nu] at E2;show k _ _ X2 E2 _ (.lam la (h2.mono X2))
  rw[Gw ht] at e;cases e
 cases e
def ztP(K:uG)(fns:kh (xx×(kh Xv->TwF))):V->kh V->Hp->VK->Prop:=λx as H Q=>∃(j:kh oN) (S S':Sto) (xs aX:kh Xv) (L:xx) (tw:kh Xv->TwF) (z:Xv),
 En K #[H,j,S] j H (as.map eO) (xs.map eO) S/\Xis K j H (.lam L aX) x/\YS fns L=eO tw/\tw aX xs S=eO (.ok z S')/\∀v j' H' σ ρ,En K #[H,j,S] j' H' σ ρ S'->Xis K j' H' z v->Q v H'
def ZV(P:Program)(w:World)(K:uG)(mg:Str->mw oJ)(base:Heap)(k:Nat)(L:xx)(tw:kh Xv->TwF):Prop:=∀(A:Around) (outer:kh Env) (s:oM) (H:Hp) (f:oN) (vs as:kh V) (us:kh oJ) (Q:VK) (j:kh oN) (S S':Sto) (xs aX:kh Xv) (z:Xv),
 ww k A->zd4 P w K mg base A outer s H->zc8 H L f vs->yn K j H aX vs->yk as us->En K #[H,j,S] j H (as.map eO) (xs.map eO) S->tw aX xs S=eO (.ok z S')->
 (∀v j' H' σ ρ,En K #[H,j,S] j' H' σ ρ S'->Xis K j' H' z v->Q v H')->codeAny (model P w) A (.call (.ref f) #[us,[]]) (CL outer P w H s Q) s
def ZV.mono{P:Program}{mg:Str->mw oJ}{tw:kh Xv->TwF}(h:ZV P w K mg base i L tw)(hk:i<=k):ZV P w K mg base k L tw:=
 λA outer s H f vs as us Q j S S' xs aX z hr=>h A outer s H f vs as us Q j S S' xs aX z (hr.mono hk)
def zf0{P:Program}{mg:Str->mw oJ}{fns:kh (xx×(kh Xv->TwF))}(h:∀p∈fns,ZV P w K mg base k p.1 p.2):ztO P w K mg base k (ztP K fns):=by
 intro A outer s H f as us Q hr e0 r #[j,S,S',xs,aX,L,tw,z,E1,hx,hp,ht,q];cases hx with
 |lam la l=>show h (L,tw) (zhJ hp) A outer s H f _ as us Q j S S' xs aX z hr e0 la l r E1 ht q
set_option tactic.hygienic true in
def Uv{P:Program}{mg:Str->mw oJ}(Sc:zhI ps L.fr L.sc)(hn:ps.length=n)(hm:L.fr.length=mm)
  (hb:∀(aW:kh (Str×oN)) (pm dM:oJ) (c:oN) (us:kh oJ),us.length=ps.length->bindArgs (F6 "<lambda>" L.q L.par L.body L.sc aW pm (.ref c) dM) #[us,[]]=pure (ps.zip us))
  (pF:∀(aW:kh (Str×oN)) (f c:oN) (A:Around) (outer:kh Env) (s:oM) (H:Hp),ww k (ze0 P w K mg base (ps++L.fr) L aW f c A outer s H).A->∃t,PE (ze0 P w K mg base (ps++L.fr) L aW f c A outer s H) L.body t/\RE K E0 t m):
  ZV P w K mg base (k+1) L (zcv n mm m):=by
 intro A outer s H f vs as us Q j S S' xs aX z hr e0 la l r E1 ht q;unfold zcv at ht;split at ht
 .rename_i hl;have jL:as.length=xs.length:=by have:=E1.len;simpa using this
  show zpS Sc hb hr e0 la (by rw[l.len,hl.2,hm]) r (by rw[jL,hl.1,hn]) λaW c lZ=> ?_;have#[t,h1,h2]:=pF aW f c A outer s H lZ;show#[t,h1,h2 (E1.slots (σ':=(as++vs).map eO) (ρ':=(xs++aX).map eO) (by simp[jL,l.len]) λi x e=> ?_) ht λj' H' X E' v hv=>q _ _ _ _ _ E' hv];rw[uK,uV] at e;have#[y,e,e']:=e;cases e';by_cases hi:i<xs.length;rw[uN hi] at e;have#[v,h3,h4]:=E1.slot i x (by rw[uK,e];rfl);rw[uK,uV] at h3;have#[v',h3,om]:=h3;cases om;show#[v,by rw[uK,uN ⋯,h3];rfl,h4];rw[uQ ⋯] at e;have#[v,h3,h4]:=l.get e;show#[v,by rw[uK,uQ ⋯,jL,h3];rfl,h4]
 cases ht
set_option tactic.hygienic true in
def zdu{fns:kh (xx×(kh Xv->TwF))}(h:RL K E t (evL ms)):RE K E (zn1 i (ztP K fns) t) (zal fns i ms):=by
 intro F j σ H ρ S r Q En0 e k;unfold zal at e;split at e
 .rename_i L aX er;have e':ρ[i]? =eO (eO (.lam L aX)):=by
   cases q:ρ[i]? with
   |none=>rw[q] at er;cases er
   |some z=>rw[q] at er;show congrArg eO er
  have#[v,e1,hx]:=En0.slot i _ e';have kG:=hx;cases hx with
  | @lam f vs _ _ la l=>
   have#[aW,pm,dM,c,h1,_]:=la.ex;show#[.ref f,f,e1,#[rfl,_,h1],?_];rcases zK e with⟨xs,S1,e2,e⟩|⟨c,S1,e2,rfl⟩
   .show h En0 e2 λj1 H1 X1 E1 as hv=>#[#[rfl,_,X1.imm _ _ h1 rfl],?_];cases hp:YS fns L with
    |none=>rw[hp] at e;cases e
    |some tw=>
     rw[hp] at e;dsimp only[BI] at e;split at e;rename_i x S2 e3;cases e;have#[l1,s1]:=zde hv;show#[j1,S1,S2,xs,aX,L,tw,x,E1.enter l1 s1,kG.mono X1,hp,e3,λv j' H' σ' ρ' Ex hz=> ?_];have#[E2,X2]:=E1.leave Ex;show k j' H' (X1.trans X2) E2 v hz;cases e
   show h En0 e2 k
 cases e
def Uw(h:S[n]? =eO (.tab L.t))(hc:zjs ρ is=eO xs)(k:P (.lam L xs) S):W (zcu L n is ρ S) P:= .of (by
 unfold zcu;rw[h];dsimp only;rw[Gv rfl,hc]
 rfl) k
def zdv{fns:kh (xx×(kh Xv->TwF))}{tw:kh Xv->TwF}(h:ρ[i]? =eO (eO (.lam L aX)))(hp:YS fns L=eO tw)(k:W (evL ms ρ S) λxs S1=>W (tw aX xs S1) P):W (zal fns i ms ρ S) P:=by
 unfold zal;rw[h];dsimp only[Option.join];show W.bind (k.imp λxs S1 k=> ?_);rw[hp];have#[x,S2,e,k]:=k;dsimp only[BI];rw[e];show .of rfl k
def XD(h1:xs.length=n)(h2:aX.length=m)(k:W (e ((xs++aX).map eO) S) P):W (zcv n m e aX xs S) P:=by
 unfold zcv;rw[Gv #[h1,h2]];show k
end
noncomputable def noE:Expr:= .Name Str.empty #[0,0,0,0]
def zjt(s:Stmt):Expr:=match s with
 | .Return (eO e) _=>e
 |_=>noE
def zhL(e:Expr)(i:Nat):Expr:=match e with
 | .Call _ es _ _=>es.getD i noE
 |_=>noE
noncomputable def zhM(s:Stmt)(i:Nat):Stmt:=(vC s).getD i (.Pass #[0,0,0,0])
noncomputable def Ux(e:Expr):Arguments:=match e with
 | .Lambda a _ _ _=>a
 |_=>{posonlyargs:=[],args:=[],vararg:=fX,kwonlyargs:=[],kw_defaults:=[],kwarg:=fX,defaults:=[]}
def XE(e:Expr):Expr:=match e with
 | .Lambda _ b _ _=>b
 |_=>noE
noncomputable def zcc(e:Expr):Scope:=match e with
 | .Lambda _ _ s _=>s
 |_=>{kind:= .function,names:=[],isGenerator:=kb,isCoroutine:=kb}
set_option tactic.hygienic true in
def wT{f c P:oN}(h:zja K f=eO (c,P)):BR K c P=gP/\∀{oc:oJ} {od:mw oN} {fd:FW} {sl:Array (mw oJ)},K.lookup f=eO #[oc,od,.func fd,sl]->fd.code= .ref c:=by
 unfold zja at h;split at h;rename_i uA _ e1;split at h;rename_i c1 e2;split at h;split at h;split at h;rename_i hd;cases h;show#[hd,λe=> ?_];rw[e1] at e;cases e;show e2;cases h;cases h;cases h;cases h;cases h
noncomputable def TY(fz:kh Str)(CX:CXT)(P:Program)(w:World)(K:uG)(mg:Str->mw oJ)(base:Heap)(N:kh Str)(qual:Str)(scope:Scope)(f:oN)(cd:oJ)(A:Around)(outer:kh Env)(s:oM)(H:Hp)(E:XK):Cx:=
 {TF CX P w K mg base N qual scope f cd A outer s H E with fn:=λx=> !fz.contains x,zn:=λx=>fz.contains x}
def Inv.toZ{fz:kh Str}{CX:CXT}{P:Program}{w:World}{mg:Str->mw oJ}{base:Heap}{N:kh Str}{qual:Str}{scope:Scope}{f:oN}{cd:oJ}{outer:kh Env}{s1:oM}{H1:Hp}{E:XK}
  (I:Inv (TF CX P w K mg base N qual scope f cd A outer s H E) pins σ H1 s1):Inv (TY fz CX P w K mg base N qual scope f cd A outer s H E) pins σ H1 s1:=
 #[#[I.ok.mod,I.ok.kind,I.ok.glob,I.ok.blt,I.ok.above,I.ok.inj,I.ok.has,λx c _ e=>I.ok.cab x c (.inl rfl) e,I.ok.hd,I.ok.frames,I.ok.stk,I.ok.exf,I.ok.bs,I.ok.bsz,I.ok.noex,I.ok.exfs,I.ok.funs,I.ok.frf],I.os,I.bare,I.base,I.loc,I.cell,I.free,
  λx c e=> .inl ((I.freeC x c e).elim (λz=>z) λz=>Cq (show gP=kb from z.1)),I.pin,I.hok,I.len]
def Fun.okZ{P:Program}{w:World}{mg:Str->mw oJ}{base:Heap}{x qual:Str}{st:Stmt}{f c T:oN}{fd:FW}{N ps:kh Str}{k:Nat}{sp:Sp}{fz:kh Str}(F:Fun K x qual st f fd)(hT:zja K f=eO (c,T))(S:zB N ps (zq st))(len:∀vs H Q E,sp vs H Q E->vs.length=ps.length)
  (du:∀(A:Around) (outer:kh Env) (s:oM) (H:Hp) (vs:kh V) (Q:VK) (E:XK),ww k (A.deeper (envOfC qual (zq st) #v[s] f (.ref c)))->sp vs H Q E->
   ∃t,PSs (TY fz (CXE P w) P w K mg base N qual (zq st) f (.ref c) A outer s H E) (vC st) t/\t {nx:=λ_ H'=>Q .non H',rt:=Q} (Ys N vs) H):Yy P w K mg base (CXE P w) (k+1) f fd ps sp:=by
 have#[oc,od,kV,doc,pm,an,bS,ct,fY,rfl,lk,dA]:=F.ex;have hc:bS= .ref c:=(wT hT).2 lk;subst hc;show#[len,λA outer s H args us vs Q E hr e0 hb r gJ=> ?_];have hl:=len _ _ _ _ gJ;have KX:K.In s.heap:=e0.mod.kin.keeps λb o e=>(e0.bs b o e).1;have lim:s.heap.NoLimit:=e0.mod.nolimit.keeps λb o e=>(e0.bs b o e).1;have fB:∀y∈ps.zip us,(zq st).names.lookup y.1=eO .local\/((zq st).names.lookup y.1=eO .cell/\((FJ (#v[s]+1) (zq st).names []).lookup y.1).isSome=gP):=λ⟨n,v⟩ hy=>by
  rcases S.par n (BE hy).1 with q|q;show .inl q;show .inr #[q,BH _ _ _ (.inl q)]
 show codeAny_call_function hr.depth (KX _ _ lk) rfl S.co S.gen rfl (CU KX dA) (hb _ _ _ _ ?_);show Gm S.kind fB λenv he s1 x=> ?_;subst he;show#[lim.keeps x.toInCall.keep,codeAny_func ?_];have#[t,ht,hq]:=du A outer s H vs Q E (hr.deeper _) gJ;have I:Inv (TY fz (CXE P w) P w K mg base N qual (zq st) f (.ref c) A outer s H E) [] (Ys N vs) H s1:=(zbA S hr.hd e0 hl r x).toZ;show FU (ht [] s1 (Ys N vs) H _ I hq) (λfl s' hs=> ?_) λe s' hs=>hs;have fin:∀{σ':St} {H':Hp} {v:V} {u:oJ},Inv (TY fz (CXE P w) P w K mg base N qual (zq st) f (.ref c) A outer s H E) [] σ' H' s'->yp v u->Q v H'->CE outer P w H s Q u s':=
  λ{σ' H' v u} J rv q=>#[v,H',J.os,J.bare,J.base,J.hok,rv,q]
 cases fl with
 |ret u=>
  have#[v,σ',H',J,rv,q]:=hs;show fin J rv q
 |next=>
  have#[σ',H',J,q]:=hs;show fin (v:=V.non) (u:=Value.none) J rfl q
 |brk=>
  have#[_,_,_,q]:=hs;show Ah q
 |cont=>
  have#[_,_,_,q]:=hs;show Ah q
noncomputable def zn2(osc sc:Scope)(N fz fr:kh Str)(is:kh Nat):Bool:=zmV osc sc&&fr.length==is.length&&(fr.zip is).all (λp=>sc.names.lookup p.1==eO .free&&N[p.2]? ==eO p.1)&&sc.names.all (λy=>y.2 != .free||fz.contains y.1)
def XF{N fz fr:kh Str}(hs:X.env.scope=osc)(hN:X.N=N)(hf:X.fn=λx=> !fz.contains x)(hz:X.zn=λx=>fz.contains x)(h:zn2 osc sc N fz fr is=gP):zsg X sc fr is:=by
 unfold zn2 at h;simp only[A5,Ao,beq_iff_eq,bne_iff_ne,ne_eq,DF] at h;have#[#[#[h1,h2],h3],h4]:=h;show#[blk hs h1,λi x e=> ?_,λy hy e=> ?_]
 .have hi:i<is.length:=by rw[<-h2];show(uF.1 e).1
  have e2:is[i]? =eO is[i]:=uH hi;have#[g1,g2]:=h3 (x,is[i]) (uJ (i:=i) (by rw[BZ];show#[e,e2]));show#[g1,is[i],e2,by rw[hN];show g2]
 have g:=(h4 y hy).resolve_left λz=>z e;rw[hf,hz];show#[g,by dsimp only;rw[g];rfl]
def XG{L:xx}{e:Expr}{pos:Pos}{is:kh Nat}{c P:oN}(S:zsg X L.sc L.fr is)(hq:X.env.qual=L.t.d++".<locals>.")(gm:X.env.code= .ref c)(hC:BR X.K c P=gP)
  (hL:e= .Lambda L.par L.body L.sc pos:=by rfl) (jI:defaultsOf L.par X.env=([],[]):=by rfl):PE X e (zsh L P is):=by
 rw[hL];show zsi (id:=L.id) S hq gm hC jI
section
variable{P:Program}{w:World}{mg:Str->mw oJ}{base:Heap}
def zdw:∀p∈([]:kh (xx×(kh Xv->TwF))),ZV P w K mg base k p.1 p.2:=λp hp=>nomatch hp
def vO{tw:kh Xv->TwF}{fns:kh (xx×(kh Xv->TwF))}(h:ZV P w K mg base i L tw)(hk:i<=k)(r:∀p∈fns,ZV P w K mg base k p.1 p.2):∀p∈(L,tw)::fns,ZV P w K mg base k p.1 p.2:=λp hp=>by
 rcases uU.mp hp with rfl|hp;show h.mono hk;show r p hp
end
noncomputable def vX(nm m:Str)(tw:TwF)(o:TwE)(ms:kh TwE):TwE:=λρ S=>rb (o ρ S) λx S1=>(zdr S1 x nm).bind λp=>if p.2.lookup m=fX then rb (evL ms ρ S1) λxs S2=>(match tw (x::xs) S2 with
  |some (.ok y S3)=>eO (.ok y S3)
  |_=>fX) else fX
section
variable{E:XK}
set_option tactic.hygienic true in
def vi(eG:v5 K tP nm=eO (eO (.ref C)))(ho:RE K E to o)(h:RL K E t (evL ms))(hn:ms.length+1=n:=by rfl):RE K E (zmx C m (sTw K n tw) [] E0 to t) (vX nm m tw o ms):=by
 walk_at "!a"
 .show ho En0 e1 λj1 H1 X1 E1 u hu=> ?_;rw[Aa] at e;have#[#[q,fs],e2,e]:=e;dsimp only at e;split at e
  .rename_i kS;have#[a,dx,mz,rfl,hj,f1,f2]:=E1.ins eG hu e2;show#[a,dx,mz,rfl,f1,f2.look.2 kS,?_];rcases zK e with⟨xs,S2,e3,e⟩|⟨c,S2,e3,rfl⟩
   .show h E1 e3 λj2 H2 X2 E2 vs hv=> ?_;rw[Aw];split at e;rename_i y S3 e4;cases e;show WJ E2 (.cons (hu.mono X2) hv) (by rw[uW,hv.len,Xw e3,hn]) e4 (λj' H' X E3 v hw=>k _ _ ((X1.trans X2).trans X) E3 v hw);cases e
   show h E1 e3 (k.step X1)
  cases e
 show ho En0 e1 k
def vY(h:W (o ρ S) λx S1=>∃n fs,x= .ref n/\S1[n]? =eO (.ins nm fs)/\fs.lookup m=fX/\W (evL ms ρ S1) λxs S2=>W (tw (x::xs) S2) P):W (vX nm m tw o ms ρ S) P:=
 W.bind (h.imp λx S1 h=>by
  have#[n,fs,rfl,e1,e2,k]:=h;have e3:zdr S1 (.ref n) nm=eO (n,fs):=by unfold zdr;simp[e1]
  rw[e3,y0];dsimp only;rw[Gv e2];show W.bind (k.imp λxs S2 k=> ?_);have#[y,S3,e,k]:=k;rw[e]
  show .of rfl k)
end
def WK(h1:v5 K tP C=eO (eO (.ref g)))(h2:x5 K (.ref g) m=eO (eO (.ref f)))(h:(vq K #[eO C,m,d]).isSome=gP):∃c P,zja K f=eO (c,P)/\vq K #[eO C,m,d]=eO (c,P):=by
 have#[#[c,P],e]:=Al.1 h;show#[c,P,?_,e];unfold vq zi9 at e;dsimp only at e;rw[h1] at e;dsimp only at e;rw[h2] at e;show e
noncomputable def Uy(K:uG)(dR:kh Ul):kh oN:=dR.filterMap λt=>(vq K t).map (·.2)
noncomputable def zf1:kh oN->Bool
 |[]=>gP
 |a::r=> !r.contains a&&zf1 r
noncomputable def ze1(K:uG)(ts:kh oN)(dR:kh Ul):Bool:=dR.all (λt=>match vq K t with
 |some (_,P)=>ts.contains P&&(K.lookup P).isNone
 |none=>kb)&&zf1 (Uy K dR)
theorem ze2:∀{l:kh oN},zf1 l=gP->l.Nodup
 |[],_=>DR
 |a::r,h=>by
  unfold zf1 at h;simp only[A5,Bool.not_eq_true',DX,decide_eq_false_iff_not] at h;show AY.mpr #[h.1,ze2 h.2]
structure zpT(K:uG)(ts:kh oN)(dR:kh Ul)(cb:kh oN):Prop where
 at_:∀(i:Nat) t,dR[i]? =eO t->∃c P,cb[i]? =eO P/\vq K t=eO (c,P)
 len:cb.length=dR.length
 nd:cb.Nodup
 sub:∀P∈cb,P∈ts/\K.lookup P=fX/\∃t c,vq K t=eO (c,P)
def zkX(h:ze1 K ts dR=gP):zpT K ts dR (Uy K dR):=by
 unfold ze1 at h;rw[A5,Ao] at h;have#[h1,h2]:=h;have key:∀(l:kh Ul),(∀t∈l,t∈dR)->(∀(i:Nat) t,l[i]? =eO t->∃c P,(Uy K l)[i]? =eO P/\vq K t=eO (c,P))/\(Uy K l).length=l.length/\∀P∈Uy K l,P∈ts/\K.lookup P=fX/\∃t c,vq K t=eO (c,P):=by
  intro l
  induction l with
  |nil=>intro _;show#[λi t e=>by simp at e,rfl,λP hP=>by cases hP]
  |cons t r ih=>
   intro hs;have#[g1,g2,g3]:=ih λt ht=>hs t (uR _ ht);have ht:=h1 t (hs t uY);cases e:vq K t with
   |none=>rw[e] at ht;cases ht
   |some p=>
    have#[c,P]:=p;rw[e] at ht;simp only[A5,DX,decide_eq_true_eq,Option.isNone_iff_eq_none] at ht;have e2:Uy K (t::r)=P::Uy K r:=by unfold Uy;rw[BD,e];rfl
    rw[e2];show#[λi u eu=> ?_,by simp[g2],λQ hQ=> ?_]
    .cases i with
     |zero=>simp at eu;subst eu;show#[c,P,rfl,e]
     |succ i=>
      have#[c',P',a,b]:=g1 i u (by simpa using eu);show#[c',P',by simpa using a,b]
    rcases uU.mp hQ with rfl|hQ;show#[ht.1,ht.2,t,c,e];show g3 Q hQ
 have#[g1,g2,g3]:=key dR λ_ h=>h;show#[g1,g2,ze2 h2,g3]
def zpU{c P:oN}(h:vq K t=eO (c,P)):BR K c P=gP:=by
 unfold vq at h;rw[Aa] at h;have#[f,_,h]:=h;show(wT h).1
structure zn3(cb:kh oN)(H:Hp):Prop where
 all:∀b,H b=fX\/(∃o xs,H b=eO (.frz o (.lst xs)))\/(b∈cb/\H b=eO (.tbl [].toArray))
 tb:∀P∈cb,H P=eO (.tbl [].toArray)
def zdx(K:uG)(cb:kh oN):Sp:=λvs H Q _=>∃(a:oN) (ns:kh Int),vs=[V.ref a]/\zn3 cb H/\SqX K H a (ns.map V.int)/\ns.length<=63/\∀H',Q (.bl gP) H'
def zpV{P:Program}{mg:Str->mw oJ}(Fn:Yy P w K mg base CX k f fd ps (sTw K 1 tw))(hT:zpT K ts dR cb)
  (h:∀ns:kh Int,ns.length<=63->∃S,tw [.ref 0] (.frz (ns.map Xv.int)::dR.map .tab)=eO (.ok (.bl gP) S)):Yy P w K mg base CX k f fd ps (zdx K cb):=by
 show Fn.imp ?_;intro vs H Q E #[a,ns,rfl,hO,hS,hl,q];have#[S',e]:=h ns hl;have hlen:(a::cb).length=(Ce.frz (ns.map Xv.int)::dR.map Ce.tab).length:=by simp[hT.len]
 show#[rfl,a::cb,.frz (ns.map Xv.int)::dR.map .tab,[.ref 0],_,?_,e,λv j' H' σ ρ E' hv=> ?_]
 .show#[rfl,λi x e=> ?_,hlen,λn m b c d e1 e2 e3 e4 z1 z2=> ?_,λn c b e1 e2=> ?_,Ext.refl,λn c e=>#[c,e,λz=>z,λ_=>rfl],hlen,λb u e=> .inl e,λn b hn e=> ?_,λb e=>e]
  .cases i with
   |zero=>simp at e;subst e;show#[_,rfl,.ref rfl]
   |succ i=>simp at e
  .cases n with
   |zero=>simp at e3;subst e3;cases z1
   |succ n=>
    cases m with
    |zero=>simp at e4;subst e4;cases z2
    |succ m=>
     simp only[C8] at e1 e2;have#[h1,g1]:=uF.1 e1;have#[h2,g2]:=uF.1 e2;rw[(Cp hT.nd).mp (g1.trans g2.symm)]
  .cases n with
   |zero=>
    simp at e1 e2;subst e1 e2;show#[ns.map V.int,?_,yn.ints ns];rcases hS with (hS|⟨o,hS⟩)|hS
    .rcases hO.all a with z|⟨o,xs,z⟩|⟨_,z⟩
     .rw[z] at hS;cases hS
     .rw[z] at hS;cases hS
     rw[z] at hS;cases hS
    .show .inl #[o,hS]
    show .inr λH=> .inr hS
   |succ n=>
    simp only[C8,uK,uV] at e1 e2;have#[t,e1,rfl]:=e1;have#[c,P',g1,g2]:=hT.at_ n t e1;rw[g1] at e2;cases e2;show#[[].toArray,c,hO.tb _ (uJ g1),g2,trivial,λpos cv q=>by cases q]
  dsimp only at hn;have:=(uF.1 e).1;omega
 rw[hv.bl_inv];show q H'
def zlT{P:Program}{mg mb:Str->mw oJ}
  (KX:K.In s₁.heap) (hT:zpT K ts dR cb) (ni:∀P∈ts,s₁.heap.get? P=eO (BO [].toArray)) (eG:s₁.heap.Ns tP mg) (hb:s₁.heap.Ns builtinsNs mb) (pY:∀x:Str,x≠"__name__"->mb x=bootBuiltins x) (nI:s₁.heap.NoLimit)
  (pX:∃bm ob,mg "__builtins__"=eO (.ref bm)/\bm≠builtinsNs/\s₁.heap.get? bm=eO ob/\ob.cls= .type "module"/\ob.dict=eO builtinsNs/\ob.data= .plain) (pE:s₁.heap.NoSeer) (hJ:P.given.tree=fX) (hg:s₁.gens= [].toArray)
  (ha:s₁.heap.get? a=eO {cls:= .type "list",data:= .seq vs.toArray}) (hi:IntsAre vs ns) (hl:ns.length<=FC) (hr:ww k callerA)
  (F:∀base:Heap,K.In base->base.Ns tP mg->Yy P w K mg base CX k fa fd [x] sp) (lh:∀(s:oM) (u:oJ),BindsTo s fd #[[u],[]] [(x,u)])
  (gJ:∀H:Hp,zn3 cb H->SqX K H a (ns.map V.int)->sp [.ref a] H (λv _=>v= .bl gP) λ_ _ _=>False)
  (oi:∀H e s',CX [] H s₁ (λ_ _ _=>False) e s'->False):
  codeAny (model P w) callerA (.call (.ref fa) #[[.ref a],[]]) (λr s'=>r= .ok (.ret (.bool gP))/\OldK s₁.heap s'.heap/\s'.os=s₁.os/\AllBare s'.gens) s₁:=by
 have rv:=zeM hi;have mL:=hi.length;have ki:∀P∈cb,s₁.heap.get? P=eO (BO [].toArray):=λP hP=>ni P (hT.sub P hP).1;have core:∀H:Hp,zn3 cb H->SqX K H a (ns.map V.int)->HOk P w H s₁.heap->(∀b,H b≠fX->b=a\/b∈cb)->(H a≠fX->K.lookup a=fX)->
   codeAny (model P w) callerA (.call (.ref fa) #[[.ref a],[]]) (λr s'=>r= .ok (.ret (.bool gP))/\OldK s₁.heap s'.heap/\s'.os=s₁.os/\AllBare s'.gens) s₁:=by
  intro H hO hS hok hA hK;have dO:∀{b:oN} {o:Obj},s₁.heap.get? b=eO o->H b=fX->(zfo s₁.heap H).get? b=eO o:=λe n=>zmk e n;have oS:∀{b:oN} {o:Obj},s₁.heap.get? b=eO o->o.cls≠ .type "list"->(o.cls≠ .none\/∀ps,o.data≠ .fields ps)->H b=fX:=λ{b o} e d d'=>by
   cases q:H b with
   |none=>rfl
   |some u=>
    rcases hA b (by rw[q];simp) with rfl|hm;rw[ha] at e;cases e;show absurd rfl d;rw[ki b hm] at e;cases e;rcases d' with d'|d';show absurd rfl d';show absurd rfl (d' _)
  have iE:∀{b:oN} {o:Obj} {es:Array DictEntry} {ep:Nat},s₁.heap.get? b=eO o->o.data= .dict es ep->H b=fX:=λ{b o es ep} e d=>by
   cases q:H b with
   |none=>rfl
   |some u=>
    rcases hA b (by rw[q];simp) with rfl|hm;rw[ha] at e;cases e;have d':Data.seq vs.toArray _=Data.dict es ep:=d;cases d';rw[ki b hm] at e;cases e;cases d
  have j7:∀{b:oN} {m:Str->mw oJ},s₁.heap.Ns b m->(zfo s₁.heap H).Ns b m:=λ{b m} ⟨o,es,ep,e,d,r⟩=>#[o,es,ep,dO e (iE e d),d,r]
  have qb:K.In (zfo s₁.heap H):=λb o e=>dO (KX b o e) (by
   cases q:H b with
   |none=>rfl
   |some u=>
    rcases hA b (by rw[q];simp) with rfl|hm;rw[hK (by rw[q];simp)] at e;cases e
    rw[(hT.sub b hm).2.1] at e;cases e)
  have hM:Mod P K mg (zfo s₁.heap H):=#[qb,j7 eG,#[mb,j7 hb,pY],let ⟨mc,h1,h2⟩:=nI;#[mc,j7 h1,h2],let ⟨bm,ob,b1,b2,b3,b4,b5,b6⟩:=pX;#[bm,ob,b1,b2,dO b3 (oS b3 (by rw[b4];simp) (.inl (by rw[b4];simp))),b4,b5,b6],let ⟨bm,ob,b1,b2,b3,b4,b5,b6⟩:=pX;let ⟨mc,c1,c2⟩:=pE.statics;let ⟨mm,m1,m2⟩:=pE.mods;#[#[mc,j7 c1,c2],#[mm,j7 m1,m2],#[mb,j7 hb,pY],#[mg,bm,ob,j7 eG,b1,dO b3 (oS b3 (by rw[b4];simp) (.inl (by rw[b4];simp))),b4,b5]],hJ];have e0:zd4 P w K mg (zfo s₁.heap H) callerA [] s₁ H:=#[rfl,hM,λb o e=>zo0 e,B5 (zll _ _),trivial,λb hb=>absurd (show b∈([]:kh oN) from hb) (by simp),hok,.of_eq hg];show codeAny_mono ((F _ qb (j7 eG)).run callerA [] s₁ H #[[.ref a],[]] [.ref a] [.ref a] _ _ hr e0 (lh s₁ (.ref a)) (.cons rfl .nil) (gJ H hO hS)) λr s' h=> ?_;cases r with
  |error e=>show(oi H e s' h).elim
  |ok fl=>
   cases fl with
   |next=>show Ah h
   |brk=>show Ah h
   |cont=>show Ah h
   |ret u=>
    have#[v,H',os,bare,un,kP,r',q]:=h;have q':v= .bl gP:=q;subst q';obtain rfl:u=Value.bool gP:=r';have old:∀b o,s₁.heap.get? b=eO o->b∉cb->s'.heap.get? b=eO o:=λb o e nb=>by
     cases q:H b with
     |none=>show un.keep b o e q (by intro z;show absurd (show b∈([]:kh oN) from z) (by simp)) (by simp)
     |some u=>
      rcases hO.all b with z|⟨ob,xs,z⟩|⟨z,_⟩
      .rw[q] at z;cases z
      .have z2:=un.frzs b ob _ z;have#[e1,_]:=hok b _ z;have#[e2,_]:=kP b _ z2;rw[e] at e1;cases e1;show e2
      show absurd z nb
    show#[rfl,#[λb o e=> ?_,λb o e=>un.there b o e (by simp)],os,bare];by_cases hb:b∈cb;have#[_,_,t,c,ht]:=hT.sub b hb;have#[o2,qz,_,_,_,_,_,_,_,c1,c2,c3,c4,_]:=Ed KX (zpU ht);have#[more,e1]:=un.tbls b _ (hO.tb b hb);have e2:=kP b _ e1;have e3:=ki b hb;rw[e] at e3;cases e3;show .inr (.inl #[#[c,o2,qz,c1,c2,c3,c4],rfl,[].toArray,more,rfl,e2]);show .inl (old b o e hb)
 have aT:a∉cb:=λhm=>by
  have e:=ki a hm;rw[ha] at e;cases e
 have tH:∀(H:Hp),(∀P∈cb,H P=eO (.tbl [].toArray))->∀b∈cb,∀u,H b=eO u->yW P w H s₁.heap b u:=λH h b hb u e=>by
  rw[h b hb] at e;cases e;show ki b hb
 cases hk:K.lookup a with
 |some o=>
  have e:=KX a o hk;rw[ha] at e;cases e;have u9:∀b,b∈cb->(if b∈cb then eO (HO.tbl [].toArray) else fX)=eO (HO.tbl [].toArray):=λb h=>Gv h;show core (λb=>if b∈cb then eO (.tbl [].toArray) else fX) #[λb=> ?_,λb h=>Gv h] (.inr #[vs.toArray,_,hk,by rw[uS,mL];show hl,by simpa using rv]) (λb u z=> ?_) (λb z=> ?_) λz=>absurd (Gw aT) z;by_cases hb:b∈cb;show .inr (.inr #[hb,Gv hb]);show .inl (Gw hb);by_cases hb:b∈cb;show tH (λb=>if b∈cb then eO (.tbl [].toArray) else fX) (λb h=>Gv h) b hb u z;have z':=(Gw hb).symm.trans z;cases z';by_cases hb:b∈cb;show .inr hb;show absurd (Gw hb) z
 |none=>
  have h1:∀b,b∈cb->(if b=a then eO (HO.frz {cls:= .type "list",data:= .seq vs.toArray} (.lst (ns.map V.int))) else if b∈cb then eO (.tbl [].toArray) else fX)=eO (HO.tbl [].toArray):=λb h=>by
   have ne:b≠a:=λz=>aT (by rw[<-z];show h);rw[Gw ne,Gv h]
  show core (λb=>if b=a then eO (.frz {cls:= .type "list",data:= .seq vs.toArray} (.lst (ns.map V.int))) else if b∈cb then eO (.tbl [].toArray) else fX) #[λb=> ?_,h1] (.inl (.inr #[{cls:= .type "list",data:= .seq vs.toArray},Gv rfl])) (λb u z=> ?_) (λb z=> ?_) λ_=>hk;by_cases hb:b=a;show .inr (.inl #[_,_,Gv hb]);by_cases hm:b∈cb;show .inr (.inr #[hm,h1 b hm]);show .inl ((Gw hb).trans (Gw hm));by_cases hb:b=a;have z':=(Gv hb).symm.trans z;cases z';subst hb;show#[ha,by rw[uM];show hl,vs,_,rv,ha];by_cases hm:b∈cb;show tH _ h1 b hm u z;have z':=((Gw hb).trans (Gw hm)).symm.trans z;cases z';by_cases hb:b=a;show .inl hb;by_cases hm:b∈cb;show .inr hm;show absurd ((Gw hb).trans (Gw hm)) z
def zn4{l:DI}{n k:Nat}{q:Program}{loose:kh Str}{XP:(Str->mw oJ)->Heap->Prop}{YP:World->Heap->Prop}{d:DefRec}{K:Params->uG}{CX:World->CXT}{x:Str}{ts:kh oN}{dR:kh Ul}
  (hn:l.most=eO n) (eZ:n<=63) (kY:d.params.defaults=[]) (hr:ww k callerA)
  (hY:∀(w:World) (h:Heap),YP w h->(K w.params).In h/\∀P∈ts,h.get? P=eO (BO [].toArray)) (hB:∀w:World,ze1 (K w.params) ts dR=gP)
  (F:∀(w:World) (mg:Str->mw oJ) (fa:oN) (h:Heap),(K w.params).In h->h.Ns tP mg->mg d.name=eO (.ref fa)->
   ∃fd:FW,(∀(s:oM) (u:oJ),BindsTo s fd #[[u],[]] [(x,u)])/\
    ∀base:Heap,(K w.params).In base->base.Ns tP mg->Yy l.prog w (K w.params) mg base (CX w) k fa fd [x] (zdx (K w.params) (Uy (K w.params) dR)))
  (oi:∀(w:World) (H:Hp) (s:oM) (e:oJ) (s':oM),CX w [] H s (λ_ _ _=>False) e s'->False) (nO:importsNone q=gP) (hJ:l.prog.given.tree=fX):
  Fd q loose XP YP l.row.toRowW d [] (λf vs=>EY f vs):=by
 show Att.zg3 hn kY λw s₀ s₁ mg mb fa o pm cd doc a vs ns G Y ho hd dA jB jz hints hlen hg=> ?_;have#[KX,ni]:=hY w _ Y;have#[fd,hb,hF]:=F w mg fa _ KX G.T.g jB;show zlT KX (zkX (hB w)) ni G.T.g G.T.b G.T.builtins G.T.nolimit G.T.bmain (G.T.seer nO) hJ hg jz hints (uP (uP hlen eZ) ∅) hr hF hb (λH hO hS=>#[a,ns,rfl,hO,hS,uP hlen eZ,λ_=>rfl]) λH e s'=>oi w H s₁ e s'
open PySem.Calls PySem.W
noncomputable def zlU(ns:kh Int):Int:=ns.foldl (λa b=>if b<a then b else a) (ns.headD 0)
def zn5(ns:kh Int):∀k,k<ns.length->ns.getD (argBest (λi j=>decide (ns.getD i 0<ns.getD j 0)) k) 0=(ns.take (k+1)).foldl (λa b=>if b<a then b else a) (ns.headD 0)/\argBest (λi j=>decide (ns.getD i 0<ns.getD j 0)) k<=k:=by
 intro k
 induction k with
 |zero=>
  intro h;cases ns with
  |nil=>simp at h
  |cons a r=>simp[argBest]
 |succ k ih=>
  intro h;have#[h1,h2]:=ih ⋯;have hg:ns[k+1]? =eO (ns.getD (k+1) 0):=by rw[uX,uH h];rfl
  have#[hi,e]:=uF.1 hg;rw[z4 hi,e,D9,<-h1];have hb:∀f:Nat->Nat->Bool,argBest f (k+1)=if f (k+1) (argBest f k)=gP then k+1 else argBest f k:=λf=>rfl;rw[hb,Cz,List.foldl_nil];by_cases q:ns.getD (k+1) 0<ns.getD (argBest (λi j=>decide (ns.getD i 0<ns.getD j 0)) k) 0;rw[Gv (decide_eq_true q),Gv q];show#[rfl,uL _];rw[Gw (by rw[decide_eq_false q];decide),Gw q];show#[rfl,⋯]
def zrb(K:uG):kh V->Hp->VK->Prop:=λxs H Q=>∃(p:oN) (ns:kh Int),xs=[.ref p]/\SqL K H p (ns.map V.int)/\ns≠[]/\Q (.int (zlU ns)) H
def zlV(hc:X.calm=gP)(hK:X.K=K:=by rfl):vT X (.builtin "min") (zrb K):=by
 subst hK;intro pins s σ H xs us Q I r h;have#[p,ns,rfl,hq,di,q]:=h;have#[u,rfl,ru]:=VN r;cases ru;have#[ah,rv,pl,hz]:=I.list hq;have lt:p<#v[s]:=by
  have#[o,n,e,_]:=id pl;show Heap.lt_size e
 have hl:=rv.length;rw[uM] at hl;have fQ:0<ns.length:=List.length_pos_iff.2 di;have at_:∀(i:Nat) (v:oJ),ah.toArray[i]? =eO v->i<ns.length/\∃t,v=Value.int (ns.getD i 0) t:=λi v hv=>by
  have hv:ah[i]? =eO v:=by simpa using hv
  have hi:i<ns.length:=by rw[hl];show(uF.1 hv).1
  (obtain⟨u,hu,t,ru⟩:=rv.get (i:=i) (x:=V.int ns[i]) (by rw[uK,uH hi];rfl);rw[hu] at hv;cases hv);show#[hi,t,by rw[ru,uX,uH hi];rfl]
 show call_min_walkS (Ge pl.isList ?_);have W:=(Walks.list (prog:=X.prog) (w:=X.w) (A:=X.A.in1) (I.ok.hd hc) #v[s] p (y6 lt) ah.toArray).toS;show#[#v[s],_,_,_,_,_,_,λi j=>decide (ns.getD i 0<ns.getD j 0),rfl,W,?_,?_,?_,?_,?_];show#[#[_,Heap.get?_push_size _ rfl,rfl,rfl],Heap.IsList.push pl.isList _];intro b hb;rw[Heap.size_push];rcases(by simpa using hb:b=#v[s]\/b=p) with rfl|rfl;show Az _;show BK lt;rw[uS];omega;show CmpOf.ints_lt (λi=>ns.getD i 0) (λi v hv=>(at_ i v hv).2);intro v s' hv m
 have I1:Inv X pins σ H {s with heap:=s'.heap,toks:=s'.toks}:=I.kept λb o e=>m.heap b o (λz=>by
  have z:b=#v[s]:=by simpa using z
  show absurd (Heap.lt_size e) (by rw[z];show AB _)) (Heap.get?_push_of_some _ e)
 have e:({s with heap:=s'.heap,toks:=s'.toks}:oM)=s':=by
  (have h1:=m.gens;have h2:=m.drawn;have h3:=m.os;cases s';simp only at h1 h2 h3;subst h1 h2 h3;rfl)
 rw[e] at I1;have#[_,t,rfl]:=at_ _ v hv;show#[.int (zlU ns),H,I1,#[t,?_],q];have:=(zn5 ns (ns.length-1) ⋯).1;rw[show ns.length-1+1=ns.length by omega,A3] at this;rw[uS,<-hl,this];rfl
end L2
namespace L2
noncomputable def zhN:Opn:=λxs S=>match xs with
 |[x]=>((yo S x).bind Yv).bind λns=>if ns=[] then fX else eO (.int (zlU ns),S)
 |_=>fX
section
set_option tactic.hygienic true in
def zkY:zaf K (zrb K) zhN:=by
 walk_at "!f";unfold zhN at h;split at h;rename_i x;rw[Aa] at h;have#[ns,e,h]:=h;rw[Aa] at e;have#[l,e,e2]:=e;split at h;cases h;rename_i di;cases h;have#[w,rfl,hx]:=hv.d1;have#[p,ws,rfl,h1,h2]:=E1.lstAt hx e;show#[p,ns,rfl,?_,di,k _ _ _ Ext.refl E1 (.int _)];rw[<-zaU e2 h2];show h1.sql;cases h
def zpW(h1:yo S x=eO l)(h2:Yv l=eO ns)(h3:ns≠[])(k:P (.int (zlU ns)) S):WO (zhN [x] S) P:= .of (by
 unfold zhN;dsimp only
 rw[h1,y0,h2,y0,Gw h3]) k
end
open PySem.Builtin.Int (intBits)
def Uz(hr:ww k X.A)(hk:32<=k:=by decide)(ft:X.stack=X.env::X.outer:=by rfl)(hg:X.env.scope.isGenerator=kb:=by rfl)(jZ:X.env.scope.isCoroutine=kb:=by rfl):
  OpR X (Gj .FloorDiv) (rI (λ_ j=>j≠0) λi j=> .int (i.fdiv j)):=by
 intro pins s σ H x y v u Q I rx ry h;have#[i,j,rfl,rfl,hc,q]:=h;have#[t,rfl]:=rx;have#[t',rfl]:=ry;show floordiv_int hc #[.int _,H,I.tok _,#[_,rfl],q] (.inr (PylongRoom.of I.nolimit (by have:=hr.dp;change X.A.depth+100<_;omega) (SeerAt.of (I.ok.mod.seer.keeps I.bk) I.ok.mod.tree (by rw[I.ok.frames,ft]) hg jZ I.ok.blt I.ok.glob)))
def UA:Op2:=xIC (λ_ j=>decide (j≠0)) λi j=> .int (i.fdiv j)
def zhO:Xo K (rI (λ_ j=>j≠0) λi j=> .int (i.fdiv j)) UA:=zjf (λi j h=>by simpa using h) λ_ _ _ _=> .int _
def UB(h:q≠0)(k:P (.int (p.fdiv q)) S):WO (UA (.int p) (.int q) S) P:= .of (by unfold UA xIC;show Gv (decide_eq_true h)) k
end L2
namespace L2
def zuA(s:Stmt):Expr:=match s with
 | .Assign _ e _=>e
 |_=>noE
def zdy(h1:v5 K tP m=eO (eO (.ref f)))(h:(vq K #[fX,m,d]).isSome=gP):∃c P,zja K f=eO (c,P)/\vq K #[fX,m,d]=eO (c,P):=by
 have#[#[c,P],e]:=Al.1 h;show#[c,P,?_,e];unfold vq zi9 at e;dsimp only at e;rw[h1] at e;show e
def PSm(X Y:Cx)(st:kh Stmt)(t:TS):Prop:=
 ∀(pins:kh (oN×Obj)) (s:oM) (σ:St) (H:Hp) (D:zaG),Inv X pins σ H s->t D σ H->wpAny (model X.prog X.w) X.A (execs st X.env) (SP Y pins D) X.xe s
section
variable{fz:kh Str}{CX:CXT}{P:Program}{w:World}{mg:Str->mw oJ}{base:Heap}{N:kh Str}{qual:Str}{scope:Scope}{f:oN}{cd:oJ}{outer:kh Env}{E:XK}{st:Stmt}{rest:kh Stmt}{t u:TS}
def zsj(h:PSs (TY fz CX P w K mg base N qual scope f cd A outer s H E) rest t):PSm (TF CX P w K mg base N qual scope f cd A outer s H E) (TY fz CX P w K mg base N qual scope f cd A outer s H E) rest t:=
 λpins s1 σ H1 D I q=>h pins s1 σ H1 D I.toZ q
def zhP(h1:PS (TF CX P w K mg base N qual scope f cd A outer s H E) st t)(h2:PSm (TF CX P w K mg base N qual scope f cd A outer s H E) (TY fz CX P w K mg base N qual scope f cd A outer s H E) rest u):PSm (TF CX P w K mg base N qual scope f cd A outer s H E) (TY fz CX P w K mg base N qual scope f cd A outer s H E) (st::rest) (zrm t u):=by
 intro pins s1 σ H1 D I h;show wpAny_execs_cons (thn (h1 pins s1 σ H1 {D with nx:=u D} I h) λfl s2 q=> ?_);cases fl with
 |next=>
  have#[σ',H',I',q]:=q;show h2 pins s2 σ' H' D I' q
 |ret v=>have#[v',σ',H',I',q]:=q;show#[v',σ',H',I'.toZ,q]
 |brk=>have#[σ',H',I',q]:=q;show#[σ',H',I'.toZ,q]
 |cont=>have#[σ',H',I',q]:=q;show#[σ',H',I'.toZ,q]
end
def Fun.okZ2{P:Program}{w:World}{mg:Str->mw oJ}{base:Heap}{x qual:Str}{st:Stmt}{f c T:oN}{fd:FW}{N ps:kh Str}{k:Nat}{sp:Sp}{fz:kh Str}(F:Fun K x qual st f fd)(hT:zja K f=eO (c,T))(S:zB N ps (zq st))(len:∀vs H Q E,sp vs H Q E->vs.length=ps.length)
  (du:∀(A:Around) (outer:kh Env) (s:oM) (H:Hp) (vs:kh V) (Q:VK) (E:XK),ww k (A.deeper (envOfC qual (zq st) #v[s] f (.ref c)))->sp vs H Q E->
   ∃t,PSm (TF (CXE P w) P w K mg base N qual (zq st) f (.ref c) A outer s H E) (TY fz (CXE P w) P w K mg base N qual (zq st) f (.ref c) A outer s H E) (vC st) t/\t {nx:=λ_ H'=>Q .non H',rt:=Q} (Ys N vs) H):Yy P w K mg base (CXE P w) (k+1) f fd ps sp:=by
 have#[oc,od,kV,doc,pm,an,bS,ct,fY,rfl,lk,dA]:=F.ex;have hc:bS= .ref c:=(wT hT).2 lk;subst hc;show#[len,λA outer s H args us vs Q E hr e0 hb r gJ=> ?_];have hl:=len _ _ _ _ gJ;have KX:K.In s.heap:=e0.mod.kin.keeps λb o e=>(e0.bs b o e).1;have lim:s.heap.NoLimit:=e0.mod.nolimit.keeps λb o e=>(e0.bs b o e).1;have fB:∀y∈ps.zip us,(zq st).names.lookup y.1=eO .local\/((zq st).names.lookup y.1=eO .cell/\((FJ (#v[s]+1) (zq st).names []).lookup y.1).isSome=gP):=λ⟨n,v⟩ hy=>by
  rcases S.par n (BE hy).1 with q|q;show .inl q;show .inr #[q,BH _ _ _ (.inl q)]
 show codeAny_call_function hr.depth (KX _ _ lk) rfl S.co S.gen rfl (CU KX dA) (hb _ _ _ _ ?_);show Gm S.kind fB λenv he s1 x=> ?_;subst he;show#[lim.keeps x.toInCall.keep,codeAny_func ?_];have#[t,ht,hq]:=du A outer s H vs Q E (hr.deeper _) gJ;show FU (ht [] s1 (Ys N vs) H _ (zbA S hr.hd e0 hl r x) hq) (λfl s' hs=> ?_) λe s' hs=>hs;have fin:∀{σ':St} {H':Hp} {v:V} {u:oJ},Inv (TY fz (CXE P w) P w K mg base N qual (zq st) f (.ref c) A outer s H E) [] σ' H' s'->yp v u->Q v H'->CE outer P w H s Q u s':=
  λ{σ' H' v u} J rv q=>#[v,H',J.os,J.bare,J.base,J.hok,rv,q]
 cases fl with
 |ret u=>
  have#[v,σ',H',J,rv,q]:=hs;show fin J rv q
 |next=>
  have#[σ',H',J,q]:=hs;show fin (v:=V.non) (u:=Value.none) J rfl q
 |brk=>
  have#[_,_,_,q]:=hs;show Ah q
 |cont=>
  have#[_,_,_,q]:=hs;show Ah q
open PySem.Calls PySem.W
noncomputable def Kyn(a:oN)(o:Obj)(ks:kh (NK×oN×V)):It:=
 #[λi H=>H a=eO (.frz o (.dN ks))/\∃p,ks[i]? =eO p,λi H x H'=>H'=H/\∃p,x= .ref p.2.1/\ks[i]? =eO p,λi H=>H a=eO (.frz o (.dN ks))/\ks.length<=i]
def zn6(I:Inv X pins σ H s)(ha:H a=eO (.frz o (.dN ks)))(hd:o.data= .dict es ep):
  zjp s.heap a es ep/\es.size=ks.length/\∀(i:Nat) p,ks[i]? =eO p->∃e,es[i]? =eO e/\e.key= .ref p.2.1:=by
 have#[hg,hz,_,xs,r,o',es',ep',h1,h2,h3,h4,hn]:=(show yW X.prog X.w H s.heap a (.frz o (.dN ks)) from I.hok a _ ha);rw[hg] at h1;cases h1;rw[hd] at h3;cases h3;show#[#[o,hg,h2,hd],?_,λi p hp=> ?_];rw[<-B4,h4,uM,Paired.length r]
 have#[hi,e]:=uF.1 hp;obtain⟨q,hq,rq⟩:∃q,xs[i]? =eO q/\p.2.1=q.2.1:=by
  clear h4 hi e ha hz hn
  induction r generalizing i with
  |nil=>simp at hp
  |cons h _ ih=>
   cases i with
   |zero=>simp at hp;subst hp;show#[_,rfl,h.2.1]
   |succ i=>show ih i hp
 show#[_,by rw[<-Bq,h4,uK,hq];rfl,by rw[rq];rfl]
def zju{P:Program}(a it:oN)(o:Obj)(ks:kh (NK×oN×V))(hd:o.data= .dict es ep):
  ziF P w K tg (Kyn a o ks) [it] it (λi h=>h.IsKeyIter it a i ks.length ep) where
 mem:=by simp
 obj:=λi h st b hb=>by
  have#[ob,e1,_,e2]:=st;have:b=it:=by simpa using hb
  subst this;show#[_,e1,λv z=>by rw[e2] at z;cases z]
 keep:=λi h h' st k=>st.at λo e=>k it (by simp) o e
 item:=by
  walk_at "!b";have#[ha,p,hp]:=hg;have#[raw,hl,he]:=zn6 I ha hd;have#[e,h1,h2]:=he i p hp;rw[<-hl] at st;show znW st raw h1 λh1 hit hs=>#[_,rfl,?_];show letGo_keyiter (s':={s with heap:=h1}) hit ?_;show#[.ref p.2.1,H,Inv.turnedL (t':=s.toks) (fp:=[it]) I (λb o hb eo=>(hs.2 b (by simpa using hb)).trans eo) hf,h2,#[rfl,p,rfl,hp],by rw[<-hl];show hit,λb hb=>(hf b hb).1]
 done:=by
  walk_at "!b";have#[ha,hx]:=hg;have#[raw,hl,_]:=zn6 I ha hd;rw[<-hl] at st hx;show zpM (I.ok.hd hc) st raw (Array.getElem?_eq_none ⋯) λh' eb=>#[rfl,Inv.turnedL (t':=s.toks) (fp:=[it]) I (λb o hb eo=> ?_) hf];show eb b o (λz=>hb (by simp[z])) eo
 self:=λ_ _ _ _ _ st h=>wpAny_pyIter_keyiter st h
def ztQ(K:uG)(t:TE):TI:=λσ H R=>t σ H λx H1=>∃(a:oN) (ks:kh (NK×oN×V)),x= .ref a/\Rd H1 a (.dN ks)/\(H1 a=eO (.dN ks)->∀o,R (Kyn a o ks) (upd H1 a (.frz o (.dN ks))))/\∀o,H1 a=eO (.frz o (.dN ks))->R (Kyn a o ks) H1
def zhQ(he:PE X e t):PI X tg e (ztQ X.K t):=by
 intro pins s σ H R I h;show thn (he pins s σ H _ I h) ?_;intro u s1 #[x,H1,I1,rx,a,ks,ex,ha,q1,q2];subst ex;cases rx;have q:yW X.prog X.w H1 s1.heap a (.dN ks):=by
  rcases ha with ha|⟨o,ha⟩
  .show I1.hok a _ ha
  show (show yW X.prog X.w H1 s1.heap a (.frz o (.dN ks)) from I1.hok a _ ha).2
 have#[hz,lo,xs,rel,ob,es,ep,e1,e2,e3,e4,e5]:=q;have hl:es.size=ks.length:=by rw[<-B4,e4,uM,Paired.length rel]
 show znV lo #[ob,e1,e2,e3] ?_;have hi:(s1.heap.push {cls:= .type "dict_keyiterator",data:= .fields [.ref a,.int 0 0,.int es.size 0,.int ep 0].toArray}).get? #v[s1]=eO {cls:= .type "dict_keyiterator",data:= .fields [.ref a,.int 0 0,.int es.size 0,.int ep 0].toArray}:=Heap.get?_push_size _ rfl;have fin:∀H2,Inv X pins σ H2 s1->R (Kyn a ob ks) H2->PIE X pins σ tg R (.ref #v[s1]) {s1 with heap:=s1.heap.push {cls:= .type "dict_keyiterator",data:= .fields [.ref a,.int 0 0,.int es.size 0,.int ep 0].toArray}}:=λH2 I2 q=>by
  have I3:=I2.kept (t':=s1.toks) (h':=s1.heap.push {cls:= .type "dict_keyiterator",data:= .fields [.ref a,.int 0 0,.int es.size 0,.int ep 0].toArray}) (λb o e=>Heap.get?_push_of_some _ e);show#[#v[s1],[#v[s1]],_,_,_,rfl,I3,zju a #v[s1] ob ks e3,#[_,hi,rfl,by rw[hl];rfl],λb hb=> ?_,q];have hb:#v[s1]<=b:=by
   have:b=#v[s1]:=by simpa using hb
   show B5 this.symm
  show Inv.fpOk I2 hb (I2.hok.fresh hb)
 rcases ha with ha|⟨o,ha⟩
 .show fin (upd H1 a (.frz ob (.dN ks))) (zaM (ob:= .frz ob (.dN ks)) (h':=s1.heap) (t':=s1.toks) I1 (by rw[ha];show Ay) #[rfl,λ_ _=>rfl] #[ob,e1] #[e1,hz,lo,xs,rel,ob,es,ep,e1,e2,e3,e4,e5]) (q1 ha ob)
 have:o=ob:=by
  have#[hg,_]:=(show yW X.prog X.w H1 s1.heap a (.frz o (.dN ks)) from I1.hok a _ ha);rw[hg] at e1;show y9 e1
 subst this;show fin _ I1 (q2 o ha)
noncomputable def ze3(S:Sto)(x:Xv):mw (Nat×kh (NK×Xv×Xv)):=match x with
 | .ref n=>match S[n]? with
  |some (.dn af)=>eO (n,af)
  |some (.fdn af)=>eO (n,af)
  |_=>fX
 |_=>fX
noncomputable def zjv(n:Nat)(S:Sto):mw (kh Xv):=match S[n]? with
 |some (.fdn af)=>eO (af.map (·.2.1))
 |_=>fX
noncomputable def iDN(m:TwE):TwI:=λρ S=>rb (m ρ S) λx S1=>(ze3 S1 x).map λp=> .ok (zjv p.1) (S1.set p.1 (.fdn p.2))
def NX.get{j:kh oN}{af:kh (NK×Xv×Xv)}{ks:kh (NK×oN×V)}{i:Nat}{q:NK×Xv×Xv}(h:NX K j H af ks)(e:af[i]? =eO q):∃p,ks[i]? =eO p/\Xis K j H q.2.1 (.ref p.2.1):=by
 induction h generalizing i with
 |nil=>simp at e
 |cons _ h _ _ ih=>
  cases i with
  |zero=>simp at e;subst e;show#[_,rfl,h]
  |succ i=>show ih e
section
variable{E:XK}
set_option tactic.hygienic true in
def zhR(h:RE K E t m):RI K E (ztQ K t) (iDN m):=by
 walk_at "!d"
 .cases e4:ze3 S1 x with
  |none=>rw[e4] at e;cases e
  |some p=>
   have#[n,af]:=p;rw[e4] at e;cases e;show h En0 e1 λj1 H1 X1 E1 u hu=> ?_;unfold ze3 at e4;split at e4
   .rename_i n';have#[a,rfl,hj]:=hu.ref_inv;have fin:∀ks o j3 H3,Ext j1 H1 j3 H3->En K F j3 H3 σ ρ (S1.set n (.fdn af))->j1[n]? =eO a->H3 a=eO (.frz o (.dN ks))->R (Kyn a o ks) H3:=λks o j3 H3 X3 E3 hj sW=>by
     show k _ _ (X1.trans X3) E3 _ ?_;intro F2 j2 H2 σ2 ρ2 S2 xs i X4 E4 e5;unfold zjv at e5;split at e5
     .rename_i mM ec;cases e5;have ha:H2 a=eO (.frz o (.dN ks)):=X4.imm _ _ sW rfl;have#[o',ks',f1,f2]:=E4.cel n _ a ec (X4.pre n a (X3.pre n a hj));rw[ha] at f1;cases f1;show#[λy ey=> ?_,λhle=>#[ha,by rw[f2.len];rw[uM] at hle;omega]];rw[uK] at ey;cases ep:mM[i]? with
      |none=>rw[ep] at ey;cases ey
      |some q=>
       rw[ep] at ey;cases ey;have#[p,g1,g2]:=f2.get ep;show#[#[ha,p,g1],?_];intro v' H' #[rfl,p2,rfl,g3];rw[g1] at g3;cases g3;show#[YL.refl _,g2]
     cases e5
    split at e4;rename_i hs;cases e4;have#[ks,f1,f2]:=E1.cel _ _ _ hs hj;show#[a,ks,rfl,.inl f1,λ_ o=> ?_,λo z=>by rw[f1] at z;cases z];have#[E3,X3]:=E1.writeF (c':= .fdn af) (o:= .frz o (.dN ks)) hs rfl hj (λX=>#[o,ks,zW,f2.mono X]);show fin ks o _ _ X3 E3 hj zW;rename_i hs;cases e4;have#[o,ks,f1,f2]:=E1.cel _ _ _ hs hj;show#[a,ks,rfl,.inr #[o,f1],(λz=>by rw[f1] at z;cases z),λo' z=> ?_];rw[znY hs] at fin;show fin ks o' _ _ Ext.refl E1 hj z;cases e4
   cases e4
 show h En0 e1 k
end
def zn7{Q':(Sto->mw (kh Xv))->Sto->Prop}(h:W (m ρ S) λx S1=>∃n af,ze3 S1 x=eO (n,af)/\Q' (zjv n) (S1.set n (.fdn af))):W (iDN m ρ S) Q':=W.bind (h.imp λx S1 h=>by
 have#[n,af,e,q]:=h;rw[e]
 show .of rfl q)
end L2
namespace L2
section
def zlW{z TI TO i1 i2 l1 l2:oN}{k1 k2:Nat}{xs ys:Array oJ}{x y a b:oJ}{Q:mw oJ->oM->Prop}(D:ZipApart z TI TO i1 i2 l1 l2)(zz:IsZip s.heap z TI TO .none)(pI:Gs s.heap TI (.ref i1) (.ref i2))(pO:Gs s.heap TO a b)
  (t1:IsTupIter s.heap i1 l1 k1) (t2:s.heap.IsListIter i2 l2 k2) (g1:IsTup s.heap l1 xs) (g2:s.heap.IsList l2 ys) (hx:xs[k1]? =eO x) (hy:ys[k2]? =eO y)
  (q:∀h',IsZip h' z TI TO (Gc #v[s])->Gs h' TO x y->IsTupIter h' i1 l1 (k1+1)->h'.IsListIter i2 l2 (k2+1)->Gs h' #v[s] x y->h'.objs.size=#v[s]+1->
   (∀c o,c≠z->c≠TO->c≠i1->c≠i2->s.heap.get? c=eO o->h'.get? c=eO o)->Q (eO (.ref #v[s])) {s with heap:=h'}):wpAny (model prog w) A (pyNext (.ref z)) Q E s:=by
 have hT:s.TypeIs (.ref z) "zip":=#[_,zz,rfl];unfold pyNext;show qx (FZ (FE (name:=Str.ofString "__next__") hT F.slot_zip_next (FH F.slot_zip_next hT F.entry_zip_next ?_ (F.args_zip_next_1 _))));show qx (m:=field (.ref z) 2) (FI zz rfl (x:= .bool kb) rfl ?_);show qx (m:=field (.ref z) 3) (FI zz rfl (x:= .ref TI) rfl ?_);show qx (FN pI rfl ?_);show qx (m:=Builtin.SmallTypes.ownedTupleIsFree (.ref z)) ?_;unfold Builtin.SmallTypes.ownedTupleIsFree;show qx (FI zz rfl (x:= .none) rfl (qH ?_));simp only[if_true];show qx (wpAny_rule (qx (FI zz rfl (x:= .ref TO) rfl (qx (FK zz (by simp) λha za sa=> ?_)))))
 replace za:IsZip ha z TI TO .ellipsis:=za
 show qx ?_;simp only[EL,EZ,DC,DS];show qx (qx (wpAny_onRaise (qx (m:=Builtin.SmallTypes.nextOf (.ref i1)) ?_)));show zq2 (t1.extBut sa.extBut D.i1z) (g1.extBut sa.extBut D.l1z) hx λhb tb sb=>qH ?_;have ob:Gs hb TO a b:=sb.extBut _ _ D.TOi1 (sa.extBut _ _ D.TOz pO);show qx (FN ob rfl (qx (wpAny_updateSeq_pair ob λhc oc sc=> ?_)))
 replace oc:Gs hc TO x b:=oc
 show qx (wpAny_letGo (qH (qx (qx (wpAny_onRaise (qx (m:=Builtin.SmallTypes.nextOf (.ref i2)) ?_))))));show wpAny_nextOf_list_item (((t2.extBut sa.extBut D.i2z).extBut sb.extBut D.i12.symm).extBut sc.extBut D.TOi2.symm) (((g2.extBut sa.extBut D.l2z).extBut sb.extBut D.l2i1).extBut sc.extBut D.l2TO) hy λhd td sd=>qH ?_;have od:Gs hd TO x b:=sd.extBut _ _ D.TOi2 oc;show qx (FN od rfl (qx (wpAny_updateSeq_pair od λhe oe se=> ?_)))
 replace oe:Gs he TO x y:=oe
 show qx (wpAny_letGo (qH (qH (qx (FN oe rfl (qx (wpAny_newTuple ?_)))))));have size:he.objs.size=#v[s]:=by rw[se.1,sd.1,sc.1,sb.1,sa.1]
 have ze:IsZip he z TI TO .ellipsis:=se.extBut _ _ D.TOz.symm (sd.extBut _ _ D.i2z.symm (sc.extBut _ _ D.TOz.symm (sb.extBut _ _ D.i1z.symm za)));have ke:∀c o,c≠z->c≠TO->c≠i1->c≠i2->s.heap.get? c=eO o->he.get? c=eO o:=λc o c1 c2 c3 c4 e=>se.extBut _ _ c2 (sd.extBut _ _ c4 (sc.extBut _ _ c2 (sb.extBut _ _ c3 (sa.extBut _ _ c1 e))));have u1:IsTupIter he i1 l1 (k1+1):=((tb.extBut sc.extBut D.TOi1.symm).extBut sd.extBut D.i12).extBut se.extBut D.TOi1.symm;have u2:he.IsListIter i2 l2 (k2+1):=td.extBut se.extBut D.TOi2.symm;have oI:z<he.objs.size:=Heap.lt_size ze;show qx (m:=Builtin.SmallTypes.ownedTupleHandOut (.ref z) (.ref he.objs.size)) ?_;unfold Builtin.SmallTypes.ownedTupleHandOut;have zf:IsZip (he.push {cls:= .type "tuple",data:= .seq [x,y].toArray}) z TI TO .ellipsis:=Heap.get?_push_of_some _ ze;show qx (FK zf (by simp) λhg zg sg=> ?_)
 replace zg:IsZip hg z TI TO (Gc he.objs.size):=zg
 show FK zg (by simp) λhh zh sh=> ?_
 replace zh:IsZip hh z TI TO (Gc he.objs.size):=zh
 have up:∀c o,c≠z->he.get? c=eO o->hh.get? c=eO o:=λc o c1 e=>sh.extBut _ _ c1 (sg.extBut _ _ c1 (Heap.get?_push_of_some _ e));have th:Gs hh he.objs.size x y:=sh.extBut _ _ (Cv oI) (sg.extBut _ _ (Cv oI) (Heap.get?_push_size _ rfl));have sz:hh.objs.size=he.objs.size+1:=by rw[sh.1,sg.1,Heap.size_push]
 rw[size] at zh th sz;show qH #[_,rfl,qH ?_];change Q (eO (.ref he.objs.size)) _;rw[size];show q hh zh (up _ _ D.TOz oe) (zi1 u1 λo e=>up _ o D.i1z e) (u2.at λo e=>up _ o D.i2z e) th sz λc o c1 c2 c3 c4 e=>up c o c1 (ke c o c1 c2 c3 c4 e)
def zn8{z TI TO i1 i2 l1 l2:oN}{k1 k2:Nat}{xs ys:Array oJ}{a b:oJ}{Q:mw oJ->oM->Prop}(hh:A.handled=fX)(D:ZipApart z TI TO i1 i2 l1 l2)(zz:IsZip s.heap z TI TO .none)(pI:Gs s.heap TI (.ref i1) (.ref i2))(pO:Gs s.heap TO a b)
  (t1:IsTupIter s.heap i1 l1 k1) (t2:s.heap.IsListIter i2 l2 k2) (g1:IsTup s.heap l1 xs) (g2:s.heap.IsList l2 ys) (nW:xs[k1]? =fX\/ys[k2]? =fX)
  (q:∀h',(∀c o,c≠z->c≠TO->c≠i1->c≠i2->s.heap.get? c=eO o->h'.get? c=eO o)->Q fX {s with heap:=h'}):wpAny (model prog w) A (pyNext (.ref z)) Q E s:=by
 have hT:s.TypeIs (.ref z) "zip":=#[_,zz,rfl];unfold pyNext;show qx (FZ (FE (name:=Str.ofString "__next__") hT F.slot_zip_next (FH F.slot_zip_next hT F.entry_zip_next ?_ (F.args_zip_next_1 _))));show qx (m:=field (.ref z) 2) (FI zz rfl (x:= .bool kb) rfl ?_);show qx (m:=field (.ref z) 3) (FI zz rfl (x:= .ref TI) rfl ?_);show qx (FN pI rfl ?_);show qx (m:=Builtin.SmallTypes.ownedTupleIsFree (.ref z)) ?_;unfold Builtin.SmallTypes.ownedTupleIsFree;show qx (FI zz rfl (x:= .none) rfl (qH ?_));simp only[if_true];show qx (wpAny_rule (qx (FI zz rfl (x:= .ref TO) rfl (qx (FK zz (by simp) λha za sa=> ?_)))))
 replace za:IsZip ha z TI TO .ellipsis:=za
 show qx ?_;simp only[EL,EZ,DC,DS];show qx (qx (wpAny_onRaise (qx (m:=Builtin.SmallTypes.nextOf (.ref i1)) ?_)));cases hx:xs[k1]? with
 |none=>
  show zlE hh (t1.extBut sa.extBut D.i1z) (g1.extBut sa.extBut D.l1z) hx ?_;intro hb e sb #[oe,jy,lg];have zb:IsZip hb z TI TO .ellipsis:=sb _ _ D.i1z.symm za;have nV:e≠z:=λx=>by subst x;rw[zb] at jy;cases jy;simp at lg
  show FK zb (by simp) λhc _ sc=> ?_;show qx (FY (T:="StopIteration") (b:=gP) #[oe,sc.extBut _ _ nV jy,lg] isSubtype_stop (qH (q _ λc o c1 _ c3 _ x=>sc.extBut _ _ c1 (sb _ _ c3 (sa.extBut _ _ c1 x)))))
 |some x=>
  have hy:ys[k2]? =fX:=by rcases nW with h|h;rw[hx] at h;cases h;show h
  show zq2 (t1.extBut sa.extBut D.i1z) (g1.extBut sa.extBut D.l1z) hx λhb tb sb=>qH ?_;have ob:Gs hb TO a b:=sb.extBut _ _ D.TOi1 (sa.extBut _ _ D.TOz pO);show qx (FN ob rfl (qx (wpAny_updateSeq_pair ob λhc oc sc=> ?_)));show qx (wpAny_letGo (qH (qx (qx (wpAny_onRaise (qx (m:=Builtin.SmallTypes.nextOf (.ref i2)) ?_))))));show wpAny_nextOf_list_end hh (((t2.extBut sa.extBut D.i2z).extBut sb.extBut D.i12.symm).extBut sc.extBut D.TOi2.symm) (((g2.extBut sa.extBut D.l2z).extBut sb.extBut D.l2i1).extBut sc.extBut D.l2TO) hy ?_;intro hd e sd #[oe,jy,lg];have zd:IsZip hd z TI TO .ellipsis:=sd _ _ D.i2z.symm (sc.extBut _ _ D.TOz.symm (sb.extBut _ _ D.i1z.symm za));have nV:e≠z:=λx=>by subst x;rw[zd] at jy;cases jy;simp at lg
  show FK zd (by simp) λhe _ se=> ?_;show qx (FY (T:="StopIteration") (b:=gP) #[oe,se.extBut _ _ nV jy,lg] isSubtype_stop (qH (q _ λc o c1 c2 c3 c4 x=>se.extBut _ _ c1 (sd _ _ c4 (sc.extBut _ _ c2 (sb.extBut _ _ c3 (sa.extBut _ _ c1 x)))))))
noncomputable abbrev zM1(h:Heap)(l1:oN):Heap:=h.push {cls:= .type "tuple_iterator",data:= .fields [.ref l1,.int 0 0].toArray}
noncomputable abbrev zM2(h:Heap)(l1 l2:oN):Heap:=(zM1 h l1).push {cls:= .type "list_iterator",data:= .fields [.ref l2,.int 0 0].toArray}
noncomputable abbrev zM3(h:Heap)(l1 l2:oN):Heap:=(zM2 h l1 l2).push {cls:= .type "tuple",data:= .seq [.ref h.objs.size,.ref (zM1 h l1).objs.size].toArray}
noncomputable abbrev zM4(h:Heap)(l1 l2:oN):Heap:=(zM3 h l1 l2).push {cls:= .type "tuple",data:= .seq [.none,.none].toArray}
noncomputable abbrev zM5(h:Heap)(l1 l2:oN):Heap:=(zM4 h l1 l2).push {cls:= .type "zip",data:= .fields [.none,.bool kb,.bool kb,.ref (zM2 h l1 l2).objs.size,.ref (zM3 h l1 l2).objs.size].toArray}
def zjw(l1 l2:oN)(xs ys:Array oJ):Meets (Gk.«zip.__new__» #[[.type "zip",.ref l1,.ref l2],[]]) (λ_ R s=>IsTup s.heap l1 xs/\s.heap.IsList l2 ys/\R (.ok (.ret (.ref (zM4 s.heap l1 l2).objs.size))) {s with heap:=zM5 s.heap l1 l2}):=
 .of_wp λprog w A R s h=>by
  have#[hp,g,d,tk,os]:=s;have#[b1,b2,h]:=h;have rN:=sub_zip;have B1:IsTup (Shared.heap #[hp,g,d,tk,os]) l1 xs:=b1;have B2:Heap.IsList (Shared.heap #[hp.push {cls:= .type "tuple_iterator",data:= .fields [.ref l1,.int 0 0].toArray},g,d,tk,os]) l2 ys:=Heap.IsList.push b2 _
  wp_walk using iter_tuple B1,Ge B2
  show#[_,rfl,h]
def zlX(b1:IsTup s.heap l1 xs)(b2:s.heap.IsList l2 ys)
  (h:∀h',IsZip h' (#v[s]+4) (#v[s]+2) (#v[s]+3) .none->Gs h' (#v[s]+2) (.ref #v[s]) (.ref (#v[s]+1))->Gs h' (#v[s]+3) .none .none->
   IsTupIter h' #v[s] l1 0->h'.IsListIter (#v[s]+1) l2 0->(∀c o,s.heap.get? c=eO o->h'.get? c=eO o)->Q (.ref (#v[s]+4)) {s with heap:=h'}):wpAny (model prog w) A (call (.type "zip") [.ref l1,.ref l2]) Q E s:=by
 show callType_new F.called_zip ∅ (F.typeCall_zip_2 _ _) (F.newCall_zip_2 _ _) (λobj=>F.args_object_init_3 obj _ _) F.entry_zip_new (zjw l1 l2 xs ys) #[b1,b2,?_];have n1:(zM1 s.heap l1).objs.size=#v[s]+1:=Heap.size_push ..;have n2:(zM2 s.heap l1 l2).objs.size=#v[s]+2:=by rw[Heap.size_push,n1]
 have n3:(zM3 s.heap l1 l2).objs.size=#v[s]+3:=by rw[Heap.size_push,n2]
 have n4:(zM4 s.heap l1 l2).objs.size=#v[s]+4:=by rw[Heap.size_push,n3]
 have e5:(zM5 s.heap l1 l2).get? (zM4 s.heap l1 l2).objs.size=eO _:=Heap.get?_push_size _ rfl;have e4:(zM5 s.heap l1 l2).get? (zM3 s.heap l1 l2).objs.size=eO _:=Heap.get?_push_of_some _ (Heap.get?_push_size _ rfl);have e3:(zM5 s.heap l1 l2).get? (zM2 s.heap l1 l2).objs.size=eO _:=Heap.get?_push_of_some _ (Heap.get?_push_of_some _ (Heap.get?_push_size _ rfl));have e2:(zM5 s.heap l1 l2).get? (zM1 s.heap l1).objs.size=eO _:=Heap.get?_push_of_some _ (Heap.get?_push_of_some _ (Heap.get?_push_of_some _ (Heap.get?_push_size _ rfl)));have e1:(zM5 s.heap l1 l2).get? #v[s]=eO _:=Heap.get?_push_of_some _ (Heap.get?_push_of_some _ (Heap.get?_push_of_some _ (Heap.get?_push_of_some _ (Heap.get?_push_size _ rfl))));change _/\_;rw[n2,n3,n4] at e5;rw[n1,n2] at e3;rw[n3] at e4;rw[n1] at e2;rw[n4];show#[#[_,e5,rfl],h _ e5 e3 e4 #[_,e1,rfl,rfl] #[_,e2,rfl,rfl] λc o x=>Heap.get?_push_of_some _ (Heap.get?_push_of_some _ (Heap.get?_push_of_some _ (Heap.get?_push_of_some _ (Heap.get?_push_of_some _ x))))]
end
noncomputable def ztR(K:uG)(a b:oN):It:=
  #[λi H=>∃xs ys x y,SqT K H a xs/\SqL K H b ys/\xs[i]? =eO x/\ys[i]? =eO y,
   λi H x H'=>∃p u v,x= .ref p/\H p=fX/\H'=upd H p (.tup [u,v])/\(∀xs,SqT K H a xs->xs[i]? =eO u)/\∀ys,SqL K H b ys->ys[i]? =eO v,
   λi H=>∃xs ys,SqT K H a xs/\SqL K H b ys/\(xs.length<=i\/ys.length<=i)]
def zlY{P:Program}(a b z TI TO i1 i2:oN)(D:ZA z TI TO i1 i2):
  ziF P w K (.Tuple elts k tp) (ztR K a b) [z,TI,TO,i1,i2] z (λi h=>IsZip h z TI TO .none/\Gs h TI (.ref i1) (.ref i2)/\(∃u v,Gs h TO u v)/\IsTupIter h i1 a i/\h.IsListIter i2 b i/\a≠TO) where
 mem:=by simp
 obj:=λi h st c hb=>by
  have#[hz,gn,#[u,v,gF],#[o1,e1,_,d1],#[o2,e2,_,d2],_]:=st;rcases(by simpa using hb:c=z\/c=TI\/c=TO\/c=i1\/c=i2) with rfl|rfl|rfl|rfl|rfl;show#[_,hz,λv z=>by cases z];show#[_,gn,λv z=>by cases z];show#[_,gF,λv z=>by cases z];show#[o1,e1,λv z=>by rw[d1] at z;cases z];show#[o2,e2,λv z=>by rw[d2] at z;cases z]
 keep:=λi h h' st k=>by
  have#[hz,gn,#[u,v,gF],h1,h2,n1]:=st;show#[k z (by simp) _ hz,k TI (by simp) _ gn,#[u,v,k TO (by simp) _ gF],zi1 h1 λo e=>k i1 (by simp) o e,h2.at λo e=>k i2 (by simp) o e,n1]
 item:=by
  walk_at "!b";have#[xs,ys,x,y,hq,gj,hx,hy]:=hg;have#[ah,rv,p,mY]:=I.tuple hq;have#[its',rv',p',mX]:=I.list gj;have#[u,hu,ru]:=rv.get hx;have#[u',rH,ru']:=rv'.get hy;have#[hz,gn,#[w1,w2,gF],h1,h2,na]:=st;have nf:∀(c:oN) (l:oN) (zs:kh V),SqT X.K H l zs->c∈[z,i1,i2]->l≠c:=λc l zs hl hc e=>by
   subst e;have#[_,_,#[o,eo,ec,_],_]:=I.tuple hl;have#[o1,e1,c1,_]:=id h1;have#[o2,e2,c2,_]:=id h2;rcases(by simpa using hc:l=z\/l=i1\/l=i2) with rfl|rfl|rfl;rw[hz] at eo;cases eo;show absurd (show Value.type "zip"= .type "tuple" from ec) ∅;rw[e1] at eo;cases eo;rw[c1] at ec;show absurd ec ∅;rw[e2] at eo;cases eo;rw[c2] at ec;show absurd ec ∅
  have iG:∀(c:oN),c∈[z,TI,TO,i1,i2]->b≠c:=λc hc e=>by
   subst e;have#[_,_,#[o,n,eo,ec,_,_],_]:=I.list gj;have#[o1,e1,c1,_]:=id h1;have#[o2,e2,c2,_]:=id h2;rcases(by simpa using hc:b=z\/b=TI\/b=TO\/b=i1\/b=i2) with rfl|rfl|rfl|rfl|rfl;rw[hz] at eo;cases eo;show absurd (show Value.type "zip"= .type "list" from ec) ∅;rw[gn] at eo;cases eo;show absurd (show Value.type "tuple"= .type "list" from ec) ∅;rw[gF] at eo;cases eo;show absurd (show Value.type "tuple"= .type "list" from ec) ∅;rw[e1] at eo;cases eo;rw[c1] at ec;show absurd ec ∅;rw[e2] at eo;cases eo;rw[c2] at ec;show absurd ec ∅
  have D':ZipApart z TI TO i1 i2 a b:=#[D.TIz,D.TOz,D.i1z,D.i2z,D.TITO,D.TIi1,D.TIi2,D.TOi1,D.TOi2,D.i12,nf _ _ _ hq (by simp),na,nf _ _ _ hq (by simp),nf _ _ _ hq (by simp),iG _ (by simp),iG _ (by simp),iG _ (by simp),iG _ (by simp)];show zlW D' hz gn gF h1 h2 p p'.isList (x:=u) (y:=u') (by simpa using hu) (by simpa using rH) λh3 r0 o9 t9 t7 rL tX gL=> ?_;show#[_,rfl,?_];show wpAny_letOwnedTupleGo_zip (s:={s with heap:=h3}) r0 λh4 qZ jd=> ?_;have jd:Heap.SameBut z h3 h4:=jd;have ltZ:z<#v[s]:=Heap.lt_size hz;have vv:yk [x,y] [u,u']:= .cons ru (.cons ru' .nil);have T:=Inv.turnedT (h':=h4) (t':=s.toks) (fp:=[z,TI,TO,i1,i2]) I vv (by change 2<=FC;decide) (λc o hb eb=> ?_) ((jd.2 _ (Cv ltZ)).trans rL) hf (λc hb=> ?_);have#[I2,fr,fb]:=T;show#[.ref #v[s],_,I2,rfl,#[_,x,y,rfl,fr,rfl,λys hy=>by rw[I.tuple_inj hy hq];show hx,λys hz=>by rw[I.list_inj hz gj];show hy],#[qZ,?_,#[_,_,(jd.2 TO D.TOz).trans o9],zi1 t9 λo eo=>(jd.2 i1 D.i1z).trans eo,t7.at λo eo=>(jd.2 i2 D.i2z).trans eo,na],fb];show(jd.2 TI D.TIz).trans (gL TI _ D.TIz D.TITO D.TIi1 D.TIi2 gn)
  .have hb:c≠z/\c≠TI/\c≠TO/\c≠i1/\c≠i2:=by simpa using hb
   show(jd.2 c hb.1).trans (gL c o hb.1 hb.2.2.1 hb.2.2.2.1 hb.2.2.2.2 eb)
  have#[o1,e1,_]:=h1;have#[o2,e2,_]:=h2;rcases(by simpa using hb:c=z\/c=TI\/c=TO\/c=i1\/c=i2) with rfl|rfl|rfl|rfl|rfl;show#[_,hz];show#[_,gn];show#[_,gF];show#[o1,e1];show#[o2,e2]
 done:=by
  walk_at "!b";have#[xs,ys,hq,gj,hx]:=hg;have#[ah,rv,p,mY]:=I.tuple hq;have#[its',rv',p',mX]:=I.list gj;have#[hz,gn,#[w1,w2,gF],h1,h2,na]:=st;have hl:=rv.length;have iu:=rv'.length;have nf:∀(c:oN) (l:oN) (zs:kh V),SqT X.K H l zs->c∈[z,i1,i2]->l≠c:=λc l zs hl hc e=>by
   subst e;have#[_,_,#[o,eo,ec,_],_]:=I.tuple hl;have#[o1,e1,c1,_]:=id h1;have#[o2,e2,c2,_]:=id h2;rcases(by simpa using hc:l=z\/l=i1\/l=i2) with rfl|rfl|rfl;rw[hz] at eo;cases eo;show absurd (show Value.type "zip"= .type "tuple" from ec) ∅;rw[e1] at eo;cases eo;rw[c1] at ec;show absurd ec ∅;rw[e2] at eo;cases eo;rw[c2] at ec;show absurd ec ∅
  have iG:∀(c:oN),c∈[z,TI,TO,i1,i2]->b≠c:=λc hc e=>by
   subst e;have#[_,_,#[o,n,eo,ec,_,_],_]:=I.list gj;have#[o1,e1,c1,_]:=id h1;have#[o2,e2,c2,_]:=id h2;rcases(by simpa using hc:b=z\/b=TI\/b=TO\/b=i1\/b=i2) with rfl|rfl|rfl|rfl|rfl;rw[hz] at eo;cases eo;show absurd (show Value.type "zip"= .type "list" from ec) ∅;rw[gn] at eo;cases eo;show absurd (show Value.type "tuple"= .type "list" from ec) ∅;rw[gF] at eo;cases eo;show absurd (show Value.type "tuple"= .type "list" from ec) ∅;rw[e1] at eo;cases eo;rw[c1] at ec;show absurd ec ∅;rw[e2] at eo;cases eo;rw[c2] at ec;show absurd ec ∅
  have D':ZipApart z TI TO i1 i2 a b:=#[D.TIz,D.TOz,D.i1z,D.i2z,D.TITO,D.TIi1,D.TIi2,D.TOi1,D.TOi2,D.i12,nf _ _ _ hq (by simp),na,nf _ _ _ hq (by simp),nf _ _ _ hq (by simp),iG _ (by simp),iG _ (by simp),iG _ (by simp),iG _ (by simp)]
  show zn8 (I.ok.hd hc) D' hz gn gF h1 h2 p p'.isList (by simp;omega) λh' eb=>#[rfl,Inv.turnedL (t':=s.toks) (fp:=[z,TI,TO,i1,i2]) I (λc o hb eo=>by
   have hb:c≠z/\c≠TI/\c≠TO/\c≠i1/\c≠i2:=by simpa using hb
   show eb c o hb.1 hb.2.2.1 hb.2.2.2.1 hb.2.2.2.2 eo) hf]
 self:=λ_ _ _ _ _ st h=>wpAny_pyIter_zip st.1 h
def zkZ(K:uG)(ta:TA):TI:=λσ H R=>ta σ H λvs H1=>∃a b,vs=[.ref a,.ref b]/\(∃xs,SqT K H1 a xs)/\(∃ys,SqL K H1 b ys)/\R (ztR K a b) H1
def zn9{elts:kh Expr}{k:Nat}{tp:Pos}{l m:Expr}{ta:TA}{p pos:Pos}(hg:Gl X "zip")(hm:X.mg "zip"=fX)(ha:PA X [l,m] ta)(hK:X.K=K:=by rfl)(hs:FD [l,m] X.env=[(kb,eval l X.env),(kb,eval m X.env)]:=by rfl)(gi:FD [m] X.env=[(kb,eval m X.env)]:=by rfl):
  PI X (.Tuple elts k tp) (.Call (.Name "zip" p) [l,m] [] pos) (zkZ K ta):=by
 subst hK;intro pins s σ H R I h;show Call_ (Ud I hg hm Boot.«zip» (Ax (thn (ha pos pins s σ H _ I h) λus s1 ⟨vs,H1,I1,r1,q1⟩=> ?_) (by rw[hs,gi]) (by rw[gi];rfl)));have#[a,b,e,#[xs,hq],#[ys,gj],q]:=q1;subst e;have#[u,u',rfl,ru,ru']:=zki r1;cases ru;cases ru';have#[ah,rv,p,hz]:=I1.tuple hq;have#[its',rv',p',hG]:=I1.list gj;have la:a<#v[s1]:=p.lt;show zlX p p'.isList λh' hz gn gF h1 h2 hk=> ?_;have I2:Inv X pins σ H1 {s1 with heap:=h'}:=I1.kept (t':=s1.toks) hk;generalize hn:#v[s1]=n at hz gn gF h1 h2 la;show wpAny_pyIter_zip (s:={s1 with heap:=h'}) hz ?_;show#[n+4,[n+4,n+2,n+3,n,n+1],_,_,H1,rfl,I2,zlY a b (n+4) (n+2) (n+3) n (n+1) #[by simp,by simp,by simp,by simp,by simp,by simp,by simp,by simp,by simp,by simp],#[hz,gn,#[_,_,gF],h1,h2,y6 (x9 la (By n 3))],λc hb=> ?_,q];have hb:#v[s1]<=c:=by
  rw[hn];rcases(by simpa using hb:c=n+4\/c=n+2\/c=n+3\/c=n\/c=n+1) with rfl|rfl|rfl|rfl|rfl<;>simp
 show Inv.fpOk I1 hb (I1.hok.fresh hb)|>λ⟨f0,f1,f2,f3,f4,f5⟩=>#[f0,f1,f2,f3,f4,f5]
def zjx(m n:TwE):TwI:=λρ S=>rb (m ρ S) λx S1=>rb (n ρ S1) λy S2=>match x.tupOf,yo S2 y with
 |some l,eO _=>eO (.ok (λS=>(yo S y).map (zdp l)) S2)
 |_,_=>fX
section
variable{E:XK}
def zoa{ta tb:TE}{m n:TwE}(ha:RE K E ta m)(hb:RE K E tb n):RI K E (zkZ K (zb6 ta (zb6 tb zlr))) (zjx m n):=by
 walk_at "!d"
 .show ha En0 e1 λj1 H1 X1 E1 u hu=> ?_;rcases zK e with⟨y,S2,e2,e⟩|⟨c,S2,e2,rfl⟩
  .cases el:x.tupOf with
   |none=>rw[el] at e;cases e
   |some l=>
    cases em:yo S2 y with
    |none=>rw[el,em] at e;cases e
    |some l'=>
     rw[el,em] at e;cases e;show hb E1 e2 λj2 H2 X2 E2 v hv=> ?_;have lX:=hu.mono X2;have#[a,vs,rfl,h1,_]:=lX.tupO el;have#[b,ws,rfl,h2,_]:=E2.lstAt hv em;show#[a,b,rfl,#[vs,h1],#[ws,h2.sql],k _ _ (X1.trans X2) E2 _ ?_];intro F3 j3 H3 σ3 ρ3 S3 xs i X3 E3 e3;dsimp only at e3;cases oz:yo S3 y with
     |none=>rw[oz] at e3;cases e3
     |some p2=>
      rw[oz] at e3;cases e3;have#[a',vs',ea,g1,g2]:=(lX.mono X3).tupO el;cases ea;have#[b',ws',eb,g3,g4]:=E3.lstAt (hv.mono X3) oz;cases eb;show#[λz ez=> ?_,λhle=>#[vs',ws',g1,g3.sql,by rw[g2.len,g4.len];rw[zhx] at hle;omega]];have#[z1,z2,tD,tu,rfl]:=zkO ez;have#[w1,f1,f2]:=g2.get tD;have#[w2,f3,f4]:=g4.get tu;show#[#[vs',ws',w1,w2,g1,g3.sql,f1,f3],?_];intro v' H' #[p,u',w',rfl,hp,rfl,hx,hy];have q1:=hx vs' g1;have q2:=hy ws' g3.sql;rw[f1] at q1;rw[f3] at q2;cases q1;cases q2;show#[wD hp,.tup zW (.cons (f2.mono (Ext.same (wD hp))) (.one (f4.mono (Ext.same (wD hp)))))]
  show hb E1 e2 (PX.mono k X1)
 show ha En0 e1 k
end
def zlZ{Q':(Sto->mw (kh Xv))->Sto->Prop}(h:W (m ρ S) λx S1=>W (n ρ S1) λy S2=>∃l k,x.tupOf=eO l/\yo S2 y=eO k/\Q' (λS=>(yo S y).map (zdp l)) S2):W (zjx m n ρ S) Q':=W.bind (h.imp λx S1 h=>W.bind (h.imp λy S2 h=>by
 have#[l,k,e1,e2,q]:=h;rw[e1,e2]
 show .of rfl q))
open PySem.Calls PySem.W
section
variable{E:XK}{j:kh oN}
end
section
variable{a b z:TwE}{x:Xv}
end
end L2
namespace L2
open PySem.Calls
section
variable{w:World}{h:Heap}{g:Array Gp}{d:Drawn}{t:Nat}{os:OsState}{a:oN}
end
section
variable{w:World}{I:oN}{fp wr:kh oN}{G:Array Gp->Array Gp->Prop}{n:Nat}{P:Nat->oJ->Prop}{St:Nat->oM->Prop}{R:Result->oM->Prop}{KK:Type}[DecidableEq KK]{knd:KeyKind prog w KK}
end
end L2
namespace L2
open PySem.Calls PySem.W
section
variable{w:World}
end
section
variable{k:Nat}{f:oN}{R:V->kh V->Hp->VK->Prop}
end
section
variable{k:Nat}{R:V->kh V->Hp->VK->Prop}
end
section
variable{E:XK}
end
section
variable{e l:TwE}
end
section
variable{a:oN}
variable{k:Nat}{f:oN}{R:V->kh V->Hp->VK->Prop}{af:kh (Key×V)}{ob:Obj}{es:Array DictEntry}{ep:Nat}{it S:oN}{Q:VK}{J:Nat->kh V->kh (kh Int)->Hp->Prop}
end
section
variable{j:kh oN}{H':Hp}{x:Xv}{v:V}
end
section
variable{F:Fm}{j j':kh oN}{H':Hp}{σ':St}{ρ':Rho}{S':Sto}{a:oN}{n:Nat}{o:Obj}{af:kh (Key×Xv)}{ks:kh (Key×V)}
end
section
variable{E:XK}
end
section
variable{d l:TwE}
end
section
variable{w:World}{z TI TO i1 i2 l1 l2 T0:oN}{f:Bool}{k1 k2:Nat}{xs ys:Array oJ}{x y:oJ}{o:Obj}
end
section
variable{w:World}{z TI TO i1 i2 l1 l2 B:oN}{xs ys:Array oJ}
end
section
variable{w:World}{z TI TO i1 i2 l1 l2 B S:oN}{xs ys:Array oJ}{R:Result->oM->Prop}{res:oJ}
end
section
variable{E:XK}
end
end L2
namespace L2
def zam:∀(names:kh (Str×Ga)) (n:Nat) (acc:kh (Str×oN)),FJ n names acc=FJ n names []++acc:=by
 intro names
 induction names with
 |nil=>intro n acc;rfl
 |cons p r ih=>
  intro n acc;have#[name,kind]:=p;unfold FJ;split;rw[ih (n+1) ((name,n)::acc),ih (n+1) [(name,n)],Bt];rfl;show ih n acc
set_option tactic.hygienic true in
def zsk:∀(names:kh (Str×Ga)) (n:Nat) {x:Str} {c:oN},(x,c)∈FJ n names []->(x,NameKind.cell)∈names:=by
 intro names
 induction names with
 |nil=>intro n x c h;cases h
 |cons p r ih=>
  intro n x c h;have#[name,kind]:=p;unfold FJ at h;split at h
  .rename_i hk;rw[zam] at h;rcases AX.1 h with h|h;show uR _ (ih _ h)
   have:kind= .cell:=by simpa using hk
   rw[y7.1 h|>λe=>(Fz e).1,<-this];show uY
  show uR _ (ih _ h)
set_option tactic.hygienic true in
def zjy:∀(names:kh (Str×Ga)) (n:Nat) {x:Str},(x,NameKind.cell)∈names->∃c,(x,c)∈FJ n names []:=by
 intro names
 induction names with
 |nil=>intro n x h;cases h
 |cons p r ih=>
  intro n x h;have#[name,kind]:=p;unfold FJ;rcases uU.1 h with h|h;cases h;change ∃c,(x,c)∈FJ (n+1) r [(x,n)];rw[zam];show#[n,A9 _ uY];obtain⟨c,hc⟩:∃c,(x,c)∈FJ (if (kind==NameKind.cell)=gP then n+1 else n) r []:=ih _ h;split;rename_i hk;rw[Gv hk] at hc;rw[zam];show#[c,Ct _ hc];rename_i hk;rw[Gw hk] at hc;show#[c,hc]
structure zan(X:Cx)(sc:Scope):Prop where
 nd:(sc.names.map (·.1)).Nodup
 kind:sc.kind= .function
 names:∀y∈sc.names,y.2= .local->sc.names.lookup y.1=eO .local
 free:∀y∈sc.names,y.2= .free->X.env.kindOf y.1=eO .cell\/X.env.kindOf y.1=eO .free
def zob:∀{names:kh (Str×Ga)},(names.map (·.1)).Nodup->∀{x:Str} {j k:Ga},(x,j)∈names->(x,k)∈names->j=k:=by
 intro names
 induction names with
 |nil=>intro _ x j k h;cases h
 |cons p r ih=>
  intro hn x j k h1 h2;rw[y4,AY] at hn;rcases uU.1 h1 with e1|h1;rcases uU.1 h2 with e2|h2;rw[<-e1] at e2;show(Fz e2).2.symm;show absurd (z9.2 #[_,h2,rfl]) (by rw[show x=p.1 by rw[<-e1]];show hn.1);rcases uU.1 h2 with e2|h2;show absurd (z9.2 #[_,h1,rfl]) (by rw[show x=p.1 by rw[<-e2]];show hn.1);show ih hn.2 h1 h2
def za4{env:Env}{x:Str}{k:Ga}(hk:k= .cell\/k= .free):∀{names:kh (Str×Ga)},
  (names.map λ(n,k)=>if (k==NameKind.free&&env.scope.kind== .function&&env.kindOf n==eO .cell) then (n,NameKind.cell) else (n,k)).lookup x=eO k->(x,NameKind.free)∈names\/(x,NameKind.cell)∈names:=by
 intro names
 induction names with
 |nil=>intro h;simp at h
 |cons p r ih=>
  intro h;have#[n,j]:=p;have h:Bm x ((if (j==NameKind.free&&env.scope.kind== .function&&env.kindOf n==eO .cell)=gP then (n,NameKind.cell) else (n,j))::_)=_:=h;by_cases hj:(j==NameKind.free&&env.scope.kind== .function&&env.kindOf n==eO .cell)=gP
  .rw[Gv hj,An] at h;have pR:j= .free:=by
    simp only[A5,beq_iff_eq] at hj;show hj.1.1
   cases hx:x==n with
   |true=>rw[eq_of_beq hx,<-pR];show .inl uY
   |false=>
    rw[hx] at h;show(ih h).imp (uR _) (uR _)
  rw[Gw hj,An] at h;cases hx:x==n with
  |true=>
   rw[hx] at h;have h':j=k:=y9 h;rw[eq_of_beq hx];rcases hk with e|e;rw[h',e];show .inr uY;rw[h',e];show .inl uY
  |false=>
   rw[hx] at h;show(ih h).imp (uR _) (uR _)
noncomputable def za5(sc:Scope)(C:oN)(env:Env):kh (Str×oN):=FJ (C+1) sc.names (WZ sc env)
noncomputable def xO(X:Cx)(N':kh Str)(sc:Scope)(C:oN)(s₀:oM)(H₀:Hp)(fp:kh oN):Cx:={zmK X N' sc C s₀ H₀ fp with env:=compEnvC sc (za5 sc C X.env) C X.env,fn:=λx=>sc.names.lookup x==eO .cell}
def ztS{C:oN}(hO:CellsOk h (C+1) (FJ (C+1) sc.names []))(hm:(x,NameKind.cell)∈sc.names)(e:(za5 sc C env).lookup x=eO c):C<=c:=by
 have#[d,hd]:=zjy sc.names (C+1) hm;have#[d',gM]:=vx hd;unfold za5 at e;rw[zam,C1,gM] at e;cases e;show z5 (hO.empty x _ (z3 gM)).2
def zhS(h:(za5 sc C env).lookup x=eO c):(x,c)∈FJ (C+1) sc.names []\/(env.cells.lookup x=eO c/\(sc.names.lookup x==eO .cell)=kb):=by
 unfold za5 at h;rw[zam,C1] at h;cases e:(FJ (C+1) sc.names []).lookup x with
 |some d=>rw[e] at h;cases h;show .inl (z3 e)
 |none=>
  rw[e] at h;show .inr #[WG (by simpa using h),?_];cases q:(sc.names.lookup x==eO NameKind.cell) with
  |false=>rfl
  |true=>
   have#[d,hd]:=zjy sc.names (C+1) (z3 (eq_of_beq q));have#[d',gM]:=vx hd;rw[e] at gM;cases gM
def za6(h:(za5 sc C env).lookup x=eO c):(x,c)∈FJ (C+1) sc.names []\/env.cells.lookup x=eO c:=(zhS h).imp (λz=>z) (·.1)
def zoc(B:zan X sc)(h:(x,NameKind.free)∈sc.names)(e:X.env.cells.lookup x=eO c):(za5 sc C X.env).lookup x=eO c:=by
 unfold za5;rw[zam,C1];cases q:(FJ (C+1) sc.names []).lookup x with
 |some d=>show absurd (zob B.nd h (zsk _ _ (z3 q))) ∅
 |none=>simpa using zcY h e
def zsl(h:(x,NameKind.cell)∈sc.names):∃c,(za5 sc C env).lookup x=eO c:=by
 have#[c,hc]:=zjy sc.names (C+1) h;have#[d,hd]:=vx hc;show#[d,?_];unfold za5;rw[zam,C1,hd];rfl
def zf2{Q:Env->oM->Prop}
  (hQ:Q (newEnv scope #v[s] globals (FJ (#v[s]+1) scope.names cl) qual fX .none (eO env) bt) {s with heap:=pushCells (s.heap.push {cls:= .type "dict",data:= .dict [].toArray}) scope.names}):
  wpAny M A (newFunctionEnv scope globals cl [] qual fX .none (eO env) bt) Q E s:=by
 simp only[newFunctionEnv,Ej,if_true];show qx (wpAny_alloc ?_);show qx (wpAny_layCells _ (λname kind cells=>by cases m6:kind==NameKind.cell<;>simp[m6]) _ _ _ _ ?_);rw[show({s with heap:=s.heap.push {cls:= .type "dict",data:= .dict [].toArray}}:oM).heap.objs.size=#v[s]+1 from Heap.size_push ..];rw[DS];show qx (qH (qH hQ))
section
def Inv.closureC(I:Inv X pins σ H s)(B:zan X sc):closureFor sc X.env=pure (WZ sc X.env):=
 TM λy hy e=>I.ok.has y.1 (B.free y hy e)
def zjz{h₁:Heap}{t':Nat}{fp:kh oN}{acc C:oN}{s₀:oM}{m:Str->mw oJ}
  (I:Inv X pins σ H s) (B:zan X sc) (cp:vU X sc cap N') (hf:∀b∈fp,zd3 X pins H b) (jG:∀b∈fp,b<#v[s]) (cS:acc=#v[s]) (ho:s₀.os=s.os) (nR:s₀.gens=s.gens)
  (h0:s₀.heap=s.heap.push {cls:= .type "list",data:= .seq [].toArray}) (hC:C=#v[s₀])
  (hO:CellsOk h₁ (C+1) (FJ (C+1) sc.names [])) (eG:h₁.Ns C m) (iJ:∀b o,s₀.heap.get? b=eO o->h₁.get? b=eO o):
  Inv (xO X N' sc C s₀ (upd H acc (.lst [])) fp) [] (ZS cap σ) (upd H acc (.lst [])) {s₀ with heap:=h₁,toks:=t'}:=by
 have pT:H acc=fX:=I.hok.fresh (B5 cS.symm);have iW:∀b o,s.heap.get? b=eO o->s₀.heap.get? b=eO o:=λb o e=>by rw[h0];show Heap.get?_push_of_some _ e
 have km:#v[s₀]=#v[s]+1:=by rw[h0,Heap.size_push]
 have I0:Inv X pins σ (upd H acc (.lst [])) {s with heap:=s₀.heap,toks:=s.toks}:=I.laid iW (B5 cS.symm) #[Ci _,[],0,.nil,by rw[h0,cS];show Heap.get?_push_size _ rfl];have CX':∀b,b<#v[s]->b≠C:=λb hb=>y6 (by rw[hC,km];show BK hb);have CA:∀b,b<#v[s]->b≠acc:=λb hb=>y6 (by rw[cS];show hb);have cellLt:∀x c,X.env.cells.lookup x=eO c->c<#v[s]:=λx c e=>by
  have#[v,o,q,_]:=I.cell x c e;show Heap.lt_size q
 have oy:∀b,b<#v[s]->∀x c,(x,c)∈FJ (C+1) sc.names []->b≠c:=λb hb x c z=>by
  have h1:=(hO.empty x c z).2;have h2:=km;rw[<-hC] at h2;show y6 (x9 hb (uP (AG _) (uP (B5 h2.symm) (uP (AG _) h1))))
 have inj:∀x y c,(za5 sc C X.env).lookup x=eO c->(za5 sc C X.env).lookup y=eO c->x=y:=λx y c h1 h2=>by
  rcases za6 h1 with a1|a1;rcases za6 h2 with a2|a2;show name_of_addr hO.apart a1 a2;show absurd rfl (oy c (cellLt y c a2) x c a1);rcases za6 h2 with a2|a2;show absurd rfl (oy c (cellLt x c a1) y c a2);show I.ok.inj x y c a1 a2
 show#[#[I.ok.mod,B.kind,I.ok.glob,I.ok.blt,B5 hC.symm,inj,λx hx=> ?_,λx c h e=>(h.elim (λz=>uP (B5 hC.symm) (ztS hO (z3 (eq_of_beq z)) e)) λz=>Cq z),I.ok.hd,I.ok.frames,.inl rfl,λb hb=>#[CX' b (jG b hb),λx c e=>(za6 e).elim (λz=>(oy b (jG b hb) x c z).symm) ((hf b hb).2.2.2.2.1 x c)],
   λb o e=> ?_,?_,λb o e hb=> ?_,λb hb hz=> ?_,I0.stack,I0.stkFree],
  rfl,?_,Un.kept iJ,#[m,eG,λj x v h1 h2 h3=> ?_],λx c e=> ?_,?_,λx c e=> ?_,λp hp=>absurd (show p∈([]:kh (oN×Obj)) from hp) (by simp),I0.hok.kept iJ,?_]
 .have hm:(x,NameKind.free)∈sc.names\/(x,NameKind.cell)∈sc.names:=by
   rcases hx with hx|hx;show za4 (env:=X.env) (.inl rfl) hx;show za4 (env:=X.env) (.inr rfl) hx
  rcases hm with hm|hm;have#[c,hc]:=I.ok.has x (B.free _ hm rfl);show#[c,zoc B hm hc];show zsl hm
 .obtain⟨e1,e2⟩:=I.bs b o e;show#[iW b o e1,by change upd H acc (.lst []) b=fX;rw[zT (CA b (Heap.lt_size e1))];show e2]
 .show uP I.ok.bsz (uP I.sz (by change _<=#v[s₀];omega))
 .rcases (hf b hb).2.2.2.1 with z|z;show I.ok.noex b o e z;show absurd (x9 (Heap.lt_size e) (uP I.ok.bsz z)) (AB _)
 .rcases uU.mp (I.stkSub b hz) with e|e;show (hf b hb).2.1 e;show (hf b hb).2.2.1 e
 .change AllBare s₀.gens;rw[nR];show I.bare
 .obtain⟨i,e1,e2⟩:=zeN h2;have#[e3,e4]:=cp.at j i x e1 h1;have hm:(x,NameKind.free)∈sc.names:=z3 e4;have hk:=B.free _ hm rfl;have#[m0,tY,hl]:=I.loc;have#[u,r,l]:=hl i x v e3 e2 (by rcases hk with k|k;show .inr (.inl k);show .inr (.inr k));show#[u,r,.inr ?_];rcases l with⟨k,_⟩|⟨_,c,hc,o,q,d⟩
  .rcases hk with k'|k';rw[k] at k';cases k';rw[k] at k';cases k'
  show#[Yt (env:=X.env) e4,c,zoc B hm hc,o,iJ c o (iW c o q),d]
 .rcases za6 e with z|z;have#[o,q,d]:=(hO.empty x c z).1;show#[_,o,q,d];have#[v,o,q,d]:=I.cell x c z;show#[v,o,iJ c o (iW c o q),d]
 .change upd H acc (.lst []) C=fX;rw[zT (by rw[hC,cS,km];show Nat.succ_ne_self _)];show I.hok.fresh (by rw[hC,km];show AG _)
 .change upd H acc (.lst []) c=fX\/((sc.names.lookup x==eO .cell)=kb/\∃o,upd H acc (.lst []) c=eO (.frz o (.own 0)));rcases zhS e with z|⟨z,zf⟩
  .have h1:=(hO.empty x c z).2;have h2:#v[s]<c:=by
    rw[hC,km] at h1;show x9 (BK (Az _)) h1
   rw[zT (by rw[cS];show Cv h2)];show .inl (I.hok.fresh (z5 h2))
  rw[zT (CA c (cellLt x c z))];show(I.freeC x c z).imp (λz=>z) λz=>#[zf,z.2]
 change (ZS cap σ).length=N'.length;unfold ZS;rw[uM];show cp.len
def zdz{use:mw (oJ->Sem Unit)}{R:oN->Hp->Prop}
  (hc:X.calm=gP) (B:zan X sc) (cp:vU X sc cap N') (hi:PI X tg iter wi) (ow:zlw cap g)
  (hg:∀C s₀ H₀ fp,PG (xO X N' sc C s₀ H₀ fp) tg g) (ht:∀C s₀ H₀ fp,PTs (xO X N' sc C s₀ H₀ fp) ifs tt) (he:∀C s₀ H₀ fp,PE (xO X N' sc C s₀ H₀ fp) elt te)
  (hs:∀x,foldedSetIterable iter X.env x=pure x)
  (I:Inv X pins σ H s) (h:wi σ H λJ H1=>∀acc,H1 acc=fX->zmL cap g tt te J σ acc H1 (R acc))
  (fin:∀(acc C:oN) (H':Hp) (s':oM) (m:Str->mw oJ),Inv X pins σ H' s'->s'.heap.Ns C m->C≠X.env.locals->
   (∀{σ':St} {s'':oM},Inv X pins σ' H' s''->∀h',Heap.SameBut C s''.heap h'->Inv X pins σ' H' {s'' with heap:=h'})->
   R acc H'->compPost (model X.prog X.w) X.A X.xe use Q (.ref acc) C (.ok .next) s'):
  wpAny (model X.prog X.w) X.A (comprehension (.ListComp elt [#[tg,iter,ifs,0]] sc pos) sc X.env p (newList []) kb (eval iter X.env) use) Q X.xe s:=by
 show wpAny_comprehension_free rfl hs (I.closureC B) B.kind B.names (thn (hi pins s σ H _ I h) λxv s1 h1=>thn h1 λmN s2 h2=> ?_);have#[it,fp,tn,J,H2,e,I2,T,kq,f2,r2]:=h2;subst e;have qf:∀b∈fp,b<#v[s2]:=λb hb=>by
  have#[o,e,_]:=T.obj _ _ kq b hb;show Heap.lt_size e
 show FG (zf2 ?_);dsimp only;obtain⟨s₀,gG⟩:∃s₀:oM,s₀={s2 with heap:=s2.heap.push {cls:= .type "list",dict:=fX,data:= .seq ([]:kh oJ).toArray}}:=#[_,rfl];have e0h:s₀.heap=s2.heap.push {cls:= .type "list",data:= .seq [].toArray}:=by rw[gG]
 obtain⟨C,eC⟩:∃C:oN,C=#v[s₀]:=#[_,rfl];obtain⟨acc,eA⟩:∃a:oN,a=#v[s2]:=#[_,rfl];rw[show(s2.heap.push {cls:= .type "list",dict:=fX,data:= .seq ([]:kh oJ).toArray}).objs.size=C by rw[eC,e0h]];obtain⟨h₁,eh₁⟩:∃h₁:Heap,h₁=pushCells ((s2.heap.push {cls:= .type "list",dict:=fX,data:= .seq ([]:kh oJ).toArray}).push {cls:= .type "dict",data:= .dict [].toArray}) sc.names:=#[_,rfl];have keep₁:∀b o,s₀.heap.get? b=eO o->h₁.get? b=eO o:=λb o e=>by
  rw[eh₁];show pushCells_keeps _ _ b o (Heap.get?_push_of_some _ ?_);rw[e0h] at e;show e
 have hO:CellsOk h₁ (C+1) (FJ (C+1) sc.names []):=by
  have:=cellsFrom_ok sc.names ((s2.heap.push {cls:= .type "list",dict:=fX,data:= .seq ([]:kh oJ).toArray}).push {cls:= .type "dict",data:= .dict [].toArray}) (C+1) [] #[λ_ _ hm=>(nomatch hm),EB] (by rw[Heap.size_push,eC,e0h];show uL _);rw[<-eh₁,Heap.size_push] at this;rw[show(s2.heap.push {cls:= .type "list",dict:=fX,data:= .seq ([]:kh oJ).toArray}).objs.size=C by rw[eC,e0h]] at this;show this
 have hns₁:h₁.Ns C λ_=>fX:=by
  rw[eh₁,eC,e0h];show(Heap.Ns.new _ (.type "dict")).keeps (pushCells_keeps _ _)
 have lP:C=#v[s2]+1:=by rw[eC,e0h,Heap.size_push]
 have iW:∀b o,s2.heap.get? b=eO o->s₀.heap.get? b=eO o:=λb o e=>by rw[e0h];show Heap.get?_push_of_some _ e
 have qe:H2 acc=fX:=I2.hok.fresh (B5 eA.symm);change codeAny (model X.prog X.w) X.A (.compStart (.ListComp elt [#[tg,iter,ifs,0]] sc pos) 0 (.ref it) (.ref #v[s2]) (compEnvC sc (za5 sc C X.env) C X.env))
  (compPost (model X.prog X.w) X.A X.xe use Q (.ref #v[s2]) C) {s2 with heap:=pushCells ((s2.heap.push {cls:= .type "list",dict:=fX,data:= .seq ([]:kh oJ).toArray}).push {cls:= .type "dict",data:= .dict [].toArray}) sc.names}
 rw[<-eA,<-eh₁];have tF:({s2 with heap:=h₁}:oM)={s₀ with heap:=h₁,toks:=s2.toks}:=by rw[gG]
 rw[tF];have#[W,#[m0,w0],Ye]:=r2 acc qe;have Ib:Inv (xO X N' sc C s₀ (upd H2 acc (.lst [])) fp) [] (ZS cap σ) (upd H2 acc (.lst [])) {s₀ with heap:=h₁,toks:=s2.toks}:=
  zjz I2 B cp f2 qf eA (by rw[gG]) (by rw[gG]) e0h eC hO hns₁ keep₁
 have stat:∀{H':Hp},(∀b∈fp,H' b=fX)->∀b∈fp,zd3 (xO X N' sc C s₀ (upd H2 acc (.lst [])) fp) [] H' b:=λhn b hb=>
  #[hn b hb,(Ib.ok.exf b hb).1,Ib.ok.exfs b hb,.inl hb,λx c e=>(Ib.ok.exf b hb).2 x c e,λp hp=>absurd (show p∈([]:kh (oN×Obj)) from hp) (by simp)]
 have tq:∀b∈fp,upd H2 acc (.lst []) b=fX:=λb hb=>by
  rw[zT (by rw[eA];show y6 (qf b hb))];show(f2 b hb).1
 have loop:codeAny (model X.prog X.w) X.A (.compLoop (.ListComp elt [#[tg,iter,ifs,0]] sc pos) 0 (.ref it) (.ref acc) (compEnvC sc (za5 sc C X.env) C X.env))
   (compPost (model X.prog X.w) X.A X.xe use Q (.ref acc) C) {s₀ with heap:=h₁,toks:=s2.toks}:=by
  show Uj (λn s'=>∃i ys H',Inv (xO X N' sc C s₀ (upd H2 acc (.lst [])) fp) [] (ZS cap σ) H' s'/\tn i s'.heap/\(∀b∈fp,H' b=fX)/\W i n ys H') ?_ m0
   #[0,[],_,Ib,T.keep _ _ _ kq λb hb o e=>keep₁ b o (iW b o e),tq,w0]
  intro n s3 #[i,ys,H3,I3,ko,lx,w3];rcases Ye i n ys H3 w3 with⟨stop,qn⟩|⟨go,step⟩
  .show thn (T.done (xO X N' sc C s₀ (upd H2 acc (.lst [])) fp) rfl rfl rfl hc i [] s3 _ H3 (λ_ _=>False) I3 (stat lx) ko stop) λr s4 ⟨hr,I4⟩=> ?_;subst hr;have u0:Un (frs X.stack) fp H2 (upd H2 acc (.lst [])) s2.heap s₀.heap:=Un.laid iW (B5 eA.symm) qe;have un:Un (frs X.stack) fp H2 H3 s2.heap s4.heap:=u0.trans I4.base;have I5:Inv X pins σ H3 s4:=I2.call' (by rw[I4.os];change s₀.os=_;rw[gG]) un I4.hok I4.bare λb hb=>#[(f2 b hb).2.2.2.1,(f2 b hb).2.1,(f2 b hb).2.2.2.2.1,(f2 b hb).2.2.2.2.2];have#[m4,sk,_]:=I4.loc;have CL:C≠X.env.locals:=λz=>by
    have:=I2.lt;rw[<-z,lP] at this;show absurd this (F0.mpr (AG _))
   show fin acc C H3 s4 m4 I5 sk CL (λ{σ' s''} I6 h' sb=> ?_) qn;show I6.turned (t':=s''.toks) (λb o hb e=>(sb.2 b hb).trans e) I4.free CL (.inr ?_) (λx c e z=> ?_) λp hp z=> ?_;have:=I2.sz;rw[lP];omega;have#[v,o,q,_]:=I2.cell x c e;have:=Heap.lt_size q;rw[z,lP] at this;show absurd this (F0.mpr (AG _));have#[q,_]:=I2.pin p hp;have:=Heap.lt_size q;rw[z,lP] at this;show absurd this (F0.mpr (AG _))
  show thn (T.item (xO X N' sc C s₀ (upd H2 acc (.lst [])) fp) rfl rfl rfl hc i [] s3 _ H3 (λ_ _=>False) I3 (stat lx) ko go) λr s4 ⟨u,hr,h4⟩=> ?_;subst hr;show thn h4 ?_;intro _ s5 #[x,H5,I5,r5,y5,jk,ou];have I5':=I5.pinned (stat ou) (T.obj _ _ jk);show thn (hg C s₀ _ fp _ s5 _ H5 x u _ I5' r5 (ow σ _ x H5 _ #[rfl,λ_ _ e=>e] (step x H5 y5))) ?_;intro _ s6 #[σ6,H6,I6,q6,p6];have again:∀{H7:Hp} {s7:oM} {zs:kh V},Inv (xO X N' sc C s₀ (upd H2 acc (.lst [])) fp) ([]++zcR fp s5.heap) σ6 H7 s7->(∃m',m'<n/\W (i+1) m' zs H7)->
    ∃m,m<n/\∃i ys H',Inv (xO X N' sc C s₀ (upd H2 acc (.lst [])) fp) [] (ZS cap σ) H' s7/\tn i s7.heap/\(∀b∈fp,H' b=fX)/\W i m ys H':=λ{H7 s7 zs} I7 w7=>by
   have#[m',hm,w7]:=w7;show#[m',hm,i+1,zs,H7,(I7.unpinned).weak p6.1.symm p6.2,T.keep _ _ _ jk λb hb o e=>(I7.pin (b,o) (A9 _ (A9 _ (WV hb e)))).1,λb hb=> ?_,w7];have#[o,e,d]:=T.obj _ _ jk b hb;show(I7.pin (b,o) (A9 _ (A9 _ (WV hb e)))).2.1
  show thn (ht C s₀ _ fp _ s6 σ6 H6 _ I6 q6) ?_;intro ok s7 #[H7,I7,q7];cases ok with
  |false=>
   rw[Gw y3] at q7 ⊢;show again I7 q7
  |true=>
   rw[Gv rfl] at q7 ⊢;show thn (he C s₀ _ fp _ s7 σ6 H7 _ I7 q7) ?_;intro xv s8 #[v,H8,I8,r8,lj,sv,w8];show thn (Zz _ s8 σ6 H8 (.ref acc) [v] (.ref acc) [xv] (λ_ H9=>H9=upd H8 acc (.lst (ys++[v]))) I8 rfl (.cons r8 .nil) #[acc,ys,v,rfl,rfl,lj,sv,rfl]) ?_;intro _ s9 #[_,H9,I9,_,e9];subst e9;show again I9 w8
 show codeAny_compStart_list loop (T.self _ 0 _ _ _ (T.keep _ _ _ kq λb hb o e=>keep₁ b o (iW b o e)) loop)
def zod(hc:X.calm=gP)(B:zan X sc)(cp:vU X sc cap N')(hi:PI X tg iter wi)(ow:zlw cap g)
  (hg:∀C s₀ H₀ fp,PG (xO X N' sc C s₀ H₀ fp) tg g) (ht:∀C s₀ H₀ fp,PTs (xO X N' sc C s₀ H₀ fp) ifs tt) (he:∀C s₀ H₀ fp,PE (xO X N' sc C s₀ H₀ fp) elt te)
  (hs:∀x,foldedSetIterable iter X.env x=pure x:=by intro _;rfl):PE X (.ListComp elt [#[tg,iter,ifs,0]] sc pos) (zmM cap wi g tt te):=by
 intro pins s σ H Q I h;rw[eval_ListComp];show zdz (use:=fX) (R:=λacc H2=>Q (.ref acc) H2) hc B cp hi ow hg ht he hs I h λacc C H' s' m I' hn CL mk r=> ?_;show#[m,hn,λh' sb=>#[.ref acc,H',mk I' h' sb,rfl,r]]
def zhT{i:Nat}{y:Str}{py kr:Pos}(hc:X.calm=gP)(B:zan X sc)(cp:vU X sc cap N')(hi:PI X tg iter wi)(ow:zlw cap g)
  (hg:∀C s₀ H₀ fp,PG (xO X N' sc C s₀ H₀ fp) tg g) (ht:∀C s₀ H₀ fp,PTs (xO X N' sc C s₀ H₀ fp) ifs tt) (he:∀C s₀ H₀ fp,PE (xO X N' sc C s₀ H₀ fp) elt te)
  (hN:X.N.Nodup) (hy:X.N[i]? =eO y) (hl:X.env.scope.names.lookup y=eO .local)
  (rM:swapsWith (.ListComp elt [#[tg,iter,ifs,0]] sc pos) (eO (.Name y py)) kr.line X.env=pure gP:=by rfl)
  (hs:∀x,foldedSetIterable iter X.env x=pure x:=by intro _;rfl):PS X (.Assign [.Name y py] (.ListComp elt [#[tg,iter,ifs,0]] sc pos) kr) (zg6 i cap wi g tt te):=by
 intro pins s σ H D I h;rw[exec_Assign_Name_used _ _ _ _ rM];show qx (wpAny_standAt (qx ?_));change wpAny _ X.A (do let _ <-comprehension (.ListComp elt [#[tg,iter,ifs,0]] sc pos) sc X.env _ (newList []) kb (eval iter X.env) (eO (assign (.Name y py) X.env))) _ _ s;show qx (thn (zdz (use:=eO (assign (.Name y py) X.env)) (Q:=λ_ s'=>SP X pins D .next s') (R:=λacc H2=>D.nx (σ.set i (eO (.ref acc))) H2) hc B cp hi ow hg ht he hs I h λacc C H' s' m I' hn CL mk r=> ?_) λ_ s' hq=>qH (qH hq));change wpAny _ X.A (assign (.Name y py) X.env (.ref acc)) _ _ _;show wpAny_assign_Name (zeA I' hN hy (.inl hl) (v:= .ref acc) rfl (λs'' I'' iJ=> ?_) (.inr hl));have#[a,sb,ha]:=iJ;have t6:C≠a:=by
  rcases ha with ha|ha;rw[ha];show CL;intro z;rw[<-z] at ha;have#[v,o,q,d]:=I'.cell y C ha;have#[o',es,ep,q',d',_]:=hn;rw[q] at q';cases q';rw[d] at d';cases d'
 show#[m,hn.sameBut sb t6,λh' sb'=>#[_,H',mk I'' h' sb',r]]
end
noncomputable def zoe(osc sc:Scope):Bool:=decide (sc.names.map (·.1)).Nodup&&sc.kind== .function&&sc.names.all (λy=>y.2 != .local||sc.names.lookup y.1==eO .local)&&
 sc.names.all (λy=>y.2 != .free||(osc.names.lookup y.1==eO .cell||osc.names.lookup y.1==eO .free))
def ztT(hs:X.env.scope=osc)(h:zoe osc sc=gP):zan X sc:=by
 unfold zoe at h;simp only[A5,Ao,bne_iff_ne,ne_eq,beq_iff_eq,DF,decide_eq_true_eq] at h;have#[#[#[h1,h2],h3],h4]:=h;show#[h1,h2,λy hy e=>(h3 y hy).resolve_left λz=>z e,λy hy e=> ?_];change X.env.scope.names.lookup y.1=_\/X.env.scope.names.lookup y.1=_;rw[hs];show(h4 y hy).resolve_left λz=>z e
end L2
namespace Mth
open PySem.Builtin.Int (intBits)
end Mth
namespace Prf
variable{ns:kh Int}{bs:kh (PySem.Str×Nat)}{ss:kh Nat}{bl:kh L2.Xv}{st:kh Nat}{sn:Nat}{fn:Nat}{dn:Nat}{ln:Nat}{mx:Nat}{ct:Bool}{an:Nat}
open L2
open PySem.Builtin.Int (intBits)
set_option maxHeartbeats 4000000
structure Fi(K:uG)(mg:Str->mw oJ)(nm:Str)(st:Stmt)(ps:kh Str) where
 a:oN
 fd:FW
 F:Fun K nm nm st a fd
 m:mg nm=eO (.ref a)
 b:TL K fd ps []
 x:v5 K tP nm=eO (eO (.ref a))
structure Mi(K:uG)(g:oN)(nm qn:Str)(st:Stmt)(ps:kh Str) where
 a:oN
 fd:FW
 F:Fun K nm qn st a fd
 b:TL K fd ps []
 mt:zrz K g nm a
def LoN(K:uG)(x qual:Str)(st:Stmt)(f:oN):Prop:=∃fd,Fun K x qual st f fd
def FL(K:uG)(nm:Str)(st:Stmt):Prop:=∃f,v5 K tP nm=eO (eO (.ref f))/\LoN K nm nm st f
def ML(K:uG)(g:oN)(nm qn:Str)(st:Stmt):Prop:=∃f,x5 K (.ref g) nm=eO (eO (.ref f))/\Cw K (.ref f)=gP/\LoN K nm qn st f
def ztU{st:Stmt}{od an:mw oN}{kV doc pm bS ct:oJ}(a:v5 K tP x=eO (eO (.ref f)))
  (l:K.lookup f=eO #[oc,od,.func (Bo x x (WY st) (vC st) (zq st) .none kV doc pm an bS ct),fY]) (c:C3 K bS x=gP) (k:Bf K (.ref f)=gP):FL K x st:=#[f,a,_,zmI l c k]
def ztV{st:Stmt}{od an:mw oN}{kV doc pm bS ct:oJ}(a:x5 K (.ref g) x=eO (eO (.ref f)))(i:Cw K (.ref f)=gP)
  (l:K.lookup f=eO #[oc,od,.func (Bo x qn (WY st) (vC st) (zq st) .none kV doc pm an bS ct),fY]) (c:C3 K bS qn=gP) (k:Bf K (.ref f)=gP):ML K g x qn st:=#[f,a,i,_,zmI l c k]
def BA(x qual:Str)(st:Stmt)(ps:kh Str):Prop:=∀(kV doc pm:oJ) (an:mw oN) (bS ct:oJ) (us:kh oJ),us.length=ps.length->bindArgs (Bo x qual (WY st) (vC st) (zq st) .none kV doc pm an bS ct) #[us,[]]=pure (ps.zip us)
def at0{P:kh oJ->Prop}(h:P []):∀us:kh oJ,us.length=0->P us:=λus e=>by
 cases us;show h;cases e
def at_{P:kh oJ->Prop}(h:∀(a:oJ) (us:kh oJ),us.length=n->P (a::us)):∀us:kh oJ,us.length=n+1->P us:=λus e=>by
 cases us;cases e;show h _ _ (Nat.succ.inj e)
noncomputable def FL.to{K:uG}{h:Heap}{mg:Str->mw oJ}{x:Str}{st:Stmt}{ps:kh Str}(H:FL K x st)(X:K.In h)(G:h.Ns tP mg)(B:BA x x st ps:=by walk_at "ba"):Fi K mg x st ps:=
 #[H.choose,H.choose_spec.2.choose,H.choose_spec.2.choose_spec,AU X G H.choose_spec.1,H.choose_spec.2.choose_spec.binds B,H.choose_spec.1]
noncomputable def ML.to{K:uG}{g:oN}{x qn:Str}{st:Stmt}{ps:kh Str}(H:ML K g x qn st)(B:BA x qn st ps:=by walk_at "ba"):Mi K g x qn st ps:=
 #[H.choose,H.choose_spec.2.2.choose,H.choose_spec.2.2.choose_spec,H.choose_spec.2.2.choose_spec.binds B,#[H.choose_spec.1,H.choose_spec.2.1,H.choose_spec.2.2.choose_spec.kp]]
def zsm{mg:Str->mw oJ}{st:Stmt}(f:Fi K mg "law" st [x])(hK:∀s:oM,K.In s.heap->True)(h:mg "law"=eO (.ref fa)):fa=f.a:=by
 have e:=h.symm.trans f.m;injection e with e;injection e
def ztW:TS:=λ_ _ _=>False
def zf3{st:Stmt}:PS X st ztW:=λ_ _ _ _ _ _ h=>Ah h
section
variable{P:Program}{w:World}{mg:Str->mw oJ}{base:Heap}
def okS{x qual:Str}{st:Stmt}{f:oN}{fd:FW}{N ps:kh Str}{k n m:Nat}{b:TwS}(F:Fun K x qual st f fd)(S:zB N ps (zq st)) 
  (h:∀{bS:oJ} {A:Around} {outer:kh Env} {s:oM} {H:Hp} {E:XK},ww k (A.deeper (envOfC qual (zq st) #v[s] f bS))->N.Nodup->∃t,PSs (TF (CXE P w) P w K mg base N qual (zq st) f bS A outer s H E) (vC st) t/\RS K E t b) (hp:ps.length=n:=by rfl) (hN:N.length=n+m:=by rfl):
  Yy P w K mg base (CXE P w) (k+1) f fd ps (sTw K n (zQ n m b)):=
 F.okE S (λ_ _ _ _ h=>h.1.trans hp.symm) λ_ _ _ _ _ _ _ _ hr h'=>let ⟨t,a,r⟩:=h hr S.nd;#[t,a,zaQ hN r h']
variable(P w)(base)
noncomputable abbrev Fi.Ok{nm:Str}{st:Stmt}{ps:kh Str}(f:Fi K mg nm st ps)(r n:Nat)(tw:TwF):Prop:=Yy P w K mg base (CXE P w) r f.a f.fd ps (sTw K n tw)
variable(mg)
noncomputable abbrev Mi.Ok{g:oN}{nm qn:Str}{st:Stmt}{ps:kh Str}(f:Mi K g nm qn st ps)(r n:Nat)(tw:TwF):Prop:=Yy P w K mg base (CXE P w) r f.a f.fd ps (sTw K n tw)
end
section
variable{P:Program}{w:World}{mg:Str->mw oJ}{base:Heap}
noncomputable def top (i:Nat):Stmt:=PySem.Challenge.pw_lots_k45_one_deed_folded_back.main.body.getD i (.Pass #[0,0,0,0])
abbrev YU:Stmt:=top 32
abbrev ZW:Stmt:=top 34
abbrev Za:Stmt:=top 36
abbrev ZC:Stmt:=xg (top 40) 0
abbrev Zb:Stmt:=xg (top 40) 1
abbrev Vk:Stmt:=xg (top 40) 2
abbrev YC:Stmt:=xg (top 40) 3
abbrev ZD:Stmt:=xg (top 40) 5
abbrev Yg:Stmt:=xg (top 40) 6
abbrev YV:Stmt:=xg (top 40) 7
abbrev ZE:Stmt:=xg (top 40) 8
abbrev vy:Stmt:=xg (top 40) 9
abbrev wU:Stmt:=xg (top 40) 11
abbrev xt:Stmt:=xg (top 40) 12
abbrev wa:Stmt:=xg (top 40) 13
abbrev YW:Stmt:=xg (top 40) 14
abbrev xm:Stmt:=xg (top 40) 15
abbrev xW:Stmt:=xg (top 40) 16
abbrev wV:Stmt:=xg (top 40) 17
abbrev Wd:Stmt:=xg (top 40) 18
abbrev wj:Stmt:=xg (top 40) 19
abbrev wW:Stmt:=xg (top 40) 20
abbrev Vl:Stmt:=xg (top 40) 21
abbrev wk:Stmt:=xg (top 40) 22
abbrev vj:Stmt:=top 44
abbrev ZX:Stmt:=top 58
abbrev zSc(N:List PySem.Str)(k:Nat)(s:PySem.Scope):=zB N (N.take k) s
def zhU:zSc ["thing"] 1 (zq (top 8)):=#v[]
def zdC:zSc ["one","other","rest"] 2 (zq (top 9)):=#v[]
def zl0:zSc ["top","bottom","part"] 2 (zq (top 10)):=#v[]
def zhV:zSc ["top","bottom"] 2 (zq (top 11)):=#v[]
def zpX:zSc ["one","other"] 2 (zq (top 12)):=#v[]
def zog:zSc ["one","other"] 2 (zq (top 13)):=#v[]
def zjB:zSc ["one","other"] 2 (zq (top 14)):=#v[]
def zhW:zSc ["boxes","name"] 2 (zq (top 16)):=#v[]
def zoh:zSc ["boxes","state","operand"] 3 (zq (top 17)):=#v[]
def zhX:zSc ["boxes","state","reckoning","one","other"] 3 (zq (top 18)):=#v[]
def zoi:zSc ["boxes","state","test","one","other"] 3 (zq (top 19)):=#v[]
def zf7:zSc ["deed"] 1 (zq (top 21)):=#v[]
def zcw:zSc ["block","deeds","deed","inner"] 1 (zq (top 22)):=#v[]
def zf8:zSc ["block","kind"] 2 (zq (top 23)):=#v[]
def zec:zSc ["block"] 1 (zq (top 24)):=#v[]
def zbN:zSc ["some","bottom","one"] 1 (zq (top 26)):=#v[]
def zf9:zSc ["some","bottom"] 2 (zq (top 27)):=#v[]
def zga:zSc ["store","block","aim","counted"] 4 (zq (top 29)):=#v[]
def zed:zSc ["store","block","aim","counted","deed"] 4 (zq (top 30)):=#v[]
def zgb:zSc ["store","deed","aim","counted","yes","turn"] 4 (zq (top 31)):=#v[]
def zcd:zSc ["store","name","reckoning","aim","level","size","number"] 4 (zq YU):=#v[]
def zcx:zSc ["store","level","aim"] 3 (zq (top 33)):=#v[]
def za7:zSc ["store","name","weights","aim","held"] 4 (zq ZW):=#v[]
def zjC:zSc ["weights","ones","bottom","tops"] 2 (zq (top 35)):=#v[]
def TZ:zSc ["store","operand"] 2 (zq Za):=#v[]
def zl1:zSc ["store","test","yes","no"] 4 (zq (top 37)):=#v[]
def zjD:zSc ["store","nodes","highest_yet","node"] 2 (zq (top 38)):=#v[]
def za8:zSc ["self","boxes"] 2 (zq ZC):=#v[]
def zav:zSc ["self","fact"] 2 (zq Zb):=#v[]
def zee:zSc ["self","one"] 2 (zq Vk):=#v[]
def zef:zSc ["self","level","kids","first"] 3 (zq YC):=#v[]
def za9:zSc ["self","node","fact"] 2 (zq ZD):=#v[]
def zbO:zSc ["self","node","fact"] 2 (zq Yg):=#v[]
def zcy:zSc ["self","node","level","number"] 4 (zq YV):=#v[]
def zba:zSc ["self","node","state"] 3 (zq ZE):=#v[]
def zdD:zSc ["self","one","other"] 3 (zq vy):=#v[]
def zcz:zSc ["self","one","other"] 3 (zq wU):=#v[]
def UJ:zSc ["self","nodes","rule"] 3 (zq xt):=#v[]
def zaw:zSc ["self","chooser","nodes"] 3 (zq wa):=#v[]
def zcA:zSc ["self","nodes","settle","known","settled"] 4 (zq YW):=#v[]
def VY:zSc ["self","nodes","settle","known","level","kids","number","these"] 4 (zq xm):=#v[]
def zbP:zSc ["self","nodes","rule","facts"] 3 (zq xW):=#v[]
def VZ:zSc ["self","nodes","fact"] 2 (zq wV):=#v[]
def zdE:zSc ["self","node","level","number"] 4 (zq Wd):=#v[]
def UK:zSc ["self","node","level","number","known","here","kids"] 5 (zq wj):=#v[]
def zcB:zSc ["self","test"] 2 (zq wW):=#v[]
def zeg:zSc ["self","names","rule"] 3 (zq Vl):=#v[]
def UL:zSc ["self","names","rule","numbers","level","size"] 4 (zq wk):=#v[]
def zgc:zSc ["_law_left","_law_many"] 2 (zq (top 42)):=#v[]
def zgd:zSc ["_law_number","_law_size","_law_word_here","_law_k"] 2 (zq (top 43)):=#v[]
def zeh:zSc ["_law_left","_law_many","_law_way","_law_some","_law_turn","_law_word_here","_law_cell","_law_size","_law_at"] 2 (zq vj):=#v[]
def zei:zSc ["_law_left","_law_most","_law_many","_law_boxes_here","_law_states_here","_law_name","_law_size"] 2 (zq (top 45)):=#v[]
def zcC:zSc ["_law_left","_law_boxes_here","_law_way"] 2 (zq (top 46)):=#v[]
def zge:zSc ["_law_left","_law_boxes_here","_law_one","_law_sign"] 2 (zq (top 47)):=#v[]
def zbb:zSc ["_law_left","_law_boxes_here","_law_name","_law_way","_law_one"] 3 (zq (top 48)):=#v[]
def zcD:zSc ["_law_left","_law_size","_law_most","_law_some","_law_at"] 2 (zq (top 49)):=#v[]
def zdF:zSc ["_law_left","_law_boxes_here","_law_kind","_law_box"] 3 (zq (top 50)):=#v[]
def zej:zSc ["_law_boxes_here","_law_state","_law_operand_here","_law_k"] 3 (zq (top 51)):=#v[]
def zek:zSc ["_law_boxes_here","_law_state","_law_test_here","_law_one","_law_other"] 3 (zq (top 52)):=#v[]
def zhY:zSc ["_law_boxes_here","_law_state","_law_name","_law_number","_law_after","_law_k"] 4 (zq (top 53)):=#v[]
def zhZ:zSc ["_law_boxes_here","_law_state","_law_deed_here","_law_number","_law_other"] 3 (zq (top 54)):=#v[]
def zh0:zSc ["_law_top","_law_bottom","_law_one","_law_other","_law_kept"] 2 (zq (top 55)):=#v[]
def zh1:zSc ["_law_one","_law_other"] 2 (zq (top 56)):=#v[]
def zel:zSc ["_law_left","_law_way","_law_top"] 1 (zq (top 57)):=#v[]
def zgf:zSc ["_law_found","_law_due"] 2 (zq ZX):=#v[]
def zem:zSc ["_law_found"] 1 (zq (top 59)):=#v[]
def zdG:zSc ["_law_boxes_here","_law_states_here","_law_box","_law_longer","_law_state"] 1 (zq (top 60)):=#v[]
def zgg:zSc ["_law_left","_law_boxes_here","_law_some","_law_one","_law_two","_law_aims_here","_law_state","_law_spot","_law_mixed"] 2 (zq (top 61)):=#v[]
def zgh:zSc ["_law_store","_law_boxes_here","_law_aims_here","_law_start","_law_level","_law_kids","_law_k"] 4 (zq (top 62)):=#v[]
def zen:zSc ["_law_store","_law_boxes_here","_law_node_here","_law_dues","_law_state"] 4 (zq (top 63)):=#v[]
def zdH:zSc ["_law_boxes_here","_law_deed_here","_law_state"] 3 (zq (top 64)):=#v[]
def zgi:zSc ["_law_boxes_here","_law_block","_law_state","_law_aims_here","_law_counted","_law_gain","_law_deed_here","_law_whole_here","_law_k","_law_after","_law_come_here","_law_part","_law_some","_law_one","_law_most"] 5 (zq (top 65)):=#v[]
def zeo:zSc ["_law_left","_law_boxes_here","_law_kinds","_law_block","_law_k","_law_kind"] 3 (zq (top 66)):=#v[]
def zgj:zSc ["_law_left","_law_boxes_here","_law_word_here","_law_kinds","_law_test_here","_law_block","_law_number","_law_many","_law_best","_law_blocks"] 3 (zq (top 67)):=#v[]
def zsn:zSc ["_law_script","_law_left","_law_word_here","_law_turn","_law_boxes_here","_law_block","_law_aims_here","_law_store","_law_aim","_law_nodes","_law_k","_law_counted","_law_dues","_law_state"] 1 (zq (top 68)):=#v[]
abbrev zjE:BG:=zhL (zuA (zhM YU 2)) 1
def zce:xx:=#[1,Ux zjE,XE zjE,zcc zjE,#[fX,"set_back","set_back"],["store","reckoning","size"]]
abbrev zjF:BG:=zhL (zjt (zhM ZW 1)) 1
def zcf:xx:=#[2,Ux zjF,XE zjF,zcc zjF,#[fX,"draw_back","draw_back"],["weights"]]
abbrev zjG:BG:=zhL (zjt (zhM Za 0)) 1
def zcg:xx:=#[3,Ux zjG,XE zjG,zcc zjG,#[fX,"worth_node","worth_node"],["store","operand"]]
abbrev zjH:BG:=zhL (zjt (zhM vy 0)) 1
def zch:xx:=#[4,Ux zjH,XE zjH,zcc zjH,#[eO "Store","added","Store.added"],[]]
abbrev zjI:BG:=zhL (zjt (zhM wU 0)) 1
def zci:xx:=#[5,Ux zjI,XE zjI,zcc zjI,#[eO "Store","higher","Store.higher"],[]]
abbrev zjJ:BG:=zhL (zjt (zhM xt 0)) 1
def zcj:xx:=#[6,Ux zjJ,XE zjJ,zcc zjJ,#[eO "Store","reckoned_of","Store.reckoned_of"],["self","rule"]]
abbrev zjK:BG:=zhL (zjt (zhM wa 0)) 1
def zck:xx:=#[7,Ux zjK,XE zjK,zcc zjK,#[eO "Store","chosen_by","Store.chosen_by"],["self"]]
abbrev zjL:BG:=zhL (zjt (zhM wW 0)) 1
def zcl:xx:=#[8,Ux zjL,XE zjL,zcc zjL,#[eO "Store","marked","Store.marked"],["self","test"]]
noncomputable abbrev Yw:kh Ul:=[#[fX,"set_back","set_back"],#[fX,"draw_back","draw_back"],#[fX,"worth_node","worth_node"],#[eO "Store","added","Store.added"],#[eO "Store","higher","Store.higher"],#[eO "Store","reckoned_of","Store.reckoned_of"],#[eO "Store","chosen_by","Store.chosen_by"],#[eO "Store","marked","Store.marked"]]
set_option genInjectivity false in
set_option genSizeOf false in
set_option genInjectivity false in
structure zTf(K:uG)(mg:Str->mw oJ)(kA':oN) where
 d9:Fi K mg "is_whole" (top 8) ["thing"]
 c5:Fi K mg "common_part" (top 9) ["one","other"]
 dZ:Fi K mg "lowest" (top 10) ["top","bottom"]
 dc:Fi K mg "fraction" (top 11) ["top","bottom"]
 fS:Fi K mg "plus" (top 12) ["one","other"]
 eS:Fi K mg "under" (top 13) ["one","other"]
 dC:Fi K mg "greater" (top 14) ["one","other"]
 d8:Fi K mg "place_of" (top 16) ["boxes","name"]
 eR:Fi K mg "worth" (top 17) ["boxes","state","operand"]
 d7:Fi K mg "reckoned" (top 18) ["boxes","state","reckoning"]
 eU:Fi K mg "holds" (top 19) ["boxes","state","test"]
 bY:Fi K mg "blocks_of" (top 21) ["deed"]
 aQ:Fi K mg "deeds_within" (top 22) ["block"]
 cG:Fi K mg "stands_in" (top 23) ["block","kind"]
 cf:Fi K mg "is_bounded" (top 24) ["block"]
 bG:Fi K mg "shared_bottom" (top 26) ["some"]
 cF:Fi K mg "tops_over" (top 27) ["some","bottom"]
 cH:Fi K mg "fold_back" (top 29) ["store","block","aim","counted"]
 aJ:Fi K mg "block_back" (top 30) ["store","block","aim","counted"]
 bX:Fi K mg "deed_back" (top 31) ["store","deed","aim","counted"]
 bO:Fi K mg "set_back" YU ["store","name","reckoning","aim"]
 bP:Fi K mg "held_at_each" (top 33) ["store","level","aim"]
 bD:Fi K mg "draw_back" ZW ["store","name","weights","aim"]
 dB:Fi K mg "mean_by" (top 35) ["weights","ones"]
 bw:Fi K mg "worth_node" Za ["store","operand"]
 cI:Fi K mg "either" (top 37) ["store","test","yes","no"]
 cO:Fi K mg "highest" (top 38) ["store","nodes"]
 aV:Mi K kA' "__init__" "Store.__init__" ZC ["self","boxes"]
 aB:Mi K kA' "number_of" "Store.number_of" Zb ["self","fact"]
 aC:Mi K kA' "leaf" "Store.leaf" Vk ["self","one"]
 aD:Mi K kA' "fork" "Store.fork" YC ["self","level","kids"]
 ao:Mi K kA' "level_of" "Store.level_of" ZD ["self","node"]
 aA:Mi K kA' "kids_of" "Store.kids_of" Yg ["self","node"]
 aN:Mi K kA' "kid_at" "Store.kid_at" YV ["self","node","level","number"]
 aR:Mi K kA' "value_at" "Store.value_at" ZE ["self","node","state"]
 aZ:Mi K kA' "added" "Store.added" vy ["self","one","other"]
 aU:Mi K kA' "higher" "Store.higher" wU ["self","one","other"]
 aj:Mi K kA' "reckoned_of" "Store.reckoned_of" xt ["self","nodes","rule"]
 ay:Mi K kA' "chosen_by" "Store.chosen_by" wa ["self","chooser","nodes"]
 az:Mi K kA' "joined" "Store.joined" YW ["self","nodes","settle","known"]
 aH:Mi K kA' "joined_below" "Store.joined_below" xm ["self","nodes","settle","known"]
 aY:Mi K kA' "leaf_by" "Store.leaf_by" xW ["self","nodes","rule"]
 aI:Mi K kA' "choice_among" "Store.choice_among" wV ["self","nodes"]
 bp:Mi K kA' "fixed" "Store.fixed" Wd ["self","node","level","number"]
 aw:Mi K kA' "fixed_below" "Store.fixed_below" wj ["self","node","level","number","known"]
 aS:Mi K kA' "marked" "Store.marked" wW ["self","test"]
 aK:Mi K kA' "made" "Store.made" Vl ["self","names","rule"]
 ak:Mi K kA' "made_behind" "Store.made_behind" wk ["self","names","rule","numbers"]
 cL:Fi K mg "_law_take" (top 42) ["_law_left","_law_many"]
 cJ:Fi K mg "_law_word" (top 43) ["_law_number","_law_size"]
 cu:Fi K mg "_law_names" vj ["_law_left","_law_many"]
 cw:Fi K mg "_law_boxes" (top 45) ["_law_left","_law_most"]
 bR:Fi K mg "_law_operand" (top 46) ["_law_left","_law_boxes_here"]
 cK:Fi K mg "_law_test" (top 47) ["_law_left","_law_boxes_here"]
 bA:Fi K mg "_law_reckoning" (top 48) ["_law_left","_law_boxes_here","_law_name"]
 bQ:Fi K mg "_law_weights" (top 49) ["_law_left","_law_size"]
 c9:Fi K mg "_law_simple" (top 50) ["_law_left","_law_boxes_here","_law_kind"]
 bL:Fi K mg "_law_worth" (top 51) ["_law_boxes_here","_law_state","_law_operand_here"]
 bM:Fi K mg "_law_holds" (top 52) ["_law_boxes_here","_law_state","_law_test_here"]
 cn:Fi K mg "_law_put" (top 53) ["_law_boxes_here","_law_state","_law_name","_law_number"]
 ck:Fi K mg "_law_set" (top 54) ["_law_boxes_here","_law_state","_law_deed_here"]
 de:Fi K mg "_law_low" (top 55) ["_law_top","_law_bottom"]
 bz:Fi K mg "_law_sum" (top 56) ["_law_one","_law_other"]
 cm:Fi K mg "_law_ratio" (top 57) ["_law_left"]
 b9:Fi K mg "_law_same" ZX ["_law_found","_law_due"]
 cg:Fi K mg "_law_whole" (top 59) ["_law_found"]
 c7:Fi K mg "_law_states" (top 60) ["_law_boxes_here"]
 cN:Fi K mg "_law_aims" (top 61) ["_law_left","_law_boxes_here"]
 bg:Fi K mg "_law_node" (top 62) ["_law_store","_law_boxes_here","_law_aims_here","_law_start"]
 cj:Fi K mg "_law_tells" (top 63) ["_law_store","_law_boxes_here","_law_node_here","_law_dues"]
 bB:Fi K mg "_law_turned" (top 64) ["_law_boxes_here","_law_deed_here","_law_state"]
 bh:Fi K mg "_law_come" (top 65) ["_law_boxes_here","_law_block","_law_state","_law_aims_here","_law_counted"]
 cq:Fi K mg "_law_plain" (top 66) ["_law_left","_law_boxes_here","_law_kinds"]
 cM:Fi K mg "_law_deed" (top 67) ["_law_left","_law_boxes_here","_law_word_here"]
 e8:Fi K mg "law" (top 68) ["_law_script"]
set_option genInjectivity false in
structure Tx(K:uG)(mg:Str->mw oJ)(kA':oN) extends zTf K mg kA' where
 g8:mg "abs"=fX
 g7:mg "all"=fX
 gZ:mg "any"=fX
 eP:mg "bool"=fX
 g6:mg "int"=fX
 ax:mg "isinstance"=fX
 gY:mg "len"=fX
 dW:mg "list"=fX
 j9:mg "max"=fX
 gX:mg "min"=fX
 aE:mg "range"=fX
 cZ:mg "reversed"=fX
 g5:mg "str"=fX
 fZ:mg "sum"=fX
 bK:mg "tuple"=fX
 j8:mg "zip"=fX
 aL:oN
 fm:mg "LotsError"=eO (.ref aL)
 cB:ziY K mg "LotsError" aL [.type "ValueError",.type "Exception",.type "BaseException",.type "object"] "ValueError.__new__"
 fq:zha K aL
 cD:Bv K (.ref aL)=eO (.type "type")
 bZ:A2 K aL (.type "BaseException")=eO gP
 cC:A2 K aL (.type "ValueError")=eO gP
 aO:oN
 fN:mg "NoNumber"=eO (.ref aO)
 cW:ziY K mg "NoNumber" aO [.type "ValueError",.type "Exception",.type "BaseException",.type "object"] "ValueError.__new__"
 fO:zha K aO
 cY:Bv K (.ref aO)=eO (.type "type")
 cx:A2 K aO (.type "BaseException")=eO gP
 cX:A2 K aO (.type "ValueError")=eO gP
 b7:oN
 gA:mg "NoBound"=eO (.ref b7)
 dw:ziY K mg "NoBound" b7 [.type "ValueError",.type "Exception",.type "BaseException",.type "object"] "ValueError.__new__"
 gB:zha K b7
 dz:Bv K (.ref b7)=eO (.type "type")
 cQ:A2 K b7 (.type "BaseException")=eO gP
 dy:A2 K b7 (.type "ValueError")=eO gP
 gf:mg "Store"=eO (.ref kA')
 ae:Cls K kA'
 ai:v5 K tP "Store"=eO (eO (.ref kA'))
 av:YK K kA' "boxes"
 bo:YK K kA' "facts"
 bq:YK K kA' "numbers"
 fj:Mk K kA' aV.a
 cU:(vq K #[eO "Store","added","Store.added"]).isSome=gP
 cA:(vq K #[eO "Store","higher","Store.higher"]).isSome=gP
 bH:(vq K #[eO "Store","reckoned_of","Store.reckoned_of"]).isSome=gP
 bW:(vq K #[eO "Store","chosen_by","Store.chosen_by"]).isSome=gP
 cz:(vq K #[eO "Store","marked","Store.marked"]).isSome=gP
 dP:(vq K #[fX,"set_back","set_back"]).isSome=gP
 dH:v5 K tP "set_back"=eO (eO (.ref bO.a))
 dD:(vq K #[fX,"draw_back","draw_back"]).isSome=gP
 dm:v5 K tP "draw_back"=eO (eO (.ref bD.a))
 dj:(vq K #[fX,"worth_node","worth_node"]).isSome=gP
 cV:v5 K tP "worth_node"=eO (eO (.ref bw.a))
 bT:oN
 dX:mg "NOUGHT"=eO (.ref bT)
 eh:∀H,SqT K H bT [.int 0,.int 1]
 eM:oN
 ja:mg "ONE"=eO (.ref eM)
 jj:∀H,SqT K H eM [.int 1,.int 1]
@[irreducible] noncomputable def fu:Nat:=2^9000
def zh2{CX:CXT}{x:Str}{st:Stmt}{ps:kh Str}{f:Fi X.K X.mg x st ps}{k:Nat}{sp:Sp}{E:XK}{e:Expr}{es:kh Expr}{t:TA}{p pos:Pos}(F:Yy X.prog X.w X.K X.mg X.base CX k f.a f.fd ps sp)(hr:ww k X.A)(hx:Ui CX X E)(ha:PA X (e::es) t)(hg:Gl X x:=by rfl)(iP:(x==("__debug__":Str))=kb:=by decide)(he:FD (e::es) X.env=(kb,eval e X.env)::FD es X.env:=by rfl)(dh:(backTo pos (FD es X.env)).any (·.1)=kb:=by rfl):PE X (.Call (.Name x p) (e::es) [] pos) (zkj sp [] E t):=zkk F hr hg f.m f.F.kp f.b .nil hx ha iP he dh
local macro_rules(kind:=«term_∘_»)|s=>do
 let a:=if zGn s then zGp s[2] else zGp s
 let o<-zGd [<-zGd a "zq 0"] "ztT osc=0 rfl ?dk"
 return (<-zGd (o::.mk s[0]::a.tail) (if zGn s then "zhT i=1 N'=2 rfl 0 3 4 ?q5 L5 L6 L7 nd rfl rfl" else "zod N'=2 rfl 0 3 4 ?q5 L5 L6 L7")).raw
local macro_rules(kind:=«term_\_»)|s=>zGs s "zkk 1 2 rfl 0.m 0.F.kp 0.b .nil 3 4"
local macro_rules(kind:=«term_>>=_»)|s=>zGs s "zru PassesOwn.leaving rfl 0 1 2"
local macro_rules(kind:=«term_*_»)|s=>if s[2].isNatLit? ==eO 0 then zGs s "zmU K=K 0" else Lean.Macro.throwUnsupported
local macro_rules(kind:=«term_<|>_»)|s=>zGs s "@zmn _ _ _ _ _ 0 1"
local macro_rules(kind:=«term¬_»)|s=>zGs s "@zo1 _ _ _ 0"
local macro_rules(kind:=term!_)|s=>zGs s "@zrn _ _ _ _ 0"
local macro_rules(kind:=«term~~~_»)|s=>zGs s "@zrA _ _ _ _ _ 0"
local macro_rules(kind:=«term_>>>_»)|s=>zGs s "@zmB _ _ _ _ _ _ _ 0 1 2 F"
local macro_rules(kind:=«term_%_»)|s=>zGs s "@zmB _ _ _ _ _ _ _ zpl;K=K 0 1 F"
local macro_rules(kind:=«term_&&&_»)|s=>zGs s "@zmB _ _ _ _ _ _ _ zmT;K=K 0 1 F"
local macro_rules(kind:=«term_<*>_»)|s=>zGs s "zh2 0;T hr.mono;?de ym 1"
local macro_rules(kind:=«term_<*_»)|s=>zGs s "zh2 0;T hr.mono;?de vM 1"
local macro_rules(kind:=coeNotation)|s=>zGs s "zo2 i=0 ?q6 rfl ?q1"
local macro_rules(kind:=«term-_»)|s=>do return (<-zGd [.mk (<-zGs s "@zS _ _ _ _ _ 0 zj ?q3")] "yh zlB;K=K rfl T.gY boot_len 0").raw
set_option hygiene false in
local macro_rules(kind:=«term_<$>_»)|s=>do return (<-zGd ((<-`(fun hr nd => #[_, $((zGp s)[3]!), (by unfold $(.mk (zGp s)[2]!.raw); walk_at "re")]))::zGp s) "okS 1.F 2 0").raw
local macro_rules(kind:=PyProof.Rows.tacticWalk_at_)|s=>do if s[1].isStrLit? ==eO "re" then zTr (.mk [zTs (<-zTw (<-zTn "apply" "" "zv,zu,yF,zY,yJ,xS,wg,XX,yT,xH,xM,Vb,VP,vE,zhn,zky,Vc,Wa,YA,zfQ,wE,znw,zns,zkA,znn,zah,Tq,Tp,zbI,zjg,zr1,zrS,vF,znf,zfM,zrQ,ztB,zrP,zpB,ztC,zrY,znp,znt,zpz,zm9,ztv,zeR,zhr,znv,zaT,znd,zhO,zna,ztw,zrR,zno,zhA,zdc,zfS,zkB,ztt,zkJ,zhu,znz,znm,zkK,zhB,znE,zkS,zkC,znc,zrU,znu,znl,zeS,zhq,znk,zkH,zrT,zeV,zhv,znb,zhR,ztu,znx,zhE,zjh,zkQ,znD,zoa,zrW,zpA,zm8,zkY,ztD,zlQ,zpH,zpG,zpP,zng,zni,znA,znB,zkG,zkU,zkT,zrV,zkW,zjj,znF,zhD"))]++(<-zTn "exact" "" "rfl,T.ae,T.av,T.bo,T.bq,T.ai,Nat.le_of_ble_eq_true rfl,yT,Wa,zfQ,zns,zkA,zah,zjg,znt,zeR,zhr,znv,zaT,znd,zhO,zkB,zkJ,zhu,znz,zkK,znE,zkC,znc,znu,zeS,zhq,zkH,zeV,zhv,znx,zhE,zjh,znD,zkY,zni,znA,znB,zkG,zkU,zkT,znF")++(<-zTn "apply" "" "wE,vF,znf,zkS,zhR,zng,zhD")) else Lean.Macro.throwUnsupported
local macro_rules(kind:=«term_^^^_»)|s=>zGs s (if (zGp s).length==4 then "@zmp _ _ 1 _ _ _ _ 0.nd rfl 2 3 ?rf ?q1" else "@zmp _ _ 0 _ _ _ _ nd rfl ?q1 1 ?rf ?q1")
local macro_rules(kind:=«term_::_»)|s=>zGs s (if zGn s then "zpn i=0 rfl rfl 1" else "@zS _ _ _ _ _ 0 1 ?q3")
variable(T:Tx K mg kA')
def UM:TwS:=(zO (zct (eUn (Vd "int") (zi 0)) (eB (Um (bE (eUn (Vd "bool") (zi 0)))))))
def XN:TwF:=zQ 1 0 (UM)
def zcm:T.d9.Ok P w base 1 1 (XN):=
 T.d9<$>(zhU,UM,¬(!Ug (yh (xC (K:=K)) rfl T.ax boot_isinstance (zS (pv 0) (zS (vg (v:= .ty "int") rfl T.g6 boot_int rfl) zj))) (zbx (zfr (yh (xC (K:=K)) rfl T.ax boot_isinstance (zS (pv 0) (zS (vg (v:= .ty "bool") rfl T.eP boot_bool rfl) zj)))))))
def YY:TwS:=(zw (zI (eFn zlO [zi 0]) (gN 0)) (zw (zI (eFn zlO [zi 1]) (gN 1)) (zw (sWh fu (bE (eOp zdh (zi 1) (oZ 0))) (zw (zI (eOp YB (zi 0) (zi 1)) (gN 2)) (zw (zI (zi 1) (gN 0)) (zI (zi 2) (gN 1))))) (zO (zi 0)))))
def Zd:TwF:=zQ 2 1 (YY)
def UN:T.c5.Ok P w base 1 2 (Zd):=
 T.c5<$>(zdC,YY,(0^^^yh zcS rfl T.g8 boot_abs (pv 0::zj))<|>(1^^^yh zcS rfl T.g8 boot_abs (pv 1::zj))<|>zaH PassesOwn.leaving (yr (zac (pv 1) zk)) ((2^^^zL vo (pv 0) (pv 1))<|>(0^^^pv 1)<|>¬(1^^^pv 2))<|>¬(!pv 0))
def zbQ:TwS:=(zw (zI (zx (Zd) [zi 0,zi 1]) (gN 2)) (zw (sIf (bE (eOp dLt (zi 1) (oZ 0))) (zI (eUn zrX (zi 2)) (gN 2)) zP) (zO (yQ [eOp UA (zi 0) (zi 2),eOp UA (zi 1) (zi 2)]))))
def Tw:TwF:=zQ 2 1 (zbQ)
def ze4:T.dZ.Ok P w base 33 2 (Tw):=
 T.dZ<$>(zl0,zbQ,(2^^^(UN<*>(pv 0::pv 1::zj)))<|>zU (yr (zb2 (pv 1) zk)) (¬(2^^^zs8 zry (pv 2))) zC<|>¬(!(~~~(zL (Uz hr) (pv 0) (pv 2)::zL (Uz hr) (pv 1) (pv 2)::zj))))
def UO:TwS:=(zw (sIf (bOr (Um (bE (zx (XN) [zi 0]))) (Um (bE (zx (XN) [zi 1])))) zfK zP) (zw (sIf (bE (eOp vV (zi 1) (oZ 0))) zfK zP) (zO (zx (Tw) [zi 0,zi 1]))))
def UP:TwF:=zQ 2 0 (UO)
def zh3:T.dc.Ok P w base 34 2 (UP):=
 T.dc<$>(zhV,UO,zU (PW.pt (zeB (Uf (wu (zcm<*>(pv 0::zj)))) (zbw (Uf (wu (zcm<*>(pv 1::zj))))))) (¬zf3) zC<|>zU (yr (xu (pv 1) zk)) (¬zf3) zC<|>¬(!(ze4<*>(pv 0::pv 1::zj))))
def zgk:TwS:=(zO (zx (Tw) [eOp vR (eOp xZ (eOp zG (zi 0) (oZ 0)) (eOp zG (zi 1) (oZ 1))) (eOp xZ (eOp zG (zi 1) (oZ 0)) (eOp zG (zi 0) (oZ 1))),eOp xZ (eOp zG (zi 0) (oZ 1)) (eOp zG (zi 1) (oZ 1))]))
def zgl:TwF:=zQ 2 0 (zgk)
def zpY:T.fS.Ok P w base 34 2 (zgl):=
 T.fS<$>(zpX,zgk,¬(!(ze4<*>(zL xF (zL yY (pv 0%zk) (pv 1%zk)) (zL yY (pv 1%zk) (pv 0%zk))::zL yY (pv 0%zk) (pv 1%zk)::zj))))
def zdI:TwS:=(zO (eOp dLt (eOp xZ (eOp zG (zi 0) (oZ 0)) (eOp zG (zi 1) (oZ 1))) (eOp xZ (eOp zG (zi 1) (oZ 0)) (eOp zG (zi 0) (oZ 1)))))
def zdJ:TwF:=zQ 2 0 (zdI)
def zoj:T.eS.Ok P w base 1 2 (zdJ):=
 T.eS<$>(zog,zdI,¬(!Zw (zb2 (zL yY (pv 0%zk) (pv 1%zk)) (zL yY (pv 1%zk) (pv 0%zk)))))
def zax:TwS:=(zO (eIf (bE (zx (zdJ) [zi 0,zi 1])) (zi 1) (zi 0)))
def zay:TwF:=zQ 2 0 (zax)
def zjM:T.dC.Ok P w base 2 2 (zay):=
 T.dC<$>(zjB,zax,¬(!YJ (wu (zoj<*>(pv 0::pv 1::zj))) (pv 1) (pv 0)))
def UQ:TwS:=(zO (eMt zds (xP [fX] (iT (zi 0)) (gN 0) xQ (eOp zG (zi 0) (oZ 0))) [zi 1]))
def ZY:TwF:=zQ 2 0 (UQ)
def UR:T.d8.Ok P w base 1 2 (ZY):=
 T.d8<$>(zhW,UQ,¬(!zaL Ab PySem.F.slot_list_index PySem.F.type_list_index zmX ((top 16)∘(["box"],yO yS,Xu (K:=K) (pv 0),↑0,yR,pv 0%zk)) (pv 1::zj)))
def zdK:TwS:=(zw (sIf (bE (eUn (Vd "str") (zi 2))) (zO (eOp zG (zi 1) (zx (ZY) [zi 0,zi 2]))) zP) (zO (zi 2)))
def YZ:TwF:=zQ 3 0 (zdK)
def US:T.eR.Ok P w base 2 3 (YZ):=
 T.eR<$>(zoh,zdK,zU (wu (yh (xC (K:=K)) rfl T.ax boot_isinstance (zS (pv 2) (zS (vg (v:= .ty "str") rfl T.g5 boot_str rfl) zj)))) (¬(!(pv 1%(UR<*>(pv 0::pv 2::zj))))) zC<|>¬(!pv 2))
def UT:TwS:=(zw (zI (zx (YZ) [zi 0,zi 1,eOp zG (zi 2) (oZ 0)]) (gN 3)) (zw (sIf (bE (eOp vV (eFn wx [zi 2]) (oZ 1))) (zO (zi 3)) zP) (zw (zI (zx (YZ) [zi 0,zi 1,eOp zG (zi 2) (oZ 2)]) (gN 4)) (zw (sIf (bE (eOp (yH kb) (eOp zG (zi 2) (oZ 1)) (qg "+"))) (zO (eOp vR (zi 3) (zi 4))) zP) (zw (sIf (bE (eOp (yH kb) (eOp zG (zi 2) (oZ 1)) (qg "-"))) (zO (eOp zfO (zi 3) (zi 4))) zP) (zO (eOp xZ (zi 3) (zi 4))))))))
def UU:TwF:=zQ 3 2 (UT)
def zh4:T.d7.Ok P w base 3 3 (UU):=
 T.d7<$>(zhX,UT,(3^^^(US<*>(pv 0::pv 1::(pv 2%zk)::zj)))<|>zU (yr (xu (-pv 2) zk)) (¬(!pv 3)) zC<|>(4^^^(US<*>(pv 0::pv 1::(pv 2%zk)::zj)))<|>zU (zX yE (pv 2%zk) zD (by rfl)) (¬(!zL xF (pv 3) (pv 4))) zC<|>zU (zX yE (pv 2%zk) zD (by rfl)) (¬(!zL zad (pv 3) (pv 4))) zC<|>¬(!zL yY (pv 3) (pv 4)))
def zdL:TwS:=(zw (zI (zx (YZ) [zi 0,zi 1,eOp zG (zi 2) (oZ 0)]) (gN 3)) (zw (zI (zx (YZ) [zi 0,zi 1,eOp zG (zi 2) (oZ 2)]) (gN 4)) (zw (sIf (bE (eOp (yH kb) (eOp zG (zi 2) (oZ 1)) (qg "="))) (zO (eOp vV (zi 3) (zi 4))) zP) (zw (sIf (bE (eOp (yH kb) (eOp zG (zi 2) (oZ 1)) (qg "<"))) (zO (eOp dLt (zi 3) (zi 4))) zP) (zO (eOp zdh (zi 3) (zi 4)))))))
def zdM:TwF:=zQ 3 2 (zdL)
def zok:T.eU.Ok P w base 3 3 (zdM):=
 T.eU<$>(zoi,zdL,(3^^^(US<*>(pv 0::pv 1::(pv 2%zk)::zj)))<|>(4^^^(US<*>(pv 0::pv 1::(pv 2%zk)::zj)))<|>zU (zX yE (pv 2%zk) zD (by rfl)) (¬(!Zw (xu (pv 3) (pv 4)))) zC<|>zU (zX yE (pv 2%zk) zD (by rfl)) (¬(!Zw (zb2 (pv 3) (pv 4)))) zC<|>¬(!Zw (zac (pv 3) (pv 4))))
def Vt:TwS:=(zw (sIf (bE (eOp (yH kb) (eOp zG (zi 0) (oZ 0)) (qg "if"))) (zO (yQ [eOp zG (zi 0) (oZ 2),eOp zG (zi 0) (oZ 3)])) zP) (zw (sIf (bOr (bE (eOp (yH kb) (eOp zG (zi 0) (oZ 0)) (qg "while"))) (bE (eOp (yH kb) (eOp zG (zi 0) (oZ 0)) (qg "times")))) (zO (yQ [eOp zG (zi 0) (oZ 2)])) zP) (zw (sIf (bE (eOp (yH kb) (eOp zG (zi 0) (oZ 0)) (qg "hand"))) (zO (eOp zG (zi 0) (oZ 1))) zP) (zO (yQ [])))))
def Vu:TwF:=zQ 1 0 (Vt)
def zgm:T.bY.Ok P w base 1 1 (Vu):=
 T.bY<$>(zf7,Vt,zU (zX yE (pv 0%zk) zD (by rfl)) (¬(!(~~~((pv 0%zk)::(pv 0%zk)::zj)))) zC<|>zU (PW.pt (zeB (zX yE (pv 0%zk) zD (by rfl)) (zbw (zX yE (pv 0%zk) zD (by rfl))))) (¬(!(~~~((pv 0%zk)::zj)))) zC<|>zU (zX yE (pv 0%zk) zD (by rfl)) (¬(!(pv 0%zk))) zC<|>¬(!(~~~zj)))
def vG(dS:TwF):TwS:=(zw (zI (TJ []) (gN 1)) (zw (vQ (iT (zi 0)) (gN 2) (zw (VO (eMt vD (zi 1) [zi 2])) (vQ (iT (zx (Vu) [zi 2])) (gN 3) (VO (eMt Xx (zi 1) [zx dS [zi 3]]))))) (zO (zi 1))))
def yX:Nat->TwF
 |0=>λ_ _=>fX
 |n+1=>zQ 1 3 (vG (yX n))
def ZZ(n:Nat):yX (n+1)=zQ 1 3 (vG (yX n)):=by rfl
def UV:yX 0=λ_ _=>fX:=by rfl
def zbR:∀n:Nat,T.aQ.Ok P w base (1+n) 1 (yX n):=by
 intro n
 induction n with
 |zero=>
  skip
  rw[UV];show ZL
 |succ n ih=>
  .rw[ZZ];show T.aQ<$>(zcw,vG,(1^^^@Zx _ _ _ _ zj)<|>Xu (K:=K) (pv 0)>>=(↑2,Xs (zaL Ab AK AO Zz (pv 1) (pv 2::zj))<|>¬Xu (K:=K) (T.bY\(zgm T,hr.mono #v[0],ym,pv 2::zj))>>=(↑3,¬Xs (zaL Ab Dr Ds (zc6 (K:=K)) (pv 1) ((T.aQ\(ih,hr.mono #v[0],ym,pv 3::zj))::zj))))<|>¬(!pv 1))
def zcE(T:Tx K mg kA')(n:Nat):T.aQ.Ok P w base (1+n) 1 (yX n):=(zbR T n)
def Vv:TwS:=(zO (eFn zhs [xP [fX,eO 1] (iL (zx (yX 12) [zi 0])) (gN 0) xQ (eOp (yH kb) (eOp zG (zi 0) (oZ 0)) (zi 1))]))
def zbc:TwF:=zQ 2 0 (Vv)
def zgn:T.cG.Ok P w base 14 2 (zbc):=
 T.cG<$>(zf8,Vv,¬(!yh (zeP (K:=K) rfl) rfl T.gZ PyProof.Rows.Boot.«any» (zS ((top 23)∘(["deed","kind"],yO (1::yS),(T.aQ\(zcE T 12,hr.mono ∅,ym,pv 0::zj))*0,↑0,yR,zcK yE (pv 0%zk) (pv 1) (by rfl))) zj)))
def Wg:TwS:=(zO (eB (Um (bE (zx (zbc) [zi 0,qg "while"])))))
def Wh:TwF:=zQ 1 0 (Wg)
def zep:T.cf.Ok P w base 15 1 (Wh):=
 T.cf<$>(zec,Wg,¬(!zfr (zgn<*>(pv 0::zD::zj))))
def ZG:TwS:=(zw (zI (oZ 1) (gN 1)) (zw (vQ (iL (zi 0)) (gN 2) (sIf (bE (eOp zdh (eOp YB (zi 1) (eOp zG (zi 2) (oZ 1))) (oZ 0))) (zI (eOp xZ (eOp UA (zi 1) (zx (Zd) [zi 1,eOp zG (zi 2) (oZ 1)])) (eOp zG (zi 2) (oZ 1))) (gN 1)) zP)) (zO (zi 1))))
def ZH:TwF:=zQ 1 2 (ZG)
def zbS:T.bG.Ok P w base 33 1 (ZH):=
 T.bG<$>(zbN,ZG,(1^^^zk)<|>((pv 0*0)>>=(↑2,¬zU (yr (zac (zL vo (pv 1) (pv 2%zk)) zk)) (¬(1^^^zL yY (zL (Uz hr) (pv 1) (UN<*>(pv 1::(pv 2%zk)::zj))) (pv 2%zk))) zC))<|>¬(!pv 1))
def Vw:TwS:=(zO (xP [fX,eO 1] (iL (zi 0)) (gN 0) xQ (eOp xZ (eOp zG (zi 0) (oZ 0)) (eOp zdg (zi 1) (eOp zG (zi 0) (oZ 1))))))
def Vx:TwF:=zQ 2 0 (Vw)
def zgo:T.cF.Ok P w base 1 2 (Vx):=
 T.cF<$>(zf9,Vw,¬(!((top 27)∘(["one","bottom"],yO (1::yS),pv 0*0,↑0,yR,zL yY (pv 0%zk) (zL zg9 (pv 1) (pv 0%zk))))))
def vK:TwS:=(zw (sIf (bE (zkP gP (zi 1) (wq "Store" "numbers" (zi 0)))) (zw (XB (wq "Store" "numbers" (zi 0)) (zi 1) (eFn wx [wq "Store" "facts" (zi 0)])) (VO (eMt vD (wq "Store" "facts" (zi 0)) [zi 1]))) zP) (zO (zak (wq "Store" "numbers" (zi 0)) (zi 1))))
def wB:TwF:=zQ 2 0 (vK)
def Xb:T.aB.Ok P w mg base 1 2 (wB):=
 T.aB<$>(zav,vK,zU (yr (zdq (K:=K) hr (pv 1) (xG (pv 0) rfl))) (za1 (K:=K) hr (xG (pv 0) rfl) (pv 1) (-xG (pv 0) rfl) rfl<|>¬Xs (zaL Ab AK AO Zz (xG (pv 0) rfl) (pv 1::zj))) zC<|>¬(!Uq (K:=K) hr (xG (pv 0) rfl) (pv 1) (λ_ _=>rfl)))
def Wi:TwS:=(zO (yx "Store" "number_of" (wB) (zi 0) [yQ [qg "leaf",zi 1]]))
def wH:TwF:=zQ 2 0 (Wi)
def ZN:T.aC.Ok P w mg base 2 2 (wH):=
 T.aC<$>(zee,Wi,¬(!zZ (pv 0) T.ae T.aB.mt (Xb T) (hr.mono ∅) T.aB.b .nil ym ((~~~(zD::pv 1::zj))::zj)))
def zaz:TwS:=(zw (zI (zx (ZH) [zi 1]) (gN 2)) (zw (zI (zx (Vx) [zi 1,zi 2]) (gN 3)) (zO (zx (UP) [eFn znC [xP [fX,fX] (zjx (zi 0) (zi 3)) (gT 2 (zfL (gN 0) (zfL (gN 1) znj))) xQ (eOp xZ (zi 0) (zi 1))],eOp xZ (zi 2) (eFn zdk [zi 0])]))))
def zaA:TwF:=zQ 2 2 (zaz)
def zjN:T.dB.Ok P w base 35 2 (zaA):=
 T.dB<$>(zjC,zaz,(2^^^(zbS<*>(pv 1::zj)))<|>(3^^^(zgo<*>(pv 1::pv 2::zj)))<|>¬(!(zh3<*>(yh (zlD (K:=K) rfl) rfl T.fZ PyProof.Rows.Boot.«sum» (zS ((top 35)∘(["weight","top"],yO (yO yS),zn9 (K:=K) rfl T.j8 (pv 0::pv 3::zj),zpm (K:=K) (n:=2) rfl (zgZ (↑0) (zgZ (↑1) zo3)),yR,zL yY (pv 0) (pv 1))) zj)::zL yY (pv 2) (yh (zc4 (K:=K) rfl) rfl T.fZ PyProof.Rows.Boot.«sum» (pv 0::zj))::zj))))
def ztX:TwE:=(zx (zaA) [zi 1,zi 0])
def ze5:kh Xv->TwF:=zcv 1 1 (ztX)
def ztY(T:Tx K mg kA'):ZV P w K mg base 36 zcf (ze5):=
 Uv (ps:=["ones"]) #[rfl,rfl,rfl, *...*, *...*, *...*, *...*] rfl rfl (λ_ _ _ _=>at_ λ_=>at0 rfl) (λaW f c A outer s H hr=>#[_,zjN<*(pv 1::pv 0::zj),xM (zu (zv 1) (zu (zv 0) zY))])
def ztZ:TwE:=(zx (zgl) [eOp wR (zi 0) (oZ 0),eOp wR (zi 0) (oZ 1)])
def ze6:kh Xv->TwF:=zcv 1 0 (ztZ)
def zt0(T:Tx K mg kA'):ZV P w K mg base 35 zch (ze6):=
 Uv (ps:=["ones"]) #[rfl,rfl,rfl, *...*, *...*, *...*, *...*] rfl rfl (λ_ _ _ _=>at_ λ_=>at0 rfl) (λaW f c A outer s H hr=>#[_,zpY<*((pv 0&&&zk)::(pv 0&&&zk)::zj),xM (zu (yF zah (zv 0) (yJ _)) (zu (yF zah (zv 0) (yJ _)) zY))])
def zt1:TwE:=(zx (zay) [eOp wR (zi 0) (oZ 0),eOp wR (zi 0) (oZ 1)])
def ze7:kh Xv->TwF:=zcv 1 0 (zt1)
def zt2(T:Tx K mg kA'):ZV P w K mg base 3 zci (ze7):=
 Uv (ps:=["ones"]) #[rfl,rfl,rfl, *...*, *...*, *...*, *...*] rfl rfl (λ_ _ _ _=>at_ λ_=>at0 rfl) (λaW f c A outer s H hr=>#[_,zjM<*((pv 0&&&zk)::(pv 0&&&zk)::zj),xM (zu (yF zah (zv 0) (yJ _)) (zu (yF zah (zv 0) (yJ _)) zY))])
def WL:TwS:=(zw (zI (xP [fX,eO 0] (iT (zi 1)) (gN 0) xQ (eOp wR (wq "Store" "facts" (zi 1)) (zi 0))) (gN 3)) (zw (sIf (bE (eFn zhs [xP [fX] (iL (zi 3)) (gN 0) xQ (eOp (yH kb) (eOp zG (zi 0) (oZ 0)) (qg "fork"))])) (zO (eC .non)) zP) (zO (yx "Store" "leaf" (wH) (zi 0) [zal [(zcf,ze5),(zch,ze6),(zci,ze7)] 2 [xP [fX] (iL (zi 3)) (gN 0) xQ (eOp zG (zi 0) (oZ 1))]]))))
def WM:TwF:=zQ 3 1 (WL)
def zbT:T.aY.Ok P w mg base 37 3 (WM):=
 okS T.aY.F zbP (λhr nd=>#[_,((3∘xW∘(["node","self"],yO (0::yS),Xu (K:=K) (pv 1),↑0,yR,xG (pv 1) rfl&&&pv 0))<|>zU (wu (yh (zeP (K:=K) rfl) rfl T.gZ PyProof.Rows.Boot.«any» (zS (xW∘(["fact"],yO yS,pv 3*0,↑0,yR,zcK yE (pv 0%zk) zD (by rfl))) zj))) (¬(!zmm)) zC<|>¬(!zZ (pv 0) T.ae T.aC.mt (ZN T) (hr.mono ∅) T.aC.b .nil ym (zdt (i:=2) (k:=36) rfl (by first|exact .inl rfl|exact .inr (.inl rfl)|exact .inr (.inr rfl)) (zf0 (fns:=[(zcf,ze5),(zch,ze6),(zci,ze7)]) (vO (ztY T) ∅ (vO (zt0 T) ∅ (vO (zt2 T) ∅ zdw)))) (hr.mono ∅) (zS (xW∘(["fact"],yO yS,pv 3*0,↑0,yR,pv 0%zk)) zj)::zj))),xS (zdc (Tq (cap:=[fX,eO 0]) (znp (zv 1)) wg Tp (yF zah (vF T.ai T.ae T.bo (zv 1)) (zv 0)))) (xS (VP (zhn (zky zjh (zu (Tq (cap:=[fX]) (zfM (zv 3)) wg Tp (yF Wa (yF yT (zv 0) (yJ _)) (Vb _))) zY))) (xH zm8) vE) (xH (wE T.ai (zv 0) (zu (zdu (zu (Tq (cap:=[fX]) (zfM (zv 3)) wg Tp (yF yT (zv 0) (yJ _))) zY)) zY))))])
def zt3:TwE:=(yx "Store" "leaf_by" (WM) (zi 1) [zi 0,zi 2])
def ze8:kh Xv->TwF:=zcv 1 2 (zt3)
def zt4(T:Tx K mg kA'):ZV P w K mg base 38 zcj (ze8):=
 Uv (ps:=["these"]) #[rfl,rfl,rfl, *...*, *...*, *...*, *...*] rfl rfl (λ_ _ _ _=>at_ λ_=>at0 rfl) (λaW f c A outer s H hr=>#[_,zZ (pv 1) T.ae T.aY.mt (zbT T) (hr.mono ∅) T.aY.b .nil vM (pv 0::pv 2::zj),wE T.ai (zv 1) (zu (zv 0) (zu (zv 2) zY))])
def wM:TwS:=(zw (zI (eOp wR (wq "Store" "facts" (zi 0)) (eOp zG (zi 1) (oZ 0))) (gN 2)) (zO (eIf (bE (eOp (yH kb) (eOp zG (zi 2) (oZ 0)) (qg "fork"))) (eC .non) (eOp zG (zi 1) (eOp vR (oZ 1) (eOp zG (eOp zG (zi 2) (oZ 1)) (oZ 0)))))))
def Zt:TwF:=zQ 2 1 (wM)
def Ua:T.aI.Ok P w mg base 1 2 (Zt):=
 T.aI<$>(VZ,wM,(2^^^(xG (pv 0) rfl&&&(pv 1%zk)))<|>¬(!YJ (zX yE (pv 2%zk) zD (by rfl)) zmm (pv 1%zL xF zk ((pv 2%zk)%zk))))
def zt5:TwE:=(yx "Store" "choice_among" (Zt) (zi 1) [zi 0])
def ze9:kh Xv->TwF:=zcv 1 1 (zt5)
def zt6(T:Tx K mg kA'):ZV P w K mg base 2 zck (ze9):=
 Uv (ps:=["these"]) #[rfl,rfl,rfl, *...*, *...*, *...*, *...*] rfl rfl (λ_ _ _ _=>at_ λ_=>at0 rfl) (λaW f c A outer s H hr=>#[_,zZ (pv 1) T.ae T.aI.mt (Ua T) (hr.mono ∅) T.aI.b .nil vM (pv 0::zj),wE T.ai (zv 1) (zu (zv 0) zY)])
def Wj:TwS:=(zw (zI (eOp wR (zi 2) (oZ 0)) (gN 3)) (zw (sIf (bE (eFn zht [xP [fX,eO 3] (iL (zi 2)) (gN 0) xQ (eOp vV (zi 0) (zi 1))])) (zO (zi 3)) zP) (zO (yx "Store" "number_of" (wB) (zi 0) [yQ [qg "fork",zi 1,eFn XZ [zi 2]]]))))
def wI:TwF:=zQ 3 1 (Wj)
def ZO:T.aD.Ok P w mg base 2 3 (wI):=
 T.aD<$>(zef,Wj,(3^^^(pv 2&&&zk))<|>zU (wu (yh (zbE (K:=K) rfl) rfl T.g7 PyProof.Rows.Boot.«all» (zS (YC∘(["kid","first"],yO (3::yS),pv 2*0,↑0,yR,Zw (xu (pv 0) (pv 1)))) zj))) (¬(!pv 3)) zC<|>¬(!zZ (pv 0) T.ae T.aB.mt (Xb T) (hr.mono ∅) T.aB.b .nil ym ((~~~(zD::pv 1::Zy (vN (K:=K)) rfl T.bK boot_tuple (pv 2::zj)::zj))::zj)))
def ZI:TwS:=(zw (zI (eOp wR (wq "Store" "facts" (zi 0)) (zi 1)) (gN 2)) (zO (eIf (bE (eOp (yH kb) (eOp zG (zi 2) (oZ 0)) (qg "fork"))) (eOp zG (zi 2) (oZ 2)) (yQ []))))
def xD:TwF:=zQ 2 1 (ZI)
def ZJ:T.aA.Ok P w mg base 1 2 (xD):=
 T.aA<$>(zbO,ZI,(2^^^(xG (pv 0) rfl&&&pv 1))<|>¬(!YJ (zX yE (pv 2%zk) zD (by rfl)) (pv 2%zk) (~~~zj)))
def wN:TwS:=(zw (zI (eOp wR (wq "Store" "facts" (zi 0)) (zi 1)) (gN 2)) (zO (eIf (bE (eOp (yH kb) (eOp zG (zi 2) (oZ 0)) (qg "fork"))) (eOp zG (zi 2) (oZ 1)) (eFn wx [wq "Store" "boxes" (zi 0)]))))
def yA:TwF:=zQ 2 1 (wN)
def wO:T.ao.Ok P w mg base 1 2 (yA):=
 T.ao<$>(za9,wN,(2^^^(xG (pv 0) rfl&&&pv 1))<|>¬(!YJ (zX yE (pv 2%zk) zD (by rfl)) (pv 2%zk) (-xG (pv 0) rfl)))
def Yh:TwS:=(zO (eIf (bE (eOp vV (yx "Store" "level_of" (yA) (zi 0) [zi 1]) (zi 2))) (eOp zG (yx "Store" "kids_of" (xD) (zi 0) [zi 1]) (zi 3)) (zi 1)))
def xp:TwF:=zQ 4 0 (Yh)
def VS:T.aN.Ok P w mg base 2 4 (xp):=
 T.aN<$>(zcy,Yh,¬(!YJ (yr (xu (zZ (pv 0) T.ae T.ao.mt (wO T) (hr.mono ∅) T.ao.b .nil ym (pv 1::zj)) (pv 2))) (zZ (pv 0) T.ae T.aA.mt (ZJ T) (hr.mono ∅) T.aA.b .nil ym (pv 1::zj)%pv 3) (pv 1)))
def Yi(cE:TwF)(bC:TwF):TwS:=(zw (sIf (bE (zkP gP (zi 1) (zi 3))) (zw (zI (zal [(zcj,ze8),(zck,ze9)] 2 [zi 1]) (gN 4)) (XB (zi 3) (zi 1) (eIf (bE (eUn zjd (zi 4))) (yx "Store" "joined_below" bC (zi 0) [zi 1,zi 2,zi 3]) (zi 4)))) zP) (zO (zak (zi 3) (zi 1))))
def xc(cE:TwF)(bC:TwF):TwS:=(zw (zI (eFn zhN [xP [fX,eO 0] (iT (zi 1)) (gN 0) xQ (yx "Store" "level_of" (yA) (zi 1) [zi 0])]) (gN 4)) (zw (zI (TJ []) (gN 5)) (zw (vQ (iR1 (eOp zG (eOp zG (wq "Store" "boxes" (zi 0)) (zi 4)) (oZ 1))) (gN 6) (zw (zI (eFn XZ [xP [fX,eO 4,eO 6,eO 0] (iT (zi 1)) (gN 0) xQ (yx "Store" "kid_at" (xp) (zi 3) [zi 0,zi 1,zi 2])]) (gN 7)) (VO (eMt vD (zi 5) [yx "Store" "joined" cE (zi 0) [zi 7,zi 2,zi 3]])))) (zO (yx "Store" "fork" (wI) (zi 0) [zi 4,zi 5])))))
mutual
def ye:Nat->TwF
 |0=>λ_ _=>fX
 |n+1=>zQ 4 1 (Yi (ye n) (yf n))
def yf:Nat->TwF
 |0=>λ_ _=>fX
 |n+1=>zQ 4 4 (xc (ye n) (yf n))
end
def Ya(n:Nat):ye (n+1)=zQ 4 1 (Yi (ye n) (yf n)):=by rw[ye]
def UW:ye 0=λ_ _=>fX:=by rw[ye]
def wX(n:Nat):yf (n+1)=zQ 4 4 (xc (ye n) (yf n)):=by rw[yf]
def Xc:yf 0=λ_ _=>fX:=by rw[yf]
def zbU:∀n:Nat,T.az.Ok P w mg base (38+n) 4 (ye n)/\T.aH.Ok P w mg base (38+n) 4 (yf n):=by
 intro n
 induction n with
 |zero=>
  show#[?_,?_];rw[UW];show ZL;rw[Xc];show ZL
 |succ n ih=>
  show#[?_,?_];rw[Ya];show okS T.az.F zcA (λhr nd=>#[_,(zU (yr (zdq (K:=K) hr (pv 1) (pv 3))) ((4^^^zdt (i:=2) (k:=38) rfl (by first|exact .inl rfl|exact .inr (.inl rfl)|exact .inr (.inr rfl)) (zf0 (fns:=[(zcj,ze8),(zck,ze9)]) (vO (zt4 T) ∅ (vO (zt6 T) ∅ zdw))) (hr.mono #v[0]) (pv 1::zj))<|>¬za1 (K:=K) hr (pv 3) (pv 1) (YJ (yr (ziC (pv 4))) (zZ (pv 0) T.ae T.aH.mt ih.2 (hr.mono #v[0]) T.aH.b .nil ym (pv 1::pv 2::pv 3::zj)) (pv 4)) rfl) zC<|>¬(!Uq (K:=K) hr (pv 3) (pv 1) (λ_ _=>rfl))),xS (VP (zhn (zkQ (zv 1) (zv 3))) (xS (XX (zdu (zu (zv 1) zY)) wg) (zhB (zv 3) (zv 1) (zna (zhn (znb (zv 4))) (wE T.ai (zv 0) (zu (zv 1) (zu (zv 2) (zu (zv 3) zY)))) (zv 4)))) vE) (xH (zhA (zv 3) (zv 1)))]);rw[wX];show T.aH<$>(VY,xc,(4^^^yh (zlV (K:=K) rfl) rfl T.gX boot_min (zS (xm∘(["node","self"],yO (0::yS),Xu (K:=K) (pv 1),↑0,yR,zZ (pv 1) T.ae T.ao.mt (wO T) (hr.mono #v[0]) T.ao.b .nil vM (pv 0::zj))) zj))<|>(5^^^@Zx _ _ _ _ zj)<|>yD rfl T.aE (((xG (pv 0) rfl%pv 4)%zk)::zj)>>=(↑6,(7^^^Zy (vN (K:=K)) rfl T.bK boot_tuple (zS (xm∘(["node","level","number","self"],yO (4::6::0::yS),Xu (K:=K) (pv 1),↑0,yR,zZ (pv 3) T.ae T.aN.mt (VS T) (hr.mono #v[0]) T.aN.b .nil vM (pv 0::pv 1::pv 2::zj))) zj))<|>¬Xs (zaL Ab AK AO Zz (pv 5) (zZ (pv 0) T.ae T.az.mt ih.1 (hr.mono #v[0]) T.az.b .nil ym (pv 7::pv 2::pv 3::zj)::zj)))<|>¬(!zZ (pv 0) T.ae T.aD.mt (ZO T) (hr.mono #v[0]) T.aD.b .nil ym (pv 4::pv 5::zj)))
def VT(T:Tx K mg kA')(n:Nat):T.az.Ok P w mg base (38+n) 4 (ye n):=(zbU T n).1
def wY:TwS:=(zO (vX "Store" "joined" (ye 24) (zi 0) [zi 1,zcu zcj 6 [0,2],Ve]))
def xn:TwF:=zQ 3 0 (wY)
def wZ:T.aj.Ok P w mg base 63 3 (xn):=by
 have#[zc,zp,hz,hk]:=WK T.ai T.aj.mt.at_ T.bH;show T.aj.F.okZ (fz:=["self","rule"]) hz UJ (λvs H Q E h=>h.1) (λA outer s H vs Q E hr h=>#[_,¬(!zZ (pv 0) T.ae T.az.mt (VT T 24) (hr.mono ∅) T.az.b .nil vM (pv 1::zS (XG (L:=zcj) (is:=[0,2]) (XF (osc:=zq xt) (N:=["self","nodes","rule"]) (fz:=["self","rule"]) rfl rfl rfl rfl (*...*)) rfl rfl (wT hz).1) (zS WE zj))),zaQ (n:=3) (k:=0) (b:=wY) rfl (xH (vi T.ai (zv 0) (zu (zv 1) (zu (Uu hk) (zu zfS zY))))) h])
def Xd:TwS:=(zO (vX "Store" "reckoned_of" (xn) (zi 0) [yQ [zi 1,zi 2],zcu zch 4 []]))
def Xe:TwF:=zQ 3 0 (Xd)
def zdN:T.aZ.Ok P w mg base 64 3 (Xe):=by
 have#[zc,zp,hz,hk]:=WK T.ai T.aZ.mt.at_ T.cU;show T.aZ.F.okZ (fz:=[]) hz zdD (λvs H Q E h=>h.1) (λA outer s H vs Q E hr h=>#[_,¬(!zZ (pv 0) T.ae T.aj.mt (wZ T) (hr.mono ∅) T.aj.b .nil vM ((~~~(pv 1::pv 2::zj))::zS (XG (L:=zch) (is:=[]) (XF (osc:=zq vy) (N:=["self","one","other"]) (fz:=[]) rfl rfl rfl rfl (*...*)) rfl rfl (wT hz).1) zj)),zaQ (n:=3) (k:=0) (b:=Xd) rfl (xH (vi T.ai (zv 0) (zu (Vc (zu (zv 1) (zu (zv 2) zY))) (zu (Uu hk) zY)))) h])
def xo(cR:TwF):TwS:=(zw (zI (yx "Store" "level_of" (yA) (zi 0) [zi 1]) (gN 5)) (zw (sIf (bE (eOp dGe (zi 5) (zi 2))) (zO (yx "Store" "kid_at" (xp) (zi 0) [zi 1,zi 2,zi 3])) zP) (zw (sIf (bE (zr2 gP (zi 1) (zi 4))) (zw (zI (xP [fX,eO 2,eO 3,eO 4,eO 0] (iT (yx "Store" "kids_of" (xD) (zi 0) [zi 1])) (gN 0) xQ (yx "Store" "fixed_below" cR (zi 4) [zi 0,zi 1,zi 2,zi 3])) (gN 6)) (zjk (zi 4) (zi 1) (yx "Store" "fork" (wI) (zi 0) [zi 5,zi 6]))) zP) (zO (zkL (zi 4) (zi 1))))))
def yj:Nat->TwF
 |0=>λ_ _=>fX
 |n+1=>zQ 5 2 (xo (yj n))
def xT(n:Nat):yj (n+1)=zQ 5 2 (xo (yj n)):=by rfl
def Xp:yj 0=λ_ _=>fX:=by rfl
def Ub:∀n:Nat,T.aw.Ok P w mg base (2+n) 5 (yj n):=by
 intro n
 induction n with
 |zero=>
  skip
  rw[Xp];show ZL
 |succ n ih=>
  .rw[xT];show T.aw<$>(UK,xo,(5^^^zZ (pv 0) T.ae T.ao.mt (wO T) (hr.mono #v[0]) T.ao.b .nil ym (pv 1::zj))<|>zU (yr (zsZ (pv 5) (pv 2))) (¬(!zZ (pv 0) T.ae T.aN.mt (VS T) (hr.mono #v[0]) T.aN.b .nil ym (pv 1::pv 2::pv 3::zj))) zC<|>zU (yr (zls (zmJ hr) (pv 1) (pv 4))) ((6∘wj∘(["kid","level","number","known","self"],yO (2::3::4::0::yS),Xu (K:=K) (zZ (pv 0) T.ae T.aA.mt (ZJ T) (hr.mono #v[0]) T.aA.b .nil ym (pv 1::zj)),↑0,yR,zZ (pv 4) T.ae T.aw.mt ih (hr.mono #v[0]) T.aw.b .nil vM (pv 0::pv 1::pv 2::pv 3::zj)))<|>¬zpi (zmJ hr) (pv 4) (pv 1) (zZ (pv 0) T.ae T.aD.mt (ZO T) (hr.mono #v[0]) T.aD.b .nil ym (pv 5::pv 6::zj)) rfl) zC<|>¬(!zph (zmJ hr) (pv 4) (pv 1) (λ_ _=>rfl)))
def UX(T:Tx K mg kA')(n:Nat):T.aw.Ok P w mg base (2+n) 5 (yj n):=(Ub T n)
def Xf:TwS:=(zO (yx "Store" "fixed_below" (yj 12) (zi 0) [zi 1,zi 2,zi 3,Ve]))
def Xg:TwF:=zQ 4 0 (Xf)
def zdO:T.bp.Ok P w mg base 15 4 (Xg):=
 T.bp<$>(zdE,Xf,¬(!zZ (pv 0) T.ae T.aw.mt (UX T 12) (hr.mono ∅) T.aw.b .nil ym (pv 1::pv 2::pv 3::zS WE zj)))
def Yj:TwS:=(zO (eFn XZ [xP [fX,eO 2,eO 1,eO 0] (iR1 (eOp zG (eOp zG (wq "Store" "boxes" (zi 0)) (zi 1)) (oZ 1))) (gN 0) xQ (yx "Store" "fixed" (Xg) (zi 3) [zi 1,zi 2,zi 0])]))
def vH:TwF:=zQ 3 0 (Yj)
def VU:T.bP.Ok P w base 16 3 (vH):=
 T.bP<$>(zcx,Yj,¬(!Zy (vN (K:=K)) rfl T.bK boot_tuple (zS ((top 33)∘(["number","aim","level","store"],yO (2::1::0::yS),yD rfl T.aE (((xG (pv 0) rfl%pv 1)%zk)::zj),↑0,yR,zZ (pv 3) T.ae T.bp.mt (zdO T) (hr.mono ∅) T.bp.b .nil vM (pv 1::pv 2::pv 0::zj))) zj)))
def Vy:TwS:=(zw (zI (zdd (vH) [zi 0,zdd (ZY) [wq "Store" "boxes" (zi 0),zi 1],zi 3]) (gN 4)) (zO (vX "Store" "reckoned_of" (xn) (zi 0) [zi 4,zcu zcf 2 [2]])))
def Vz:TwF:=zQ 4 1 (Vy)
def zgp:T.bD.Ok P w base 64 4 (Vz):=by
 have#[zc,zp,hz,hk]:=zdy T.dm T.dD;have nd:=za7.nd;show T.bD.F.okZ (fz:=["weights"]) hz za7 (λvs H Q E h=>h.1) (λA outer s H vs Q E hr h=>#[_,((4^^^(VU<*(pv 0::(UR<*(xG (pv 0) rfl::pv 1::zj))::pv 3::zj)))<|>¬(!zZ (pv 0) T.ae T.aj.mt (wZ T) (hr.mono ∅) T.aj.b .nil vM (pv 4::zS (XG (L:=zcf) (is:=[2]) (XF (osc:=zq ZW) (N:=["store","name","weights","aim","held"]) (fz:=["weights"]) rfl rfl rfl rfl (*...*)) rfl rfl (wT hz).1) zj))),zaQ (n:=4) (k:=1) (b:=Vy) rfl (xS (XX (zdf (zu (zv 0) (zu (zdf (zu (vF T.ai T.ae T.av (zv 0)) (zu (zv 1) zY))) (zu (zv 3) zY)))) wg) (xH (vi T.ai (zv 0) (zu (zv 4) (zu (Uu hk) zY))))) h])
def vL:TwS:=(zO (vX "Store" "joined" (ye 24) (zi 0) [eOp ZT (yQ [zi 1]) (zi 2),zcu zck 7 [0],Ve]))
def wC:TwF:=zQ 3 0 (vL)
def Xh:T.ay.Ok P w mg base 63 3 (wC):=by
 have#[zc,zp,hz,hk]:=WK T.ai T.ay.mt.at_ T.bW;show T.ay.F.okZ (fz:=["self"]) hz zaw (λvs H Q E h=>h.1) (λA outer s H vs Q E hr h=>#[_,¬(!zZ (pv 0) T.ae T.az.mt (VT T 24) (hr.mono ∅) T.az.b .nil vM (zL (Yz (K:=K)) (~~~(pv 1::zj)) (pv 2)::zS (XG (L:=zck) (is:=[0]) (XF (osc:=zq wa) (N:=["self","chooser","nodes"]) (fz:=["self"]) rfl rfl rfl rfl (*...*)) rfl rfl (wT hz).1) (zS WE zj))),zaQ (n:=3) (k:=0) (b:=vL) rfl (xH (vi T.ai (zv 0) (zu (yF zaT (Vc (zu (zv 1) zY)) (zv 2)) (zu (Uu hk) (zu zfS zY))))) h])
def zt7:TwE:=(yQ [eOp YB (zx (UU) [wq "Store" "boxes" (zi 1),zi 0,zi 2]) (zi 3),oZ 1])
def zfa:kh Xv->TwF:=zcv 1 3 (zt7)
def zt8(T:Tx K mg kA'):ZV P w K mg base 4 zce (zfa):=
 Uv (ps:=["state"]) #[rfl,rfl,rfl, *...*, *...*, *...*, *...*] rfl rfl (λ_ _ _ _=>at_ λ_=>at0 rfl) (λaW f c A outer s H hr=>#[_,~~~(zL vo (zh4<*(xG (pv 1) rfl::pv 0::pv 2::zj)) (pv 3)::zk::zj),Vc (zu (yF zjg (xM (zu (vF T.ai T.ae T.av (zv 1)) (zu (zv 0) (zu (zv 2) zY)))) (zv 3)) (zu (yJ _) zY))])
def zt9:TwE:=(yQ [zx (YZ) [wq "Store" "boxes" (zi 1),zi 0,zi 2],oZ 1])
def zfb:kh Xv->TwF:=zcv 1 2 (zt9)
def zua(T:Tx K mg kA'):ZV P w K mg base 3 zcg (zfb):=
 Uv (ps:=["state"]) #[rfl,rfl,rfl, *...*, *...*, *...*, *...*] rfl rfl (λ_ _ _ _=>at_ λ_=>at0 rfl) (λaW f c A outer s H hr=>#[_,~~~((US<*(xG (pv 1) rfl::pv 0::pv 2::zj))::zk::zj),Vc (zu (xM (zu (vF T.ai T.ae T.av (zv 1)) (zu (zv 0) (zu (zv 2) zY)))) (zu (yJ _) zY))])
def zub:TwE:=(eIf (bE (zx (zdM) [wq "Store" "boxes" (zi 1),zi 0,zi 2])) (eC (.ct [.int 1,.int 1])) (eC (.ct [.int 0,.int 1])))
def zfc:kh Xv->TwF:=zcv 1 2 (zub)
def zuc(T:Tx K mg kA'):ZV P w K mg base 4 zcl (zfc):=
 Uv (ps:=["state"]) #[rfl,rfl,rfl, *...*, *...*, *...*, *...*] rfl rfl (λ_ _ _ _=>at_ λ_=>at0 rfl) (λaW f c A outer s H hr=>#[_,YJ (wu (zok<*(xG (pv 1) rfl::pv 0::pv 2::zj))) (zfq (v:= .ref T.eM) rfl T.ja rfl) (zfq (v:= .ref T.bT) rfl T.dX rfl),zna (zhn (xM (zu (vF T.ai T.ae T.av (zv 1)) (zu (zv 0) (zu (zv 2) zY))))) (zjc λj H=> .ct (λH=>T.jj H) (.cons (.int _) (.cons (.int _) .nil))) (zjc λj H=> .ct (λH=>T.eh H) (.cons (.int _) (.cons (.int _) .nil)))])
def wc(bJ:TwF):TwS:=(zw (zI (eFn wx [zi 3]) (gN 4)) (zw (sIf (bE (eOp vV (zi 4) (eFn wx [wq "Store" "boxes" (zi 0)]))) (zO (yx "Store" "leaf" (wH) (zi 0) [zal [(zce,zfa),(zcg,zfb),(zcl,zfc)] 2 [zi 3]])) zP) (zw (sIf (bE (eOp (dIn gP) (eOp zG (eOp zG (wq "Store" "boxes" (zi 0)) (zi 4)) (oZ 0)) (zi 1))) (zO (yx "Store" "made_behind" bJ (zi 0) [zi 1,zi 2,eOp ZT (zi 3) (yQ [oZ 0])])) zP) (zw (zI (eOp zG (eOp zG (wq "Store" "boxes" (zi 0)) (zi 4)) (oZ 1)) (gN 5)) (zO (yx "Store" "fork" (wI) (zi 0) [zi 4,xP [fX,eO 1,eO 2,eO 0,eO 3] (iR1 (zi 5)) (gN 0) xQ (yx "Store" "made_behind" bJ (zi 3) [zi 1,zi 2,eOp ZT (zi 4) (yQ [zi 0])])]))))))
def yt:Nat->TwF
 |0=>λ_ _=>fX
 |n+1=>zQ 4 2 (wc (yt n))
def xU(n:Nat):yt (n+1)=zQ 4 2 (wc (yt n)):=by rfl
def Xq:yt 0=λ_ _=>fX:=by rfl
def Uc:∀n:Nat,T.ak.Ok P w mg base (4+n) 4 (yt n):=by
 intro n
 induction n with
 |zero=>
  skip
  rw[Xq];show ZL
 |succ n ih=>
  .rw[xU];show okS T.ak.F UL (λhr nd=>#[_,((4^^^(-pv 3))<|>zU (yr (xu (pv 4) (-xG (pv 0) rfl))) (¬(!zZ (pv 0) T.ae T.aC.mt (ZN T) (hr.mono #v[0]) T.aC.b .nil ym (zdt (i:=2) (k:=4) rfl (by first|exact .inl rfl|exact .inr (.inl rfl)|exact .inr (.inr rfl)) (zf0 (fns:=[(zce,zfa),(zcg,zfb),(zcl,zfc)]) (vO (zt8 T) ∅ (vO (zua T) ∅ (vO (zuc T) ∅ zdw)))) (hr.mono #v[0]) (pv 3::zj)::zj))) zC<|>zU (zX (zlC (K:=K)) ((xG (pv 0) rfl%pv 4)%zk) (pv 1) (by rfl)) (¬(!zZ (pv 0) T.ae T.ak.mt ih (hr.mono #v[0]) T.ak.b .nil ym (pv 1::pv 2::zL (Yz (K:=K)) (pv 3) (~~~(zk::zj))::zj))) zC<|>(5^^^((xG (pv 0) rfl%pv 4)%zk))<|>¬(!zZ (pv 0) T.ae T.aD.mt (ZO T) (hr.mono #v[0]) T.aD.b .nil ym (pv 4::zS (wk∘(["number","names","rule","self","numbers"],yO (1::2::0::3::yS),yD rfl T.aE (pv 5::zj),↑0,yR,zZ (pv 3) T.ae T.ak.mt ih (hr.mono #v[0]) T.ak.b .nil vM (pv 1::pv 2::zL (Yz (K:=K)) (pv 4) (~~~(pv 0::zj))::zj))) zj))),xS (XX (zky zfQ (zu (zv 3) zY)) wg) (xS (VP (zhn (znw (zv 4) (zky zfQ (zu (vF T.ai T.ae T.av (zv 0)) zY)))) (xH (wE T.ai (zv 0) (zu (zdu (zu (zv 3) zY)) zY))) vE) (xS (VP (YA (yF ztE (yF yT (yF yT (vF T.ai T.ae T.av (zv 0)) (zv 4)) (yJ _)) (zv 1))) (xH (wE T.ai (zv 0) (zu (zv 1) (zu (zv 2) (zu (yF zaT (zv 3) (Vc (zu (yJ _) zY))) zY))))) vE) (xS (XX (yF yT (yF yT (vF T.ai T.ae T.av (zv 0)) (zv 4)) (yJ _)) wg) (xH (wE T.ai (zv 0) (zu (zv 4) (zu (Tq (cap:=[fX,eO 1,eO 2,eO 0,eO 3]) (zbI (zv 5)) wg Tp (wE T.ai (zv 3) (zu (zv 1) (zu (zv 2) (zu (yF zaT (zv 4) (Vc (zu (zv 0) zY))) zY))))) zY)))))))])
def UY(T:Tx K mg kA')(n:Nat):T.ak.Ok P w mg base (4+n) 4 (yt n):=(Uc T n)
def Wk:TwS:=(zO (yx "Store" "made_behind" (yt 12) (zi 0) [zi 1,zi 2,yQ []]))
def vz:TwF:=zQ 3 0 (Wk)
def Wl:T.aK.Ok P w mg base 17 3 (vz):=
 T.aK<$>(zeg,Wk,¬(!zZ (pv 0) T.ae T.ak.mt (UY T 12) (hr.mono ∅) T.ak.b .nil ym (pv 1::pv 2::(~~~zj)::zj)))
def Yk:TwS:=(zO (vX "Store" "made" (vz) (zi 0) [zi 1,zcu zcl 8 [0,1]]))
def Yl:TwF:=zQ 2 0 (Yk)
def zcF:T.aS.Ok P w mg base 18 2 (Yl):=by
 have#[zc,zp,hz,hk]:=WK T.ai T.aS.mt.at_ T.cz;show T.aS.F.okZ (fz:=["self","test"]) hz zcB (λvs H Q E h=>h.1) (λA outer s H vs Q E hr h=>#[_,¬(!zZ (pv 0) T.ae T.aK.mt (Wl T) (hr.mono ∅) T.aK.b .nil vM (pv 1::zS (XG (L:=zcl) (is:=[0,1]) (XF (osc:=zq wW) (N:=["self","test"]) (fz:=["self","test"]) rfl rfl rfl rfl (*...*)) rfl rfl (wT hz).1) zj)),zaQ (n:=2) (k:=0) (b:=Yk) rfl (xH (vi T.ai (zv 0) (zu (zv 1) (zu (Uu hk) zY)))) h])
def zbV:TwS:=(zO (yx "Store" "chosen_by" (wC) (zi 0) [yx "Store" "marked" (Yl) (zi 0) [zi 1],yQ [zi 3,zi 2]]))
def Tz:TwF:=zQ 4 0 (zbV)
def zfd:T.cI.Ok P w base 64 4 (Tz):=
 T.cI<$>(zl1,zbV,¬(!zZ (pv 0) T.ae T.ay.mt (Xh T) (hr.mono ∅) T.ay.b .nil ym (zZ (pv 0) T.ae T.aS.mt (zcF T) (hr.mono ∅) T.aS.b .nil ym (pv 1::zj)::(~~~(pv 3::pv 2::zj))::zj)))
def Ym:TwS:=(zO (vX "Store" "reckoned_of" (xn) (zi 0) [yQ [zi 1,zi 2],zcu zci 5 []]))
def Yn:TwF:=zQ 3 0 (Ym)
def zcG:T.aU.Ok P w mg base 64 3 (Yn):=by
 have#[zc,zp,hz,hk]:=WK T.ai T.aU.mt.at_ T.cA;show T.aU.F.okZ (fz:=[]) hz zcz (λvs H Q E h=>h.1) (λA outer s H vs Q E hr h=>#[_,¬(!zZ (pv 0) T.ae T.aj.mt (wZ T) (hr.mono ∅) T.aj.b .nil vM ((~~~(pv 1::pv 2::zj))::zS (XG (L:=zci) (is:=[]) (XF (osc:=zq wU) (N:=["self","one","other"]) (fz:=[]) rfl rfl rfl rfl (*...*)) rfl rfl (wT hz).1) zj)),zaQ (n:=3) (k:=0) (b:=Ym) rfl (xH (vi T.ai (zv 0) (zu (Vc (zu (zv 1) (zu (zv 2) zY))) (zu (Uu hk) zY)))) h])
def zaB:TwS:=(zw (zI (eOp wR (zi 1) (oZ 0)) (gN 2)) (zw (vQ (iL (eSl zhp (zi 1) (WI (oZ 1)) oNo)) (gN 3) (zI (yx "Store" "higher" (Yn) (zi 0) [zi 2,zi 3]) (gN 2))) (zO (zi 2))))
def zaC:TwF:=zQ 2 2 (zaB)
def zjO:T.cO.Ok P w base 65 2 (zaC):=
 T.cO<$>(zjD,zaB,(2^^^(pv 1&&&zk))<|>((WD (zhb (K:=K)) (pv 1) (WX zk) zaJ*0)>>=(↑3,¬(2^^^zZ (pv 0) T.ae T.aU.mt (zcG T) (hr.mono ∅) T.aU.b .nil ym (pv 2::pv 3::zj))))<|>¬(!pv 2))
def UZ:TwS:=(zw (zI (zx (ZY) [wq "Store" "boxes" (zi 0),zi 1]) (gN 4)) (zw (zI (eOp zG (eOp zG (wq "Store" "boxes" (zi 0)) (zi 4)) (oZ 1)) (gN 5)) (zw (zI (vX "Store" "made" (vz) (zi 0) [zi 2,zcu zce 1 [0,2,5]]) (gN 6)) (zO (vX "Store" "chosen_by" (wC) (zi 0) [zi 6,zdd (vH) [zi 0,zi 4,zi 3]])))))
def Tc:TwF:=zQ 4 3 (UZ)
def zh5:T.bO.Ok P w base 64 4 (Tc):=by
 have#[zc,zp,hz,hk]:=zdy T.dH T.dP;have nd:=zcd.nd;show T.bO.F.okZ2 (fz:=["store","reckoning","size"]) hz zcd (λvs H Q E h=>h.1) (λA outer s H vs Q E hr h=>#[_,zhP (4^^^(UR<*>(xG (pv 0) rfl::pv 1::zj))) (zhP (5^^^((xG (pv 0) rfl%pv 4)%zk)) (zsj ((6^^^zZ (pv 0) T.ae T.aK.mt (Wl T) (hr.mono ∅) T.aK.b .nil vM (pv 2::zS (XG (L:=zce) (is:=[0,2,5]) (XF (osc:=zq YU) (N:=["store","name","reckoning","aim","level","size","number"]) (fz:=["store","reckoning","size"]) rfl rfl rfl rfl (*...*)) rfl rfl (wT hz).1) zj))<|>¬(!zZ (pv 0) T.ae T.ay.mt (Xh T) (hr.mono ∅) T.ay.b .nil vM (pv 6::(VU<*(pv 0::pv 4::pv 3::zj))::zj))))),zaQ (n:=4) (k:=3) (b:=UZ) rfl (xS (XX (xM (zu (vF T.ai T.ae T.av (zv 0)) (zu (zv 1) zY))) wg) (xS (XX (yF yT (yF yT (vF T.ai T.ae T.av (zv 0)) (zv 4)) (yJ _)) wg) (xS (XX (vi T.ai (zv 0) (zu (zv 2) (zu (Uu hk) zY))) wg) (xH (vi T.ai (zv 0) (zu (zv 6) (zu (zdf (zu (zv 0) (zu (zv 4) (zu (zv 3) zY)))) zY))))))) h])
def Wm:TwS:=(zO (vX "Store" "made" (vz) (zi 0) [yQ [zi 1],zcu zcg 3 [0,1]]))
def Wn:TwF:=zQ 2 0 (Wm)
def zeq:T.bw.Ok P w base 18 2 (Wn):=by
 have#[zc,zp,hz,hk]:=zdy T.cV T.dj;have nd:=TZ.nd;show T.bw.F.okZ (fz:=["store","operand"]) hz TZ (λvs H Q E h=>h.1) (λA outer s H vs Q E hr h=>#[_,¬(!zZ (pv 0) T.ae T.aK.mt (Wl T) (hr.mono ∅) T.aK.b .nil vM ((~~~(pv 1::zj))::zS (XG (L:=zcg) (is:=[0,1]) (XF (osc:=zq Za) (N:=["store","operand"]) (fz:=["store","operand"]) rfl rfl rfl rfl (*...*)) rfl rfl (wT hz).1) zj)),zaQ (n:=2) (k:=0) (b:=Wm) rfl (xH (vi T.ai (zv 0) (zu (Vc (zu (zv 1) zY)) (zu (Uu hk) zY)))) h])
def ZP(bu:TwF)(dE:TwF):TwS:=(zw (vQ (zsf (zi 1)) (gN 4) (zI (zx dE [zi 0,zi 4,zi 2,zi 3]) (gN 2))) (zO (zi 2)))
def xh(bu:TwF)(dE:TwF):TwS:=(zw (sIf (bE (eOp (yH kb) (eOp zG (zi 1) (oZ 0)) (qg "set"))) (zO (zx (Tc) [zi 0,eOp zG (zi 1) (oZ 1),eOp zG (zi 1) (oZ 2),zi 2])) zP) (zw (sIf (bE (eOp (yH kb) (eOp zG (zi 1) (oZ 0)) (qg "draw"))) (zO (zx (Vz) [zi 0,eOp zG (zi 1) (oZ 1),eOp zG (zi 1) (oZ 2),zi 2])) zP) (zw (sIf (zbG (bE (eOp (yH kb) (eOp zG (zi 1) (oZ 0)) (qg "gain"))) (bE (zi 3))) (zO (yx "Store" "added" (Xe) (zi 0) [zi 2,zx (Wn) [zi 0,eOp zG (zi 1) (oZ 1)]])) zP) (zw (sIf (bE (eOp (yH kb) (eOp zG (zi 1) (oZ 0)) (qg "look"))) (zO (zx (Tz) [zi 0,eOp zG (zi 1) (oZ 1),zi 2,yx "Store" "leaf" (wH) (zi 0) [eC (.ct [.int 0,.int 1])]])) zP) (zw (sIf (bE (eOp (yH kb) (eOp zG (zi 1) (oZ 0)) (qg "if"))) (zw (zI (zx bu [zi 0,eOp zG (zi 1) (oZ 2),zi 2,zi 3]) (gN 4)) (zO (zx (Tz) [zi 0,eOp zG (zi 1) (oZ 1),zi 4,zx bu [zi 0,eOp zG (zi 1) (oZ 3),zi 2,zi 3]]))) zP) (zw (sIf (bE (eOp (yH kb) (eOp zG (zi 1) (oZ 0)) (qg "times"))) (zw (vQ (iR1 (eOp zG (zi 1) (oZ 1))) (gN 5) (zI (zx bu [zi 0,eOp zG (zi 1) (oZ 2),zi 2,zi 3]) (gN 2))) (zO (zi 2))) zP) (zw (sIf (bE (eOp (yH kb) (eOp zG (zi 1) (oZ 0)) (qg "hand"))) (zO (zx (zaC) [zi 0,xP [fX,eO 0,eO 2,eO 3] (iA (eOp zG (zi 1) (oZ 1))) (gN 0) xQ (zx bu [zi 1,zi 0,zi 2,zi 3])])) zP) (zO (zi 2)))))))))
mutual
def yy:Nat->TwF
 |0=>λ_ _=>fX
 |n+1=>zQ 4 1 (ZP (yy n) (yg n))
def yg:Nat->TwF
 |0=>λ_ _=>fX
 |n+1=>zQ 4 2 (xh (yy n) (yg n))
end
def Xi(n:Nat):yy (n+1)=zQ 4 1 (ZP (yy n) (yg n)):=by rw[yy]
def zaD:yy 0=λ_ _=>fX:=by rw[yy]
def yB(n:Nat):yg (n+1)=zQ 4 2 (xh (yy n) (yg n)):=by rw[yg]
def zbd:yg 0=λ_ _=>fX:=by rw[yg]
def zdP:∀n:Nat,T.aJ.Ok P w base (65+n) 4 (yy n)/\T.bX.Ok P w base (65+n) 4 (yg n):=by
 intro n
 induction n with
 |zero=>
  show#[?_,?_];rw[zaD];show ZL;rw[zbd];show ZL
 |succ n ih=>
  show#[?_,?_];rw[Xi];show T.aJ<$>(zed,ZP,zrO (K:=K) rfl T.cZ (pv 1::zj)>>=(↑4,¬(2^^^(T.bX\(ih.2,hr.mono #v[0],ym,pv 0::pv 4::pv 2::pv 3::zj))))<|>¬(!pv 2));rw[yB];show okS T.bX.F zgb (λhr nd=>#[_,(zU (zX yE (pv 1%zk) zD (by rfl)) (¬(!(T.bO\(zh5 T,hr.mono #v[0],ym,pv 0::(pv 1%zk)::(pv 1%zk)::pv 2::zj)))) zC<|>zU (zX yE (pv 1%zk) zD (by rfl)) (¬(!(T.bD\(zgp T,hr.mono #v[0],ym,pv 0::(pv 1%zk)::(pv 1%zk)::pv 2::zj)))) zC<|>zU (PW.pt (Ue (zX yE (pv 1%zk) zD (by rfl)) (WU (wu (pv 3))))) (¬(!zZ (pv 0) T.ae T.aZ.mt (zdN T) (hr.mono #v[0]) T.aZ.b .nil ym (pv 2::(T.bw\(zeq T,hr.mono #v[0],ym,pv 0::(pv 1%zk)::zj))::zj))) zC<|>zU (zX yE (pv 1%zk) zD (by rfl)) (¬(!(T.cI\(zfd T,hr.mono #v[0],ym,pv 0::(pv 1%zk)::pv 2::zZ (pv 0) T.ae T.aC.mt (ZN T) (hr.mono #v[0]) T.aC.b .nil ym (zfq (v:= .ref T.bT) rfl T.dX rfl::zj)::zj)))) zC<|>zU (zX yE (pv 1%zk) zD (by rfl)) ((4^^^(T.aJ\(ih.1,hr.mono #v[0],ym,pv 0::(pv 1%zk)::pv 2::pv 3::zj)))<|>¬(!(T.cI\(zfd T,hr.mono #v[0],ym,pv 0::(pv 1%zk)::pv 4::(T.aJ\(ih.1,hr.mono #v[0],ym,pv 0::(pv 1%zk)::pv 2::pv 3::zj))::zj)))) zC<|>zU (zX yE (pv 1%zk) zD (by rfl)) (yD rfl T.aE ((pv 1%zk)::zj)>>=(↑5,¬(2^^^(T.aJ\(ih.1,hr.mono #v[0],ym,pv 0::(pv 1%zk)::pv 2::pv 3::zj))))<|>¬(!pv 2)) zC<|>zU (zX yE (pv 1%zk) zD (by rfl)) (¬(!(T.cO\(zjO T,hr.mono #v[0],ym,pv 0::zS ((top 31)∘(["block","store","aim","counted"],yO (0::2::3::yS),zkV (K:=K) (pv 1%zk),↑0,yR,T.aJ\(ih.1,hr.mono #v[0],vM,pv 1::pv 0::pv 2::pv 3::zj))) zj)))) zC<|>¬(!pv 2)),xS (VP (YA (yF Wa (yF yT (zv 1) (yJ _)) (Vb _))) (xH (xM (zu (zv 0) (zu (yF yT (zv 1) (yJ _)) (zu (yF yT (zv 1) (yJ _)) (zu (zv 2) zY)))))) vE) (xS (VP (YA (yF Wa (yF yT (zv 1) (yJ _)) (Vb _))) (xH (xM (zu (zv 0) (zu (yF yT (zv 1) (yJ _)) (zu (yF yT (zv 1) (yJ _)) (zu (zv 2) zY)))))) vE) (xS (VP (zm9 (YA (yF Wa (yF yT (zv 1) (yJ _)) (Vb _))) (zhn (zv 3))) (xH (wE T.ai (zv 0) (zu (zv 2) (zu (xM (zu (zv 0) (zu (yF yT (zv 1) (yJ _)) zY))) zY)))) vE) (xS (VP (YA (yF Wa (yF yT (zv 1) (yJ _)) (Vb _))) (xH (xM (zu (zv 0) (zu (yF yT (zv 1) (yJ _)) (zu (zv 2) (zu (wE T.ai (zv 0) (zu (zjc λj H=> .ct (λH=>T.eh H) (.cons (.int _) (.cons (.int _) .nil))) zY)) zY)))))) vE) (xS (VP (YA (yF Wa (yF yT (zv 1) (yJ _)) (Vb _))) (xS (XX (xM (zu (zv 0) (zu (yF yT (zv 1) (yJ _)) (zu (zv 2) (zu (zv 3) zY))))) wg) (xH (xM (zu (zv 0) (zu (yF yT (zv 1) (yJ _)) (zu (zv 4) (zu (xM (zu (zv 0) (zu (yF yT (zv 1) (yJ _)) (zu (zv 2) (zu (zv 3) zY))))) zY))))))) vE) (xS (VP (YA (yF Wa (yF yT (zv 1) (yJ _)) (Vb _))) (xS (znn (zbI (yF yT (zv 1) (yJ _))) wg (XX (xM (zu (zv 0) (zu (yF yT (zv 1) (yJ _)) (zu (zv 2) (zu (zv 3) zY))))) wg)) (xH (zv 2))) vE) (xS (VP (YA (yF Wa (yF yT (zv 1) (yJ _)) (Vb _))) (xH (xM (zu (zv 0) (zu (Tq (cap:=[fX,eO 0,eO 2,eO 3]) (zkW (yF yT (zv 1) (yJ _))) wg Tp (xM (zu (zv 1) (zu (zv 0) (zu (zv 2) (zu (zv 3) zY)))))) zY)))) vE) (xH (zv 2))))))))])
def zer(T:Tx K mg kA')(n:Nat):T.aJ.Ok P w base (65+n) 4 (yy n):=(zdP T n).1
def VB:TwS:=(zw (sIf (Um (bE (zx (Wh) [zi 1]))) zfK zP) (zO (zx (yy 6) [zi 0,zi 1,zi 2,zi 3])))
def Ze:TwF:=zQ 4 0 (VB)
def zgq:T.cH.Ok P w base 72 4 (Ze):=
 T.cH<$>(zga,VB,zU (Uf (wu (zep<*>(pv 1::zj)))) (¬zf3) zC<|>¬(!(T.aJ\(zer T 6,hr.mono ∅,ym,pv 0::pv 1::pv 2::pv 3::zj))))
def Zf:TwS:=(zw (zhC "Store" "boxes" (zi 0) (zi 1)) (zw (zhC "Store" "facts" (zi 0) (TJ [])) (zhC "Store" "numbers" (zi 0) Ve)))
def wP:TwF:=zQ 2 0 (Zf)
def zbe:T.aV.Ok P w mg base 1 2 (wP):=
 T.aV<$>(za8,Zf,ziM (pv 0) (pv 1) rfl<|>ziM (pv 0) (@Zx _ _ _ _ zj) rfl<|>¬ziM (pv 0) WE rfl)
def Zg:TwS:=(zw (sWh fu (bE (eOp (yH kb) (eOp zG (eOp wR (wq "Store" "facts" (zi 0)) (zi 1)) (oZ 0)) (qg "fork"))) (zI (eOp zG (yx "Store" "kids_of" (xD) (zi 0) [zi 1]) (eOp zG (zi 2) (yx "Store" "level_of" (yA) (zi 0) [zi 1]))) (gN 1))) (zO (eOp zG (eOp wR (wq "Store" "facts" (zi 0)) (zi 1)) (oZ 1))))
def Zh:TwF:=zQ 3 0 (Zg)
def zbf:T.aR.Ok P w mg base 2 3 (Zh):=
 T.aR<$>(zba,Zg,zaH PassesOwn.leaving (zX yE ((xG (pv 0) rfl&&&pv 1)%zk) zD (by rfl)) (¬(1^^^(zZ (pv 0) T.ae T.aA.mt (ZJ T) (hr.mono ∅) T.aA.b .nil ym (pv 1::zj)%(pv 2%zZ (pv 0) T.ae T.ao.mt (wO T) (hr.mono ∅) T.ao.b .nil ym (pv 1::zj)))))<|>¬(!((xG (pv 0) rfl&&&pv 1)%zk)))
def VC:TwS:=(zw (sIf (bE (eOp vV (eFn wx [zi 0]) (oZ 0))) (zO (oZ 0)) zP) (zO (eOp YB (eMt znh (zi 0) []) (zi 1))))
def zF:TwF:=zQ 2 0 (VC)
def zJ:T.cL.Ok P w base 1 2 (zF):=
 T.cL<$>(zgc,VC,zU (yr (xu (-pv 0) zk)) (¬(!zk)) zC<|>¬(!zL vo (zrG Ab PySem.F.slot_list_pop PySem.F.type_list_pop zrH (pv 0)) (pv 1)))
def VD:TwS:=(zw (zI (qg "") (gN 2)) (zw (vQ (iR1 (zi 1)) (gN 3) (zw (zI (eOp zaS (zi 2) (eOp zho (qg "abcdefghijklmnopqrstuvwxyz") (eOp YB (zi 0) (oZ 26)))) (gN 2)) (zI (eOp zaR (zi 0) (oZ 26)) (gN 0)))) (zO (zi 2))))
def Zi:TwF:=zQ 2 2 (VD)
def zbg:T.cJ.Ok P w base 1 2 (Zi):=
 T.cJ<$>(zgd,VD,(2^^^zD)<|>yD rfl T.aE (pv 1::zj)>>=(↑3,(2^^^zL zae (pv 2) (zft>>>(zD,zL vo (pv 0) zk)))<|>¬(0^^^zL zcJ (pv 0) zk))<|>¬(!pv 2))
def Wo:TwS:=(zw (zI (zx (zF) [zi 0,oZ 4]) (gN 2)) (zw (sIf (bE (eOp vV (zi 2) (oZ 1))) (zw (zI (TJ [qg "pass",qg "end",qg "lost",qg "set",qg "hand",qg "draw",qg "if",qg "gain",qg "while",qg "look",qg "times",qg "leaf",qg "fork"]) (gN 3)) (zw (zI (zx (zF) [zi 0,oZ 13]) (gN 4)) (zO (xP [fX,eO 3,eO 4] (iR1 (zi 1)) (gN 0) xQ (eOp wR (zi 1) (eOp YB (eOp vR (zi 2) (zi 0)) (oZ 13))))))) zP) (zw (zI (zx (Zi) [zx (zF) [zi 0,eOp zfP (oZ 26) (oZ 8)],oZ 8]) (gN 5)) (zw (sIf (zbG (bE (eOp vV (zi 2) (oZ 2))) (bE (eOp dLt (zi 1) (oZ 9)))) (zO (xP [fX,eO 5] (iR1 (zi 1)) (gN 0) xQ (eSl zda (zi 1) oNo (WI (eOp vR (zi 0) (oZ 1)))))) zP) (zw (zI (zx (zF) [zi 0,oZ 1664]) (gN 6)) (zw (zI (eOp vR (oZ 1) (eOp YB (zi 6) (oZ 8))) (gN 7)) (zw (zI (eOp YB (eOp zaR (zi 6) (oZ 8)) (zi 7)) (gN 8)) (zO (xP [fX,eO 5,eO 7,eO 8,eO 6] (iR1 (zi 1)) (gN 0) xQ (eOp zaS (eOp zaS (eSl zda (zi 1) oNo (WI (zi 3))) (zx (Zi) [eOp vR (eOp zaR (zi 4) (oZ 64)) (zi 0),oZ 1])) (eSl zda (zi 1) (WI (eOp vR (zi 3) (oZ 1))) (WI (zi 2)))))))))))))
def Wq:TwF:=zQ 2 7 (Wo)
def zes:T.cu.Ok P w base 2 2 (Wq):=
 T.cu<$>(zeh,Wo,(2^^^(zJ<*>(pv 0::zk::zj)))<|>zU (yr (xu (pv 2) zk)) ((3^^^@Zx _ _ _ _ (zD::zD::zD::zD::zD::zD::zD::zD::zD::zD::zD::zD::zD::zj))<|>(4^^^(zJ<*>(pv 0::zk::zj)))<|>¬(!(vj∘(["_law_k","_law_some","_law_turn"],yO (3::4::yS),yD rfl T.aE (pv 1::zj),↑0,yR,pv 1&&&zL vo (zL xF (pv 2) (pv 0)) zk)))) zC<|>(5^^^(zbg<*>((zJ<*>(pv 0::zL zby zk zk::zj))::zk::zj)))<|>zU (PW.pt (Ue (yr (xu (pv 2) zk)) (WU (yr (zb2 (pv 1) zk))))) (¬(!(vj∘(["_law_k","_law_word_here"],yO (5::yS),yD rfl T.aE (pv 1::zj),↑0,yR,WD zi0 (pv 1) zaJ (WX (zL xF (pv 0) zk)))))) zC<|>(6^^^(zJ<*>(pv 0::zk::zj)))<|>(7^^^zL xF zk (zL vo (pv 6) zk))<|>(8^^^zL vo (zL zcJ (pv 6) zk) (pv 7))<|>¬(!(vj∘(["_law_k","_law_word_here","_law_size","_law_at","_law_cell"],yO (5::7::8::6::yS),yD rfl T.aE (pv 1::zj),↑0,yR,zL zae (zL zae (WD zi0 (pv 1) zaJ (WX (pv 3))) (zbg<*(zL xF (zL zcJ (pv 4) zk) (pv 0)::zk::zj))) (WD zi0 (pv 1) (WX (zL xF (pv 3) zk)) (WX (pv 2)))))))
def Wr:TwS:=(zw (zI (zx (zF) [zi 0,oZ 40]) (gN 2)) (zw (sIf (bE (eOp dGt (zi 2) (oZ 9))) (zI (eOp vR (oZ 1) (eOp YB (zi 2) (oZ 3))) (gN 2)) zP) (zw (zI (yQ []) (gN 3)) (zw (zI (oZ 1) (gN 4)) (zw (vQ (iL (zx (Wq) [zi 0,zi 2])) (gN 5) (zw (zI (eOp vR (oZ 1) (zx (zF) [zi 0,oZ 9])) (gN 6)) (zw (sIf (zbG (bE (eOp dGt (zi 2) (oZ 1))) (bE (eOp dLt (zi 1) (oZ 100)))) (zI (eOp vR (oZ 1) (eOp YB (zi 6) (oZ 3))) (gN 6)) zP) (zw (zI (eFn zrZ [zi 6,eOp zdg (zi 1) (zi 4)]) (gN 6)) (zw (zI (eOp ZT (zi 3) (yQ [yQ [zi 5,zi 6]])) (gN 3)) (zI (eOp xZ (zi 4) (zi 6)) (gN 4))))))) (zO (zi 3)))))))
def Ws:TwF:=zQ 2 5 (Wr)
def zet:T.cw.Ok P w base 3 2 (Ws):=
 T.cw<$>(zei,Wr,(2^^^(zJ<*>(pv 0::zk::zj)))<|>zU (yr (zb3 (pv 2) zk)) (¬(2^^^zL xF zk (zL vo (pv 2) zk))) zC<|>(3^^^(~~~zj))<|>(4^^^zk)<|>(((zes<*>(pv 0::pv 2::zj))*0)>>=(↑5,(6^^^zL xF zk (zJ<*>(pv 0::zk::zj)))<|>zU (PW.pt (Ue (yr (zb3 (pv 2) zk)) (WU (yr (zb2 (pv 1) zk))))) (¬(6^^^zL xF zk (zL vo (pv 6) zk))) zC<|>(6^^^yh (zlo rfl) rfl T.gX boot_min (pv 6::zL zg9 (pv 1) (pv 4)::zj))<|>(3^^^zL (Yz (K:=K)) (pv 3) (~~~((~~~(pv 5::pv 6::zj))::zj)))<|>¬(4^^^zL yY (pv 4) (pv 6))))<|>¬(!pv 3))
def Yo:TwS:=(zw (zI (zx (zF) [zi 0,eOp vR (eOp zlN (oZ 2) (eFn wx [zi 1])) (oZ 3)]) (gN 2)) (zw (sIf (bE (eOp dGt (zi 2) (oZ 2))) (zO (eOp zG (eOp zG (zi 1) (eOp YB (zi 2) (eFn wx [zi 1]))) (oZ 0))) zP) (zw (sIf (bE (eOp vV (zi 2) (oZ 2))) (zO (zx (zF) [zi 0,eOp zfP (oZ 10) (oZ 9)])) zP) (zO (zx (zF) [zi 0,oZ 10])))))
def xq:TwF:=zQ 2 1 (Yo)
def wF:T.bR.Ok P w base 2 2 (xq):=
 T.bR<$>(zcC,Yo,(2^^^(zJ<*>(pv 0::zL xF (zL ziH zk (-pv 1)) zk::zj)))<|>zU (yr (zb3 (pv 2) zk)) (¬(!((pv 1%zL vo (pv 2) (-pv 1))%zk))) zC<|>zU (yr (xu (pv 2) zk)) (¬(!(zJ<*>(pv 0::zL zby zk zk::zj)))) zC<|>¬(!(zJ<*>(pv 0::zk::zj))))
def VE:TwS:=(zw (zI (zx (xq) [zi 0,zi 1]) (gN 2)) (zw (zI (eOp zho (qg "=<#") (zx (zF) [zi 0,oZ 3])) (gN 3)) (zO (yQ [zi 2,zi 3,zx (xq) [zi 0,zi 1]]))))
def YD:TwF:=zQ 2 2 (VE)
def zbh:T.cK.Ok P w base 3 2 (YD):=
 T.cK<$>(zge,VE,(2^^^(wF<*>(pv 0::pv 1::zj)))<|>(3^^^(zft>>>(zD,zJ<*>(pv 0::zk::zj))))<|>¬(!(~~~(pv 2::pv 3::(wF<*>(pv 0::pv 1::zj))::zj))))
def Zj:TwS:=(zw (zI (zx (zF) [zi 0,oZ 6]) (gN 3)) (zw (sIf (bE (eOp vV (zi 3) (oZ 5))) (zO (yQ [zi 2,qg "+",eOp vR (oZ 1) (zx (zF) [zi 0,oZ 8])])) zP) (zw (zI (zx (xq) [zi 0,zi 1]) (gN 4)) (zw (sIf (bE (eOp vV (zi 3) (oZ 4))) (zO (yQ [zi 4,qg "-",zi 2])) zP) (zw (sIf (bE (eOp vV (zi 3) (oZ 0))) (zO (yQ [zi 4])) zP) (zO (yQ [zi 4,eOp zho (qg " +-*") (zi 3),zx (xq) [zi 0,zi 1]])))))))
def Zk:TwF:=zQ 3 2 (Zj)
def zbi:T.bA.Ok P w base 3 3 (Zk):=
 T.bA<$>(zbb,Zj,(3^^^(zJ<*>(pv 0::zk::zj)))<|>zU (yr (xu (pv 3) zk)) (¬(!(~~~(pv 2::zD::zL xF zk (zJ<*>(pv 0::zk::zj))::zj)))) zC<|>(4^^^(wF<*>(pv 0::pv 1::zj)))<|>zU (yr (xu (pv 3) zk)) (¬(!(~~~(pv 4::zD::pv 2::zj)))) zC<|>zU (yr (xu (pv 3) zk)) (¬(!(~~~(pv 4::zj)))) zC<|>¬(!(~~~(pv 4::(zft>>>(zD,pv 3))::(wF<*>(pv 0::pv 1::zj))::zj))))
def Yp:TwS:=(zw (zI (oZ 4) (gN 2)) (zw (sIf (bE (eOp vV (zx (zF) [zi 0,oZ 4]) (oZ 1))) (zI (eOp zfP (oZ 10) (oZ 9)) (gN 2)) zP) (zw (zI (xP [fX,eO 0,eO 2] (iR1 (zi 1)) (gN 0) xQ (zx (zF) [zi 1,zi 2])) (gN 3)) (zw (zI (zx (zF) [zi 0,zi 1]) (gN 4)) (zw (zI (eFn zr0 [oZ 1,eOp wR (zi 3) (zi 4)]) (zdb (zi 3) (zi 4))) (zO (eFn XZ [zi 3])))))))
def Yq:TwF:=zQ 2 3 (Yp)
def zcH:T.bQ.Ok P w base 2 2 (Yq):=
 T.bQ<$>(zcD,Yp,(2^^^zk)<|>zU (yr (xu (zJ<*>(pv 0::zk::zj)) zk)) (¬(2^^^zL zby zk zk)) zC<|>(3∘(top 49)∘(["_law_k","_law_left","_law_most"],yO (0::2::yS),yD rfl T.aE (pv 1::zj),↑0,yR,zJ<*(pv 1::pv 2::zj)))<|>(4^^^(zJ<*>(pv 0::pv 1::zj)))<|>ziE (yh (zln rfl) rfl T.j9 boot_max (zk::(pv 3&&&pv 4)::zj)) (ziD (pv 3) (pv 4) zcU)<|>¬(!Zy (vN (K:=K)) rfl T.bK boot_tuple (pv 3::zj)))
def Xj:TwS:=(zw (sIf (bE (eOp (yH kb) (zi 2) (qg "gain"))) (zO (yQ [qg "gain",zx (xq) [zi 0,zi 1]])) zP) (zw (sIf (bE (eOp (yH kb) (zi 2) (qg "look"))) (zO (yQ [qg "look",zx (YD) [zi 0,zi 1]])) zP) (zw (sIf (bOr (bE (eOp vV (eFn wx [zi 1]) (oZ 0))) (bE (eOp (yH kb) (zi 2) (qg "pass")))) (zO (yQ [qg "pass"])) zP) (zw (zI (eOp zG (zi 1) (zx (zF) [zi 0,eFn wx [zi 1]])) (gN 3)) (zw (sIf (bE (eOp (yH kb) (zi 2) (qg "set"))) (zO (yQ [qg "set",eOp zG (zi 3) (oZ 0),zx (Zk) [zi 0,zi 1,eOp zG (zi 3) (oZ 0)]])) zP) (zO (yQ [qg "draw",eOp zG (zi 3) (oZ 0),zx (Yq) [zi 0,eOp zG (zi 3) (oZ 1)]])))))))
def Zl:TwF:=zQ 3 1 (Xj)
def Td:T.c9.Ok P w base 4 3 (Zl):=
 T.c9<$>(zdF,Xj,zU (zX yE (pv 2) zD (by rfl)) (¬(!(~~~(zD::(wF<*>(pv 0::pv 1::zj))::zj)))) zC<|>zU (zX yE (pv 2) zD (by rfl)) (¬(!(~~~(zD::(zbh<*>(pv 0::pv 1::zj))::zj)))) zC<|>zU (PW.pt (zeB (yr (xu (-pv 1) zk)) (zbw (zX yE (pv 2) zD (by rfl))))) (¬(!(~~~(zD::zj)))) zC<|>(3^^^(pv 1%(zJ<*>(pv 0::(-pv 1)::zj))))<|>zU (zX yE (pv 2) zD (by rfl)) (¬(!(~~~(zD::(pv 3%zk)::(zbi<*>(pv 0::pv 1::(pv 3%zk)::zj))::zj)))) zC<|>¬(!(~~~(zD::(pv 3%zk)::(zcH<*>(pv 0::(pv 3%zk)::zj))::zj))))
def Wt:TwS:=(zw (vQ (iR1 (eFn wx [zi 0])) (gN 3) (sIf (bE (eOp (yH kb) (eOp zG (eOp zG (zi 0) (zi 3)) (oZ 0)) (zi 2))) (zO (eOp zG (zi 1) (zi 3))) zP)) (zO (zi 2)))
def xB:TwF:=zQ 3 1 (Wt)
def vA:T.bL.Ok P w base 1 3 (xB):=
 T.bL<$>(zej,Wt,yD rfl T.aE ((-pv 0)::zj)>>=(↑3,¬zU (zX yE ((pv 0%pv 3)%zk) (pv 2) (by rfl)) (¬(!(pv 1%pv 3))) zC)<|>¬(!pv 2))
def Wu:TwS:=(zw (zI (zx (xB) [zi 0,zi 1,eOp zG (zi 2) (oZ 0)]) (gN 3)) (zw (zI (zx (xB) [zi 0,zi 1,eOp zG (zi 2) (oZ 2)]) (gN 4)) (zw (sIf (bE (eOp (yH kb) (eOp zG (zi 2) (oZ 1)) (qg "="))) (zO (eOp vV (zi 3) (zi 4))) zP) (zw (sIf (bE (eOp (yH kb) (eOp zG (zi 2) (oZ 1)) (qg "<"))) (zO (eOp dLt (zi 3) (zi 4))) zP) (zO (eOp zdh (zi 3) (zi 4)))))))
def vB:TwF:=zQ 3 2 (Wu)
def zaa:T.bM.Ok P w base 2 3 (vB):=
 T.bM<$>(zek,Wu,(3^^^(vA<*>(pv 0::pv 1::(pv 2%zk)::zj)))<|>(4^^^(vA<*>(pv 0::pv 1::(pv 2%zk)::zj)))<|>zU (zX yE (pv 2%zk) zD (by rfl)) (¬(!Zw (xu (pv 3) (pv 4)))) zC<|>zU (zX yE (pv 2%zk) zD (by rfl)) (¬(!Zw (zb2 (pv 3) (pv 4)))) zC<|>¬(!Zw (zac (pv 3) (pv 4))))
def Te:TwS:=(zw (zI (eFn zkF [zi 1]) (gN 4)) (zw (vQ (iR1 (eFn wx [zi 0])) (gN 5) (sIf (bE (eOp (yH kb) (eOp zG (eOp zG (zi 0) (zi 5)) (oZ 0)) (zi 2))) (zI (eOp YB (zi 3) (eOp zG (eOp zG (zi 0) (zi 5)) (oZ 1))) (zdb (zi 4) (zi 5))) zP)) (zO (eFn XZ [zi 4]))))
def vP:TwF:=zQ 4 2 (Te)
def zcn:T.cn.Ok P w base 1 4 (vP):=
 T.cn<$>(zhY,Te,(4^^^Zy (ziZ (K:=K)) rfl T.dW boot_list (pv 1::zj))<|>yD rfl T.aE ((-pv 0)::zj)>>=(↑5,¬zU (zX yE ((pv 0%pv 5)%zk) (pv 2) (by rfl)) (¬ziE (zL vo (pv 3) ((pv 0%pv 5)%zk)) (ziD (pv 4) (pv 5) zcU)) zC)<|>¬(!Zy (vN (K:=K)) rfl T.bK boot_tuple (pv 4::zj)))
def Tf:TwS:=(zw (zI (zx (xB) [zi 0,zi 1,eOp zG (eOp zG (zi 2) (oZ 2)) (oZ 0)]) (gN 3)) (zw (sIf (bE (eOp vV (eFn wx [eOp zG (zi 2) (oZ 2)]) (oZ 3))) (zw (zI (zx (xB) [zi 0,zi 1,eOp zG (eOp zG (zi 2) (oZ 2)) (oZ 2)]) (gN 4)) (zw (sIf (bE (eOp (yH kb) (eOp zG (eOp zG (zi 2) (oZ 2)) (oZ 1)) (qg "+"))) (zI (eOp vR (zi 3) (zi 4)) (gN 3)) zP) (zw (sIf (bE (eOp (yH kb) (eOp zG (eOp zG (zi 2) (oZ 2)) (oZ 1)) (qg "-"))) (zI (eOp zfO (zi 3) (zi 4)) (gN 3)) zP) (sIf (bE (eOp (yH kb) (eOp zG (eOp zG (zi 2) (oZ 2)) (oZ 1)) (qg "*"))) (zI (eOp xZ (zi 3) (zi 4)) (gN 3)) zP)))) zP) (zO (zx (vP) [zi 0,zi 1,eOp zG (zi 2) (oZ 1),zi 3]))))
def XO:TwF:=zQ 3 2 (Tf)
def zh6:T.ck.Ok P w base 2 3 (XO):=
 T.ck<$>(zhZ,Tf,(3^^^(vA<*>(pv 0::pv 1::((pv 2%zk)%zk)::zj)))<|>zU (yr (xu (-(pv 2%zk)) zk)) ((4^^^(vA<*>(pv 0::pv 1::((pv 2%zk)%zk)::zj)))<|>zU (zX yE ((pv 2%zk)%zk) zD (by rfl)) (¬(3^^^zL xF (pv 3) (pv 4))) zC<|>zU (zX yE ((pv 2%zk)%zk) zD (by rfl)) (¬(3^^^zL zad (pv 3) (pv 4))) zC<|>¬zU (zX yE ((pv 2%zk)%zk) zD (by rfl)) (¬(3^^^zL yY (pv 3) (pv 4))) zC) zC<|>¬(!(zcn<*>(pv 0::pv 1::(pv 2%zk)::pv 3::zj))))
def Tg:TwS:=(zw (zI (eFn zlO [zi 0]) (gN 2)) (zw (zI (zi 1) (gN 3)) (zw (sWh fu (bE (eOp dGt (zi 3) (oZ 0))) (zw (zI (eOp YB (zi 2) (zi 3)) (gN 4)) (zw (zI (zi 3) (gN 2)) (zI (zi 4) (gN 3))))) (zO (yQ [eOp UA (zi 0) (zi 2),eOp UA (zi 1) (zi 2)])))))
def Yb:TwF:=zQ 2 3 (Tg)
def Th:T.de.Ok P w base 33 2 (Yb):=
 T.de<$>(zh0,Tg,(2^^^yh zcS rfl T.g8 boot_abs (pv 0::zj))<|>(3^^^pv 1)<|>zaH PassesOwn.leaving (yr (zb3 (pv 3) zk)) ((4^^^zL vo (pv 2) (pv 3))<|>(2^^^pv 3)<|>¬(3^^^pv 4))<|>¬(!(~~~(zL (Uz hr) (pv 0) (pv 2)::zL (Uz hr) (pv 1) (pv 2)::zj))))
def Ti:TwS:=(zO (zx (Yb) [eOp vR (eOp xZ (eOp zG (zi 0) (oZ 0)) (eOp zG (zi 1) (oZ 1))) (eOp xZ (eOp zG (zi 1) (oZ 0)) (eOp zG (zi 0) (oZ 1))),eOp xZ (eOp zG (zi 0) (oZ 1)) (eOp zG (zi 1) (oZ 1))]))
def vc:TwF:=zQ 2 0 (Ti)
def Tj:T.bz.Ok P w base 34 2 (vc):=
 T.bz<$>(zh1,Ti,¬(!(Th<*>(zL xF (zL yY (pv 0%zk) (pv 1%zk)) (zL yY (pv 1%zk) (pv 0%zk))::zL yY (pv 0%zk) (pv 1%zk)::zj))))
def Wv:TwS:=(zw (zI (zx (zF) [zi 0,oZ 4]) (gN 1)) (zw (sIf (bE (eOp vV (zi 1) (oZ 1))) (zw (zI (eOp vR (eOp zfO (zx (zF) [zi 0,eOp zfO (eOp zlN (oZ 2) (eOp zfP (oZ 10) (oZ 60))) (oZ 1)]) (eOp zfP (oZ 10) (oZ 60))) (oZ 1)) (gN 2)) (zO (zx (Yb) [zi 2,eOp vR (oZ 1) (zx (zF) [zi 0,eOp zfO (eOp zfP (oZ 10) (oZ 60)) (oZ 1)])]))) zP) (zw (sIf (bE (eOp vV (zi 1) (oZ 2))) (zO (zx (Yb) [eOp zfO (zx (zF) [zi 0,oZ 21]) (oZ 10),eOp vR (oZ 1) (zx (zF) [zi 0,oZ 10])])) zP) (zO (yQ [eOp zfO (zx (zF) [zi 0,oZ 3]) (eOp zaR (zi 1) (oZ 3)),oZ 1])))))
def Ww:TwF:=zQ 1 2 (Wv)
def zeu:T.cm.Ok P w base 34 1 (Ww):=
 T.cm<$>(zel,Wv,(1^^^(zJ<*>(pv 0::zk::zj)))<|>zU (yr (xu (pv 1) zk)) ((2^^^zL xF (zL zad (zJ<*>(pv 0::zL zad (zL ziH zk (zL zby zk zk)) zk::zj)) (zL zby zk zk)) zk)<|>¬(!(Th<*>(pv 2::zL xF zk (zJ<*>(pv 0::zL zad (zL zby zk zk) zk::zj))::zj)))) zC<|>zU (yr (xu (pv 1) zk)) (¬(!(Th<*>(zL zad (zJ<*>(pv 0::zk::zj)) zk::zL xF zk (zJ<*>(pv 0::zk::zj))::zj)))) zC<|>¬(!(~~~(zL zad (zJ<*>(pv 0::zk::zj)) (zL zcJ (pv 1) zk)::zk::zj))))
def vk(dF:TwF):TwS:=(zw (sIf (bE (eUn (Vd "tuple") (zi 1))) (zw (sIf (bOr (Um (bE (eUn (Vd "tuple") (zi 0)))) (bE (eOp zdh (eFn wx [zi 0]) (eFn wx [zi 1])))) (zO (eC (.bl kb))) zP) (zO (eFn zht [xP [fX,eO 0,eO 1] (iR1 (eFn wx [zi 1])) (gN 0) xQ (zx dF [eOp zaP (zi 1) (zi 0),eOp zaP (zi 2) (zi 0)])]))) zP) (zw (sIf (bE (eUn (Vd "list") (zi 1))) (zw (sIf (bOr (Um (bE (eUn (Vd "list") (zi 0)))) (bE (eOp zdh (eFn wx [zi 0]) (eFn wx [zi 1])))) (zO (eC (.bl kb))) zP) (zO (eFn zht [xP [fX,eO 0,eO 1] (iR1 (eFn wx [zi 1])) (gN 0) xQ (zx dF [eOp zaP (zi 1) (zi 0),eOp zaP (zi 2) (zi 0)])]))) zP) (zw (sIf (bE (eUn zjd (zi 1))) (zO (eUn zjd (zi 0))) zP) (zw (sIf (bE (eUn (Vd "str") (zi 1))) (zO (zct (eUn (Vd "str") (zi 0)) (eOp (yH kb) (zi 0) (zi 1)))) zP) (zO (zct (eUn (Vd "int") (zi 0)) (zct (eB (Um (bE (eUn (Vd "bool") (zi 0))))) (eOp (yH kb) (zi 0) (zi 1)))))))))
def xi:Nat->TwF
 |0=>λ_ _=>fX
 |n+1=>zQ 2 0 (vk (xi n))
def wQ(n:Nat):xi (n+1)=zQ 2 0 (vk (xi n)):=by rfl
def zbj:xi 0=λ_ _=>fX:=by rfl
def zev:∀n:Nat,T.b9.Ok P w base (0+n) 2 (xi n):=by
 intro n
 induction n with
 |zero=>
  skip
  rw[zbj];show ZL
 |succ n ih=>
  .rw[wQ];show T.b9<$>(zgf,vk,zU (wu (yh (xC (K:=K)) rfl T.ax boot_isinstance (zS (pv 1) (zS (vg (v:= .ty "tuple") rfl T.bK boot_tuple rfl) zj)))) (zU (PW.pt (zeB (Uf (wu (yh (xC (K:=K)) rfl T.ax boot_isinstance (zS (pv 0) (zS (vg (v:= .ty "tuple") rfl T.bK boot_tuple rfl) zj))))) (zbw (yr (zac (-pv 0) (-pv 1)))))) (¬(!zkd)) zC<|>¬(!yh (zbE (K:=K) rfl) rfl T.g7 PyProof.Rows.Boot.«all» (zS (ZX∘(["_law_k","_law_found","_law_due"],yO (0::1::yS),yD rfl T.aE ((-pv 1)::zj),↑0,yR,T.b9\(ih,hr.mono #v[0],vM,(Tu (K:=K)>>>(pv 1,pv 0))::(Tu (K:=K)>>>(pv 2,pv 0))::zj))) zj))) zC<|>zU (wu (yh (xC (K:=K)) rfl T.ax boot_isinstance (zS (pv 1) (zS (vg (v:= .ty "list") rfl T.dW boot_list rfl) zj)))) (zU (PW.pt (zeB (Uf (wu (yh (xC (K:=K)) rfl T.ax boot_isinstance (zS (pv 0) (zS (vg (v:= .ty "list") rfl T.dW boot_list rfl) zj))))) (zbw (yr (zac (-pv 0) (-pv 1)))))) (¬(!zkd)) zC<|>¬(!yh (zbE (K:=K) rfl) rfl T.g7 PyProof.Rows.Boot.«all» (zS (ZX∘(["_law_k","_law_found","_law_due"],yO (0::1::yS),yD rfl T.aE ((-pv 1)::zj),↑0,yR,T.b9\(ih,hr.mono #v[0],vM,(Tu (K:=K)>>>(pv 1,pv 0))::(Tu (K:=K)>>>(pv 2,pv 0))::zj))) zj))) zC<|>zU (yr (ziC (pv 1))) (¬(!Zw (ziC (pv 0)))) zC<|>zU (wu (yh (xC (K:=K)) rfl T.ax boot_isinstance (zS (pv 1) (zS (vg (v:= .ty "str") rfl T.g5 boot_str rfl) zj)))) (¬(!Ug (yh (xC (K:=K)) rfl T.ax boot_isinstance (zS (pv 0) (zS (vg (v:= .ty "str") rfl T.g5 boot_str rfl) zj))) (zbx (zcK yE (pv 0) (pv 1) (by rfl))))) zC<|>¬(!Ug (yh (xC (K:=K)) rfl T.ax boot_isinstance (zS (pv 0) (zS (vg (v:= .ty "int") rfl T.g6 boot_int rfl) zj))) (Ug (zfr (yh (xC (K:=K)) rfl T.ax boot_isinstance (zS (pv 0) (zS (vg (v:= .ty "bool") rfl T.eP boot_bool rfl) zj)))) (zbx (zcK yE (pv 0) (pv 1) (by rfl))))))
def zgr(T:Tx K mg kA')(n:Nat):T.b9.Ok P w base (0+n) 2 (xi n):=(zev T n)
def Wx:TwS:=(zO (zct (eUn (Vd "int") (zi 0)) (eB (Um (bE (eUn (Vd "bool") (zi 0)))))))
def Wy:TwF:=zQ 1 0 (Wx)
def zew:T.cg.Ok P w base 1 1 (Wy):=
 T.cg<$>(zem,Wx,¬(!Ug (yh (xC (K:=K)) rfl T.ax boot_isinstance (zS (pv 0) (zS (vg (v:= .ty "int") rfl T.g6 boot_int rfl) zj))) (zbx (zfr (yh (xC (K:=K)) rfl T.ax boot_isinstance (zS (pv 0) (zS (vg (v:= .ty "bool") rfl T.eP boot_bool rfl) zj)))))))
def Xk:TwS:=(zw (zI (TJ [yQ []]) (gN 1)) (zw (vQ (iT (zi 0)) (gN 2) (zw (zI (TJ []) (gN 3)) (zw (vQ (iL (zi 1)) (gN 4) (VO (eMt Xx (zi 3) [xP [fX,eO 4] (iR1 (eOp zG (zi 2) (oZ 1))) (gN 0) xQ (eOp ZT (zi 1) (yQ [zi 0]))]))) (zI (zi 3) (gN 1))))) (zO (zi 1))))
def Xl:TwF:=zQ 1 4 (Xk)
def zdQ:T.c7.Ok P w base 1 1 (Xl):=
 T.c7<$>(zdG,Xk,(1^^^@Zx _ _ _ _ ((~~~zj)::zj))<|>Xu (K:=K) (pv 0)>>=(↑2,(3^^^@Zx _ _ _ _ zj)<|>((pv 1*0)>>=(↑4,¬Xs (zaL Ab Dr Ds (zc6 (K:=K)) (pv 3) (zS ((top 60)∘(["_law_number","_law_state"],yO (4::yS),yD rfl T.aE ((pv 2%zk)::zj),↑0,yR,zL (Yz (K:=K)) (pv 1) (~~~(pv 0::zj)))) zj))))<|>¬(1^^^pv 3))<|>¬(!pv 1))
def VF:TwS:=(zw (zI (xP [fX,eO 0] (iR1 (eOp vR (oZ 2) (zx (zF) [zi 0,oZ 3]))) (gN 0) xQ (zx (Ww) [zi 1])) (gN 2)) (zw (zI (zx (zF) [zi 0,oZ 1009]) (gN 3)) (zw (zI (zx (zF) [zi 0,oZ 1009]) (gN 4)) (zw (zI Ve (gN 5)) (zw (vQ (iL (zx (Xl) [zi 1])) (gN 6) (zw (zI (eFn zhH [zi 5]) (gN 7)) (zw (zI (eOp YB (eOp vR (eOp xZ (eOp xZ (zi 3) (zi 7)) (zi 7)) (eOp xZ (zi 4) (zi 7))) (oZ 1009)) (gN 8)) (XB (zi 5) (zi 6) (eOp wR (zi 2) (eOp YB (zi 8) (eFn wx [zi 2]))))))) (zO (zi 5)))))))
def VG:TwF:=zQ 2 7 (VF)
def zgs:T.cN.Ok P w base 35 2 (VG):=
 T.cN<$>(zgg,VF,(2∘(top 61)∘(["_law_k","_law_left"],yO (0::yS),yD rfl T.aE (zL xF zk (zJ<*>(pv 0::zk::zj))::zj),↑0,yR,zeu<*(pv 1::zj)))<|>(3^^^(zJ<*>(pv 0::zk::zj)))<|>(4^^^(zJ<*>(pv 0::zk::zj)))<|>(5^^^WE)<|>(((zdQ<*>(pv 1::zj))*0)>>=(↑6,(7^^^yh zlS rfl T.gY boot_len (pv 5::zj))<|>(8^^^zL vo (zL xF (zL yY (zL yY (pv 3) (pv 7)) (pv 7)) (zL yY (pv 4) (pv 7))) zk)<|>¬za1 (K:=K) hr (pv 5) (pv 6) (pv 2&&&zL vo (pv 8) (-pv 2)) rfl))<|>¬(!pv 5))
def Zm(f9:TwF):TwS:=(zw (zI (eFn wx [zi 3]) (gN 4)) (zw (sIf (bE (eOp vV (zi 4) (eFn wx [zi 1]))) (zO (yx "Store" "leaf" (wH) (zi 0) [zak (zi 2) (zi 3)])) zP) (zw (zI (TJ []) (gN 5)) (zw (vQ (iR1 (eOp zG (eOp zG (zi 1) (zi 4)) (oZ 1))) (gN 6) (VO (eMt vD (zi 5) [zx f9 [zi 0,zi 1,zi 2,eOp ZT (zi 3) (yQ [zi 6])]]))) (zO (yx "Store" "fork" (wI) (zi 0) [zi 4,zi 5]))))))
def xz:Nat->TwF
 |0=>λ_ _=>fX
 |n+1=>zQ 4 3 (Zm (xz n))
def Zn(n:Nat):xz (n+1)=zQ 4 3 (Zm (xz n)):=by rfl
def zbk:xz 0=λ_ _=>fX:=by rfl
def zex:∀n:Nat,T.bg.Ok P w base (2+n) 4 (xz n):=by
 intro n
 induction n with
 |zero=>
  skip
  rw[zbk];show ZL
 |succ n ih=>
  .rw[Zn];show T.bg<$>(zgh,Zm,(4^^^(-pv 3))<|>zU (yr (xu (pv 4) (-pv 1))) (¬(!zZ (pv 0) T.ae T.aC.mt (ZN T) (hr.mono #v[0]) T.aC.b .nil ym (Uq (K:=K) hr (pv 2) (pv 3) (λ_ _=>rfl)::zj))) zC<|>(5^^^@Zx _ _ _ _ zj)<|>yD rfl T.aE (((pv 1%pv 4)%zk)::zj)>>=(↑6,¬Xs (zaL Ab AK AO Zz (pv 5) ((T.bg\(ih,hr.mono #v[0],ym,pv 0::pv 1::pv 2::zL (Yz (K:=K)) (pv 3) (~~~(pv 6::zj))::zj))::zj)))<|>¬(!zZ (pv 0) T.ae T.aD.mt (ZO T) (hr.mono #v[0]) T.aD.b .nil ym (pv 4::pv 5::zj)))
def zbl(T:Tx K mg kA')(n:Nat):T.bg.Ok P w base (2+n) 4 (xz n):=(zex T n)
def Wz:TwS:=(zw (vQ (iDN (zi 3)) (gN 4) (sIf (Um (bE (zx (xi 10) [yx "Store" "value_at" (Zh) (zi 0) [zi 2,zi 4],zak (zi 3) (zi 4)]))) (zO (eC (.bl kb))) zP)) (zO (zct (zx (Wy) [zi 2]) (eOp vV (zi 2) (zx (xz 12) [zi 0,zi 1,zi 3,yQ []])))))
def wL:TwF:=zQ 4 1 (Wz)
def zab:T.cj.Ok P w base 15 4 (wL):=
 T.cj<$>(zen,Wz,zhQ (pv 3)>>=(↑4,¬zU (Uf (wu (T.b9\(zgr T 10,hr.mono ∅,ym,zZ (pv 0) T.ae T.aR.mt (zbf T) (hr.mono ∅) T.aR.b .nil ym (pv 2::pv 4::zj)::Uq (K:=K) hr (pv 3) (pv 4) (λ_ _=>rfl)::zj)))) (¬(!zkd)) zC)<|>¬(!Ug (zew<*>(pv 2::zj)) (zbx (Zw (xu (pv 2) (T.bg\(zbl T 12,hr.mono ∅,ym,pv 0::pv 1::pv 3::(~~~zj)::zj)))))))
def ve:TwS:=(zw (sIf (bE (eOp (yH kb) (eOp zG (zi 1) (oZ 0)) (qg "times"))) (zO (eOp zhF (eOp zG (zi 1) (oZ 2)) (eOp zG (zi 1) (oZ 1)))) zP) (zw (sIf (bE (eOp (yH kb) (eOp zG (zi 1) (oZ 0)) (qg "if"))) (zw (sIf (bE (zx (vB) [zi 0,zi 2,eOp zG (zi 1) (oZ 1)])) (zO (eOp zG (zi 1) (oZ 2))) zP) (zO (eOp zG (zi 1) (oZ 3)))) zP) (zO (yQ []))))
def wm:TwF:=zQ 3 0 (ve)
def zdR:T.bB.Ok P w base 3 3 (wm):=
 T.bB<$>(zdH,ve,zU (zX yE (pv 1%zk) zD (by rfl)) (¬(!zL (zm6 (K:=K)) (pv 1%zk) (pv 1%zk))) zC<|>zU (zX yE (pv 1%zk) zD (by rfl)) (zU (wu (zaa<*>(pv 0::pv 2::(pv 1%zk)::zj))) (¬(!(pv 1%zk))) zC<|>¬(!(pv 1%zk))) zC<|>¬(!(~~~zj)))
def YE(dG:TwF):TwS:=(zw (zI (oZ 0) (gN 5)) (zw (sWh fu (bE (eOp dGt (eFn wx [zi 1]) (oZ 0))) (zw (zI (eOp zG (zi 1) (oZ 0)) (gN 6)) (zw (zI (eSl zje (zi 1) (WI (oZ 1)) oNo) (gN 1)) (zw (sIf (bE (eOp (yH kb) (eOp zG (zi 6) (oZ 0)) (qg "draw"))) (zw (zI (yQ [zi 5,oZ 1]) (gN 7)) (zw (vQ (iR1 (eFn wx [eOp zG (zi 6) (oZ 2)])) (gN 8) (zw (zI (zx (vP) [zi 0,zi 2,eOp zG (zi 6) (oZ 1),zi 8]) (gN 9)) (sIf (bE (eOp dGt (eOp zG (eOp zG (zi 6) (oZ 2)) (zi 8)) (oZ 0))) (zw (zI (zx dG [zi 0,zi 1,zi 9,zi 3,zi 4]) (gN 10)) (zw (zI (yQ [eOp xZ (eOp zG (zi 10) (oZ 0)) (eOp zG (eOp zG (zi 6) (oZ 2)) (zi 8)),eOp xZ (eOp zG (zi 10) (oZ 1)) (eFn zdk [eOp zG (zi 6) (oZ 2)])]) (gN 11)) (zI (zx (vc) [zi 7,zi 11]) (gN 7)))) zP))) (zO (zi 7)))) zP) (zw (sIf (bE (eOp (yH kb) (eOp zG (zi 6) (oZ 0)) (qg "hand"))) (zw (zI (TJ []) (gN 12)) (zw (vQ (iA (eOp zG (zi 6) (oZ 1))) (gN 13) (VO (eMt vD (zi 12) [zx dG [zi 0,eOp ZT (zi 13) (zi 1),zi 2,zi 3,zi 4]]))) (zw (zI (eOp wR (zi 12) (oZ 0)) (gN 14)) (zw (vQ (iL (zi 12)) (gN 13) (sIf (bE (eOp dLt (eOp xZ (eOp zG (zi 14) (oZ 0)) (eOp zaP (zi 13) (oZ 1))) (eOp xZ (eOp zaP (zi 13) (oZ 0)) (eOp zG (zi 14) (oZ 1))))) (zI (zi 13) (gN 14)) zP)) (zO (zx (vc) [zi 14,yQ [zi 5,oZ 1]])))))) zP) (zw (sIf (zbG (bE (eOp (yH kb) (eOp zG (zi 6) (oZ 0)) (qg "look"))) (Um (bE (zx (vB) [zi 0,zi 2,eOp zG (zi 6) (oZ 1)])))) (zO (yQ [zi 5,oZ 1])) zP) (zw (sIf (zbG (bE (eOp (yH kb) (eOp zG (zi 6) (oZ 0)) (qg "gain"))) (bE (zi 4))) (zI (eOp vR (zi 5) (zx (xB) [zi 0,zi 2,eOp zG (zi 6) (oZ 1)])) (gN 5)) zP) (zw (sIf (bE (eOp (yH kb) (eOp zG (zi 6) (oZ 0)) (qg "set"))) (zI (zx (XO) [zi 0,zi 2,zi 6]) (gN 2)) zP) (zI (eOp ZT (zx (wm) [zi 0,zi 6,zi 2]) (zi 1)) (gN 1)))))))))) (zO (zx (vc) [zak (zi 3) (zi 2),yQ [zi 5,oZ 1]]))))
def yU:Nat->TwF
 |0=>λ_ _=>fX
 |n+1=>zQ 5 10 (YE (yU n))
def XQ(n:Nat):yU (n+1)=zQ 5 10 (YE (yU n)):=by rfl
def zbm:yU 0=λ_ _=>fX:=by rfl
def zey:∀n:Nat,T.bh.Ok P w base (34+n) 5 (yU n):=by
 intro n
 induction n with
 |zero=>
  skip
  rw[zbm];show ZL
 |succ n ih=>
  .rw[XQ];show T.bh<$>(zgi,YE,(5^^^zk)<|>zaH PassesOwn.leaving (yr (zb3 (-pv 1) zk)) ((6^^^(pv 1%zk))<|>(1^^^WD (zpt (K:=K)) (pv 1) (WX zk) zaJ)<|>zU (zX yE (pv 6%zk) zD (by rfl)) ((7^^^(~~~(pv 5::zk::zj)))<|>yD rfl T.aE ((-(pv 6%zk))::zj)>>=(↑8,(9^^^(T.cn\(zcn T,hr.mono #v[0],ym,pv 0::pv 2::(pv 6%zk)::pv 8::zj)))<|>¬zU (yr (zb3 ((pv 6%zk)%pv 8) zk)) ((10^^^(T.bh\(ih,hr.mono #v[0],ym,pv 0::pv 1::pv 9::pv 3::pv 4::zj)))<|>(11^^^(~~~(zL yY (pv 10%zk) ((pv 6%zk)%pv 8)::zL yY (pv 10%zk) (yh (zc4 (K:=K) rfl) rfl T.fZ PyProof.Rows.Boot.«sum» ((pv 6%zk)::zj))::zj)))<|>¬(7^^^(T.bz\(Tj T,hr.mono #v[0],ym,pv 7::pv 11::zj)))) zC)<|>¬(!pv 7)) zC<|>zU (zX yE (pv 6%zk) zD (by rfl)) ((12^^^@Zx _ _ _ _ zj)<|>zkV (K:=K) (pv 6%zk)>>=(↑13,¬Xs (zaL Ab AK AO Zz (pv 12) ((T.bh\(ih,hr.mono #v[0],ym,pv 0::zL (Yz (K:=K)) (pv 13) (pv 1)::pv 2::pv 3::pv 4::zj))::zj)))<|>(14^^^(pv 12&&&zk))<|>((pv 12*0)>>=(↑13,¬zU (yr (zb2 (zL yY (pv 14%zk) (Tu (K:=K)>>>(pv 13,zk))) (zL yY (Tu (K:=K)>>>(pv 13,zk)) (pv 14%zk)))) (¬(14^^^pv 13)) zC))<|>¬(!(T.bz\(Tj T,hr.mono #v[0],ym,pv 14::(~~~(pv 5::zk::zj))::zj)))) zC<|>zU (PW.pt (Ue (zX yE (pv 6%zk) zD (by rfl)) (WU (Uf (wu (T.bM\(zaa T,hr.mono #v[0],ym,pv 0::pv 2::(pv 6%zk)::zj))))))) (¬(!(~~~(pv 5::zk::zj)))) zC<|>zU (PW.pt (Ue (zX yE (pv 6%zk) zD (by rfl)) (WU (wu (pv 4))))) (¬(5^^^zL xF (pv 5) (T.bL\(vA T,hr.mono #v[0],ym,pv 0::pv 2::(pv 6%zk)::zj)))) zC<|>zU (zX yE (pv 6%zk) zD (by rfl)) (¬(2^^^(T.ck\(zh6 T,hr.mono #v[0],ym,pv 0::pv 2::pv 6::zj)))) zC<|>¬(1^^^zL (Yz (K:=K)) (T.bB\(zdR T,hr.mono #v[0],ym,pv 0::pv 6::pv 2::zj)) (pv 1)))<|>¬(!(T.bz\(Tj T,hr.mono #v[0],ym,Uq (K:=K) hr (pv 3) (pv 2) (λ_ _=>rfl)::(~~~(pv 5::zk::zj))::zj))))
def zgt(T:Tx K mg kA')(n:Nat):T.bh.Ok P w base (34+n) 5 (yU n):=(zey T n)
def WA:TwS:=(zw (zI (yQ []) (gN 3)) (zw (vQ (iR1 (zx (zF) [zi 0,oZ 3])) (gN 4) (zw (zI (eOp wR (zi 2) (zx (zF) [zi 0,eFn wx [zi 2]])) (gN 5)) (zw (sIf (zbG (bE (eOp dGt (eFn wx [zi 3]) (oZ 0))) (zbG (bE (eOp (yH kb) (eOp zG (eOp zG (zi 3) (oZ 0)) (oZ 0)) (qg "draw"))) (bE (eOp (yH kb) (zi 5) (qg "draw"))))) (zI (qg "gain") (gN 5)) zP) (zI (eOp ZT (zi 3) (yQ [zx (Zl) [zi 0,zi 1,zi 5]])) (gN 3))))) (zO (zi 3))))
def we:TwF:=zQ 3 3 (WA)
def ZQ:T.cq.Ok P w base 5 3 (we):=
 T.cq<$>(zeo,WA,(3^^^(~~~zj))<|>yD rfl T.aE ((zJ<*>(pv 0::zk::zj))::zj)>>=(↑4,(5^^^(pv 2&&&(zJ<*>(pv 0::(-pv 2)::zj))))<|>zU (PW.pt (Ue (yr (zb3 (-pv 3) zk)) (Ue (zX yE ((pv 3%zk)%zk) zD (by rfl)) (WU (zX yE (pv 5) zD (by rfl)))))) (¬(5^^^zD)) zC<|>¬(3^^^zL (Yz (K:=K)) (pv 3) (~~~((Td<*>(pv 0::pv 1::pv 5::zj))::zj))))<|>¬(!pv 3))
def VH:TwS:=(zw (zI (TJ [qg "set",qg "gain",qg "draw",qg "look",qg "pass"]) (gN 3)) (zw (sIf (bE (eOp (yH kb) (zi 2) (qg "if"))) (zw (zI (zx (YD) [zi 0,zi 1]) (gN 4)) (zw (zI (zx (we) [zi 0,zi 1,zi 3]) (gN 5)) (zO (yQ [qg "if",zi 4,zi 5,zx (we) [zi 0,zi 1,zi 3]])))) zP) (zw (sIf (bE (eOp (yH kb) (zi 2) (qg "times"))) (zw (zI (zx (zF) [zi 0,oZ 25]) (gN 6)) (zO (yQ [qg "times",zi 6,zx (we) [zi 0,zi 1,TJ [qg "set",qg "gain",qg "look",qg "pass"]]]))) zP) (zw (sIf (bE (eOp (yH kb) (zi 2) (qg "hand"))) (zw (zI (eOp vR (oZ 2) (zx (zF) [zi 0,oZ 7])) (gN 7)) (zw (sIf (bE (eOp dGt (zi 7) (oZ 3))) (zI (TJ [qg "set",qg "gain",qg "look",qg "pass"]) (gN 3)) zP) (zw (zI (zx (zF) [zi 0,eOp zlN (oZ 2) (zi 7)]) (gN 8)) (zw (zI (xP [fX,eO 0,eO 1,eO 3] (iR1 (zi 7)) (gN 0) xQ (zx (we) [zi 1,zi 2,zi 3])) (gN 9)) (zw (sIf (bE (eOp dLt (zi 8) (zi 7))) (zI (yQ [yQ [qg "gain",oZ 99],yQ [qg "gain",oZ 9]]) (zdb (zi 9) (zi 8))) zP) (zO (yQ [qg "hand",eFn XZ [zi 9]]))))))) zP) (zO (zx (Zl) [zi 0,zi 1,zi 2]))))))
def VI:TwF:=zQ 3 7 (VH)
def zgu:T.cM.Ok P w base 6 3 (VI):=
 T.cM<$>(zgj,VH,(3^^^@Zx _ _ _ _ (zD::zD::zD::zD::zD::zj))<|>zU (zX yE (pv 2) zD (by rfl)) ((4^^^(zbh<*>(pv 0::pv 1::zj)))<|>(5^^^(ZQ<*>(pv 0::pv 1::pv 3::zj)))<|>¬(!(~~~(zD::pv 4::pv 5::(ZQ<*>(pv 0::pv 1::pv 3::zj))::zj)))) zC<|>zU (zX yE (pv 2) zD (by rfl)) ((6^^^(zJ<*>(pv 0::zk::zj)))<|>¬(!(~~~(zD::pv 6::(ZQ<*>(pv 0::pv 1::@Zx _ _ _ _ (zD::zD::zD::zD::zj)::zj))::zj)))) zC<|>zU (zX yE (pv 2) zD (by rfl)) ((7^^^zL xF zk (zJ<*>(pv 0::zk::zj)))<|>zU (yr (zb3 (pv 7) zk)) (¬(3^^^@Zx _ _ _ _ (zD::zD::zD::zD::zj))) zC<|>(8^^^(zJ<*>(pv 0::zL ziH zk (pv 7)::zj)))<|>(9∘(top 67)∘(["_law_k","_law_left","_law_boxes_here","_law_kinds"],yO (0::1::3::yS),yD rfl T.aE (pv 7::zj),↑0,yR,ZQ<*(pv 1::pv 2::pv 3::zj)))<|>zU (yr (zb2 (pv 8) (pv 7))) (¬ziE (~~~((~~~(zD::zk::zj))::(~~~(zD::zk::zj))::zj)) (ziD (pv 9) (pv 8) zcU)) zC<|>¬(!(~~~(zD::Zy (vN (K:=K)) rfl T.bK boot_tuple (pv 9::zj)::zj)))) zC<|>¬(!(Td<*>(pv 0::pv 1::pv 2::zj))))
def zjP:TwS:=(zw (zI (eUn Uo (eSl zhp (zi 0) oNo (WI (oZ 200)))) (gN 1)) (zw (zI (eOp wR (TJ [qg "none",qg "draw",qg "look",qg "if",qg "times",qg "hand",qg "gain",qg "set",qg "pass"]) (zx (zF) [zi 1,oZ 9])) (gN 2)) (zw (zI (zx (zF) [zi 1,oZ 2]) (gN 3)) (zw (zI (zx (Ws) [zi 1,oZ 18]) (gN 4)) (zw (zI (yQ []) (gN 5)) (zw (sIf (bE (eOp (yH gP) (zi 2) (qg "none"))) (zI (yQ [zx (VI) [zi 1,zi 4,zi 2]]) (gN 5)) zP) (zw (zI (zx (VG) [zi 1,zi 4]) (gN 6)) (zw (zI (zfY "Store" (wP) [zi 4]) (gN 7)) (zw (zI (zx (xz 12) [zi 7,zi 4,zi 6,yQ []]) (gN 8)) (zw (zI (TJ []) (gN 9)) (zw (vQ (iR1 (oZ 4)) (gN 10) (zw (zI (eOp vV (eOp YB (eOp vR (zi 3) (zi 10)) (oZ 2)) (oZ 0)) (gN 11)) (zw (zI Ve (gN 12)) (zw (vQ (iDN (zi 6)) (gN 13) (XB (zi 12) (zi 13) (zx (yU 12) [zi 4,zi 5,zi 13,zi 6,zi 11]))) (zw (VO (eMt vD (zi 9) [zx (Ze) [zi 7,zi 5,zi 8,zi 11]])) (sIf (bOr (Um (bE (zx (wL) [zi 7,zi 4,eOp wR (zi 9) (zi 10),zi 12]))) (zbG (bE (eOp (yH kb) (zi 2) (qg "none"))) (bE (eOp zdh (eOp wR (zi 9) (zi 10)) (zi 8))))) (zO (eC (.bl kb))) zP)))))) (zO (zct (eOp vV (eOp wR (zi 9) (oZ 0)) (eOp wR (zi 9) (oZ 2))) (zct (eOp vV (eOp wR (zi 9) (oZ 1)) (eOp wR (zi 9) (oZ 3))) (zx (wL) [zi 7,zi 4,zi 8,zi 6])))))))))))))))
def zjQ:TwF:=zQ 1 13 (zjP)
def zpZ:T.e8.Ok P w base 73 1 (zjQ):=
 T.e8<$>(zsn,zjP,(1^^^zi5 (K:=K) rfl rfl T.dW rfl T.cZ (WD (zhb (K:=K)) (pv 0) zaJ (WX zk)))<|>(2^^^(@Zx _ _ _ _ (zD::zD::zD::zD::zD::zD::zD::zD::zD::zj)&&&(zJ<*>(pv 1::zk::zj))))<|>(3^^^(zJ<*>(pv 1::zk::zj)))<|>(4^^^(zet<*>(pv 1::zk::zj)))<|>(5^^^(~~~zj))<|>zU (zX ztb (pv 2) zD (by rfl)) (¬(5^^^(~~~((zgu<*>(pv 1::pv 4::pv 2::zj))::zj)))) zC<|>(6^^^(zgs<*>(pv 1::pv 4::zj)))<|>(7^^^zo9 T.fj (zbe T) (hr.mono ∅) rfl T.gf T.aV.b .nil ym (pv 4::zj))<|>(8^^^(T.bg\(zbl T 12,hr.mono ∅,ym,pv 7::pv 4::pv 6::(~~~zj)::zj)))<|>(9^^^@Zx _ _ _ _ zj)<|>yD rfl T.aE (zk::zj)>>=(↑10,(11^^^Zw (xu (zL vo (zL xF (pv 3) (pv 10)) zk) zk))<|>(12^^^WE)<|>zhQ (pv 6)>>=(↑13,¬za1 (K:=K) hr (pv 12) (pv 13) (T.bh\(zgt T 12,hr.mono ∅,ym,pv 4::pv 5::pv 13::pv 6::pv 11::zj)) rfl)<|>Xs (zaL Ab AK AO Zz (pv 9) ((zgq<*>(pv 7::pv 5::pv 8::pv 11::zj))::zj))<|>¬zU (PW.pt (zeB (Uf (wu (zab<*>(pv 7::pv 4::(pv 9&&&pv 10)::pv 12::zj)))) (zbw (PW.pt (Ue (zX yE (pv 2) zD (by rfl)) (WU (yr (zac (pv 9&&&pv 10) (pv 8))))))))) (¬(!zkd)) zC)<|>¬(!Ug (Zw (xu (pv 9&&&zk) (pv 9&&&zk))) (Ug (Zw (xu (pv 9&&&zk) (pv 9&&&zk))) (zbx (zab<*>(pv 7::pv 4::pv 8::pv 6::zj))))))
end
section
open Mth
def Big(fu:Nat):Prop:=2^9000<=fu
def Big.le(h:Big fu):1000000<=fu:=uP (show 1000000<=2^20 by decide) (uP (Bu ∅ ∅) h)
local macro_rules(kind:=PyProof.Rows.tacticWalk_at_)|s=>do
 let w(n r:String):Lean.MacroM _:=do zTs <$> zTp (.mk [<-zTw (<-zTn "apply" "" n),<-`(tactic|walk_at $(Lean.Syntax.mkStrLit r))])
 match s[1].isStrLit?.getD "" with
 |"w1"=>zTg (.mk [zTs (<-zTw (<-zTn "apply" "" "ZU")),<-w "zr" "we",zTs (<-zTw (<-zTn "apply" "" "yw,zr3,zt,zpK,zo")),<-w "zR" "wu",zTs (<-zTw (<-zTn "apply" "" "zaX,yc,mv,zN,znH,xj,ztF,zfT,zm,YQ,zjl,xR,yb,znI,zkM,znJ,zr6,zr7,mI,ztG,oR,ztH,ztI,zjm,znL,zsa,zsb,zsc,zsd")),<-w "zr9" "w9",<-w "zr8" "w8",zTs (<-zTw (<-zTn "refine" "" "Exists.intro _ BP;rfl;*"))])
 |"we"=>`(tactic|exact rfl)
 |"wu"=>`(tactic|try dsimp only[uO])
 |"w9"=>`(tactic|exact#[∅,∅,∅])
 |"w8"=>zTg (<-zTn "exact" "" ".inl ?de,.inr ?de")
 |"w"=>`(tactic|repeat walk_at "w1")
 |"wr"=>`(tactic|(show zr5 rfl rfl ?_; dsimp only [List.map, HAppend.hAppend, Append.append, List.append, List.replicate]))
 |_=>Lean.Macro.throwUnsupported
local macro_rules|`(tactic|ext)=>`(tactic|walk_at "w")
section
variable{S' S2:Sto}{x y:Xv}
def yK{c:Prop}[Decidable c]{A B:Prop}(h:c->A)(g:¬c->B):(decide c=gP->A)/\(decide c=kb->B):=#[λe=>h (of_decide_eq_true e),λe=>g (of_decide_eq_false e)]
def Kp(w:Nat->Prop)(S S':Sto):Prop:=S.length<=S'.length/\∀(n:Nat) c,S[n]? =eO c->¬w n->S'[n]? =eO c
def Kp.refl(w:Nat->Prop):Kp w S S:=#[uL _,λ_ _ e _=>e]
def Kp.trans{w:Nat->Prop}(a:Kp w S S')(b:Kp w S' S2):Kp w S S2:=#[uP a.1 b.1,λn c e z=>b.2 n c (a.2 n c e z) z]
def Kp.mono{w w':Nat->Prop}(a:Kp w S S')(h:∀n,w n->w' n):Kp w' S S':=#[a.1,λn c e z=>a.2 n c e λq=>z (h n q)]
def Kp.pre{w:Nat->Prop}(p:S<+:S'):Kp w S S':=#[p.length_le,λn c e _=>by
 have#[T,rfl]:=p;rw[uN (uF.1 e).1]
 show e]
def Kp.app{w:Nat->Prop}(a:Kp w S S'):Kp w S (S'++T):=a.trans (Kp.pre (uI _ _))
def Kp.set{w:Nat->Prop}(a:Kp w S S')(h:w n\/S.length<=n):Kp w S (S'.set n c):=#[by simpa using a.1,λm d e z=>by
 rw[A4];have hm:=(uF.1 e).1
 rw[Gw λq=>by
  subst q;rcases h with h|h;show z h
  omega]
 show a.2 m d e z]
def yC:(S++[c])[S.length]? =eO c:=by simp
def xK(h:S[n]? =eO c):(S.set n c')[n]? =eO c':=by rw[A4,Gv rfl,Gv (uF.1 h).1]
def xL(h:S[m]? =eO c)(q:n≠m):(S.set n c')[m]? =eO c:=by rw[A4,Gw q];show h
def XR(h:n<=100):n<FC:=uT h ∅
def ya(mx ln:Nat)(S:Sto):Prop:=∃ns:kh Int,S[ln]? =eO (.lst (ns.map Xv.int))/\ns.length<=mx
def ya.keep{w:Nat->Prop}(h:ya mx ln S)(k:Kp w S S')(z:¬w ln):ya mx ln S':=by
 have#[ns,e,l]:=h;show#[ns,k.2 _ _ e z,l]
def ya.more(h:ya mx ln S)(k:mx<=my):ya my ln S:=by
 have#[ns,e,l]:=h;show#[ns,e,uP l k]
def zp0(hl:ya mx ln S)(hm:0<many):W (zF [.ref ln,.int many] S) λv S'=>∃c,v= .int c/\0<=c/\c<many/\ya (mx-1) ln S'/\Kp (· =ln) S S':=by
 have#[ns,e,l]:=id hl;delta VC;calc zy ?_;calc zfU (zA e) ?_;ext;rw[uM];show yK (λh=> ?_) (λh=> ?_);ext;show#[⋯,hm,#[ns,e,⋯],Kp.refl _]
 calc TU ?_;calc#[#[_,zA e],?_];ext;have hn:ns.length-1<ns.length:=by omega
 show WO.of (show znh (.ref ln) [] S = eO (.int ns[ns.length - 1], S.set ln (.lst (ns.dropLast.map Xv.int))) by
  unfold znh;rw[vh e];dsimp only;rw[uM,uK,uH hn,<-List.map_dropLast]
  rfl) ?_
 calc vt hm ?_;show#[_,rfl,Ac _ ⋯,Aj _ hm,#[_,xK e,by rw[DU];omega],(Kp.refl _).set (.inl rfl)]
def yL(hl:ya mx ln S)(hm:0<many):W (zF [.ref ln,.int many] S) λv S'=>∃c,v= .int c/\0<=c/\c<many/\ya mx ln S'/\Kp (· =ln) S S':=by
 let#[_,S1,#[c,rfl,h0,h1,l,k]]:=zp0 hl hm;show#[c,rfl,h0,h1,l.more ⋯,k]
noncomputable def plX:Nat->Xv->Bool
 |_,.int _=>gP
 |_,.str _=>gP
 |n+1,.tup l=>decide (l.length<=100)&&l.all (plX n)
 |_,_=>kb
def zso(h:atI l i=eO z):zaP (.tup l) (.int i) S=eO (z,S):=by
 change(atI l i).map (λz=>(z,S))=_;rw[h];rfl
theorem zdS:∀n:Nat,Zr (w5 n (Xv.bl gP))=eO (w5 n gP)
 |0=>rfl
 |n+1=>by rw[Aq,Aq];simp[Zr,zdS n]
def zjR{bs:kh Bool}(h:yo S x=eO l)(h2:Zr l=eO bs)(k:P (.bl (bs.all id)) S):WO (zht [x] S) P:= .of (by unfold zht;dsimp only;rw[h,y0,h2];rfl) k
def zE(k:P (.bl (decide (a=b))) S):WO (yH kb (.str a) (.str b) S) P:= .of (by change eO (Xv.bl (kb !=decide (a=b)),S)=_;rw[DQ]) k
def zp1(k:P (.bl (decide (a=b))) S):WO (yH kb (.int a) (.int b) S) P:= .of (by change eO (Xv.bl (kb !=decide (a=b)),S)=_;rw[DQ]) k
def zol:∀(n:Nat) {S:Sto} {x:Xv},plX n x=gP->W (xi (n+1) [x,x] S) λv S'=>v= .bl gP/\S<+:S':=by
 have flat:∀(n:Nat) {S:Sto} {x:Xv},((∃i,x= .int i)\/∃s,x= .str s)->W (xi (n+1) [x,x] S) λv S'=>v= .bl gP/\S<+:S':=by
  intro n S x hx;rw[wQ];delta vk;show zo (zy ?_);calc vJ (v:=kb) (by rcases hx with⟨i,rfl⟩|⟨s,rfl⟩<;>rfl) ?_;show#[_,rfl,λz=>(by cases z),λ_=>zt ?_];show zo (zy ?_);calc vJ (v:=kb) (by rcases hx with⟨i,rfl⟩|⟨s,rfl⟩<;>rfl) ?_;show#[_,rfl,λz=>(by cases z),λ_=>zt ?_];show zo (zy ?_);calc WO.of (show zjd x S=eO (.bl kb,S) by rcases hx with⟨i,rfl⟩|⟨s,rfl⟩<;>rfl) ?_;show#[_,rfl,λz=>(by cases z),λ_=>zt ?_];show zo (zy ?_);ext;rcases hx with⟨i,rfl⟩|⟨s,rfl⟩
  .show vJ (v:=kb) rfl ?_;show#[_,rfl,λz=>(by cases z),λ_=>zt ?_];show yc (Xy ?_);calc vJ (v:=gP) rfl ?_;show#[_,rfl,λ_=> ?_,λz=>(by cases z)];show Xy ?_;calc vJ (v:=kb) rfl ?_;show#[_,rfl,_,rfl,λ_=> ?_,λz=>(by cases z)];calc zp1 ?_;show#[by rw[decide_eq_true rfl],A0 _]
  show vJ (v:=gP) rfl ?_;show#[_,rfl,λ_=> ?_,λz=>(by cases z)];show yc (Xy ?_);calc vJ (v:=gP) rfl ?_;show#[_,rfl,λ_=> ?_,λz=>(by cases z)];calc zE ?_;show#[by rw[decide_eq_true rfl],A0 _]
 intro n
 induction n with
 |zero=>
  intro S x h;show flat 0 ?_;cases x<;>first|exact .inl #[_,rfl]|exact .inr #[_,rfl]|(simp[plX] at h)
 |succ n ih=>
  intro S x h;cases x with
  |int i=>show flat _ (.inl #[_,rfl])
  |str i=>show flat _ (.inr #[_,rfl])
  |tup l=>
   unfold plX at h;rw[A5,Ao] at h;have#[hl,gD]:=h;have hl:=of_decide_eq_true hl;rw[wQ];delta vk;show zo (zy ?_);calc vJ (v:=gP) rfl ?_;show#[_,rfl,λ_=> ?_,λz=>(by cases z)];show zo (zy (zcb ?_));calc vJ (v:=gP) rfl ?_;show#[_,rfl,λz=>(by cases z),λ_=> ?_];calc WO.of (show wx [Xv.tup l] S=eO (.int l.length,S) from rfl) ?_;calc WO.of (show wx [Xv.tup l] S=eO (.int l.length,S) from rfl) ?_;calc#[λz=> ?_,λ_=>zt ?_];simp at z;show yc (xR (zm ?_));show xN (wA ?_);calc WO.of (show wx [Xv.tup l] S=eO (.int l.length,S) from rfl) ?_;show#[_,rfl,#[⋯,⋯],_,rfl,?_];show xb (by rw[yd];show z5 (XR ⋯)) (λi es S2=>S<+:S2/\es=w5 i (.bl gP)) (λ_ _ _ _ _=>rfl) ?_ #[A0 _,rfl] ?_
   .intro i w es S2 hw f7 #[p2,rfl];have#[hi,rfl]:=xf hw;have hW:i<l.length:=by omega
    have kU:atI l ((0:Int)+(i:Int))=eO l[i]:=by rw[AQ];show zbK ⋯ (by rw[x4];show uH hW)
    show .of rfl ?_;dsimp only[vI,Ae,uO];calc#[rfl,?_];calc WO.of (zso kU) ?_;calc WO.of (zso kU) ?_;let#[_,S3,#[rfl,p3]]:=ih (gD _ (y8 hW));show#[p2.trans p3,by rw[DY]]
   intro es S2 _ #[p2,rfl];calc zjR wG (zdS _) ?_;show#[by simp,p2.trans (uI _ _)]
  |_=>simp[plX] at h
abbrev Q2:=Int×Int
noncomputable def qv(q:Q2):Xv:= .tup [.int q.1,.int q.2]
noncomputable def ksX(ks:kh Nat):kh Xv:=ks.map λ(k:Nat)=> .int (k:Int)
inductive zM where
 |leaf (q:Q2)
 |fork (lv:Nat) (ks:List Nat)
noncomputable def Yc:zM->NK
 | .leaf q=> .tup [.str "leaf",.tup [.int q.1,.int q.2]]
 | .fork lv ks=> .tup [.str "fork",.int (lv:Int),.tup (ks.map λ(k:Nat)=> .int (k:Int))]
def QX(x:Xv)(q:Q2):Prop:=x.tupOf=eO [.int q.1,.int q.2]
def zom(q:Q2):QX (qv q) q:=rfl
def FX(x:Xv):zM->Prop
 | .leaf q=>∃y,x= .tup [.str "leaf",y]/\QX y q
 | .fork lv ks=>x= .tup [.str "fork",.int (lv:Int),.tup (ksX ks)]
inductive F2:List Xv->List zM->Prop
 |nil:F2 [] []
 |cons {x:Xv} {f:zM} {xs:List Xv} {fs:List zM}:FX x f->F2 xs fs->F2 (x::xs) (f::fs)
def F2.len:∀{xs:kh Xv} {fs:kh zM},F2 xs fs->xs.length=fs.length:=λ{xs fs} h=>by
 induction h with
 |nil=>rfl
 |cons _ _ ih=>rw[uW,uW,ih]
def F2.get:∀{xs:kh Xv} {fs:kh zM} {i:Nat} {f:zM},F2 xs fs->fs[i]? =eO f->∃x,xs[i]? =eO x/\FX x f:=λ{xs fs i f} h=>by
 induction h generalizing i with
 |nil=>intro e;simp at e
 |cons h _ ih=>
  intro e;cases i with
  |zero=>simp at e;subst e;show#[_,rfl,h]
  |succ i=>have#[x,q]:=ih (i:=i) e;show#[x,q]
def F2.snoc:∀{xs:kh Xv} {fs:kh zM} {x:Xv} {f:zM},F2 xs fs->FX x f->F2 (xs++[x]) (fs++[f]):=λ{xs fs x f} h k=>by
 induction h with
 |nil=>show .cons k .nil
 |cons h _ ih=>show .cons h ih
theorem zgv:∀ks:kh Nat,WH (ksX ks)=eO (ks.map λ(k:Nat)=> .int (k:Int))
 |[]=>rfl
 |k::r=>by
  change WH (Xv.int (k:Int)::ksX r)=_;simp[WH,YM,zgv r]
theorem zjS:∀ks:kh Nat,VM (ks.map λ(k:Nat)=>NK.int (k:Int))<=1
 |[]=>by simp[VM]
 |k::r=>by
  have:=zjS r;simp[VM,Zu];omega
def zbn(h:FX x f):Ur x=eO (Yc f):=by
 cases f with
 |leaf q=>
  have#[y,rfl,hy]:=h;have:YM y=eO (.tup [.int q.1,.int q.2]):=by
   unfold QX at hy;cases y with
   |tup l=>simp only[Xv.tupOf,A8] at hy;subst hy;simp[YM,WH]
   |ct l=>simp only[Xv.tupOf,A8] at hy;subst hy;simp[YM,WH]
   |_=>simp[Xv.tupOf] at hy
  simp[Ur,Yc,YM,WH,this,Zu,VM]
 |fork lv ks=>
  have hx:x= .tup [.str "fork",.int (lv:Int),.tup (ksX ks)]:=h;subst hx;have:=zjS ks;simp[Ur,Yc,YM,WH,zgv,Zu,VM];omega
def zfe(h:FX x f):zaj x=fX:=by
 cases f with
 |leaf q=>have#[y,rfl,_]:=h;rfl
 |fork lv ks=>have hx:x= .tup [.str "fork",.int (lv:Int),.tup (ksX ks)]:=h;subst hx;rfl
theorem zaE:∀{a b:kh Nat},(a.map λ(k:Nat)=>NK.int (k:Int))=(b.map λ(k:Nat)=>NK.int (k:Int))->a=b
 |[],[],_=>rfl
 |[],_::_,h=>by cases h
 |_::_,[],h=>by cases h
 |x::r,y::t,h=>by
  rw[y4,y4] at h;injection h with h1 h2;injection h1 with h1;rw[zaE h2,D4.1 h1]
def zff(h:Yc f=Yc g):f=g:=by
 cases f with
 |leaf q=>
  cases g with
  |leaf p=>
   have#[a,b]:=q;have#[c,d]:=p;simp[Yc] at h;rw[h.1,h.2]
  |fork lv ks=>simp[Yc] at h
 |fork lv ks=>
  cases g with
  |leaf p=>simp[Yc] at h
  |fork lw js=>
   simp only[Yc,NK.tup.injEq,List.cons.injEq,NK.int.injEq,and_true,true_and] at h;rw[zaE h.2,D4.1 h.1]
noncomputable def XS(i:Nat):kh Xv->kh zM->kh (NK×Xv×Xv)
 |x::xs,f::r=>(Yc f,x,.int (i:Int))::XS (i+1) xs r
 |_,_=>[]
noncomputable def Yx(xs:kh Xv):kh zM->Ce
 |[]=> .dk []
 |f::r=> .dn (XS 0 xs (f::r))
def zon:∀(i:Nat) {xs:kh Xv} {fs:kh zM},F2 xs fs->(XS i xs fs).length=fs.length:=λi {xs fs} h=>by
 induction h generalizing i with
 |nil=>rfl
 |cons _ _ ih=>simp[XS,ih (i+1)]
def zoo:∀(i:Nat) {xs:kh Xv} {fs:kh zM},F2 xs fs->XS i (xs++[y]) (fs++[g])=XS i xs fs++[(Yc g,y,.int ((i+fs.length:Nat):Int))]:=λi {xs fs} h=>by
 induction h generalizing i with
 |nil=>simp[XS]
 | @cons x f xs fs _ l ih=>
  simp only[AA,XS,ih (i+1),uW];rw[show i+1+fs.length=i+(fs.length+1) by omega]
def zfg:∀(i:Nat) {xs:kh Xv} {fs:kh zM},F2 xs fs->g∉fs->yI (XS i xs fs) (Yc g)=fX:=λi {xs fs} h=>by
 induction h generalizing i with
 |nil=>intro _;simp[XS,yI]
 | @cons x f xs fs _ l ih=>
  intro h;have ih:=ih (i+1) λz=>h (uR _ z);have di:¬Yc f=Yc g:=λe=>h (by rw[zff e];show uY);unfold yI at ih ⊢;rw[XS,z0,decide_eq_false di];show ih
def zl2:∀(i:Nat) {xs:kh Xv} {fs:kh zM} (j:Nat),F2 xs fs->fs.Nodup->fs[j]? =eO g->yI (XS i xs fs) (Yc g)=eO (.int ((i+j:Nat):Int)):=λi {xs fs} j h=>by
 induction h generalizing i j with
 |nil=>intro _ e;simp at e
 | @cons x f xs fs _ l ih=>
  intro nd e;cases j with
  |zero=>
   simp at e;subst e;unfold yI;rw[XS,z0,decide_eq_true rfl];rfl
  |succ j=>
   have ih:=ih (i+1) j (AY.1 nd).2 (by simpa using e);have di:¬Yc f=Yc g:=λq=>(AY.1 nd).1 (by rw[zff q];show uJ (by simpa using e));unfold yI at ih ⊢;rw[XS,z0,decide_eq_false di,show i+(j+1)=i+1+j by omega];show ih
structure yN(sn fn dn:Nat)(bx:Xv)(fs:kh zM)(S:Sto):Prop where
 o:S[sn]? =eO (.ins "Store" [("boxes",bx),("facts",.ref fn),("numbers",.ref dn)])
 fd':∃xs,F2 xs fs/\S[fn]? =eO (.lst xs)/\S[dn]? =eO (Yx xs fs)
 nd:fs.Nodup
section
def zh7:Yx xs fs≠ .lst l:=by cases fs<;>simp[Yx]
def zop:Yx xs fs≠ .ins c l:=by cases fs<;>simp[Yx]
def zoq:Yx xs fs≠ .tab t:=by cases fs<;>simp[Yx]
def yN.fd(h:yN sn fn dn bx fs S):fn≠dn:=λe=>by
 have#[xs,_,h1,h2]:=h.fd';rw[e,h2] at h1;show zh7 (y9 h1)
def yN.sf(h:yN sn fn dn bx fs S):sn≠fn:=λe=>by
 have#[xs,_,h1,h2]:=h.fd';have h3:=h.o;rw[e,h1] at h3;cases h3
def yN.sd(h:yN sn fn dn bx fs S):sn≠dn:=λe=>by
 have#[xs,_,h1,h2]:=h.fd';have h3:=h.o;rw[e,h2] at h3;show zop (y9 h3)
def yN.flt(h:yN sn fn dn bx fs S):fn<S.length/\dn<S.length:=by
 have#[xs,_,h1,h2]:=h.fd';show#[(uF.1 h1).1,(uF.1 h2).1]
def yN.nd'(h:yN sn fn dn bx fs S)(e:S[n]? =eO (.lst l)):n≠dn:=λz=>by
 have#[xs,_,h1,h2]:=h.fd';rw[z,h2] at e;show zh7 (y9 e)
def yN.keep{w:Nat->Prop}(h:yN sn fn dn bx fs S)(k:Kp w S S')(h1:¬w sn)(h2:¬w fn)(h3:¬w dn):yN sn fn dn bx fs S':=#[k.2 _ _ h.o h1,(let ⟨xs,a,b,c⟩:=h.fd';#[xs,a,k.2 _ _ b h2,k.2 _ _ c h3]),h.nd]
def yN.pre(h:yN sn fn dn bx fs S)(p:S<+:S'):yN sn fn dn bx fs S':=h.keep (Kp.pre (w:=λ_=>False) p) id id id
def zk0(l:F2 xs fs)(nd:fs.Nodup)(hd:S[dn]? =eO (Yx xs fs))(hx:FX x f):∃o,YR S (.ref dn) x=eO o/\(∀j:Nat,fs[j]? =eO f->o=eO (.int (j:Int)))/\(f∉fs->o=fX):=by
 unfold YR;dsimp only;rw[hd];cases l with
 |nil=>
  unfold Yx;dsimp only;rw[zfe hx,zbn hx];show#[fX,rfl,(λj e=>by simp at e),λ_=>rfl]
 | @cons y g ys r h1 h2=>
  unfold Yx;dsimp only;rw[zbn hx];show#[_,rfl,λj e=> ?_,λe=>zfg 0 (.cons h1 h2) e];rw[zl2 0 j (.cons h1 h2) nd e,Eo]
def zp2(l:F2 xs fs)(hd:S[dn]? =eO (Yx xs fs))(hl:fs.length<FC)(hf:f∉fs)(hx:FX x f):TX S (.ref dn) x (.int (fs.length:Int))=eO (S.set dn (Yx (xs++[x]) (fs++[f]))):=by
 unfold TX;dsimp only;rw[hd];cases l with
 |nil=>
  unfold Yx;dsimp only;rw[zfe hx,zbn hx];rfl
 | @cons y g ys r h1 h2=>
  unfold Yx;dsimp only[AA];have l2:F2 (y::ys) (g::r):= .cons h1 h2;rw[Gv (by rw[zon 0 l2];show hl),zbn hx];dsimp only[AZ];unfold XA;rw[zfg 0 l2 hf];have:=zoo (g:=f) (y:=x) 0 l2;rw[Eo] at this;rw[AA,AA] at this;rw[this];rfl
structure yM(sn fn dn:Nat)(bx:Xv)(fs:kh zM)(m:Nat)(S:Sto)(fs':kh zM)(S':Sto):Prop where
 st:yN sn fn dn bx fs' S'
 pre:fs<+:fs'
 len:fs'.length<=fs.length+m
 kp:Kp (λn=>n=fn\/n=dn) S S'
def yN.grown(h:yN sn fn dn bx fs S):yM sn fn dn bx fs 0 S fs S:=#[h,A0 _,⋯,Kp.refl _]
def yM.trans(a:yM sn fn dn bx fs m S d6 S')(b:yM sn fn dn bx d6 m' S' aF S2):yM sn fn dn bx fs (m+m') S aF S2:=#[b.st,a.pre.trans b.pre,by have:=a.len;have:=b.len;omega,a.kp.trans b.kp]
def yM.more(a:yM sn fn dn bx fs m S d6 S')(h:m<=m'):yM sn fn dn bx fs m' S d6 S':=#[a.st,a.pre,by have:=a.len;omega,a.kp]
def yM.app{d6:kh zM}{m:Nat}(a:yM sn fn dn bx fs m S d6 S')(p:S'<+:S2):yM sn fn dn bx fs m S d6 S2:=#[a.st.pre p,a.pre,a.len,a.kp.trans (Kp.pre p)]
def yM.of_pre(h:yN sn fn dn bx fs S)(p:S<+:S'):yM sn fn dn bx fs 0 S fs S':=h.grown.app p
def xE{α:Type}{l l':kh α}{i:Nat}{a:α}(p:l<+:l')(h:l[i]? =eO a):l'[i]? =eO a:=by
 have#[t,rfl]:=p;rw[uN (uF.1 h).1];show h
def zor{fs:kh zM}(h:fs.Nodup){i j:Nat}{f:zM}(h1:fs[i]? =eO f)(h2:fs[j]? =eO f):i=j:=by
 have#[a,e1]:=uF.1 h1;have#[b,e2]:=uF.1 h2;show(Cp h).1 (e1.trans e2.symm)
def Add(fs:kh zM)(f:zM)(fs':kh zM):Prop:=fs'=fs\/fs'=fs++[f]
def zh8(h:yN sn fn dn bx fs S)(hl:fs.length<=1000000)(hx:FX x f):W (wB [.ref sn,x] S) λv S'=>∃(i:Nat) (fs':kh zM),v= .int (i:Int)/\fs'[i]? =eO f/\Add fs f fs'/\yM sn fn dn bx fs 1 S fs' S':=by
 delta vK;have hz:fs.length<FC:=uT hl ∅;have#[xs,l,mh,nY]:=h.fd';have#[o,eo,os,on]:=zk0 l h.nd nY hx;show zo (ZB (λρ S2=>ρ=[eO (.ref sn),eO x]/\∃(i:Nat) (fs':kh zM),fs'[i]? =eO f/\Add fs f fs'/\yM sn fn dn bx fs 1 S fs' S2) (zy ?_) ?_)
 .show xj (zkR ?_);calc xl ?_;ext;show#[_,_,_,rfl,h.o,rfl,o,eo,_,rfl,λz=> ?_,λz=>zt #[rfl,?_]]
  .have hf:f∉fs:=λhm=>by
    have#[j,hj]:=z6 hm;rw[os j hj] at z;cases z
   show zo (Ut ?_);calc xl ?_;calc#[_,_,_,rfl,h.o,rfl,?_];calc zfU (zA mh) ?_;rw[l.len];show xl ?_;calc#[_,_,_,rfl,h.o,rfl,?_];calc#[_,zp2 l nY hz hf hx,?_];show zaX (TU (xl ?_));ext;have ho:=xL (c':=Yx (xs++[x]) (fs++[f])) h.o h.sd.symm;have eQ:=xL (c':=Yx (xs++[x]) (fs++[f])) mh h.fd.symm;show#[_,_,_,rfl,ho,rfl,#[_,zA eQ],?_];calc YH (vh eQ) (by rw[l.len];show hz) ?_;show#[rfl,fs.length,fs++[f],by simp,.inr rfl,#[#[xL ho h.sf.symm,#[_,l.snoc hx,?_,xL (xK nY) h.fd],?_],uI _ _,by simp,((Kp.refl _).set (.inl (.inr rfl))).set (.inl (.inl rfl))]];rw[xK eQ];rw[List.nodup_append];show#[h.nd,by simp,?_];intro a ha b hb e;rw[y7] at hb;subst hb e;show hf ha
  have hm:f∈fs:=BX λhm=>by
   rw[on hm] at z;cases z
  have#[j,hj]:=z6 hm;show#[j,fs,hj,.inl rfl,h.grown.more ⋯]
 intro _ S2 #[rfl,i,fs',hi,ad,g];show yc (Us ?_);show xl ?_;calc#[_,_,_,rfl,g.st.o,rfl,?_];ext;have#[ys,l2,uj,sP]:=g.st.fd';have#[o2,tG,os2,_]:=zk0 l2 g.st.nd sP hx;show#[_,by rw[tG,os2 i hi],i,fs',rfl,hi,ad,g]
def zgw(h:yN sn fn dn bx fs S)(hl:fs.length<=1000000)(hy:QX y q):W (wH [.ref sn,y] S) λv S'=>∃(i:Nat) (fs':kh zM),v= .int (i:Int)/\fs'[i]? =eO (.leaf q)/\Add fs (.leaf q) fs'/\yM sn fn dn bx fs 1 S fs' S':=by
 delta Wi;show yc (yi ?_);calc#[_,_,rfl,h.o,rfl,?_];ext;show zh8 h hl (f:= .leaf q) #[_,rfl,hy]
def zV{l:kh Xv}{i:Nat}{z:Xv}(h:l[i]? =eO z):atI l (i:Int)=eO z:=zbK ⋯ (by rw[x4];show h)
def Yr{ks:kh Nat}{i k:Nat}(h:ks[i]? =eO k):(ksX ks)[i]? =eO (.int (k:Int)):=by unfold ksX;rw[uK,h];rfl
def yN.fact(h:yN sn fn dn bx fs S){i:Nat}{f:zM}(hi:fs[i]? =eO f):∃x l,FX x f/\yo S (.ref fn)=eO l/\atI l (i:Int)=eO x:=by
 have#[xs,l,mh,_]:=h.fd';have#[x,e,hx]:=l.get hi;show#[x,xs,hx,zA mh,zV e]
def zgx(h:yN sn fn dn bx fs S){i lv:Nat}{ks:kh Nat}(hi:fs[i]? =eO (.fork lv ks)):W (yA [.ref sn,.int (i:Int)] S) λv S'=>v= .int (lv:Int)/\S'=S:=by
 delta wN;calc xl ?_;calc#[_,_,_,rfl,h.o,rfl,?_];ext;have#[fx,fl,f6,fC,eQ]:=h.fact hi;change fx=_ at f6;subst f6;show xk fC eQ ?_;calc Wb ?_;calc zE #[_,rfl,λ_=> ?_,λz=> ?_];ext;show#[rfl,rfl];show absurd z ∅
def yV(k:P (.int l.length) S):WO (wx [.tup l] S) P:= .of rfl k
def zos(h:yN sn fn dn (.tup bl) fs S){i:Nat}{q:Q2}(hi:fs[i]? =eO (.leaf q)):W (yA [.ref sn,.int (i:Int)] S) λv S'=>v= .int (bl.length:Int)/\S'=S:=by
 delta wN;calc xl ?_;calc#[_,_,_,rfl,h.o,rfl,?_];ext;have#[fx,fl,f6,fC,eQ]:=h.fact hi;have#[fy,rfl,nS]:=f6;show xk fC eQ ?_;calc Wb ?_;calc zE #[_,rfl,λz=>absurd z ∅,λ_=> ?_];calc xl ?_;calc#[_,_,_,rfl,h.o,rfl,?_];ext;show yV #[rfl,rfl]
def zjT(h:yN sn fn dn bx fs S){i lv:Nat}{ks:kh Nat}(hi:fs[i]? =eO (.fork lv ks)):W (xD [.ref sn,.int (i:Int)] S) λv S'=>v= .tup (ksX ks)/\S'=S:=by
 delta ZI;calc xl ?_;calc#[_,_,_,rfl,h.o,rfl,?_];ext;have#[fx,fl,f6,fC,eQ]:=h.fact hi;change fx=_ at f6;subst f6;show xk fC eQ ?_;calc Wb ?_;calc zE #[_,rfl,λ_=> ?_,λz=> ?_];ext;show zH rfl (show atI [Xv.str "fork",.int (lv:Int),.tup (ksX ks)] 2=eO (.tup (ksX ks)) from rfl) #[rfl,rfl];show absurd z ∅
inductive VA(fs:List zM)(st:List Nat)(q:Q2):Nat->Nat->Prop
 |leaf {h n:Nat}:fs[n]? =eO (.leaf q)->VA fs st q h n
 |fork {h n lv j k:Nat} {ks:List Nat}:fs[n]? =eO (.fork lv ks)->st[lv]? =eO j->ks[j]? =eO k->VA fs st q h k->VA fs st q (h+1) n
def VA.mono(p:fs<+:fs')(v:VA fs st q h n):VA fs' st q h n:=by
 induction v with
 |leaf e=>show .leaf (xE p e)
 |fork e e1 e2 _ ih=>show .fork (xE p e) e1 e2 ih
def VA.more(v:VA fs st q h n)(hh:h<=h'):VA fs st q h' n:=by
 induction v generalizing h' with
 |leaf e=>show .leaf e
 | @fork h1 n1 lv j k ks e e1 e2 _ ih=>
  obtain⟨m,rfl⟩:∃m,h'=m+1:=#[h'-1,⋯];show .fork e e1 e2 (ih ⋯)
def zjU(st:kh Nat)(q:Q2)(H:yN sn fn dn bx fs S):∀(h n m:Nat),VA fs st q h n->h<m->WS (zai (bE (eOp (yH kb) (eOp zG (eOp wR (wq "Store" "facts" (zi 0)) (zi 1)) (oZ 0)) (qg "fork"))) (zI (eOp zG (yx "Store" "kids_of" (xD) (zi 0) [zi 1]) (eOp zG (zi 2) (yx "Store" "level_of" (yA) (zi 0) [zi 1]))) (gN 1)) m [eO (.ref sn),eO (.int (n:Int)),eO (.tup (ksX st))] S) (λρ S'=>∃n':Nat,ρ=[eO (.ref sn),eO (.int (n':Int)),eO (.tup (ksX st))]/\S'=S/\fs[n']? =eO (.leaf q)) (λ_ _=>False):=by
 intro h n m v
 induction v generalizing m with
 | @leaf h n e=>
  intro hm;obtain⟨m,rfl⟩:∃k,m=k+1:=#[m-1,⋯];show Xz ?_;calc xl ?_;calc#[_,_,_,rfl,H.o,rfl,?_];ext;have#[fx,fl,f6,fC,eQ]:=H.fact e;have#[fy,rfl,nS]:=f6;show xk fC eQ ?_;calc zE #[_,rfl,λz=> ?_,λ_=>#[_,rfl,rfl,e]];show absurd z ∅
 | @fork h n lv j k ks e e1 e2 _ ih=>
  intro hm;obtain⟨m,rfl⟩:∃k,m=k+1:=#[m-1,⋯];show Xz ?_;calc xl ?_;calc#[_,_,_,rfl,H.o,rfl,?_];ext;have#[fx,fl,f6,fC,eQ]:=H.fact e;change fx=_ at f6;subst f6;show xk fC eQ ?_;calc zE #[_,rfl,λ_=> ?_,λz=>absurd z ∅];calc yi ?_;calc#[_,_,rfl,H.o,rfl,?_];let#[_,S2,#[rfl,rfl]]:=zjT H e;calc yi ?_;calc#[_,_,rfl,H.o,rfl,?_];let#[_,S2,#[rfl,rfl]]:=zgx H e;calc zH rfl (zV (Yr e1)) ?_;show zH rfl (zV (Yr e2)) ?_;show ih _ ⋯
def zp3(H:yN sn fn dn bx fs S)(v:VA fs st q h n)(hf:h<fu):W (Zh [.ref sn,.int (n:Int),.tup (ksX st)] S) λv S'=>QX v q/\S'=S:=by
 delta Zg;rcases zjU st q H h n fu v hf with⟨ρ,S2,e0,n',rfl,rfl,e⟩|⟨_,_,_,z⟩
 rotate_left
 .show z.elim
 show zo (zkN (.nx e0 ?_));calc xl ?_;calc#[_,_,_,rfl,H.o,rfl,?_];ext;have#[fx,fl,f6,fC,eQ]:=H.fact e;have#[fy,rfl,nS]:=f6;show xk fC eQ ?_;ext;show#[nS,rfl]
def zp4:W (Wy [.int i] S) λv S'=>v= .bl gP/\S'=S:=by
 delta Wx;show yc (Xy ?_);calc vJ (v:=gP) rfl ?_;show#[_,rfl,λ_=> ?_,λz=>(by cases z)];calc vJ (v:=kb) rfl ?_;show#[_,rfl,rfl,rfl]
end
end
section
theorem zh9:∀bs:kh Bool,Zr (bs.map Xv.bl)=eO bs
 |[]=>rfl
 |b::r=>by rw[y4];simp[Zr,zh9 r]
def WN(h:S[n]? =eO (.lst l))(k:P (.tup l) S):WO (XZ [.ref n] S) P:= .of (by unfold XZ;dsimp only;rw[zA h];rfl) k
def yu(ks:kh Nat):(ksX ks).length=ks.length:=by simp[ksX]
def Zo(ks:kh Nat)(k:Nat):ksX (ks++[k])=ksX ks++[.int (k:Int)]:=by simp[ksX]
def YF{ks:kh Nat}{i:Nat}{w:Xv}(h:(ksX ks)[i]? =eO w):∃k,ks[i]? =eO k/\w= .int (k:Int):=by
 unfold ksX at h;rw[uK] at h;cases e:ks[i]? with
 |none=>rw[e] at h;cases h
 |some k=>rw[e] at h;cases h;show#[k,rfl,rfl]
def zp5{kn k0:Nat}{ks:kh Nat}{cap:kh (mw Nat)}{m n:TwE}(hk:S[kn]? =eO (.lst (ksX ks)))(hl:ks.length<=100)(hn:W (n ρ S) λv S'=>v= .ref kn/\S'=S)
  (hm:∀k:Nat,W (m ((vI cap ρ).set 0 (eO (.int (k:Int)))) S) λv S'=>v= .bl (decide ((k:Int)=(k0:Int)))/\S'=S)
  (k:P (.bl (decide (∀k∈ks,k=k0))) (S++[.lst ((ks.map λ(k:Nat)=>decide ((k:Int)=(k0:Int))).map Xv.bl)])):W (eFn zht [xP cap (iL n) (gN 0) xQ m] ρ S) P:=by
 show xR (zm (xN (TV (hn.imp ?_))));intro _ S1 #[rfl,rfl];show#[_,zA hk,_,zA hk,?_];show xb (by rw[yu];show z5 (XR hl)) (λi es S2=>S2=S1/\es=((ks.take i).map λ(k:Nat)=>decide ((k:Int)=(k0:Int))).map Xv.bl) ?_ ?_ #[rfl,by simp] ?_;intro i es _ _ #[rfl,_];show zA hk;intro i w es _ hw f7 #[rfl,rfl];have#[kk,e1,rfl]:=YF hw;show .of rfl ?_;calc#[rfl,?_];let#[_,_,#[rfl,rfl]]:=hm kk;show#[rfl,?_];have#[hi,e1]:=uF.1 e1;rw[z4 hi,z7,z7,e1];rfl;intro es _ _ #[rfl,rfl];rw[yu,A3];ext;show zjR wG (zh9 _) ?_
 rw[show(ks.map λ(k:Nat)=>decide ((k:Int)=(k0:Int))).all id=decide (∀k∈ks,k=k0) by
  rw[Av,decide_eq_true_iff,Ao];constructor;intro h k hk;have:=h _ (z9.2 #[k,hk,rfl]);show D4.1 (of_decide_eq_true this);intro h b hb;have#[k,hk,rfl]:=z9.1 hb
  show decide_eq_true (by rw[h k hk])]
 show k
def zgy(fs:kh zM)(lv:Nat)(ks:kh Nat)(i:Nat):Prop:=∃k0,ks[0]? =eO k0/\((∀k∈ks,k=k0)/\i=k0\/(¬∀k∈ks,k=k0)/\fs[i]? =eO (.fork lv ks))
def zgz{lv kn k0:Nat}{ks:kh Nat}(h:yN sn fn dn bx fs S)(hl:fs.length<=1000000)(hk:S[kn]? =eO (.lst (ksX ks)))(h0:ks[0]? =eO k0)(eK:ks.length<=100):W (wI [.ref sn,.int (lv:Int),.ref kn] S) λv S'=>∃(i:Nat) (fs':kh zM),v= .int (i:Int)/\zgy fs' lv ks i/\(fs'=fs\/(¬∀k∈ks,k=k0)/\fs'=fs++[.fork lv ks])/\yM sn fn dn bx fs 1 S fs' S':=by
 delta Wj;calc xk (zA hk) (zV (i:=0) (Yr h0)) ?_;calc zy (xj ?_);show zp5 (kn:=kn) (k0:=k0) hk eK (zr rfl #[rfl,rfl]) ?_ ?_;intro k;dsimp only[vI,Ae,uO];ext;show#[rfl,rfl];show#[_,rfl,yK (λhc=> ?_) (λhc=> ?_)];ext;show#[k0,fs,rfl,#[k0,h0,.inl #[hc,rfl]],.inl rfl,(yM.of_pre h (uI _ _)).more ⋯];ext;have h2:=h.pre (uI S [.lst ((ks.map λ(k:Nat)=>decide ((k:Int)=(k0:Int))).map Xv.bl)]);show yi ?_;calc#[_,_,rfl,h2.o,rfl,?_];calc WN (l:=ksX ks) (xE (uI _ _) hk) ?_;let#[_,S2,#[i,fs',rfl,e,ad,g]]:=zh8 h2 hl (f:= .fork lv ks) (x:= .tup [.str "fork",.int (lv:Int),.tup (ksX ks)]) rfl;show#[i,fs',rfl,#[k0,h0,.inr #[hc,e]],ad.imp (λz=>z) (λz=>#[hc,z]),((yM.of_pre h (uI _ _)).trans g).more ⋯]
def zsp(h:S[n]? =eO (.ins "Store" []))(bx:Xv):W (wP [.ref n,bx] S) λv S'=>v= .non/\yN n S.length (S.length+1) bx [] S'/\Kp (· =n) S S'/\S'.length=S.length+2:=by
 have hn:=(uF.1 h).1;delta Zf;calc zfZ ?_;calc#[_,_,rfl,h,∅,?_];calc zfZ ?_;calc#[_,_,rfl,xE (uI _ _) (xK h),(show(1:Nat)<1000 by decide),?_];show zfZ ?_;calc#[_,_,rfl,xE (uI _ _) (xK (xE (uI _ _) (xK h))),(show(2:Nat)<1000 by decide),rfl,?_];simp only[B9,uZ,uW,A6];show#[#[xK (xE (uI _ _) (xK (xE (uI _ _) (xK h)))),#[[],.nil,?_,?_],DR],?_,by simp];show xL (xE (uI _ _) (xL ?_ ⋯)) ⋯;have:=yC (S:=S.set n (.ins "Store" (zeb "boxes" bx []))) (c:= .lst []);rw[B9] at this;show this;show xL ?_ ⋯;have:=yC (S:=(uO S n (Ce.ins "Store" (zeb "boxes" bx []))++[Ce.lst []]).set n (.ins "Store" (zeb "facts" (.ref S.length) (zeb "boxes" bx [])))) (c:= .dk []);simp only[B9,uZ,uW,A6] at this;show this;show (((((Kp.refl (· =n)).set (.inl rfl)).app).set (.inl rfl)).app).set (.inl rfl)
end
section
noncomputable def lvl(n:Nat):zM->Nat
 | .leaf _=>n
 | .fork lv _=>lv
structure WF(ss:kh Nat)(fs:kh zM):Prop where
 nd:fs.Nodup
 ok:∀(i lv:Nat) ks,fs[i]? =eO (.fork lv ks)->(∃s,ss[lv]? =eO s/\ks.length=s)/\(∀k∈ks,k<i/\∃f,fs[k]? =eO f/\lv<lvl ss.length f)/\¬∀k∈ks,∀k'∈ks,k=k'
def yv(ss st:kh Nat):Prop:=st.length=ss.length/\∀(i:Nat) x s,st[i]? =eO x->ss[i]? =eO s->x<s
variable{fs fs':kh zM}{st':kh Nat}{q q':Q2}{i j:Nat}{f g:zM}
def yv.get(h:yv ss st){lv s:Nat}(e:ss[lv]? =eO s):∃x,st[lv]? =eO x/\x<s:=by
 have hl:lv<st.length:=by rw[h.1];show(uF.1 e).1
 show#[st[lv],uH hl,h.2 lv _ s (uH hl) e]
set_option tactic.hygienic true in
def yv.set(h:yv ss st){lv s m:Nat}(e:ss[lv]? =eO s)(hm:m<s):yv ss (st.set lv m):=by
 show#[by rw[B9];show h.1,λi x t e1 e2=> ?_];rw[A4] at e1;split at e1;rename_i q;subst q;split at e1;cases e1;rw[e] at e2;cases e2;show hm;cases e1;show h.2 i x t e1 e2
def VA.uniq(v:VA fs st q h i):∀{h':Nat},VA fs st q' h' i->q=q':=by
 induction v with
 |leaf e=>
  intro h' w;cases w with
  |leaf e'=>rw[e] at e';cases e';rfl
  |fork e' _ _ _=>rw[e] at e';cases e'
 |fork e e1 e2 _ ih=>
  intro h' w;cases w with
  |leaf e'=>rw[e] at e';cases e'
  |fork e' f1 f2 w=>
   rw[e] at e';cases e';rw[e1] at f1;cases f1;rw[e2] at f2;cases f2;show ih w
def WF.lv(w:WF ss fs)(e:fs[i]? =eO f):lvl ss.length f<=ss.length:=by
 cases f with
 |leaf q=>show uL _
 |fork lv ks=>
  have#[#[s,h,_],_]:=w.ok i lv ks e;show z5 (uF.1 h).1
theorem WF.val(w:WF ss fs)(hs:yv ss st):∀(n i:Nat) (f:zM),i<n->fs[i]? =eO f->∃q,VA fs st q (ss.length-lvl ss.length f) i:=by
 intro n
 induction n with
 |zero=>intro i f h;omega
 |succ n ih=>
  intro i f hi e;cases f with
  |leaf q=>show#[q,.leaf e]
  |fork lv ks=>
   have#[#[s,h1,h2],h3,_]:=w.ok i lv ks e;have#[x,e1,hx]:=hs.get h1;have hk:ks[x]? =eO ks[x]:=uH ⋯;have#[h4,g,h5,h6]:=h3 ks[x] (y8 _);have#[q,v]:=ih ks[x] g ⋯ h5;show#[q,VA.more (.fork e e1 hk v) ?_];have:=(uF.1 h1).1;change ss.length-lvl ss.length g+1<=ss.length-lv;have:=w.lv h5;omega
theorem WF.val'(w:WF ss fs)(hs:yv ss st)(e:fs[i]? =eO f):∃q,VA fs st q ss.length i:=by
 have#[q,v]:=w.val hs (i+1) i f ⋯ e;show#[q,v.more ⋯]
def VA.other(w:WF ss fs)(ag:∀k,l<=k->st'[k]? =st[k]?)(v:VA fs st q h i):∀{f:zM},fs[i]? =eO f->l<=lvl ss.length f->VA fs st' q h i:=by
 induction v with
 |leaf e=>intro f _ _;show .leaf e
 | @fork h n lv j k ks e e1 e2 _ ih=>
  intro f ef hl;rw[e] at ef;cases ef;have#[_,h3,_]:=w.ok n lv ks e;have#[_,g,h5,h6]:=h3 k (uJ e2);show .fork e ((ag lv hl).trans e1) e2 (ih h5 (by have:l<=lv:=hl;omega))
def zjV:∀k,lv+1<=k->(st.set lv m)[k]? =st[k]? :=λk hk=>by rw[A4,Gw ⋯]
def zbo:∀k,lv+1<=k->st[k]? =(st.set lv m)[k]? :=λk hk=>(zjV k hk).symm
def Ag(ss:kh Nat)(fs:kh zM)(i j:Nat):Prop:=∀st,yv ss st->∃q h h',VA fs st q h i/\VA fs st q h' j
def Ag.symm(a:Ag ss fs i j):Ag ss fs j i:=λst hs=>by
 have#[q,h,h',a,b]:=a st hs;show#[q,h',h,b,a]
def VA.kid(v:VA fs st q h i)(e:fs[i]? =eO (.fork lv ks))(e1:st[lv]? =eO x):∃k h',ks[x]? =eO k/\VA fs st q h' k:=by
 cases v with
 |leaf e'=>rw[e] at e';cases e'
 |fork e' f1 f2 w=>
  rw[e] at e';cases e';rw[e1] at f1;cases f1;show#[_,_,f2,w]
def Ag.kid(w:WF ss fs){lv s m k:Nat}(a:Ag ss fs i j)(ei:fs[i]? =eO (.fork lv ks))(es:ss[lv]? =eO s)(hm:m<s)(ek:ks[m]? =eO k)(ej:fs[j]? =eO g)(hg:lv<lvl ss.length g):Ag ss fs k j:=λst hs=>by
 have#[_,f,h5,h6]:=(w.ok i lv ks ei).2.1 k (uJ ek);have#[q,h,h',v,u]:=a _ (hs.set es hm);have hl:lv<st.length:=by rw[hs.1];show(uF.1 es).1
 have#[k',h1,e',v]:=v.kid ei (by rw[A4,Gv rfl,Gv hl]);rw[ek] at e';cases e';show#[q,h1,h',v.other w zbo h5 h6,u.other w zbo ej hg]
def Ag.kids(w:WF ss fs){lv s m k k':Nat}(a:Ag ss fs i j)(ei:fs[i]? =eO (.fork lv ks))(ej:fs[j]? =eO (.fork lv js))(es:ss[lv]? =eO s)(hm:m<s)(ek:ks[m]? =eO k)(ek':js[m]? =eO k'):Ag ss fs k k':=λst hs=>by
 have#[_,f,h5,h6]:=(w.ok i lv ks ei).2.1 k (uJ ek);have#[_,f',oj,qc]:=(w.ok j lv js ej).2.1 k' (uJ ek');have#[q,h,h',v,u]:=a _ (hs.set es hm);have hl:lv<st.length:=by rw[hs.1];show(uF.1 es).1
 have#[k1,h1,e1,v]:=v.kid ei (by rw[A4,Gv rfl,Gv hl]);have#[k2,h2,e2,u]:=u.kid ej (by rw[A4,Gv rfl,Gv hl]);rw[ek] at e1;cases e1;rw[ek'] at e2;cases e2;show#[q,h1,h2,v.other w zbo h5 h6,u.other w zbo oj qc]
def zud(w:WF ss fs)(z:∃st,yv ss st):∀(d i j:Nat) (f g:zM),fs[i]? =eO f->fs[j]? =eO g->ss.length<=lvl ss.length f+d->ss.length<=lvl ss.length g+d->Ag ss fs i j->i=j:=by
 have lt:∀{i lv:Nat} {ks:kh Nat},fs[i]? =eO (.fork lv ks)->lv<ss.length:=λe=>by
  have#[#[s,h,_],_]:=w.ok _ _ _ e;show(uF.1 h).1
 intro d
 induction d with
 |zero=>
  intro i j f g ei ej hf hg a;have#[st,hs]:=z;have#[q,h,h',v,u]:=a st hs;cases f with
  |fork lv ks=>have:=lt ei;have:ss.length<=lv+0:=hf;omega
  |leaf p=>
   cases g with
   |fork lv ks=>have:=lt ej;have:ss.length<=lv+0:=hg;omega
   |leaf p'=>
    have e1:=v.uniq (.leaf (h:=0) ei);have e2:=u.uniq (.leaf (h:=0) ej);subst e1 e2;show zor w.nd ei ej
 |succ d ih=>
  have side:∀{i j lv:Nat} {ks:kh Nat} {g:zM},fs[i]? =eO (.fork lv ks)->fs[j]? =eO g->ss.length<=lv+(d+1)->ss.length<=lvl ss.length g+d->¬ss.length<=lv+d->Ag ss fs i j->False:=by
   intro i j lv ks g ei ej h1 h2 h3 a;have#[#[s,es,hl],hk,hn]:=w.ok i lv ks ei;have all:∀k∈ks,k=j:=λk hm=>by
    have#[m,dq]:=z6 hm;have fA:=(uF.1 dq).1;have#[_,f,h5,h6]:=hk k hm;show ih k j f g h5 ej ⋯ h2 (a.kid w ei es ⋯ dq ej ⋯)
   show hn λk hk k' iy=>(all k hk).trans (all k' iy).symm
  intro i j f g ei ej hf hg a;by_cases hi:ss.length<=lvl ss.length f+d
  .by_cases hj:ss.length<=lvl ss.length g+d;show ih i j f g ei ej hi hj a
   cases g with
   |leaf p=>show absurd (By _ _) hj
   |fork lv ks=>show(side ej ei hg hi hj a.symm).elim
  cases f with
  |leaf p=>show absurd (By _ _) hi
  |fork lv ks=>
   by_cases hj:ss.length<=lvl ss.length g+d;show (side ei ej hf hj hi a).elim
   cases g with
   |leaf p=>show absurd (By _ _) hj
   |fork lw js=>
    have jH:ss.length<=lv+(d+1):=hf;have uh:ss.length<=lw+(d+1):=hg;have jF:¬ss.length<=lv+d:=hi;have pR:¬ss.length<=lw+d:=hj;have:lw=lv:=by omega
    subst this;have#[#[s,es,hl],hk,_]:=w.ok i lw ks ei;have#[#[s',es',iu],iy,_]:=w.ok j lw js ej;rw[es] at es';cases es';have:ks=js:=by
     apply List.ext_getElem ⋯;intro m h1 h2;have e1:ks[m]? =eO ks[m]:=uH h1;have e2:js[m]? =eO js[m]:=uH h2;have#[_,f,h5,h6]:=hk ks[m] (y8 _);have#[_,f',oj,qc]:=iy js[m] (y8 _);show ih _ _ f f' h5 oj ⋯ ⋯ (a.kids w ei ej es ⋯ e1 e2)
    subst this;show zor w.nd ei ej
def WF.canon(w:WF ss fs)(z:∃st,yv ss st)(ei:fs[i]? =eO f)(ej:fs[j]? =eO g)(a:Ag ss fs i j):i=j:=Prf.zud w z ss.length i j f g ei ej ⋯ ⋯ a
def WF.leaf(w:WF ss fs){q:Q2}(n:fs'.Nodup)(a:Add fs (.leaf q) fs'):WF ss fs':=by
 rcases a with rfl|rfl;show w
 show#[n,λi lv ks e=> ?_];have hi:i<fs.length:=by
  rcases Af i fs.length with h|h|h;show h;subst h;simp at e;rw[x8 (by simp;omega)] at e;cases e
 rw[uN hi] at e;have#[h1,h2,h3]:=w.ok i lv ks e;show#[h1,λk hk=> ?_,h3];have#[a,f,b,c]:=h2 k hk;show#[a,f,xE (uI _ _) b,c]
def WF.fork(w:WF ss fs){lv s:Nat}{ks:kh Nat}(n:fs'.Nodup)(a:Add fs (.fork lv ks) fs')(es:ss[lv]? =eO s)(hl:ks.length=s)(hk:∀k∈ks,∃f,fs[k]? =eO f/\lv<lvl ss.length f)(hn:¬∀k∈ks,∀k'∈ks,k=k'):WF ss fs':=by
 rcases a with rfl|rfl;show w;show#[n,λi lw js e=> ?_];rcases Af i fs.length with h|h|h;rw[uN h] at e;have#[h1,h2,h3]:=w.ok i lw js e;show#[h1,λk hk=> ?_,h3];have#[a,f,b,c]:=h2 k hk;show#[a,f,xE (uI _ _) b,c];subst h;simp at e;have#[rfl,rfl]:=e;show#[#[s,es,hl],λk hm=> ?_,hn];have#[f,b,c]:=hk k hm;show#[(uF.1 b).1,f,xE (uI _ _) b,c];rw[x8 (by simp;omega)] at e;cases e
theorem VA.back(w:WF ss fs)(p:fs<+:fs')(hs:yv ss st)(e:fs[i]? =eO f)(v:VA fs' st q h i):VA fs st q ss.length i:=by
 have#[q',v']:=w.val' hs e;rw[v.uniq (v'.mono p)];show v'
end
section
structure Bx(ss:kh Nat)(bl:kh Xv):Prop where
 len:bl.length=ss.length
 at_:∀(i s:Nat),ss[i]? =eO s->∃nm:Xv,bl[i]? =eO (.tup [nm,.int (s:Int)])
 siz:∀s∈ss,1<=s/\s<=90
structure Bx9(ss:kh Nat)(bl:kh Xv):Prop extends Bx ss bl where
 l9:ss.length<=9
def zgy.va(f:zgy fs lv ks i)(hj:st[lv]? =eO j)(hk:ks[j]? =eO k)(v:VA fs st q h k):VA fs st q (h+1) i:=by
 obtain⟨k0,e0,⟨a,rfl⟩|⟨a,b⟩⟩:=f;rw[a k (uJ hk)] at v;show v.more ⋯;show .fork b hj hk v
def zdT(h:yN sn fn dn (.tup bl) fs S){i:Nat}{f:zM}(hb:bl.length=ss.length)(hi:fs[i]? =eO f):W (yA [.ref sn,.int (i:Int)] S) λv S'=>v= .int (lvl ss.length f:Int)/\S'=S:=by
 cases f with
 |leaf q=>rw[show lvl ss.length (.leaf q)=bl.length from hb.symm];show zos h hi
 |fork lv ks=>show zgx h hi
def Kd(ss:kh Nat)(fs:kh zM)(a lv m k:Nat):Prop:=(∃ks,fs[a]? =eO (.fork lv ks)/\ks[m]? =eO k)\/(k=a/\∃f,fs[a]? =eO f/\lv<lvl ss.length f)
def Kd.mono(h:Kd ss fs a lv m k)(p:fs<+:fs'):Kd ss fs' a lv m k:=by
 rcases h with⟨ks,e,h⟩|⟨rfl,f,e,h⟩
 .show .inl #[ks,xE p e,h]
 show .inr #[rfl,f,xE p e,h]
def Kd.lv{a lv m k:Nat}(h:Kd ss fs a lv m k)(w:WF ss fs):∃f,fs[k]? =eO f/\lv<lvl ss.length f:=by
 rcases h with⟨ks,e,h⟩|⟨rfl,f,e,h⟩
 .obtain⟨_,f,e1,e2⟩:=(w.ok a lv ks e).2.1 k (uJ h);show#[f,e1,e2]
 show#[f,e,h]
def Kd.va{a lv m k h:Nat}{q:Q2}(d:Kd ss fs a lv m k)(v:VA fs st q h a)(e:st[lv]? =eO m):∃h',VA fs st q h' k:=by
 rcases d with⟨ks,e1,e2⟩|⟨rfl,_⟩
 .obtain⟨k',h',e3,v⟩:=v.kid e1 e;rw[e2] at e3;cases e3;show#[h',v]
 show#[h,v]
def zk1(h:yN sn fn dn (.tup bl) fs S)(w:WF ss fs)(hb:bl.length=ss.length){a lv m s:Nat}(e:fs[a]? =eO f)(hl:lv<=lvl ss.length f)(es:ss[lv]? =eO s)(hm:m<s):∃k,Kd ss fs a lv m k/\W (xp [.ref sn,.int (a:Int),.int (lv:Int),.int (m:Int)] S) λv S'=>v= .int (k:Int)/\S'=S:=by
 have go:∀k:Nat,(∀z:(lvl ss.length f:Int)=(lv:Int),∃ks,f= .fork lv ks/\ks[m]? =eO k)->((lvl ss.length f:Int)≠(lv:Int)->k=a)->W (xp [.ref sn,.int (a:Int),.int (lv:Int),.int (m:Int)] S) λv S'=>v= .int (k:Int)/\S'=S:=by
  intro k h1 h2;delta Yh;show yc (Wb (xj (zN (yi ?_))));calc#[_,_,rfl,h.o,rfl,?_];let#[_,_,#[rfl,rfl]]:=zdT h hb e;calc yK (λz=> ?_) (λz=> ?_);have#[ks,rfl,ek]:=h1 z;show zN (yi ?_);calc#[_,_,rfl,h.o,rfl,?_];let#[_,_,#[rfl,rfl]]:=zjT h e;ext;show zH rfl (zV (Yr ek)) #[rfl,rfl];ext;show#[by rw[h2 z],rfl]
 by_cases hq:lvl ss.length f=lv
 .cases f with
  |leaf q=>
   have:=(uF.1 es).1;have:ss.length=lv:=hq;omega
  |fork lw ks=>
   have hq:lw=lv:=hq;subst hq;have#[#[s',es',hs],_]:=w.ok a lw ks e;rw[es] at es';cases es';have ek:ks[m]? =eO ks[m]:=uH ⋯;show#[ks[m],.inl #[ks,e,ek],go _ (λ_=>#[ks,rfl,ek]) (λz=>absurd rfl z)]
 show#[a,.inr #[rfl,f,e,⋯],go a (λz=>absurd (D4.1 z) hq) (λ_=>rfl)]
noncomputable def wt:kh Nat->Nat
 |[]=>2
 |s::r=>2+s*wt r
noncomputable def cst(ss:kh Nat)(d:Nat):Nat:=wt (ss.drop (ss.length-d))
def zp6(h:∀s∈ss,1<=s):∀k,wt (ss.drop k)<=wt ss:=by
 induction ss with
 |nil=>intro k;rw[List.drop_nil];show uL _
 |cons s r ih=>
  intro k;cases k with
  |zero=>show uL _
  |succ k=>
   rw[List.drop_succ_cons];have h1:=ih (λt ht=>h t (uR _ ht)) k;have h2:=h s uY;have:1*wt r<=s*wt r:=x3 _ h2;change _<=2+s*wt r;omega
def zbp(h:∀s∈ss,1<=s)(hd:d<=d'):cst ss d<=cst ss d':=by
 unfold cst;have e:ss.drop (ss.length-d)=(ss.drop (ss.length-d')).drop ((ss.length-d)-(ss.length-d')):=by
  rw[List.drop_drop]
  congr 1
  omega
 rw[e];show zp6 (λs hs=>h s (List.mem_of_mem_drop hs)) _
def zgA{lv s:Nat}(es:ss[lv]? =eO s):cst ss (ss.length-lv)=2+s*cst ss (ss.length-lv-1):=by
 have#[hl,e]:=uF.1 es;unfold cst;rw[show ss.length-(ss.length-lv)=lv by omega,show ss.length-(ss.length-lv-1)=lv+1 by omega,Dg hl,e];rfl
end
section
variable{F:kh Q2->Q2}
noncomputable def kL(as:kh Nat):NK:= .tup (as.map λ(k:Nat)=> .int (k:Int))
def TK(as:kh Nat):Xv:= .tup (ksX as)
noncomputable def xV:kh (NK×Xv×Xv)->Ce
 |[]=> .dk []
 |p::l=> .dn (p::l)
def Xm(as:kh Nat):Ur (TK as)=eO (kL as):=by
 have:=zjS as;simp[Ur,TK,kL,YM,zgv,Zu];omega
def zjW(h:kL a=kL b):a=b:=by
 unfold kL at h;injection h with h;show zaE h
def Tr(h:S[n]? =eO (xV l))(hk:Ur x=eO k)(hx:zaj x=fX):YR S (.ref n) x=eO (yI l k):=by
 unfold YR;dsimp only;rw[h];cases l with
 |nil=>
  unfold xV;dsimp only;rw[hx,hk];rfl
 |cons p l=>
  unfold xV;dsimp only;rw[hk];rfl
def zgB(h:S[n]? =eO (xV l))(hk:Ur x=eO k)(hx:zaj x=fX)(hl:l.length<FC):TX S (.ref n) x z=eO (S.set n (xV (XA l k x z))):=by
 unfold TX;dsimp only;rw[h];cases l with
 |nil=>
  unfold xV;dsimp only;rw[hx,hk];rfl
 |cons p l=>
  unfold xV;dsimp only[AA];rw[Gv hl,hk];dsimp only[AZ];unfold XA;split<;>rfl
def Zp:yI (p::l) k=if p.1=k then eO p.2.2 else yI l k:=by
 unfold yI;rw[z0];by_cases h:p.1=k;rw[decide_eq_true h,Gv h];rfl;rw[decide_eq_false h,Gw h]
theorem zk2:∀{l:kh (NK×Xv×Xv)},yI (l.map λp=>if p.1=k then (p.1,p.2.1,y) else p) k'=if k'=k then (yI l k).map (λ_=>y) else yI l k'
 |[]=>by simp[yI]
 |p::l=>by
  rw[y4,Zp,zk2 (l:=l),Zp,Zp];by_cases h:p.1=k;rw[Gv h,Gv h];dsimp only;by_cases h2:k'=k;rw[Gv (h.trans h2.symm),Gv h2];rfl;rw[Gw (λz=>h2 (z.symm.trans h)),Gw h2,Gw h2,Gw (λz=>h2 (z.symm.trans h))];rw[Gw h,Gw h];by_cases h2:k'=k;rw[Gv h2,Gv h2,Gw (λz=>h (z.trans h2))];rw[Gw h2,Gw h2]
theorem zk3:∀{l:kh (NK×Xv×Xv)},yI l k=fX->yI (l++[(k,x,y)]) k'=if k'=k then eO y else yI l k'
 |[],_=>by
  rw[DG,Zp];dsimp only;by_cases h:k'=k;rw[Gv h.symm,Gv h];rw[Gw (λz=>h z.symm),Gw h]
 |p::l,hn=>by
  rw[Zp] at hn;by_cases h:p.1=k;rw[Gv h] at hn;cases hn;rw[Gw h] at hn;rw[AA,Zp,zk3 hn,Zp];by_cases h2:k'=k;rw[Gv h2,Gv h2,Gw (λz=>h (z.trans h2))];rw[Gw h2,Gw h2]
set_option tactic.hygienic true in
def zgC:yI (XA l k x y) k'=if k'=k then eO y else yI l k':=by
 unfold XA;split;rename_i h;have#[u,hu]:=Al.1 h;rw[zk2,hu];rfl;rename_i h;show zk3 (by simpa using h)
def zp7:(XA l k x y).length<=l.length+1:=by
 unfold XA;split<;>simp
def VaL(fs:kh zM)(st:kh Nat)(as:kh Nat)(qs:kh Q2):Prop:=as.length=qs.length/\∀(i a:Nat) q,as[i]? =eO a->qs[i]? =eO q->∃h,VA fs st q h a
def ExL(fs:kh zM)(as:kh Nat):Prop:=∀a∈as,∃f,fs[a]? =eO f
def ExL.mono(h:ExL fs as)(p:fs<+:fs'):ExL fs' as:=λa ha=>by
 have#[f,e]:=h a ha;show#[f,xE p e]
def VaL.back(v:VaL fs' st as qs)(w:WF ss fs)(p:fs<+:fs')(hs:yv ss st)(e:ExL fs as):VaL fs st as qs:=#[v.1,λi a q e1 e2=>by
 have#[h,u]:=v.2 i a q e1 e2;have#[f,ef]:=e a (uJ e1)
 show#[_,u.back w p hs ef]]
theorem VaL.ex(w:WF ss fs)(hs:yv ss st):∀{as:kh Nat},ExL fs as->∃qs,VaL fs st as qs
 |[],_=>#[[],rfl,λi a q e=>by simp at e]
 |a::r,h=>by
  have#[f,e]:=h a uY;have#[q,v]:=w.val' hs e;have#[qs,hl,u]:=VaL.ex w hs (as:=r) λb hb=>h b (uR _ hb);show#[q::qs,by simp[hl],λi b p e1 e2=> ?_];cases i with
  |zero=>simp at e1 e2;subst e1 e2;show#[_,v]
  |succ i=>show u i b p (by simpa using e1) (by simpa using e2)
structure Tk(ss:kh Nat)(F:kh Q2->Q2)(fs:kh zM)(as:kh Nat)(r:Nat):Prop where
 ex:ExL fs as
 lv:∃fr,fs[r]? =eO fr/\∀l,(∀a∈as,∀f,fs[a]? =eO f->l<=lvl ss.length f)->l<=lvl ss.length fr
 va:∀st,yv ss st->∀qs,VaL fs st as qs->∃h,VA fs st (F qs) h r
def Tk.mono(g:Tk ss F fs as r)(w:WF ss fs)(p:fs<+:fs'):Tk ss F fs' as r:=by
 have#[fr,er,hl]:=g.lv;show#[g.ex.mono p,#[fr,xE p er,λl h=>hl l λa ha f e=>h a ha f (xE p e)],λst hs qs v=> ?_];have#[h,u]:=g.va st hs qs (v.back w p hs g.ex);show#[h,u.mono p]
def VbL(G:kh Q2->Prop)(ss:kh Nat)(fs:kh zM)(as:kh Nat):Prop:=∀st,yv ss st->∀qs,VaL fs st as qs->G qs
def VbL.mono{G:kh Q2->Prop}(v:VbL G ss fs as)(w:WF ss fs)(p:fs<+:fs')(e:ExL fs as):VbL G ss fs' as:=λst hs qs u=>v st hs qs (u.back w p hs e)
structure JS(sn fn dn kn:Nat)(bx:Xv)(ss:kh Nat)(F:kh Q2->Q2)(fs:kh zM)(l:kh (NK×Xv×Xv))(S:Sto):Prop where
 st:yN sn fn dn bx fs S
 wf:WF ss fs
 kd:S[kn]? =eO (xV l)
 kl:∀k y,yI l k=eO y->∃(as:kh Nat) (r:Nat),k=kL as/\y= .int (r:Int)/\Tk ss F fs as r
 ne:kn≠dn
def zl3:xV l≠ .lst m:=by cases l<;>simp[xV]
def zl4:xV l≠ .ins c m:=by cases l<;>simp[xV]
section
variable{l l' l2:kh (NK×Xv×Xv)}
def JS.kf(h:JS sn fn dn kn bx ss F fs l S):kn≠fn:=λe=>by
 have#[xs,_,e1,_]:=h.st.fd';have h1:=h.kd;rw[e,e1] at h1;show zl3 (y9 h1).symm
def JS.ks(h:JS sn fn dn kn bx ss F fs l S):kn≠sn:=λe=>by
 have h1:=h.kd;rw[e,h.st.o] at h1;show zl4 (y9 h1).symm
noncomputable abbrev wJ(fn dn kn:Nat):Nat->Prop:=λn=>n=fn\/n=dn\/n=kn
structure JP(sn fn dn kn:Nat)(bx:Xv)(ss:kh Nat)(F:kh Q2->Q2)(m:Nat)(fs:kh zM)(l:kh (NK×Xv×Xv))(S:Sto)(fs':kh zM)(l':kh (NK×Xv×Xv))(S':Sto):Prop where
 js:JS sn fn dn kn bx ss F fs' l' S'
 pre:fs<+:fs'
 fl:fs'.length<=fs.length+m
 ll:l'.length<=l.length+m
 kp:Kp (wJ fn dn kn) S S'
def JS.pre(h:JS sn fn dn kn bx ss F fs l S)(p:S<+:S'):JS sn fn dn kn bx ss F fs l S':=#[h.st.pre p,h.wf,xE p h.kd,h.kl,h.ne]
def JS.grown(h:JS sn fn dn kn bx ss F fs l S)(w:WF ss fs')(g:yM sn fn dn bx fs m S fs' S'):JS sn fn dn kn bx ss F fs' l S':=
 #[g.st,w,g.kp.2 _ _ h.kd (λz=>by rcases z with z|z;show h.kf z;show h.ne z),λk y e=>by
  have#[a,r,e1,e2,e3]:=h.kl k y e
  show#[a,r,e1,e2,e3.mono h.wf g.pre],h.ne]
def JP.grown(h:JS sn fn dn kn bx ss F fs l S)(w:WF ss fs')(g:yM sn fn dn bx fs m S fs' S'):JP sn fn dn kn bx ss F m fs l S fs' l S':=
 #[h.grown w g,g.pre,g.len,⋯,g.kp.mono λn z=>z.elim .inl λz=> .inr (.inl z)]
def JP.trans(a:JP sn fn dn kn bx ss F m fs l S d6 l' S')(b:JP sn fn dn kn bx ss F m' d6 l' S' aF l2 S2):JP sn fn dn kn bx ss F (m+m') fs l S aF l2 S2:=
 #[b.js,a.pre.trans b.pre,by have:=a.fl;have:=b.fl;omega,by have:=a.ll;have:=b.ll;omega,a.kp.trans b.kp]
def JP.more(a:JP sn fn dn kn bx ss F m fs l S d6 l' S')(h:m<=m'):JP sn fn dn kn bx ss F m' fs l S d6 l' S':=#[a.js,a.pre,by have:=a.fl;omega,by have:=a.ll;omega,a.kp]
def JP.app{m:Nat}{d6:kh zM}(a:JP sn fn dn kn bx ss F m fs l S d6 l' S')(p:S'<+:S2):JP sn fn dn kn bx ss F m fs l S d6 l' S2:=#[a.js.pre p,a.pre,a.fl,a.ll,a.kp.trans (Kp.pre p)]
def JS.jp(h:JS sn fn dn kn bx ss F fs l S)(p:S<+:S'):JP sn fn dn kn bx ss F 0 fs l S fs l S':=#[h.pre p,A0 _,⋯,⋯,Kp.pre p]
def JP.set(h:JS sn fn dn kn bx ss F fs l S)(a:JP sn fn dn kn bx ss F m fs l S d6 l' S')(hn:S.length<=n):JP sn fn dn kn bx ss F m fs l S d6 l' (S'.set n c):=by
 have q:∀{k:Nat} {d:Ce},S[k]? =eO d->n≠k:=λ{k d} e=>by have:=(uF.1 e).1;omega
 have#[_,_,z1,z2]:=h.st.fd';have#[xs,u1,u2,u3]:=a.js.st.fd';show#[#[#[xL a.js.st.o (q h.st.o),#[xs,u1,xL u2 (q z1),xL u3 (q z2)],a.js.st.nd],a.js.wf,xL a.js.kd (q h.kd),a.js.kl,a.js.ne],a.pre,a.fl,a.ll,a.kp.set (.inr hn)]
set_option tactic.hygienic true in
def JS.put(h:JS sn fn dn kn bx ss F fs l S)(g:Tk ss F fs as r):JP sn fn dn kn bx ss F 1 fs l S fs (XA l (kL as) (TK as) (.int (r:Int))) (S.set kn (xV (XA l (kL as) (TK as) (.int (r:Int))))):=by
 have#[xs,u1,u2,u3]:=h.st.fd';show#[#[#[xL h.st.o h.ks,#[xs,u1,xL u2 h.kf,xL u3 h.ne],h.st.nd],h.wf,xK h.kd,λk y e=> ?_,h.ne],A0 _,⋯,zp7,(Kp.refl _).set (.inl (.inr (.inr rfl)))];rw[zgC] at e;split at e;rename_i q;cases e;show#[as,r,q,rfl,g];show h.kl k y e
end
def KdL(ss:kh Nat)(fs:kh zM)(as:kh Nat)(lv m:Nat)(bs:kh Nat):Prop:=bs.length=as.length/\∀(i a b:Nat),as[i]? =eO a->bs[i]? =eO b->Kd ss fs a lv m b
def KdL.mono{bs:kh Nat}(h:KdL ss fs as lv m bs)(p:fs<+:fs'):KdL ss fs' as lv m bs:=#[h.1,λi a b e1 e2=>(h.2 i a b e1 e2).mono p]
def KdL.of{bs:kh Nat}(h:KdL ss fs as lv m bs)(hb:b∈bs):∃a∈as,Kd ss fs a lv m b:=by
 have#[i,e]:=z6 hb;have hi:i<as.length:=by rw[<-h.1];show(uF.1 e).1
 show#[_,y8 hi,h.2 i _ b (uH hi) e]
def KdL.va{bs:kh Nat}(h:KdL ss fs as lv m bs)(v:VaL fs st as qs)(e:st[lv]? =eO m):VaL fs st bs qs:=#[h.1.trans v.1,λi b q e1 e2=>by
 have hi:i<as.length:=by rw[<-h.1];show(uF.1 e1).1
 have ea:as[i]? =eO as[i]:=uH hi;have#[_,u]:=v.2 i _ q ea e2
 show(h.2 i _ b ea e1).va u e]
def Kd.up{a lv m s k h:Nat}(d:Kd ss fs a lv m k)(w:WF ss fs)(es:ss[lv]? =eO s)(hs:yv ss st)(u:VA fs st q h k):∃h',VA fs (st.set lv m) q h' a:=by
 rcases d with⟨ks,e1,e2⟩|⟨rfl,f,e1,e2⟩
 .obtain⟨_,f,e3,e4⟩:=(w.ok a lv ks e1).2.1 k (uJ e2);have hl:lv<st.length:=by rw[hs.1];show(uF.1 es).1
  show#[_,.fork e1 (by rw[A4,Gv rfl,Gv hl]) e2 (u.other w zjV e3 e4)]
 show#[_,u.other w zjV e1 e2]
def KdL.vb{G:kh Q2->Prop}{bs:kh Nat}{lv m s:Nat}(h:KdL ss fs as lv m bs)(w:WF ss fs)(v:VbL G ss fs as)(es:ss[lv]? =eO s)(hm:m<s):VbL G ss fs bs:=λst hs qs u=>by
 show v _ (hs.set es hm) qs #[h.1.symm.trans u.1,λi a q e1 e2=> ?_];have hi:i<bs.length:=by rw[h.1];show(uF.1 e1).1
 have eb:bs[i]? =eO bs[i]:=uH hi;have#[_,u]:=u.2 i _ q eb e2;show(h.2 i a _ e1 eb).up w es hs u
def zp8(h:v∈ns)(hl:∀n∈ns,v<=n):zlU ns=v:=by
 have key:∀(l:kh Int) (a:Int),v<=a->(∀n∈l,v<=n)->(a=v\/v∈l)->l.foldl (λa b=>if b<a then b else a) a=v:=by
  intro l
  induction l with
  |nil=>intro a _ _ h;rcases h with h|h;show h;cases h
  |cons b r ih=>
   intro a h1 h2 h3;rw[Cz];have hb:=h2 b uY;have hr:∀n∈r,v<=n:=λn hn=>h2 n (uR _ hn);split;show ih b hb hr ?_;rcases h3 with h3|h3;omega;rcases uU.1 h3 with h3|h3;show .inl h3.symm;show .inr h3;show ih a h1 hr ?_;rcases h3 with h3|h3;show .inl h3;rcases uU.1 h3 with h3|h3;show .inl ⋯;show .inr h3
 unfold zlU;cases ns with
 |nil=>cases h
 |cons a r=>show key _ _ (hl a uY) hl (.inr h)
set_option tactic.hygienic true in
def zot(hn:W (m ρ S) λz S'=>z= .tup xs/\S'=S)(hl:us.length=xs.length)(hx:xs.length<=100)(h:∀(i:Nat) x u,xs[i]? =eO x->us[i]? =eO u->W (e ((vI cap ρ).set 0 (eO x)) S) λw S'=>w=u/\S'=S)(k:P (.ref S.length) (S++[.lst us])):
  W (xP cap (iT m) (gN 0) xQ e ρ S) P:=by
 show xN (zeW (hn.imp ?_));intro _ _ #[rfl,rfl];show#[_,rfl,_,rfl,?_];rename_i S;show xb (z5 (XR hx)) (λi es S2=>S2=S/\es=us.take i) (λ_ _ _ _ _=>rfl) ?_ #[rfl,rfl] ?_;intro i w es S2 hw f7 #[rfl,rfl];have hi:=(uF.1 hw).1;have hu:us[i]? =eO us[i]:=uH ⋯;show .of rfl ?_;calc#[rfl,(h i w _ hw hu).imp ?_];intro _ _ #[rfl,rfl];show#[rfl,(z4 ⋯).symm];intro es S2 _ #[rfl,rfl];rw[AH ⋯];show k
end
section
variable{F:kh Q2->Q2}
noncomputable def isF:zM->Bool
 | .leaf _=>kb
 | .fork _ _=>gP
def DpL(ss:kh Nat)(fs:kh zM)(as:kh Nat)(d:Nat):Prop:=∀a∈as,∀f,fs[a]? =eO f->ss.length<=lvl ss.length f+d
def Jn(G:kh Q2->Prop)(fu sn fn dn kn:Nat)(bl:kh Xv)(ss:kh Nat)(F:kh Q2->Q2)(xs:Xv)(rj:TwF)(d c:Nat):Prop:=
 ∀{S:Sto} {fs:kh zM} {l:kh (NK×Xv×Xv)} {as:kh Nat},JS sn fn dn kn (.tup bl) ss F fs l S->ExL fs as->1<=as.length->as.length<=12->DpL ss fs as d->VbL G ss fs as->fs.length+c<=1000000->l.length+c<=1000000->
  W (rj [.ref sn,TK as,xs,.ref kn] S) λv S'=>∃(r:Nat) (fs':kh zM) (l':kh (NK×Xv×Xv)),v= .int (r:Int)/\Tk ss F fs' as r/\JP sn fn dn kn (.tup bl) ss F c fs l S fs' l' S'
noncomputable def lvF(n:Nat)(fs:kh zM)(a:Nat):Nat:=match fs[a]? with
 |some f=>lvl n f
 |none=>0
def zjX(e:fs[a]? =eO f):lvF n fs a=lvl n f:=by unfold lvF;rw[e]
def zfh(ks:kh Nat):Yv (ksX ks)=eO (ks.map λ(k:Nat)=>(k:Int)):=by
 have:=zeU (ks.map λ(k:Nat)=>(k:Int));rw[Bz] at this;show this
theorem zdU{P:Nat->Nat->Prop}:∀{as:kh Nat},(∀a∈as,∃k,P a k)->∃cs:kh Nat,cs.length=as.length/\∀(n a k:Nat),as[n]? =eO a->cs[n]? =eO k->P a k
 |[],_=>#[[],rfl,λn a k e=>by simp at e]
 |a::r,h=>by
  have#[k,hk]:=h a uY;have#[cs,h1,h2]:=zdU (P:=P) (as:=r) λb hb=>h b (uR _ hb);show#[k::cs,by simp[h1],λn b k' e1 e2=> ?_];cases n with
  |zero=>simp at e1 e2;subst e1 e2;show hk
  |succ n=>show h2 n b k' (by simpa using e1) (by simpa using e2)
def zou{G:kh Q2->Prop}(bj:Bx ss bl){xs:Xv}{rj rb:TwF}{lv s c:Nat}(hj:Jn G fu sn fn dn kn bl ss F xs rj (ss.length-lv-1) c)(h:JS sn fn dn kn (.tup bl) ss F fs l S)(ex:ExL fs as)(h1:1<=as.length)(gO:as.length<=12)(es:ss[lv]? =eO s)
  (ha:∀a∈as,∀f,fs[a]? =eO f->lv<=lvl ss.length f) (hm:∃a∈as,∃f,fs[a]? =eO f/\lvl ss.length f=lv) (va:VbL G ss fs as) (hf:fs.length+(1+s*c)<=1000000) (hl:l.length+(1+s*c)<=1000000):
  W (zQ 4 4 (xc rj rb) [.ref sn,TK as,xs,.ref kn] S) λv S'=>∃(r:Nat) (fs':kh zM) (l':kh (NK×Xv×Xv)),v= .int (r:Int)/\Tk ss F fs' as r/\JP sn fn dn kn (.tup bl) ss F (1+s*c) fs l S fs' l' S':=by
 have ip:=bj.siz s (uJ es);have jC:=(uF.1 es).1;delta xc;show zo (zR (xR (zm ?_)));show zot (xs:=ksX as) (us:=ksX (as.map (lvF ss.length fs))) (zr rfl #[rfl,rfl]) (by rw[yu,yu,uM]) (by rw[yu];omega) (λi x u e1 e2=> ?_) ?_;have#[a,ea,rfl]:=YF e1;have#[b,eb,rfl]:=YF e2;rw[uK,ea] at eb;cases eb;have#[f,ef]:=ex a (uJ ea);dsimp only[vI,Ae,uO];show yi ?_;calc#[_,_,rfl,h.st.o,rfl,?_];ext;rw[zjX ef];show zdT h.st bj.len ef;ext
 show zpW (ns:=(as.map (lvF ss.length fs)).map λ(k:Nat)=>(k:Int)) wG (zfh _) (λz=>by
  have:=congrArg DK z;simp at this;subst this
  simp at h1) ?_
 rw[zp8 (v:=(lv:Int)) (by
  have#[a,hV,f,ef,e]:=hm;rw[z9];show#[lv,z9.2 #[a,hV,by rw[zjX ef,e]],rfl]) (λn hn=>by
  have#[k,hk,rfl]:=z9.1 hn;have#[a,hV,rfl]:=z9.1 hk;have#[f,ef]:=ex a hV;rw[zjX ef]
  show Int.ofNat_le.2 (ha a hV f ef))]
 dsimp only[uO];have j0:=h.jp (uI S [.lst (ksX (as.map (lvF ss.length fs)))]);generalize S++[Ce.lst (ksX (as.map (lvF ss.length fs)))]=S1 at j0;ext;have sA:S.length<=S1.length:=j0.kp.1;have j1:=j0.app (uI S1 [.lst []]);have m6:(S1++[Ce.lst []])[S1.length]? =eO (.lst (ksX [])):=yC;generalize t5:S1++[Ce.lst []]=S2 at j1 m6;show xJ (wA (zN (zN (xl ?_))));calc#[_,_,_,rfl,j1.js.st.o,rfl,?_];ext;have#[nm,i5]:=bj.at_ lv s es;show zH (l:=bl) rfl (zV i5) ?_;calc#[#[⋯,⋯],_,rfl,?_];rw[x4]
 show yZ (xs:=wd 0 s) (λi ρ S3=>∃(bN:kh zM) (l3:kh (NK×Xv×Xv)) (ks:kh Nat) (a6 a7:mw Xv),ρ=[eO (.ref sn),eO (TK as),eO xs,eO (.ref kn),eO (.int (lv:Int)),eO (.ref S1.length),a6,a7]/\JP sn fn dn kn (.tup bl) ss F (i*c) fs l S bN l3 S3/\S3[S1.length]? =eO (.lst (ksX ks))/\ks.length=i/\
   ∀(m k:Nat),ks[m]? =eO k->∃cs,KdL ss bN as lv m cs/\Tk ss F bN cs k) (λ_ _ _ _ _=>rfl) ?_ ?_ ?_
 .intro i w ρ S3 hw #[bN,l3,ks,a6,a7,rfl,j3,gL,eK,eJ];have#[hi,rfl]:=xf hw;rw[AQ];show .of rfl ?_;dsimp only[uO];have w3:=j3.js.wf;have kid:∀a∈as,∃k,Kd ss bN a lv i k/\W (xp [.ref sn,.int (a:Int),.int (lv:Int),.int (i:Int)] S3) λv S'=>v= .int (k:Int)/\S'=S3:=λa hV=>by
   have#[f,ef]:=ex a hV;show zk1 j3.js.st w3 bj.len (xE j3.pre ef) (ha a hV f ef) es hi
  obtain⟨cs,lb,gk⟩:∃cs:kh Nat,cs.length=as.length/\∀(n a k:Nat),as[n]? =eO a->cs[n]? =eO k->Kd ss bN a lv i k/\W (xp [.ref sn,.int (a:Int),.int (lv:Int),.int (i:Int)] S3) λv S'=>v= .int (k:Int)/\S'=S3:=zdU kid;have kd:KdL ss bN as lv i cs:=#[lb,λn a k e1 e2=>(gk n a k e1 e2).1];show zo (zR (xR (zm ?_)));show zot (xs:=ksX as) (us:=ksX cs) (zr rfl #[rfl,rfl]) (by rw[yu,yu,lb]) (by rw[yu];omega) (λn x u e1 e2=> ?_) ?_;have#[a,ea,rfl]:=YF e1;have#[k,ek,rfl]:=YF e2;dsimp only[vI,Ae,uO];show yi ?_;calc#[_,_,rfl,j3.js.st.o,rfl,?_];ext;show(gk n a k ea ek).2
  calc WN yC ?_;dsimp only[uO];have j4:=j3.app (uI S3 [.lst (ksX cs)]);have nL:=xE (uI S3 [Ce.lst (ksX cs)]) gL;generalize S3++[Ce.lst (ksX cs)]=S4 at j4 nL;show zaX (TU ?_);calc#[#[_,zA nL],zm (yi ?_)];calc#[_,_,rfl,j4.js.st.o,rfl,?_];ext;have m8:(i+1)*c<=s*c:=x3 _ hi;have jE:(i+1)*c=i*c+c:=Am i c;have f3:=j3.fl;have g3:=j3.ll;have exc:ExL bN cs:=λk hk=>by
   have#[a,_,d]:=kd.of hk;have#[f,e,_]:=d.lv w3;show#[f,e]
  have tK:DpL ss bN cs (ss.length-lv-1):=λk hk f e=>by
   have#[a,_,d]:=kd.of hk;have#[f',e',iu]:=d.lv w3;rw[e] at e';cases e';omega
  let#[_,S5,#[r,tm,l5,rfl,gd,j5]]:=hj j4.js exc ⋯ ⋯ tK (kd.vb w3 (va.mono h.wf j3.pre ex) es hi) ⋯ ⋯;ext;have di:¬wJ fn dn kn S1.length:=λz=>by
   have q:∀{n:Nat} {d:Ce},S[n]? =eO d->S1.length≠n:=λ{n d} e z=>by have:=(uF.1 e).1;omega
   have#[_,_,z1,z2]:=h.st.fd';rcases z with z|z|z;show q z1 z;show q z2 z;show q h.kd z
  have pQ:=j5.kp.2 _ _ nL di;have qQ:=j4.trans j5;show YH (vh pQ) (by rw[yu];show XR ⋯) ?_;show#[tm,l5,ks++[r],_,_,rfl,(qQ.set h sA).more ⋯,?_,by simp[eK],λm k e=> ?_];rw[xK pQ,Zo];rcases Af m ks.length with dq|dq|dq;rw[uN dq] at e;have#[cs',d1,g]:=eJ m k e;show#[cs',d1.mono j5.pre,g.mono w3 j5.pre];subst dq;rw[uQ (uL _),As] at e;cases e;rw[eK];show#[cs,kd.mono j5.pre,gd];rw[x8 (by simp;omega)] at e;cases e
 .show#[fs,l,[],fX,fX,rfl,j1.more ⋯,m6,rfl,λm k e=>by simp at e]
 intro ρ S3 #[bN,l3,ks,a6,a7,rfl,j3,gL,eK,eJ];rw[yd] at j3 eK;have w3:=j3.js.wf;have f3:=j3.fl;have g3:=j3.ll;have h0:ks[0]? =eO ks[0]:=uH ⋯;show yc (yi ?_);calc#[_,_,rfl,j3.js.st.o,rfl,?_];let#[_,S4,#[r,dI,rfl,fo,ad,g]]:=zgz j3.js.st ⋯ gL h0 ⋯;have iw:∀k∈ks,∃f,bN[k]? =eO f/\lv<lvl ss.length f:=λk hk=>by
  have#[m,dq]:=z6 hk;have#[cs,d1,gd]:=eJ m k dq;have#[fr,q3,q4]:=gd.lv;show#[fr,q3,q4 (lv+1) λb hb f e=> ?_];have#[a,_,d]:=d1.of hb;have#[f',e',iu]:=d.lv w3;rw[e] at e';cases e';show iu
 have w4:WF ss dI:=by
  rcases ad with rfl|⟨fM,ad⟩
  .show w3
  show w3.fork g.st.nd (.inr ad) es eK iw λz=>fM λk hk=> ?_;show z k hk ks[0] (y8 _)
 have p4:=j3.pre.trans g.pre;show#[r,dI,l3,rfl,#[ex.mono p4,?_,λst hs qs v=> ?_],(j3.trans (JP.grown j3.js w4 g)).more ⋯]
 .have jb:∀q,(∀a∈as,∀f,dI[a]? =eO f->q<=lvl ss.length f)->q<=lv:=λq hq=>by
   have#[a,hV,f,ef,e]:=hm;have:=hq a hV f (xE p4 ef);omega
  obtain⟨k0,e0,⟨all,rfl⟩|⟨_,e⟩⟩:=fo;have#[f,e1,e2]:=iw r (uJ e0);show#[f,xE g.pre e1,λq hq=>by have:=jb q hq;omega];show#[_,e,λq hq=>jb q hq]
 have#[m,em,dq]:=hs.get es;have ek:ks[m]? =eO ks[m]:=uH ⋯;have#[cs,d1,gd]:=eJ m _ ek;have#[h3,u3]:=(gd.mono w3 g.pre).va st hs qs ((d1.mono g.pre).va v em);show#[_,fo.va em ek u3]
end
section
variable{F:kh Q2->Q2}{G:kh Q2->Prop}
def zsq{f:zM}{i:Nat}(w:WF ss fs)(e:fs[i]? =eO f)(h:isF f=gP):lvl ss.length f<ss.length:=by
 cases f with
 |leaf q=>cases h
 |fork lv ks=>
  have#[#[s,es,_],_]:=w.ok i lv ks e;show(uF.1 es).1
def zia(sn fn dn:Nat)(bl:kh Xv)(ss:kh Nat)(G:kh Q2->Prop)(F:kh Q2->Q2)(xs:Xv):Prop:=∃(L:xx) (aX:kh Xv) (tw:kh Xv->TwF),xs= .lam L aX/\YS [(zcj,ze8),(zck,ze9)] L=eO tw/\
 ∀{S:Sto} {fs:kh zM} {as:kh Nat},yN sn fn dn (.tup bl) fs S->WF ss fs->ExL fs as->1<=as.length->as.length<=12->VbL G ss fs as->fs.length+1<=1000000->W (tw aX [TK as] S) λw S'=>(w= .non/\(∃a∈as,∃f,fs[a]? =eO f/\isF f=gP)/\S<+:S')\/∃(r:Nat) (fs':kh zM),w= .int (r:Int)/\Tk ss F fs' as r/\WF ss fs'/\yM sn fn dn (.tup bl) fs 1 S fs' S'
def zue(ex:ExL fs as)(h:∃a∈as,∃f,fs[a]? =eO f/\isF f=gP)(w:WF ss fs):∃lv s,ss[lv]? =eO s/\(∀a∈as,∀f,fs[a]? =eO f->lv<=lvl ss.length f)/\∃a∈as,∃f,fs[a]? =eO f/\lvl ss.length f=lv:=by
 have key:∀as:kh Nat,as≠[]->ExL fs as->∃a∈as,∃f,fs[a]? =eO f/\∀b∈as,∀g,fs[b]? =eO g->lvl ss.length f<=lvl ss.length g:=by
  intro as
  induction as with
  |nil=>intro h;show absurd rfl h
  |cons a r ih=>
   intro _ ex;have#[f,ef]:=ex a uY;cases r with
   |nil=>show#[a,uY,f,ef,λb hb g eg=>by
     rw[y7] at hb;subst hb;rw[ef] at eg;cases eg
     show uL _]
   |cons b t=>
    have#[a',hm,f',ef',hl]:=ih (by simp) λb hb=>ex b (uR _ hb);by_cases q:lvl ss.length f<=lvl ss.length f';show#[a,uY,f,ef,λb' hb g eg=> ?_];rcases uU.1 hb with rfl|hb;rw[ef] at eg;cases eg;show uL _;show uP q (hl b' hb g eg);show#[a',uR _ hm,f',ef',λb' hb g eg=> ?_];rcases uU.1 hb with rfl|hb;rw[ef] at eg;cases eg;omega;show hl b' hb g eg
 have#[a0,pL,f0,e0,hF]:=h;have#[a,hm,f,ef,hl]:=key as (by rintro rfl;cases pL) ex;have fA:lvl ss.length f<ss.length:=uT (hl a0 pL f0 e0) (zsq w e0 hF);show#[_,_,uH fA,hl,a,hm,f,ef,rfl]
def zl5(bj:Bx ss bl)(hr:zia sn fn dn bl ss G F xs):∀(d N:Nat),2*d+1<=N->Jn G fu sn fn dn kn bl ss F xs (ye N) d (cst ss d):=by
 have#[L,aX,tw,rfl,hp,ht]:=hr;intro d
 induction d using Nat.strongRecOn with
 |_ d ih=>
  intro N hN S fs l as h ex h1 gO dp va hf hl;obtain⟨N,rfl⟩:∃M,N=M+1:=#[N-1,⋯];have c2:2<=cst ss d:=by unfold cst;cases ss.drop (ss.length-d)<;>simp[wt]
  rw[Ya];delta Yi;show zo (ZB (λρ S2=>∃(a4:mw Xv) (r:Nat) (fs':kh zM) (l':kh (NK×Xv×Xv)),ρ=[eO (.ref sn),eO (TK as),eO (.lam L aX),eO (.ref kn),a4]/\Tk ss F fs' as r/\yI l' (kL as)=eO (.int (r:Int))/\JP sn fn dn kn (.tup bl) ss F (cst ss d) fs l S fs' l' S2) (zy ?_) ?_)
  .show xj (zkR ?_);ext;show#[_,Tr h.kd (Xm as) rfl,_,rfl,λz=> ?_,λz=>zt ?_]
   .show zo (zR (zdv rfl hp ?_));calc(ht h.st h.wf ex h1 gO va ⋯).imp ?_;rintro w S1 (⟨rfl,hF,p⟩|⟨i,d6,rfl,gd,w1,g⟩)
    .dsimp only[uO];show Ut (Wb (xj (znH ?_)));calc WO.of (show zjd .non S1=eO (.bl gP,S1) from rfl) #[_,rfl,λ_=> ?_,nofun];have j1:=h.jp p;show yi ?_;calc#[_,_,rfl,j1.js.st.o,rfl,?_];ext;have#[lv,s,es,l1,l3]:=zue ex hF h.wf;have jC:=(uF.1 es).1;have uk:ss.length<=lv+d:=by
      have#[a,hV,f,ef,e]:=l3;have:=dp a hV f ef;omega
     obtain⟨M,rfl⟩:∃M,N=M+1:=#[N-1,⋯];rw[wX];have hc:2+s*cst ss (ss.length-lv-1)<=cst ss d:=by
      rw[<-zgA es];show zbp (λt ht=>(bj.siz t ht).1) ⋯
     let#[_,S2,#[r,aF,qL,rfl,gd,j2]]:=zou bj (ih (ss.length-lv-1) ⋯ M ⋯) j1.js ex h1 gO es l1 l3 va ⋯ ⋯;ext;have jl:=j2.ll;show#[_,zgB j2.js.kd (Xm as) rfl (uT (show qL.length<=1000000 by omega) ∅),_,r,aF,_,rfl,gd,?_,((j1.trans j2).trans (j2.js.put gd)).more ⋯];rw[zgC,Gv rfl]
    dsimp only[uO];show Ut (Wb (xj (znH ?_)));calc WO.of (show zjd (.int (i:Int)) S1=eO (.bl kb,S1) from rfl) #[_,rfl,λz=>(by cases z),λ_=> ?_];ext;have j1:=JP.grown h w1 g;show#[_,zgB j1.js.kd (Xm as) rfl (uT (show l.length<=1000000 by omega) ∅),_,i,d6,_,rfl,gd,?_,(j1.trans (j1.js.put gd)).more ⋯];rw[zgC,Gv rfl]
   cases e:yI l (kL as) with
   |none=>rw[e] at z;cases z
   |some y=>
    have#[as',r,e1,rfl,gd]:=h.kl _ _ e;obtain rfl:=zjW e1;show#[fX,r,fs,l,rfl,gd,e,(h.jp (A0 _)).more ⋯]
  intro _ S2 #[a4,r,fs',l',rfl,gd,hv,j];show yc (Us ?_);ext;show#[_,by rw[Tr j.js.kd (Xm as) rfl,hv],r,fs',l',rfl,gd,j]
def zl6(bj:Bx9 ss bl)(hr:zia sn fn dn bl ss G F xs)(h:yN sn fn dn (.tup bl) fs S)(w:WF ss fs)(ex:ExL fs as)(h1:1<=as.length)(gO:as.length<=12)(va:VbL G ss fs as)(hf:fs.length+cst ss ss.length<=1000000)(hc:cst ss ss.length<=1000000):
  W (ye 24 [.ref sn,TK as,xs,.ref S.length] (S++[.dk []])) λv S'=>∃(r:Nat) (fs':kh zM),v= .int (r:Int)/\Tk ss F fs' as r/\WF ss fs'/\yM sn fn dn (.tup bl) fs (cst ss ss.length) S fs' S':=by
 have p:=uI S [Ce.dk []];have hd:=h.flt.2;have js:JS sn fn dn S.length (.tup bl) ss F fs [] (S++[.dk []]):=#[h.pre p,w,yC,λk y e=>by simp[yI] at e,⋯];let#[_,S2,#[r,aF,l2,rfl,gd,j]]:=zl5 bj.toBx hr ss.length 24 (by have:=bj.l9;omega) js ex h1 gO (λa ha f e=>by omega) va hf (by simpa using hc);show#[r,aF,rfl,gd,j.js.wf,#[j.js.st,j.pre,j.fl,#[by have:=j.kp.1;rw[uZ] at this;omega,λn c e nw=> ?_]]];have hn:=(uF.1 e).1;show j.kp.2 _ _ (xE p e) λz=>by
  rcases z with z|z|z;show nw (.inl z);show nw (.inr z);omega
noncomputable def chQ:kh Q2->Q2
 |c::qs=>qs.getD c.1.toNat (0,1)
 |[]=>(0,1)
def chG:kh Q2->Prop
 |c::qs=>0<=c.1/\c.1.toNat<qs.length
 |[]=>False
def zjY(hz:∃st,yv ss st):zia sn fn dn bl ss chG chQ (.lam zck [.ref sn]):=#[zck,[.ref sn],ze9,rfl,(Vg ∅).trans XC,λ{S fs as} h w ex h1 gO va hf=>by
 cases as with
 |nil=>simp at h1
 |cons a r=>
  have#[f,ef]:=ex a uY;unfold ze9;show XD rfl rfl ?_;unfold zt5;dsimp only[Ae,Bb,Bs,BJ];show yi ?_;calc#[_,_,rfl,h.o,rfl,?_];ext;delta wM;have#[fx,fl,f6,fC,eQ]:=h.fact ef;show zo (zR (zN (xl ?_)));calc#[_,_,_,rfl,h.o,rfl,?_];calc zH rfl (zV (i:=0) (show(ksX (a::r))[0]? =eO (.int (a:Int)) from rfl)) ?_;show xk fC eQ ?_;dsimp only[uO];cases f with
  |fork lv ks=>
   change fx=_ at f6;subst f6;show yc (Wb ?_);calc zE #[_,rfl,λ_=> ?_,λz=>absurd z ∅];ext;show .inl #[rfl,#[a,uY,_,ef,rfl],A0 _]
  |leaf q=>
   have#[yq,rfl,r6]:=f6;have#[st,ft]:=hz;have#[gS,v0]:=VaL.ex w ft ex;have g0:=va st ft gS v0;have pH:∀st',yv ss st'->∀qs,VaL fs st' (a::r) qs->∃qr,qs=q::qr/\qr.length=r.length:=λst' hU qs v=>by
    cases qs with
    |nil=>have:=v.1;simp at this
    |cons p qr=>
     have#[_,u]:=v.2 0 a p rfl rfl;have:=u.uniq (.leaf (h:=0) ef);subst this;show#[qr,rfl,by have:=v.1;simp at this;omega]
   have#[qE,rfl,nJ]:=pH st ft gS v0;have#[c0,c1]:=(show 0<=q.1/\q.1.toNat<qE.length from g0);have er:r[q.1.toNat]? =eO r[q.1.toNat]:=uH ⋯;generalize r[q.1.toNat]=k at er;show yc (Wb ?_);calc zE #[_,rfl,λz=>absurd z ∅,λ_=> ?_];calc zH r6 Up ?_;calc zH rfl (show atI (ksX (a::r)) (1+q.1)=eO (.int (k:Int)) from ?_) ?_;rw[show 1+q.1=((1+q.1.toNat:Nat):Int) by omega];show zV ?_;rw[Ei];change(ksX r)[q.1.toNat]? =_;show Yr er;show .inr #[k,fs,rfl,#[ex,?_,λst' hU qs v=> ?_],w,h.grown.more ⋯];have#[fk,ek]:=ex k (uR _ (uJ er));show#[fk,ek,λl hl=>hl k (uR _ (uJ er)) fk ek];have#[qr,rfl,pM]:=pH st' hU qs v;have eq:qr[q.1.toNat]? =eO qr[q.1.toNat]:=uH ⋯;have#[hh,u]:=v.2 (q.1.toNat+1) k qr[q.1.toNat] (by simpa using er) (by simpa using eq);show#[hh,?_];change VA fs st' (qr.getD q.1.toNat (0,1)) hh k;rw[uX,eq]
   show u]
end
section
noncomputable def prd:kh Nat->Nat
 |[]=>1
 |s::r=>s*prd r
noncomputable def idx:kh Nat->kh Nat->Nat
 |_::r,x::t=>x*prd r+idx r t
 |_,_=>0
theorem zbq:∀(r:kh Nat) (s:Nat),prd (r++[s])=prd r*s
 |[],s=>by simp[prd]
 |a::r,s=>by rw[AA,prd,prd,zbq r s,Fe]
theorem zib:∀(r t:kh Nat) (s x:Nat),r.length=t.length->idx (r++[s]) (t++[x])=idx r t*s+x
 |[],[],s,x,_=>by simp[idx,prd]
 |[],_::_,_,_,h=>by cases h
 |_::_,[],_,_,h=>by cases h
 |a::r,y::t,s,x,h=>by
  rw[AA,AA,idx,idx,zib r t s x (by simpa using h),zbq,Nat.add_mul,Fe];omega
structure Yd(ss:kh Nat)(L:kh (kh Nat)):Prop where
 len:L.length=prd ss
 at_:∀(k:Nat) st,L[k]? =eO st->yv ss st/\idx ss st=k
noncomputable def zdV(s:Nat)(st:kh Nat):kh (kh Nat):=(z8 s).map λx=>st++[x]
def zbr{s:Nat}:(zdV s st).length=s:=by simp[zdV]
def zp9{s k:Nat}(h:(zdV s st)[k]? =eO w):k<s/\w=st++[k]:=by
 unfold zdV at h;rw[uK] at h;cases e:(z8 s)[k]? with
 |none=>rw[e] at h;cases h
 |some x=>
  rw[e] at h;cases h;have#[h1,h2]:=uF.1 e;simp at h1 h2;show#[h1,by rw[h2]]
theorem zk4{s:Nat}(hs:0<s):∀(L:kh (kh Nat)) (k:Nat) (w:kh Nat),(L.flatMap (zdV s))[k]? =eO w->∃st,L[k / s]? =eO st/\w=st++[k % s]
 |[],k,w,h=>by simp at h
 |a::L,k,w,h=>by
  rw[EF] at h;by_cases hk:k<s;rw[uN (by rw[zbr];show hk)] at h;have#[h1,h2]:=zp9 h;show#[a,by rw[Nat.div_eq_of_lt hk];rfl,by rw[Nat.mod_eq_of_lt hk];show h2];rw[uQ (by rw[zbr];omega),zbr] at h;have#[st,h1,h2]:=zk4 hs L (k-s) w h;have hd:k / s=(k-s) / s+1:=Nat.div_eq_sub_div hs ⋯;have hm:k % s=(k-s) % s:=Nat.mod_eq_sub_mod ⋯;show#[st,by rw[hd];show h1,by rw[hm];show h2]
theorem zdW{s:Nat}:∀(L:kh (kh Nat)),(L.flatMap (zdV s)).length=L.length*s
 |[]=>by simp
 |a::L=>by rw[EF,uZ,zbr,zdW L,uW,Am];omega
def yv.snoc{s x:Nat}(h:yv ss st)(hx:x<s):yv (ss++[s]) (st++[x]):=by
 show#[by simp[h.1],λi a t e1 e2=> ?_];rcases Af i ss.length with hi|hi|hi;rw[uN (by rw[h.1];show hi)] at e1;rw[uN hi] at e2;show h.2 i a t e1 e2;subst hi;rw[uQ (uL _),As] at e2;rw[uQ (B5 h.1),h.1,As] at e1;cases e1;cases e2;show hx;rw[x8 (by simp;omega)] at e2;cases e2
def Yd.ext{s:Nat}(h:Yd ss L)(hs:0<s):Yd (ss++[s]) (L.flatMap (zdV s)):=by
 show#[by rw[zdW,h.len,zbq],λk w e=> ?_];have#[st,h1,rfl]:=zk4 hs L k w e;have#[h2,h3]:=h.at_ _ st h1;show#[h2.snoc (Dh _ hs),?_];rw[zib _ _ _ _ h2.1.symm,h3,El];show F1 k s
def Yd.nil:Yd [] [[]]:=#[rfl,λk st e=>by
 cases k with
 |zero=>cases e;show#[#[rfl,λi x s e=>by simp at e],rfl]
 |succ k=>simp at e]
def Xr(L:kh (kh Nat)):kh Xv:=L.map λst=> .tup (ksX st)
def zl7(h:yo S y=eO zs):Yu S y=eO zs:=by
 cases y with
 |ref n=>show h
 |_=>cases h
def zl8(h:zag S x=eO (n,l))(h2:yo S y=eO zs)(hl:l.length+zs.length<=FC)(k:P .non (S.set n (.lst (l++zs)))):WO (Xx x [y] S) P:= .of (by
 unfold Xx;rw[h];dsimp only
 rw[show Yu S y=eO zs from zl7 h2,y0,Gv hl]) k
def vm(h:a.length+b.length<=1000)(k:P (.tup (a++b)) S):WO (ZT (.tup a) (.tup b) S) P:= .of (by unfold ZT;show Gv (z5 (uT h ∅))) k
def zsr(h:n<=1000):n<FC:=uT h ∅
noncomputable abbrev K0:Nat->Prop:=λ_=>False
def zbs{L:kh (kh Nat)}{k:Nat}{w:Xv}(h:(Xr L)[k]? =eO w):∃st,L[k]? =eO st/\w= .tup (ksX st):=by
 unfold Xr at h;rw[uK] at h;cases e:L[k]? with
 |none=>rw[e] at h;cases h
 |some st=>rw[e] at h;cases h;show#[st,rfl,rfl]
def Tl(L:kh (kh Nat)):(Xr L).length=L.length:=by simp[Xr]
set_option tactic.hygienic true in
theorem zco:∀(ss:kh Nat) (k:Nat),(∀s∈ss,1<=s)->prd (ss.take k)<=prd ss
 |_,0,h=>by
  rename_i ss;simp only[F7,prd]
  induction ss with
  |nil=>show uL _
  |cons s r ih=>
   have:=ih λt ht=>h t (uR _ ht);have:=h s uY;show CN ⋯ ⋯
 |[],k+1,_=>by simp
 |s::r,k+1,h=>by
  rw[List.take_succ_cons,prd,prd];show Bd _ (zco r k λt ht=>h t (uR _ ht))
def yv.len9{L:kh (kh Nat)}{k:Nat}(h:Yd ss L)(e:L[k]? =eO st):st.length=ss.length:=(h.at_ k st e).1.1
def zov(bj:Bx ss bl)(h9:ss.length<=9)(hp:prd ss<=1000):W (Xl [.tup bl] S) λv S'=>∃(n:Nat) (L:kh (kh Nat)),v= .ref n/\S'[n]? =eO (.lst (Xr L))/\Yd ss L/\S.length<=n/\Kp K0 S S':=by
 delta Xk;calc xJ (zeW ?_);ext;have fQ:∀s∈ss,1<=s:=λs hs=>(bj.siz s hs).1;show yZ (xs:=bl) (λi ρ S1=>∃(n:Nat) (L:kh (kh Nat)) (a2 a3 a4:mw Xv),ρ=[eO (.tup bl),eO (.ref n),a2,a3,a4]/\S1[n]? =eO (.lst (Xr L))/\Yd (ss.take i) L/\S.length<=n/\Kp K0 S S1) (λ_ _ _ _ _=>rfl) ?_ ?_ ?_
 .intro i w ρ S1 hw #[n,L,a2,a3,a4,rfl,hn,gl,gK,k1];have hi:i<ss.length:=by rw[<-bj.len];show(uF.1 hw).1
  have es:ss[i]? =eO ss[i]:=uH hi;have#[nm,hb]:=bj.at_ i _ es;rw[hw] at hb;cases hb;have ip:=bj.siz _ (y8 hi);have oq:=gl.ext (s:=ss[i]) ip.1;have htk:ss.take i++[ss[i]]=ss.take (i+1):=by rw[z4 hi]
  rw[htk] at oq;have kT:(L.flatMap (zdV ss[i])).length<=1000:=by rw[oq.len];show uP (zco ss _ fQ) hp
  show .of rfl ?_;dsimp only[uO];calc xJ (TV ?_);ext;have k2:Kp K0 S (S1++[.lst []]):=k1.app;have eZ:=xE (uI S1 [Ce.lst []]) hn;have sj:=(uF.1 hn).1;have q5:=k1.1;show#[_,zA eZ,_,zA eZ,?_];show yZ (xs:=Xr L) (λj ρ S2=>∃(a4:mw Xv),ρ=[eO (.tup bl),eO (.ref n),eO (.tup [nm,.int (ss[i]:Int)]),eO (.ref S1.length),a4]/\S2[n]? =eO (.lst (Xr L))/\S2[S1.length]? =eO (.lst (Xr ((L.take j).flatMap (zdV ss[i]))))/\Kp K0 S S2) (λj ρ S2 _ h=>by have#[_,_,h,_]:=h;show zA h) ?_ ?_ ?_
  .intro j w ρ S2 hw #[a4,rfl,h1,h2,k3];have#[st,fT,rfl]:=zbs hw;have rO:st.length=i:=by rw[yv.len9 gl fT,Ak];omega
   have hj:=(uF.1 fT).1;show .of rfl ?_;dsimp only[uO];show zaX (TU ?_);calc#[#[_,zA h2],zm (xN (wA ?_))];calc#[#[⋯,⋯],_,rfl,?_];rw[x4];show xb (xs:=wd 0 ss[i]) (by rw[yd];show z5 (XR ⋯)) (λm es S3=>S3=S2/\es=Xr ((z8 m).map λx=>st++[x])) (λ_ _ _ _ _=>rfl) ?_ #[rfl,rfl] ?_;intro m w es S3 hw f7 #[rfl,rfl];have#[hm,rfl]:=xf hw;rw[AQ];show .of rfl ?_;dsimp only[vI,Ae,uO];calc#[rfl,?_];calc vm (by rw[yu];simp;omega) #[rfl,?_];rw[CB,z7];simp[Xr,ksX]
   intro es S3 _ #[rfl,rfl];rw[yd];ext;have mq:=xE (uI S3 [Ce.lst (Xr ((z8 ss[i]).map λx=>st++[x]))]) h2;have ls:=xE (uI S3 [Ce.lst (Xr ((z8 ss[i]).map λx=>st++[x]))]) h1;have sx:((L.take j).flatMap (zdV ss[i])).length+ss[i]<=1000:=by
    rw[zdW] at kT ⊢;rw[Ak];have:(j+1)*ss[i]<=L.length*ss[i]:=x3 _ hj;rw[Am] at this;have nG:min j L.length=j:=by omega
    rw[nG];omega
   show zl8 (vh mq) wG (by rw[Tl,Tl,uM,Cg];show z5 (zsr sx)) ?_;show#[eO (.tup (ksX st)),rfl,xL ls ⋯,?_,(k3.app).set (.inr ⋯)];rw[xK mq,z4 hj,List.flatMap_append,(uF.1 fT).2];simp[Xr,zdV]
  .show#[_,rfl,eZ,yC,k2]
  intro ρ S2 #[a4,rfl,h1,h2,k3];rw[Tl,A3] at h2;ext;show#[S1.length,_,_,_,_,rfl,h2,oq,q5,k3]
 .show#[S.length,[[]],fX,fX,fX,rfl,yC,Yd.nil,uL _,Kp.pre (uI _ _)]
 intro ρ S1 #[n,L,a2,a3,a4,rfl,hn,gl,gK,k1];rw[bj.len,A3] at gl;ext;show#[n,L,rfl,hn,gl,gK,k1]
end
section
def zgD(h:a.length+b.length<=FC)(k:P (.str (a++b)) S):WO (zaS (.str a) (.str b) S) P:= .of (by unfold zaS;show Gv h) k
def zjZ{a:Str}{lo hi:mw Int}(h:a.length<=FC)(k:P (.str (Txt.slice a lo hi)) S):WO (zda (.str a) lo hi S) P:= .of (by unfold zda;show Gv h) k
def ZK(h:n<=100):n<=FC:=z5 (XR h)
def zl9{α:Type}{l:kh α}{a:α}(h:l[i]? =eO a):l.take (i+1)=l.take i++[a]:=by
 have#[hi,e]:=uF.1 h;rw[z4 hi,e]
set_option tactic.hygienic true in
def zic{k:Nat}(h:k<=z.length):(Txt.slice z fX (eO (k:Int))).length=k:=by
 have e1:Ck fX (eO (k:Int)) 1 z.length=z8 k:=by
  unfold Ck sliceRange;simp only[show(1:Int)>0 by decide,if_true,show ¬(k:Int)<0 by omega,if_false];have e2:max 0 (min (k:Int) (z.length:Int))=(k:Int):=by omega
  rw[e2];have e3:(if (0:Int)<(k:Int) then ((k:Int)-0+1-1) / 1 else 0).toNat=k:=by
   rw[Int.ediv_one];split<;>omega
  rw[e3]
  conv=>rhs;rw[<-List.map_id (z8 k)]
  show List.map_congr_left λj _=> ?_;change(0+1*(j:Int)).toNat=j;omega
 unfold Txt.slice;rw[e1];split;rename_i hh;rw[Cg] at hh;simp at hh;show hh.symm;change (List.filterMap _ _).toArray.size=_;rw[uS,zeO z.cps k,Ak];change min k z.length=k;omega
def zss(h0:0<=v)(h1:v<26):zho (.str "abcdefghijklmnopqrstuvwxyz") (.int v) S=eO (.str #[[97+v.toNat].toArray],S):=by
 have all:∀n:Fin 26,(Str.ofString "abcdefghijklmnopqrstuvwxyz").cps.toList[n.1]? =eO (97+n.1):=by decide
 obtain⟨n,rfl⟩:∃n:Nat,v=n:=#[v.toNat,⋯];have e:=all #[n,⋯];unfold zho zts;dsimp only;rw[Gv ∅,zbK ⋯ (by rw[x4];show e)];rfl
def zow{k:Nat}(hk:k<=8):W (Zi [.int n,.int (k:Int)] S) λv S'=>∃z:Str,v= .str z/\z.length=k/\(k=1->z=#[[97+(n % 26).toNat].toArray])/\S'=S:=by
 delta VD;calc xJ (wA ?_);calc#[#[⋯,⋯],_,rfl,?_];show yZ (λi ρ S2=>∃(m:Int) (z:Str) (a3:mw Xv),ρ=[eO (.int m),eO (.int (k:Int)),eO (.str z),a3]/\z.length=i/\(i=0->m=n/\z="")/\(i=1->z=#[[97+(n % 26).toNat].toArray])/\S2=S) (λ_ _ _ _ _=>rfl) ?_ ?_ ?_;intro i w ρ S2 hw #[m,z,a3,rfl,hz,h0,h1,rfl];have#[hi,rfl]:=xf hw;show .of rfl ?_;dsimp only[uO];calc vt ∅ ?_;show WO.of (zss (S:=S2) (Ac m (show(26:Int)≠0 by decide)) (Aj m (show(0:Int)<26 by decide))) ?_;have hc:(#[[97+(m % 26).toNat].toArray]:Str).length=1:=rfl;show zgD (ZK ⋯) ?_;calc zcM ∅ ?_;calc#[_,_,_,rfl,by rw[Str.length_append];omega,(λh=>by omega),λh=> ?_,rfl];have#[rfl,rfl]:=h0 ⋯;rfl;show#[n,_,fX,rfl,rfl,λ_=>#[rfl,rfl],(λh=>by cases h),rfl];intro ρ S2 #[m,z,a3,rfl,hz,_,h1,rfl];rw[yd,x4] at hz h1;ext;show#[hz,h1,rfl]
noncomputable def WP(zs:kh Str):kh Xv:=zs.map Xv.str
def zj0(g:Nat->Str)(hs:size<=100)
  (hn:W (n ρ S) λv S'=>v= .int (size:Int)/\S'=S)
  (he:∀k:Nat,k<size->W (e ((vI cap ρ).set 0 (eO (.int (k:Int)))) S) λv S'=>v= .str (g k)/\S'=S)
  (k:P (.ref S.length) (S++[.lst (WP ((z8 size).map g))])):W (xP cap (iR1 n) (gN 0) xQ e ρ S) P:=by
 show xN (wA (hn.imp ?_));intro _ S1 #[rfl,rfl];show#[_,rfl,#[⋯,⋯],_,rfl,?_];show xb (by rw[yd];show ZK ⋯) (λi es S2=>S2=S1/\es=WP ((z8 i).map g)) (λ_ _ _ _ _=>rfl) ?_ #[rfl,rfl] ?_;intro i w es S2 hw f7 #[rfl,rfl];have#[hi,rfl]:=xf hw;rw[AQ];show .of rfl ?_;calc#[rfl,?_];let#[_,S3,#[rfl,rfl]]:=he i ⋯;show#[rfl,by rw[CB];simp[WP]];intro es S2 hlen #[rfl,rfl];rw[yd,x4];show k
def zj1(g:Nat->Str)(h2:∀i j,i<j->j<m->g i≠g j):((z8 m).map g).Nodup:=by
 rw[List.nodup_iff_pairwise_ne,List.pairwise_map];show Fw (R:=λa b=>a<b) (λ{a b} ha hb i7=>h2 a b i7 (AV.1 hb)) List.pairwise_lt_range
def ya.app(h:ya mx ln S):ya mx ln (S++T):=h.keep (Kp.pre (w:=λ_=>False) (uI _ _)) id
def ya.lt(h:ya mx ln S):ln<S.length:=by
 have#[ns,en,_]:=h;show(uF.1 en).1
noncomputable def XT:kh Str:=["pass","end","lost","set","hand","draw","if","gain","while","look","times","leaf","fork"]
def zqa{m:Nat}(hl:ya mx ln S)(hm:m<=9):W (Wq [.ref ln,.int (m:Int)] S) λv S'=>∃(n:Nat) (zs:kh Str),v= .ref n/\zs.length=m/\zs.Nodup/\S'[n]? =eO (.lst (WP zs))/\S.length<=n/\ya mx ln S'/\Kp (· =ln) S S':=by
 delta Wo;let#[_,S1,#[way,rfl,w0,w1,l1,k1]]:=yL hl ∅;calc zy ?_;ext;show yK (λhc=> ?_) (λhc=> ?_)
 .ext;let#[_,S2,#[tn,rfl,t0,t1,l2,k2]]:=yL l1.app ∅;show yc ?_;have hn:¬S1.length=ln:=by have:=l1.lt;omega
  have e2:=k2.2 _ _ yC hn;have cy:∀i j:Fin 13,XT[i.1]? =XT[j.1]? ->i=j:=by decide
  have hw:∀i:Nat,i<13->XT[i]? =eO (XT.getD i ""):=λi hi=>by
   rw[uX,uH (show i<XT.length from hi)];rfl
  show zj0 (λj=>XT.getD ((tn+(j:Int)) % 13).toNat "") (size:=m) ⋯ (by ext;show#[rfl,rfl]) ?_ ?_
  .intro k hk;dsimp only[vI,Ae,uO];calc vt ∅ ?_;have h0:=Ac (tn+(k:Int)) (show(13:Int)≠0 by decide);have h1:=Aj (tn+(k:Int)) (show(0:Int)<13 by decide);have e3:(XT.map Xv.str)[((tn+(k:Int)) % 13).toNat]? =eO (.str (XT.getD ((tn+(k:Int)) % 13).toNat "")):=by rw[uK,hw _ ⋯];rfl
   show xk (zA e2) (zbK h0 e3) #[rfl,rfl]
  have kk:=k1.trans ((Kp.pre (uI _ _)).trans k2);show#[_,_,rfl,by simp,zj1 _ λi j pS hj e=> ?_,yC,kk.1,l2.app,kk.app];have h0:=Ac (tn+(i:Int)) (show(13:Int)≠0 by decide);have h1:=Aj (tn+(i:Int)) (show(0:Int)<13 by decide);have h2:=Ac (tn+(j:Int)) (show(13:Int)≠0 by decide);have h3:=Aj (tn+(j:Int)) (show(0:Int)<13 by decide)
  have:=cy #[((tn+(i:Int)) % 13).toNat,⋯] #[((tn+(j:Int)) % 13).toNat,⋯] (by
   dsimp only;rw[hw _ ⋯,hw _ ⋯]
   show congrArg eO e)
  have:=congrArg Fin.val this;dsimp only at this;omega
 let#[_,S2,#[c,rfl,c0,c1,l2,k2]]:=yL l1 ∅;let#[_,S3,#[z,rfl,hz,_,rfl]]:=zow (k:=8) ∅;have kk:=k1.trans k2;show zo (zy (xy ?_));ext;have go:∀{N:Rho->Sto->Prop} {R:Xv->Sto->Prop},(∀S4,ya mx ln S4->Kp (· =ln) S S4->∀zs:kh Str,zs.length=m->zs.Nodup->R (.ref S4.length) (S4++[.lst (WP zs)]))->WS (zw (zI (zx (zF) [zi 0,oZ 1664]) (gN 6)) (zw (zI (eOp vR (oZ 1) (eOp YB (zi 6) (oZ 8))) (gN 7)) (zw (zI (eOp YB (eOp zaR (zi 6) (oZ 8)) (zi 7)) (gN 8)) (zO (xP [fX,eO 5,eO 7,eO 8,eO 6] (iR1 (zi 1)) (gN 0) xQ (eOp zaS (eOp zaS (eSl zda (zi 1) oNo (WI (zi 3))) (zx (Zi) [eOp vR (eOp zaR (zi 4) (oZ 64)) (zi 0),oZ 1])) (eSl zda (zi 1) (WI (eOp vR (zi 3) (oZ 1))) (WI (zi 2)))))))) [eO (.ref ln),eO (.int (m:Int)),eO (.int way),fX,fX,eO (.str z),fX,fX,fX] S3) N R:=by
  intro N R fin;let#[_,S4,#[d,rfl,d0,d1,l4,k4]]:=yL l2 ∅;calc vt ∅ ?_;calc zcM ∅ ?_;ext;have:=Ac d (show(8:Int)≠0 by decide);show vt ⋯ ?_;show yc ?_;show zj0 (λj=>Txt.slice z fX (eO (d / 8 % (1+d % 8)))++(#[[97+((d / 64+(j:Int)) % 26).toNat].toArray]:Str)++Txt.slice z (eO (d / 8 % (1+d % 8)+1)) (eO (1+d % 8))) (size:=m) ⋯ (by ext;show#[rfl,rfl]) ?_ ?_;intro k hk;dsimp only[vI,Ae,uO];calc zjZ (ZK ⋯) ?_;calc zcM ∅ ?_;let#[_,S5,#[z1,rfl,mZ,kE,rfl]]:=zow (k:=1) ∅;have s1:=Txt.slice_le z fX (eO (d / 8 % (1+d % 8)));show zgD (ZK ⋯) ?_;calc zjZ (ZK ⋯) ?_;have s2:=Txt.slice_le z (eO (d / 8 % (1+d % 8)+1)) (eO (1+d % 8));show zgD (ZK (by rw[Str.length_append];omega)) ?_;rw[kE rfl];show#[rfl,rfl];show fin S4 l4 (kk.trans k4) _ (by simp) (zj1 _ λi j pS hj e=> ?_);have e2:=congrArg (λs:Str=>s.cps.toList) e;have iR:∀a b:Str,(a++b).cps.toList=a.cps.toList++b.cps.toList:=λa b=>CI
  try dsimp only at e2
  rw[iR,iR,iR,iR,Bt,Bt] at e2;have e3:=List.append_cancel_left e2;have e4:=(List.cons.inj e3).1;omega
 have fin:∀S4,ya mx ln S4->Kp (· =ln) S S4->∀zs:kh Str,zs.length=m->zs.Nodup->∃(n:Nat) (zs':kh Str),Xv.ref S4.length= .ref n/\zs'.length=m/\zs'.Nodup/\(S4++[Ce.lst (WP zs)])[n]? =eO (.lst (WP zs'))/\S.length<=n/\ya mx ln (S4++[Ce.lst (WP zs)])/\Kp (· =ln) S (S4++[Ce.lst (WP zs)]):=λS4 l4 q4 zs hz nd=>#[_,zs,rfl,hz,nd,yC,q4.1,l4.app,q4.app];show yK (λh2=> ?_) (λh2=> ?_);calc yK (λh3=> ?_) (λh3=>zt (go fin));show yc ?_;show zj0 (λj=>Txt.slice z fX (eO ((j:Int)+1))) (size:=m) ⋯ (by ext;show#[rfl,rfl]) ?_ ?_;intro k hk;dsimp only[vI,Ae,uO];ext;show zjZ (ZK ⋯) #[rfl,rfl];show fin _ l2 kk _ (by simp) (zj1 _ λi j pS hj e=> ?_);have:=congrArg Str.length e;have e1:=zic (z:=z) (k:=i+1) ⋯;have e2:=zic (z:=z) (k:=j+1) ⋯;rw[F4,Int.natCast_one] at e1 e2;rw[e1,e2] at this;omega;show#[nofun,λ_=>zt (go fin)]
noncomputable def zuf(b:Str×Nat):Xv:= .tup [.str b.1,.int (b.2:Int)]
def bsX(bs:kh (Str×Nat)):kh Xv:=bs.map zuf
def Zq(bs:kh (Str×Nat)):(bsX bs).length=bs.length:=by simp[bsX]
def zj2(h:p.natAbs<2^60):intBits p<=60:=Ai.mpr h
def zbt(h1:∀b∈bs,1<=b.2/\b.2<=9)(h9:bs.length<=9):Bx9 (bs.map (·.2)) (bsX bs):=by
 show#[#[by simp[bsX],λi s e=> ?_,λs hs=> ?_],by simpa using h9]
 .rw[uK] at e;cases e2:bs[i]? with
  |none=>rw[e2] at e;cases e
  |some b=>
   rw[e2] at e;cases e;show#[.str b.1,by unfold bsX;rw[uK,e2];rfl]
 have#[b,hb,rfl]:=z9.1 hs;have:=h1 b hb;omega
def zqb{most:Nat}(oo:1<=most/\most<=1000)(hl:ya mx ln S):W (Ws [.ref ln,.int (most:Int)] S) λv S'=>∃bs:kh (Str×Nat),v= .tup (bsX bs)/\(∀b∈bs,1<=b.2/\b.2<=9)/\bs.length<=9/\prd (bs.map (·.2))<=most/\(bs.map (·.1)).Nodup/\ya mx ln S'/\Kp (· =ln) S S':=by
 delta Wr;let#[_,S1,#[c,rfl,c0,c1,l1,k1]]:=yL hl ∅;calc ZB (λρ S2=>∃m:Nat,m<=9/\ρ=[eO (.ref ln),eO (.int (most:Int)),eO (.int (m:Int)),fX,fX,fX,fX]/\S2=S1) (zy ?_) ?_;calc yK (λhc=> ?_) (λhc=> ?_);calc vt ∅ ?_;ext;have h0:=Ac c (show(3:Int)≠0 by decide);have h1:=Aj c (show(0:Int)<3 by decide);show#[(1+c % 3).toNat,⋯,by rw[Be ⋯],rfl];show zt #[c.toNat,⋯,by rw[Be ⋯],rfl];intro _ _ #[m,hm,rfl,rfl];calc xJ (TV ?_);let#[_,S2,#[n,zs,rfl,hz,cy,e2,hn,l2,k2]]:=zqa l1 hm;have jV:=l1.lt;show#[_,zA e2,_,zA e2,?_];show yZ (xs:=WP zs) (λi ρ S3=>∃(bs:kh (Str×Nat)) (a5 a6:mw Xv),ρ=[eO (.ref ln),eO (.int (most:Int)),eO (.int (m:Int)),eO (.tup (bsX bs)),eO (.int (prd (bs.map (·.2)):Int)),a5,a6]/\bs.map (·.1)=zs.take i/\(∀b∈bs,1<=b.2/\b.2<=9)/\1<=prd (bs.map (·.2))/\prd (bs.map (·.2))<=most/\ya mx ln S3/\Kp (· =ln) S2 S3) ?_ ?_ ?_ ?_;intro i ρ S3 _ #[bs,a5,a6,_,_,_,_,_,l3,k3];show zA (k3.2 _ _ e2 (show ¬n=ln by omega))
 .intro i w ρ S3 hw #[bs,a5,a6,rfl,i5,jJ,p0,p1,l3,k3];unfold WP at hw;rw[uK] at hw;cases lW:zs[i]? with
  |none=>rw[lW] at hw;cases hw
  |some z=>
   rw[lW] at hw;cases hw;have hi:i<zs.length:=(uF.1 lW).1;have sV:bs.length=i:=by
    have:=congrArg DK i5;rw[uM,Ak] at this;omega
   show .of rfl ?_;dsimp only[uO];let#[_,S4,#[d,rfl,d0,d1,l4,k4]]:=yL l3 ∅;calc ZB (λρ S5=>∃s0:Int,1<=s0/\s0<=9/\ρ=[eO (.ref ln),eO (.int (most:Int)),eO (.int (m:Int)),eO (.tup (bsX bs)),eO (.int (prd (bs.map (·.2)):Int)),eO (.str z),eO (.int s0)]/\S4=S5) (zy (xy ?_)) ?_;have no:∃s0:Int,1<=s0/\s0<=9/\([eO (.ref ln),eO (.int (most:Int)),eO (.int (m:Int)),eO (.tup (bsX bs)),eO (.int (prd (bs.map (·.2)):Int)),eO (.str z),eO (.int (1+d))]:Rho)=[eO (.ref ln),eO (.int (most:Int)),eO (.int (m:Int)),eO (.tup (bsX bs)),eO (.int (prd (bs.map (·.2)):Int)),eO (.str z),eO (.int s0)]/\S4=S4:=#[1+d,⋯,⋯,rfl,rfl];calc#[λ_=> ?_,λ_=>#[nofun,λ_=>zt no]];calc#[λ_=> ?_,λ_=>zt no];calc vt ∅ ?_;ext;have h0:=Ac (1+d) (show(3:Int)≠0 by decide);have h1:=Aj (1+d) (show(0:Int)<3 by decide);show#[1+(1+d) % 3,⋯,⋯,rfl,rfl]
   intro _ _ #[s0,s1,s2,rfl,rfl];generalize hp:prd (bs.map (·.2))=p at p0 p1;calc zhw #[⋯,uP (zj2 ⋯) ∅] ?_;rw[AF _ ⋯];ext;have q0:1<=most / p:=(Nat.le_div_iff_mul_le ⋯).2 ⋯;have q1:p*(most / p)<=most:=Nat.mul_div_le most p;rw[show(most:Int) / (p:Int)=((most / p:Nat):Int) by rw[Int.natCast_ediv]];generalize hs:(if ((most / p:Nat):Int)<s0 then ((most / p:Nat):Int) else s0)=sz;obtain⟨s,rfl⟩:∃s:Nat,sz=(s:Int):=#[sz.toNat,by split at hs<;>omega];have ip:1<=s/\s<=9/\s<=most / p:=by split at hs<;>omega
   show WO.of (show ZT (.tup (bsX bs)) (.tup [.tup [.str z, .int (s : Int)]]) S4 = eO (.tup (bsX bs ++ [.tup [.str z, .int (s : Int)]]), S4) by
    unfold ZT
    show Gv (by rw[Zq];show ZK (by simp;omega))) ?_
   ext;have jT:p*s<=most:=uP (Bd p ip.2.2) q1;show xa (by have:=zj2 (p:=(p:Int)) ⋯;have:=zj2 (p:=(s:Int)) ⋯;omega) ?_;ext;have nB:prd ((bs++[(z,s)]).map (·.2))=p*s:=by rw[z7];change prd (bs.map (·.2)++[s])=_;rw[zbq,hp]
   show#[bs++[(z,s)],_,_,by rw[nB,DH,show bsX (bs++[(z,s)])=bsX bs++[.tup [.str z,.int (s:Int)]] by simp[bsX,zuf]],by rw[z7,i5,zl9 lW];rfl,?_,by rw[nB];show CN p0 ip.1,by rw[nB];show jT,l4,k3.trans k4];intro b hb;rcases AX.1 hb with hb|hb;show jJ b hb;rw[y7] at hb;subst hb;show#[ip.1,ip.2.1]
 .show#[[],fX,fX,rfl,rfl,(λb hb=>by cases hb),∅,oo.1,l2,Kp.refl _]
 intro ρ S3 #[bs,a5,a6,rfl,i5,jJ,p0,p1,l3,k3];ext;have e:(WP zs).length=zs.length:=by simp[WP]
 rw[e,A3] at i5;show#[jJ,?_,p1,by rw[i5];show cy,l3,(k1.trans k2).trans k3];have:=congrArg DK i5;rw[uM] at this;omega
end
section
theorem zk5:∀{ss:kh Nat},(∀s∈ss,1<=s)->1<=prd ss
 |[],_=>uL _
 |s::r,h=>CN (h s uY) (zk5 λt ht=>h t (uR _ ht))
def zox:ksX (ks++[k])=ksX ks++[.int (k:Int)]:=Zo ks k
end
section
variable{S' S2:Sto}{x y z:Xv}{kn:Nat}{bx:Xv}{fs fs':kh zM}{lv m s:Nat}{l l' l2:kh (Key×Xv)}
def zoy{k:Key}:(zdn l k x).length<=l.length+1:=by
 unfold zdn;split<;>simp
theorem zid:∀{l:kh (Key×Xv)},wS (l.map λkv=>if kv.1=k then (kv.1,x) else kv) k'=if k'=k then (wS l k).map (λ_=>x) else wS l k'
 |[]=>by simp[wS]
 |p::r=>by
  have ih:=zid (k:=k) (k':=k') (l:=r);unfold wS at ih ⊢;rw[y4,z0,z0,z0];by_cases h1:p.1=k;by_cases h2:k'=k;subst h1 h2;simp;have:¬p.1=k':=λe=>h2 (e.symm.trans h1);simp only[Gv h1,decide_eq_false this,Gw h2] at ih ⊢;show ih;by_cases h2:k'=k;subst h2;simp only[Gw h1,decide_eq_false h1,if_true] at ih ⊢;show ih;simp only[Gw h1,Gw h2] at ih ⊢;by_cases h3:p.1=k';simp only[decide_eq_true h3];simp only[decide_eq_false h3];show ih
def zoz{k k':Key}(h:(l.any λkv=>decide (kv.1=k))=kb):wS (l++[(k,x)]) k'=if k'=k then eO x else wS l k':=by
 unfold wS;rw[List.find?_append];by_cases h2:k'=k
 .subst h2;have:l.find? (λkv=>decide (kv.1=k'))=fX:=by
   rw[Ep];intro p hp e;rw[EA] at h;show h p hp e
  rw[this];simp
 rw[Gw h2];have:([(k,x)]:kh (Key×Xv)).find? (λkv=>decide (kv.1=k'))=fX:=by
  rw[z0,decide_eq_false (λe=>h2 e.symm)];rfl
 rw[this];cases l.find? (λkv=>decide (kv.1=k'))<;>rfl
set_option tactic.hygienic true in
def zie{k k':Key}:wS (zdn l k x) k'=if k'=k then eO x else wS l k':=by
 unfold zdn;split
 .rename_i h;rw[zid];split
  .rw[Bg] at h;have#[p,hp,e]:=h;have:wS l k≠fX:=by
    unfold wS;rw[Ne,Option.map_eq_none_iff,Ep];show λz=>z p hp e
   cases e:wS l k with
   |none=>show absurd e this
   |some v=>rfl
  rfl
 rename_i h;show zoz (EC.2 h)
structure Fxd(ss:kh Nat)(lv m:Nat)(fs:kh zM)(a r:Nat):Prop where
 le:∃fa fr,fs[a]? =eO fa/\fs[r]? =eO fr/\lvl ss.length fa<=lvl ss.length fr
 va:∀st,yv ss st->∀q h,VA fs (st.set lv m) q h a->∃h',VA fs st q h' r
def Fxd.mono(es:ss[lv]? =eO s)(hm:m<s)(g:Fxd ss lv m fs a r)(w:WF ss fs)(p:fs<+:fs'):Fxd ss lv m fs' a r:=by
 have#[fa,fr,ea,er,hl]:=g.le;show#[#[fa,fr,xE p ea,xE p er,hl],λst hs q h v=> ?_];have#[h,v]:=g.va st hs q _ (v.back w p (hs.set es hm) ea);show#[h,v.mono p]
structure KS(sn fn dn kn:Nat)(bx:Xv)(ss:kh Nat)(lv m:Nat)(fs:kh zM)(l:kh (Key×Xv))(S:Sto):Prop where
 st:yN sn fn dn bx fs S
 wf:WF ss fs
 kd:S[kn]? =eO (.dk l)
 kl:∀k y,wS l k=eO y->∃a r:Nat,k= .inl (a:Int)/\y= .int (r:Int)/\Fxd ss lv m fs a r
 ne:kn≠dn
def KS.kf(h:KS sn fn dn kn bx ss lv m fs l S):kn≠fn:=λe=>by
 have#[xs,_,h1,h2]:=h.st.fd';have h3:=h.kd;rw[e,h1] at h3;cases h3
def KS.ks(h:KS sn fn dn kn bx ss lv m fs l S):kn≠sn:=λe=>by
 have h1:=h.kd;rw[e,h.st.o] at h1;cases h1
noncomputable abbrev wK(fn dn kn:Nat):Nat->Prop:=λn=>n=fn\/n=dn\/n=kn
structure KP(sn fn dn kn:Nat)(bx:Xv)(ss:kh Nat)(lv m c:Nat)(fs:kh zM)(l:kh (Key×Xv))(S:Sto)(fs':kh zM)(l':kh (Key×Xv))(S':Sto):Prop where
 js:KS sn fn dn kn bx ss lv m fs' l' S'
 pre:fs<+:fs'
 fl:fs'.length<=fs.length+c
 ll:l'.length<=l.length+c
 kp:Kp (wK fn dn kn) S S'
def KS.pre(h:KS sn fn dn kn bx ss lv m fs l S)(p:S<+:S'):KS sn fn dn kn bx ss lv m fs l S':=#[h.st.pre p,h.wf,xE p h.kd,h.kl,h.ne]
def KP.grown(es:ss[lv]? =eO s)(hm:m<s)(h:KS sn fn dn kn bx ss lv m fs l S)(w:WF ss fs')(g:yM sn fn dn bx fs c S fs' S'):KP sn fn dn kn bx ss lv m c fs l S fs' l S':=
 #[#[g.st,w,g.kp.2 _ _ h.kd (λz=>by rcases z with z|z;show h.kf z;show h.ne z),λk y e=>by
  have#[a,r,e1,e2,e3]:=h.kl k y e
  show#[a,r,e1,e2,e3.mono es hm h.wf g.pre],h.ne],g.pre,g.len,⋯,g.kp.mono λn z=>z.elim .inl λz=> .inr (.inl z)]
def KP.trans(a:KP sn fn dn kn bx ss lv m c fs l S d6 l' S')(b:KP sn fn dn kn bx ss lv m c' d6 l' S' aF l2 S2):KP sn fn dn kn bx ss lv m (c+c') fs l S aF l2 S2:=
 #[b.js,a.pre.trans b.pre,by have:=a.fl;have:=b.fl;omega,by have:=a.ll;have:=b.ll;omega,a.kp.trans b.kp]
def KP.more(a:KP sn fn dn kn bx ss lv m c fs l S d6 l' S')(h:c<=c'):KP sn fn dn kn bx ss lv m c' fs l S d6 l' S':=#[a.js,a.pre,by have:=a.fl;omega,by have:=a.ll;omega,a.kp]
def KP.app{c:Nat}{d6:kh zM}(a:KP sn fn dn kn bx ss lv m c fs l S d6 l' S')(p:S'<+:S2):KP sn fn dn kn bx ss lv m c fs l S d6 l' S2:=#[a.js.pre p,a.pre,a.fl,a.ll,a.kp.trans (Kp.pre p)]
def KS.jp(h:KS sn fn dn kn bx ss lv m fs l S)(p:S<+:S'):KP sn fn dn kn bx ss lv m 0 fs l S fs l S':=#[h.pre p,A0 _,⋯,⋯,Kp.pre p]
set_option tactic.hygienic true in
def KS.put(h:KS sn fn dn kn bx ss lv m fs l S)(g:Fxd ss lv m fs a r):KP sn fn dn kn bx ss lv m 1 fs l S fs (zdn l (.inl (a:Int)) (.int (r:Int))) (S.set kn (.dk (zdn l (.inl (a:Int)) (.int (r:Int))))):=by
 have#[xs,u1,u2,u3]:=h.st.fd';show#[#[#[xL h.st.o h.ks,#[xs,u1,xL u2 h.kf,xL u3 h.ne],h.st.nd],h.wf,xK h.kd,λk y e=> ?_,h.ne],A0 _,⋯,zoy,(Kp.refl _).set (.inl (.inr (.inr rfl)))];rw[zie] at e;split at e;rename_i q;cases e;show#[a,r,q,rfl,g];show h.kl k y e
def Kd.fxd(es:ss[lv]? =eO s)(w:WF ss fs)(e:fs[a]? =eO f)(d:Kd ss fs a lv m k):Fxd ss lv m fs a k:=by
 have hl:=(uF.1 es).1;have key:∀st,yv ss st->∀q h,VA fs (st.set lv m) q h a->∃h',VA fs st q h' k:=λst hs q h v=>by
  have#[h',v']:=d.va v (by rw[A4,Gv rfl,Gv (by rw[hs.1];show hl)]);have#[fk,e1,e2]:=d.lv w;show#[h',v'.other w zbo e1 e2]
 show#[?_,key];rcases d with⟨ks,e1,e2⟩|⟨rfl,f',e1,e2⟩
 .rw[e] at e1;cases e1;have#[_,g,h1,h2]:=(w.ok a lv ks e).2.1 k (uJ e2);show#[_,g,e,h1,z5 h2]
 show#[f',f',e1,e1,uL _]
def zoA(es:ss[lv]? =eO s)(w:WF ss fs)(hh:here<lv)(e:fs[a]? =eO (.fork here ks))(hlen:rs.length=ks.length)(hr:∀(i k r:Nat),ks[i]? =eO k->rs[i]? =eO r->Fxd ss lv m fs k r)(fo:zgy fs here rs r):Fxd ss lv m fs a r:=by
 have iN:∀k∈rs,∃f,fs[k]? =eO f/\here<lvl ss.length f:=λk hk=>by
  have#[i,hi]:=z6 hk;have hW:=(uF.1 hi).1;have ek:ks[i]? =eO ks[i]:=uH ⋯;have#[fa,fr,e1,e2,e3]:=(hr i _ k ek hi).le;have#[_,f,e4,e5]:=(w.ok a here ks e).2.1 _ (uJ ek);rw[e1] at e4;cases e4;show#[fr,e2,⋯]
 show#[?_,λst hs q h v=> ?_];obtain⟨k0,e0,⟨all,rfl⟩|⟨_,e1⟩⟩:=fo;have#[f,e1,e2]:=iN r (uJ e0);show#[_,f,e,e1,z5 e2];show#[_,_,e,e1,uL _];have#[#[sh,ly,eJ],_]:=w.ok a here ks e;have#[j,ej,hj]:=hs.get ly;have#[k,h',ek,v']:=v.kid e (x:=j) (by rw[A4,Gw ⋯];show ej);have er:rs[j]? =eO rs[j]:=uH ⋯;have#[h2,v2]:=(hr j k _ ek er).va st hs q _ v';show#[_,fo.va ej er v2]
def zoB(bj:Bx9 ss bl)(es:ss[lv]? =eO s)(hm:m<s):∀(d N:Nat) {S:Sto} {fs:kh zM} {l:kh (Key×Xv)} {a:Nat} {f:zM},d+1<=N->KS sn fn dn kn (.tup bl) ss lv m fs l S->fs[a]? =eO f->ss.length<=lvl ss.length f+d->fs.length+cst ss d<=1000000->l.length+cst ss d<=1000000->
  W (yj N [.ref sn,.int (a:Int),.int (lv:Int),.int (m:Int),.ref kn] S) λv S'=>∃(r:Nat) (fs':kh zM) (l':kh (Key×Xv)),v= .int (r:Int)/\Fxd ss lv m fs' a r/\KP sn fn dn kn (.tup bl) ss lv m (cst ss d) fs l S fs' l' S':=by
 have fQ:∀s∈ss,1<=s:=λs hs=>(bj.siz s hs).1;have jC:=(uF.1 es).1;have base:∀(d N:Nat) {S:Sto} {fs:kh zM} {l:kh (Key×Xv)} {a:Nat} {f:zM},d+1<=N->KS sn fn dn kn (.tup bl) ss lv m fs l S->fs[a]? =eO f->lv<=lvl ss.length f->
   W (yj N [.ref sn,.int (a:Int),.int (lv:Int),.int (m:Int),.ref kn] S) λv S'=>∃(r:Nat) (fs':kh zM) (l':kh (Key×Xv)),v= .int (r:Int)/\Fxd ss lv m fs' a r/\KP sn fn dn kn (.tup bl) ss lv m (cst ss d) fs l S fs' l' S':=by
  intro d N S fs l a f hN h e hf;obtain⟨N,rfl⟩:∃M,N=M+1:=#[N-1,⋯];rw[xT];delta xo;show zo (zR (yi ?_));calc#[_,_,rfl,h.st.o,rfl,?_];let#[_,S,#[rfl,rfl]]:=zdT h.st bj.len e;dsimp only[uO];show zo (zy ?_);calc yK (λ_=> ?_) (λz=>absurd ⋯ z);have#[k,kd,tk]:=zk1 h.st h.wf bj.len e hf es hm;show yc (yi ?_);calc#[_,_,rfl,h.st.o,rfl,?_];let#[_,S,#[rfl,rfl]]:=tk;show#[k,fs,l,rfl,kd.fxd es h.wf e,(h.jp (A0 _)).more ⋯]
 intro d
 induction d with
 |zero=>intro N S fs l a f hN h e hf _ _;show base 0 N hN h e ⋯
 |succ d ih=>
  intro N S fs l a f hN h e hd jX iM;by_cases hf:lv<=lvl ss.length f;show base _ N hN h e hf;have nZ:=zbp fQ (show d<=d+1 by omega);by_cases hd2:ss.length<=lvl ss.length f+d;let#[v,S2,#[r,aF,l2,hv,g,k]]:=ih N ⋯ h e hd2 ⋯ ⋯;show#[r,aF,l2,hv,g,k.more nZ]
  cases f with
  |leaf q=>show absurd (z5 jC) hf
  |fork here ks=>
  have hf:¬lv<=here:=hf;have hd2:¬ss.length<=here+d:=hd2;have hd:ss.length<=here+(d+1):=hd;have#[#[sh,ly,eJ],iN,_]:=h.wf.ok a here ks e;have hsz:=bj.siz sh (uJ ly);have hc:cst ss (d+1)=2+sh*cst ss d:=by
   have:=zgA ly;rw[show ss.length-here=d+1 by omega] at this;show this
  obtain⟨N,rfl⟩:∃M,N=M+1:=#[N-1,⋯];rw[xT];delta xo;show zo (zR (yi ?_));calc#[_,_,rfl,h.st.o,rfl,?_];let#[_,S,#[rfl,rfl]]:=zgx h.st e;dsimp only[uO];show zo (zy ?_);calc yK (λz=>absurd z ⋯) (λ_=>zt ?_);show zo (ZB (λρ S2=>∃(a6:mw Xv) (r:Nat) (aF:kh zM) (l2:kh (Key×Xv)),ρ=[eO (.ref sn),eO (.int (a:Int)),eO (.int (lv:Int)),eO (.int (m:Int)),eO (.ref kn),eO (.int (here:Int)),a6]/\wS l2 (.inl (a:Int))=eO (.int (r:Int))/\Fxd ss lv m aF a r/\KP sn fn dn kn (.tup bl) ss lv m (cst ss (d+1)) fs l S aF l2 S2) (zy (xj (zr4 ?_))) ?_)
  .ext;show#[_,_,_,zaY h.kd,rfl,_,rfl,λz=> ?_,λz=>zt ?_];rotate_left
   .cases ev:wS l (.inl (a:Int)) with
    |none=>rw[ev] at z;cases z
    |some y=>
     have#[a',r,e1,rfl,g]:=h.kl _ _ ev;have:a'=a:=by
      injection e1 with e1;omega
     subst this;show#[_,r,fs,l,rfl,ev,g,(h.jp (A0 _)).more ⋯]
   show zo (zR (xN (zeW (yi ?_))));calc#[_,_,rfl,h.st.o,rfl,?_];let#[_,S,#[rfl,rfl]]:=zjT h.st e;show#[_,rfl,_,rfl,?_];show xb (by rw[yu];show ZK ⋯) (λi es S2=>∃(aF:kh zM) (l2:kh (Key×Xv)) (rs:kh Nat),es=ksX rs/\rs.length=i/\KP sn fn dn kn (.tup bl) ss lv m (i*cst ss d) fs l S aF l2 S2/\∀(j k r:Nat),ks[j]? =eO k->rs[j]? =eO r->Fxd ss lv m aF k r) (λ_ _ _ _ _=>rfl) ?_ #[fs,l,[],rfl,rfl,(h.jp (A0 _)).more ⋯,λj k r _ e=>by simp at e] ?_;intro i w0 gG S2 hw f7 #[aF,l2,rs,rfl,d5,k2,fv];have#[k,ek,rfl]:=YF hw;have hi:=(uF.1 ek).1;show .of rfl ?_;dsimp only[vI,Ae,uO];calc#[rfl,yi ?_];calc#[_,_,rfl,k2.js.st.o,rfl,?_];ext;have#[_,g,eg,hg]:=iN k (uJ ek);have m8:(i+1)*cst ss d<=sh*cst ss d:=x3 _ ⋯;have jE:(i+1)*cst ss d=i*cst ss d+cst ss d:=Am i _;have f2:=k2.fl;have g2:=k2.ll;let#[_,S3,#[r,bN,l3,rfl,fx,k3]]:=ih N ⋯ k2.js (xE k2.pre eg) ⋯ ⋯ ⋯;show#[bN,l3,rs++[r],by rw[zox],by simp[d5],(k2.trans k3).more ⋯,λj k' r' e1 e2=> ?_];rcases Af j rs.length with hj|hj|hj;rw[uN hj] at e2;show(fv j k' r' e1 e2).mono es hm k2.js.wf k3.pre;subst hj;rw[uQ (uL _),As] at e2;cases e2;rw[d5,ek] at e1;cases e1;show fx;rw[x8 (by simp;omega)] at e2;cases e2
   intro gG S2 _ #[aF,l2,rs,rfl,d5,k2,fv];rw[yu] at d5 k2;have k3:=k2.app (uI S2 [.lst (ksX rs)]);have gL:(S2++[Ce.lst (ksX rs)])[S2.length]? =eO (.lst (ksX rs)):=yC;generalize S2++[Ce.lst (ksX rs)]=S3 at k3 gL;dsimp only[uO];rw[eJ] at k3;have f2:=k3.fl;have g2:=k3.ll;have h0:rs[0]? =eO rs[0]:=uH ⋯;show zpJ (yi ?_);calc#[_,_,rfl,k3.js.st.o,rfl,?_];let#[_,S4,#[r,dI,rfl,fo,ad,g]]:=zgz k3.js.st ⋯ gL h0 ⋯;ext;have w3:=k3.js.wf;have iw:∀k∈rs,∃f,aF[k]? =eO f/\here<lvl ss.length f:=λk hk=>by
    have#[i,hi]:=z6 hk;have hW:=(uF.1 hi).1;have ek:ks[i]? =eO ks[i]:=uH ⋯;have#[fa,fr,e1,e2,e3]:=(fv i _ k ek hi).le;have#[_,f,e4,e5]:=iN _ (uJ ek);rw[xE k3.pre e4] at e1;cases e1;show#[fr,e2,⋯]
   have w4:WF ss dI:=by
    rcases ad with rfl|⟨fM,ad⟩
    .show w3
    show w3.fork g.st.nd (.inr ad) ly ⋯ iw λz=>fM λk hk=> ?_;show z k hk rs[0] (y8 _)
   have k4:=k3.trans (KP.grown es hm k3.js w4 g);have fx:Fxd ss lv m dI a r:=zoA es w4 ⋯ (xE k4.pre e) d5 (λi k r e1 e2=>(fv i k r e1 e2).mono es hm w3 g.pre) fo;have k5:=k4.trans (k4.js.put fx);show#[_,_,_,zaY k4.js.kd,rfl,uT (show l2.length<=1000000 by omega) ∅,?_];show#[_,r,dI,_,rfl,by rw[zie,Gv rfl],fx,k5.more ⋯]
  intro _ S2 #[a6,r,aF,l2,rfl,ev,fx,k2];show yc (zpI ?_);ext;show#[_,_,_,_,zaY k2.js.kd,rfl,ev,r,aF,l2,rfl,fx,k2]
def zqc(bj:Bx9 ss bl)(es:ss[lv]? =eO s)(hm:m<s){a:Nat}{f:zM}(h:yN sn fn dn (.tup bl) fs S)(w:WF ss fs)(e:fs[a]? =eO f)(hf:fs.length+cst ss ss.length<=1000000):
  W (Xg [.ref sn,.int (a:Int),.int (lv:Int),.int (m:Int)] S) λv S'=>∃(r:Nat) (fs':kh zM),v= .int (r:Int)/\Fxd ss lv m fs' a r/\WF ss fs'/\yM sn fn dn (.tup bl) fs (cst ss ss.length) S fs' S':=by
 delta Xf;show yc (yi ?_);calc#[_,_,rfl,h.o,rfl,?_];ext;have p:=uI S [Ce.dk []];have hd:=h.flt.2;have js:KS sn fn dn S.length (.tup bl) ss lv m fs [] (S++[.dk []]):=#[h.pre p,w,yC,λk y e=>by simp[wS] at e,⋯];let#[_,S2,#[r,aF,l2,rfl,gd,j]]:=zoB bj es hm ss.length 12 (by have:=bj.l9;omega) js e ⋯ hf (by simp only[A6];omega);show#[r,aF,rfl,gd,j.js.wf,#[j.js.st,j.pre,j.fl,#[by have:=j.kp.1;rw[uZ] at this;omega,λn c e nw=> ?_]]];have hn:=(uF.1 e).1;show j.kp.2 _ _ (xE p e) λz=>by
  rcases z with z|z|z;show nw (.inl z);show nw (.inr z);omega
end
section
inductive Opd where
 |num (i:Int)
 |nam (z:Str)
noncomputable def opX:Opd->Xv
 | .num i=> .int i
 | .nam z=> .str z
noncomputable def fIx(bs:kh (Str×Nat))(z:Str):mw Nat:=bs.findIdx? λb=>decide (b.1=z)
noncomputable def wv(bs:kh (Str×Nat))(st:kh Nat):Opd->Int
 | .num i=>i
 | .nam z=>((st.getD ((fIx bs z).getD 0) 0:Nat):Int)
def zaF(bs:kh (Str×Nat)):Opd->Prop
 | .num i=>i.natAbs<=1000000000
 | .nam z=>∃k,fIx bs z=eO k
structure Tst where
 a:Opd
 sg:Nat
 b:Opd
def zbW(bs:kh (Str×Nat))(t:Tst):Prop:=zaF bs t.a/\zaF bs t.b/\t.sg<3
noncomputable def sgS:Nat->Str
 |0=>"="
 |1=>"<"
 |_=>"#"
noncomputable def tsX(t:Tst):Xv:= .tup [opX t.a,.str (sgS t.sg),opX t.b]
noncomputable def mkB(bs:kh (Str×Nat))(t:Tst)(st:kh Nat):Bool:=match t.sg with
 |0=>decide (wv bs st t.a=wv bs st t.b)
 |1=>decide (wv bs st t.a<wv bs st t.b)
 |_=> !decide (wv bs st t.a=wv bs st t.b)
def zgE(h:fIx bs z=eO k):∃b,bs[k]? =eO b/\b.1=z:=by
 unfold fIx at h;rw[B6] at h;have#[hk,h1,_]:=h;show#[bs[k],uH hk,of_decide_eq_true h1]
def zbX(ho:zaF bs o)(h:∀(k:Nat) b,bs[k]? =eO b->o= .nam b.1->st[k]? =st'[k]?):wv bs st o=wv bs st' o:=by
 cases o with
 |num i=>rfl
 |nam z=>
  have#[k,hk]:=ho;have#[b,e,rfl]:=zgE hk;unfold wv;dsimp only;rw[hk];simp only[Ap,uX];rw[h k b e rfl]
def WB{k:Nat}{b:Str×Nat}(h:bs[k]? =eO b):(bsX bs)[k]? =eO (.tup [.str b.1,.int (b.2:Int)]):=by
 unfold bsX;rw[uK,h];rfl
def zqd{k:Nat}{w:Xv}(h:(bsX bs)[k]? =eO w):∃b,bs[k]? =eO b/\w= .tup [.str b.1,.int (b.2:Int)]:=by
 unfold bsX at h;rw[uK] at h;cases e:bs[k]? with
 |none=>rw[e] at h;cases h
 |some b=>rw[e] at h;cases h;show#[b,rfl,rfl]
def zgF(h9:bs.length<=9)(h:fIx bs zz=eO k):W (ZY [.tup (bsX bs),.str zz] S) λv S'=>v= .int (k:Int)/\S<+:S':=by
 delta UQ;show yc (TU (xN (zeW (zr rfl ?_))));show#[_,rfl,_,rfl,?_];show xb (by rw[Zq];show ZK ⋯) (λi es S2=>es=(bs.take i).map (λb=>Xv.str b.1)/\S2=S) (λ_ _ _ _ _=>rfl) ?_ #[by simp,rfl] ?_;intro i w0 gG S2 hw f7 #[rfl,rfl];have#[b,e1,rfl]:=zqd hw;show .of rfl ?_;dsimp only[vI,Ae,uO];calc#[rfl,?_];calc#[?_,rfl];have#[hi,e1]:=uF.1 e1;rw[z4 hi,z7,e1];rfl;intro gG S2 _ #[rfl,rfl];rw[Zq,A3];show#[#[_,wG],?_];calc znX (k:=k) (vh yC) ?_ ?_ #[rfl,uI _ _];rw[A5,Ao];show#[rfl,λw hw=> ?_];have#[b,_,rfl]:=z9.1 hw;rfl;rw[List.findIdx?_map];unfold fIx at h;rw[<-h];rfl
def TB(h9:bs.length<=9)(hl:st.length=bs.length)(ho:zaF bs o):W (YZ [.tup (bsX bs),.tup (ksX st),opX o] S) λv S'=>v= .int (wv bs st o)/\S<+:S':=by
 delta zdK;show zo (zy ?_);cases o with
 |num i=>
  calc vJ (v:=kb) rfl ?_;show#[_,rfl,nofun,λ_=>zt ?_];ext;show#[rfl,A0 _]
 |nam zz=>
  have#[k,hk]:=ho;have#[b,e,_]:=zgE hk;have eK:=(uF.1 e).1;calc vJ (v:=gP) rfl ?_;show#[_,rfl,λ_=> ?_,nofun];let#[_,S2,#[rfl,p]]:=zgF h9 hk;have e2:st[k]? =eO st[k]:=uH ⋯;show zH rfl (zV (Yr e2)) #[?_,p];unfold wv;dsimp only;rw[hk];simp only[Ap,uX,e2]
end
section
def zst(k:∀b:Bool,(b=gP->o= .nam a)->(b=kb->¬o= .nam a)->P (.bl b) S):WO (yH kb (.str a) (opX o) S) P:=by
 cases o with
 |num i=>show WO.of (show yH kb (.str a) (.int i) S=eO (.bl kb,S) from rfl) (k kb (λe=>by cases e) (λ_ e=>by cases e))
 |nam zz=>
  show zE ?_;have:=k (decide (a=zz)) (λe=>by rw[of_decide_eq_true e]) (λe q=>of_decide_eq_false e (by cases q;rfl));simpa using this
def WQ(h9:bs.length<=9)(hl:st.length=bs.length)(ho:zaF bs o):W (xB [.tup (bsX bs),.tup (ksX st),opX o] S) λv S'=>v= .int (wv bs st o)/\S=S':=by
 delta Wt;show zo (xJ (wA (xR (zm (zr rfl (yw (yV ?_)))))));rw[Zq];show#[_,rfl,#[⋯,⋯],_,rfl,?_];rw[x4];show yZ (xs:=wd 0 bs.length) (λi ρ S2=>∃a3,ρ=[eO (.tup (bsX bs)),eO (.tup (ksX st)),eO (opX o),a3]/\S2=S/\∀(k:Nat) b,k<i->bs[k]? =eO b->¬o= .nam b.1) (λ_ _ _ _ _=>rfl) ?_ ?_ ?_
 .intro i w ρ S2 hw #[a3,rfl,rfl,hn];have#[hi,rfl]:=xf hw;rw[AQ];show .of rfl ?_;dsimp only[uO];have eb:bs[i]? =eO bs[i]:=uH hi;show zy (xj (zN (zN (zN (zr rfl (zr rfl ?_))))));show zH (l:=bsX bs) rfl (zV (WB eb)) ?_;calc zst λbb bt bf=> ?_;show#[_,rfl,λzz=> ?_,λzz=>zt ?_]
  .have hq:=bt zz;ext;have e2:st[i]? =eO st[i]:=uH ⋯;show zH rfl (zV (Yr e2)) #[?_,rfl];subst hq;have hk:fIx bs bs[i].1=eO i:=by
    unfold fIx;rw[B6];show#[hi,decide_eq_true rfl,λj hj=> ?_];have sC:j<bs.length:=by omega
    intro q;show hn j bs[j] hj (uH sC) (by rw[of_decide_eq_true q])
   unfold wv;dsimp only;rw[hk];simp only[Ap,uX,e2]
  show#[_,rfl,rfl,λk b hk e q=> ?_];rcases Dt k i with h|h;show hn k b h e q
  have:k=i:=by omega
  subst this;rw[eb] at e;cases e;show bf zz q
 .show#[fX,rfl,rfl,λk b hk=>by omega]
 intro ρ S2 #[a3,rfl,rfl,hn];rw[yd] at hn;cases o with
 |num i=>
  ext;show#[rfl,rfl]
 |nam zz=>
  have#[k,hk]:=ho;have#[b,e,rfl]:=zgE hk;show absurd rfl (hn k b (uF.1 e).1 e)
def zk6{k:Nat}{b:Str×Nat}(e:bs[k]? =eO b):∃j,fIx bs b.1=eO j:=by
 cases h:fIx bs b.1 with
 |some j=>show#[j,rfl]
 |none=>
  unfold fIx at h;rw[List.findIdx?_eq_none_iff] at h;have:=h b (uJ e);simp at this
def WR(hl:ya mx ln S)(h9:bs.length<=9):W (xq [.ref ln,.tup (bsX bs)] S) λv S'=>∃o,v=opX o/\zaF bs o/\ya mx ln S'/\Kp (· =ln) S S':=by
 delta Yo;show zo (zR (yb (zm (zr rfl (zm (zN (zN (ZU (xR (zm (zr rfl (yw (yV ?_)))))))))))));rw[Zq];let#[_,S1,#[c,rfl,c0,c1,l1,k1]]:=yL hl ⋯;dsimp only[uO];show zo (zy ?_);ext;show yK (λhc=> ?_) (λhc=>zt ?_)
 .show yc (zN (zN (zr rfl (zN (zr rfl (xR (zm (zr rfl (yw (yV ?_))))))))));rw[Zq];have hb:0<bs.length:=by omega
  show vt ⋯ ?_;have hm:(c % (bs.length:Int)).toNat<bs.length:=by
   have:=Aj c (show(0:Int)<(bs.length:Int) by omega);have:=Ac c (show(bs.length:Int)≠0 by omega);omega
  have eb:bs[(c % (bs.length:Int)).toNat]? =eO bs[(c % (bs.length:Int)).toNat]:=uH hm;show zH (l:=bsX bs) rfl (zbK (Ac c ⋯) (WB eb)) ?_;ext;show#[.nam _,rfl,zk6 eb,l1,k1]
 show zo (zy ?_);calc yK (λiQ=> ?_) (λiQ=>zt ?_);let#[_,S2,#[i,rfl,i0,i1,l2,k2]]:=yL l1 ∅;rw[show(10:Int)^(9:Int).toNat=1000000000 from rfl] at i1;show#[.num i,rfl,(by change i.natAbs<=1000000000;omega),l2,k1.trans k2];let#[_,S2,#[i,rfl,i0,i1,l2,k2]]:=yL l1 ∅;show#[.num i,rfl,(by change i.natAbs<=1000000000;omega),l2,k1.trans k2]
def zoC(hl:ya mx ln S)(h9:bs.length<=9):W (YD [.ref ln,.tup (bsX bs)] S) λv S'=>∃t,v=tsX t/\zbW bs t/\ya mx ln S'/\Kp (· =ln) S S':=by
 delta VE;show zo (zR (yb (zm (zr rfl (zm (zr rfl (yw ?_)))))));let#[_,S1,#[oa,rfl,ha,l1,k1]]:=WR hl h9;dsimp only[uO];show zo (zR (zN (ZU (yb (zm (zr rfl (zm (ZU (yw ?_)))))))));let#[_,S2,#[c,rfl,c0,c1,l2,k2]]:=yL l1 ∅;obtain⟨sg,nr,e⟩:∃sg,sg<3/\zho (.str "=<#") (.int c) S2=eO (.str (sgS sg),S2):=by
  have:c=0\/c=1\/c=2:=by omega
  obtain rfl|rfl|rfl:=this;show#[0,∅,rfl];show#[1,∅,rfl];show#[2,∅,rfl]
 show WO.of e ?_;dsimp only[uO];show yc (YQ (zm (zr rfl (zm (zr rfl (zm (yb (zm (zr rfl (zm (zr rfl (yw ?_)))))))))))) ;let#[_,S3,#[ob,rfl,hb,l3,k3]]:=WR l2 h9;ext;show#[#[oa,sg,ob],rfl,#[ha,hb,nr],l3,(k1.trans k2).trans k3]
end
section
variable{Fn:kh Nat->Q2}
def Rel(bs:kh (Str×Nat))(us:kh Xv)(k:Nat):Prop:=∃b,bs[k]? =eO b/\(us.any λz=>zfR z (.str b.1))=gP
def Mk(ss:kh Nat)(fs:kh zM)(bs:kh (Str×Nat))(us:kh Xv)(Fn:kh Nat->Q2)(ns:kh Nat)(i:Nat):Prop:=∀st,yv ss st->(∀k,k<ns.length->Rel bs us k->ns[k]? =st[k]?)->∃h,VA fs st (Fn st) h i
def Mk.mono{ns:kh Nat}(h:Mk ss fs bs us Fn ns i)(p:fs<+:fs'):Mk ss fs' bs us Fn ns i:=λst hs hk=>by
 have#[k,v]:=h st hs hk;show#[k,v.mono p]
structure RuM(sn fn dn:Nat)(bs:kh (Str×Nat))(us:kh Xv)(Fn:kh Nat->Q2)(xr:Xv):Prop where
 run:∃(L:xx) (aX:kh Xv) (tw:kh Xv->TwF),xr= .lam L aX/\YS [(zce,zfa),(zcg,zfb),(zcl,zfc)] L=eO tw/\∀{S:Sto} {fs:kh zM} {ns:kh Nat},yN sn fn dn (.tup (bsX bs)) fs S->yv (bs.map (·.2)) ns->W (tw aX [.tup (ksX ns)] S) λv S'=>QX v (Fn ns)/\S<+:S'
 dep:∀st st':kh Nat,yv (bs.map (·.2)) st->yv (bs.map (·.2)) st'->(∀k,Rel bs us k->st[k]? =st'[k]?)->Fn st=Fn st'
 fl:us.all wo=gP
 len:us.length<=3
def nb_(h:(gP !=b)=gP):b=kb:=by cases b<;>simp_all
def Tn{k:Nat}{b:Str×Nat}(e:bs[k]? =eO b):(bs.map (·.2))[k]? =eO b.2:=by rw[uK,e];rfl
def zqe(h9:bs.length<=9)(h1:∀b∈bs,1<=b.2/\b.2<=9)(hr:RuM sn fn dn bs us Fn xr):∀(d N:Nat) {S:Sto} {fs:kh zM} {ns:kh Nat},d+1<=N->ns.length+d=bs.length->(∀(k:Nat) v b,ns[k]? =eO v->bs[k]? =eO b->v<b.2)->yN sn fn dn (.tup (bsX bs)) fs S->WF (bs.map (·.2)) fs->fs.length+cst (bs.map (·.2)) d<=1000000->
  W (yt N [.ref sn,.tup us,xr,.tup (ksX ns)] S) λv S'=>∃(i:Nat) (fs':kh zM),v= .int (i:Int)/\(∃f,fs'[i]? =eO f/\ns.length<=lvl (bs.map (·.2)).length f)/\Mk (bs.map (·.2)) fs' bs us Fn ns i/\WF (bs.map (·.2)) fs'/\yM sn fn dn (.tup (bsX bs)) fs (cst (bs.map (·.2)) d) S fs' S':=by
 have kK:(bs.map (·.2)).length=bs.length:=uM _;have fQ:∀s∈bs.map (·.2),1<=s:=λs hs=>by
  have#[b,hb,rfl]:=z9.1 hs;show(h1 b hb).1
 intro d
 induction d with
 |zero=>
  intro N S fs ns hN eG hok h w hf;obtain⟨N,rfl⟩:∃M,N=M+1:=#[N-1,⋯];have c2:2<=cst (bs.map (·.2)) 0:=by unfold cst;rw[Er,Du];show uL _
  rw[xU];delta wc;show zo (zR (xR (zm (zr rfl (yw (yV ?_))))));rw[yu];dsimp only[uO];show zo (zy (xj (zN (zr rfl (xR (zm (xl ?_)))))));calc#[_,_,_,rfl,h.o,rfl,?_];calc yV ?_;rw[Zq];calc yK (λ_=> ?_) (λzz=>absurd ⋯ zz);show yc (yi ?_);calc#[_,_,rfl,h.o,rfl,?_];have#[L,aX,tw,rfl,hp,ht]:=hr.run
  have iY:yv (bs.map (·.2)) ns:=#[⋯,λk v s e1 e2=>by
   rw[uK] at e2;cases e3:bs[k]? with
   |none=>rw[e3] at e2;cases e2
   |some b=>rw[e3] at e2;cases e2;show hok k v b e1 e3]
  show zm (zdv rfl hp (zm (zr rfl (yw ?_))));let#[v,S2,#[hq,p]]:=ht h iY;let#[_,S3,#[i,bN,rfl,e1,ad,g]]:=zgw (h.pre p) ⋯ hq;show#[i,bN,rfl,#[_,e1,by change ns.length<=(bs.map (·.2)).length;omega],λst hs hk=> ?_,w.leaf g.st.nd ad,((yM.of_pre h p).trans g).more ⋯];show#[0,.leaf ?_]
  rw[hr.dep st ns hs iY λk lZ=>(hk k (by
   have#[b,e,_]:=lZ;have:=(uF.1 e).1
   omega) lZ).symm]
  show e1
 |succ d ih=>
  intro N S fs ns hN eG hok h w hf;obtain⟨N,rfl⟩:∃M,N=M+1:=#[N-1,⋯];have hl:ns.length<bs.length:=by omega
  have eb:bs[ns.length]? =eO bs[ns.length]:=uH hl;generalize bs[ns.length]=b at eb;have hsz:=h1 b (uJ eb);have es:=Tn eb;have nZ:=zbp fQ (show d<=d+1 by omega);have hc:cst (bs.map (·.2)) (d+1)=2+b.2*cst (bs.map (·.2)) d:=by
   have:=zgA es;rw[show(bs.map (·.2)).length-ns.length=d+1 by omega] at this;show this
  rw[xU];delta wc;show zo (zR (xR (zm (zr rfl (yw (yV ?_))))));rw[yu];dsimp only[uO];show zo (zy (xj (zN (zr rfl (xR (zm (xl ?_)))))));calc#[_,_,_,rfl,h.o,rfl,?_];calc yV ?_;rw[Zq];calc yK (λzz=>absurd zz ⋯) (λ_=>zt ?_);show zo (zy (xj (zN (zN (zN (xl ?_))))));calc#[_,_,_,rfl,h.o,rfl,?_];calc zH (l:=bsX bs) rfl (zV (WB eb)) ?_;calc ztJ (l:=us) rfl (by change(gP&&us.all wo)=gP;rw[hr.fl];rfl) ?_;show#[_,rfl,λzz=> ?_,λzz=>zt ?_]
  .have si:¬Rel bs us ns.length:=by
    intro#[b',e',h'];rw[eb] at e';cases e';rw[nb_ zz] at h';cases h'
   show yc (yi ?_);calc#[_,_,rfl,h.o,rfl,?_];calc vm (by rw[yu];simp only[uW,A6];omega) ?_;rw[show ksX ns++[Xv.int 0]=ksX (ns++[0]) from(Zo ns 0).symm];ext
   show(ih N ⋯ (by simp;omega) (λk v b' e1 e2=>by
     rcases Af k ns.length with h'|h'|h';rw[uN h'] at e1;show hok k v b' e1 e2;subst h';rw[uQ (uL _),As] at e1;rw[eb] at e2;cases e2;cases e1;omega
     rw[x8 (by simp;omega)] at e1;cases e1) h w ⋯).imp ?_
   intro v S2 #[i,aF,hv,#[f,e1,e2],mk,w2,g];show#[i,aF,hv,#[f,e1,by rw[uZ] at e2;omega],λst hs hk=>mk st hs λk iy hr=> ?_,w2,g.more nZ];rcases Af k ns.length with h'|h'|h';rw[uN h'];show hk k h' hr;subst h';show absurd hr si;rw[uZ] at iy;simp at iy;omega
  show zo (zR (zN (zN (xl ?_))));calc#[_,_,_,rfl,h.o,rfl,?_];calc zH (l:=bsX bs) rfl (zV (WB eb)) ?_;calc yi ?_;calc#[_,_,rfl,h.o,rfl,?_];show zm (zr rfl (zm (xN (wA (zr rfl ?_)))));show#[_,rfl,#[⋯,⋯],_,rfl,?_];rw[x4]
  show xb (xs:=wd 0 b.2) (by rw[yd];show ZK ⋯) (λi es S2=>∃(aF:kh zM) (ks:kh Nat),es=ksX ks/\ks.length=i/\yM sn fn dn (.tup (bsX bs)) fs (i*cst (bs.map (·.2)) d) S aF S2/\WF (bs.map (·.2)) aF/\
    ∀(m k:Nat),ks[m]? =eO k->(∃f,aF[k]? =eO f/\ns.length<lvl (bs.map (·.2)).length f)/\Mk (bs.map (·.2)) aF bs us Fn (ns++[m]) k) (λ_ _ _ _ _=>rfl) ?_ #[fs,[],rfl,rfl,h.grown.more ⋯,w,λm k e=>by simp at e] ?_
  .intro i w0 gG S2 hw f7 #[aF,ks,rfl,eK,g2,w2,eJ];have#[hi,rfl]:=xf hw;rw[AQ];show .of rfl ?_;dsimp only[vI,Ae,uO];calc#[rfl,yi ?_];calc#[_,_,rfl,g2.st.o,rfl,?_];calc vm (by rw[yu];simp only[uW,A6];omega) ?_;rw[show ksX ns++[Xv.int (i:Int)]=ksX (ns++[i]) from(Zo ns i).symm];ext;have m8:(i+1)*cst (bs.map (·.2)) d<=b.2*cst (bs.map (·.2)) d:=x3 _ hi;have jE:(i+1)*cst (bs.map (·.2)) d=i*cst (bs.map (·.2)) d+cst (bs.map (·.2)) d:=Am i _;have f2:=g2.len
   show(ih N ⋯ (by simp;omega) (λk v b' e1 e2=>by
    rcases Af k ns.length with h'|h'|h';rw[uN h'] at e1;show hok k v b' e1 e2;subst h';rw[uQ (uL _),As] at e1;rw[eb] at e2;cases e2;cases e1;omega
    rw[x8 (by simp;omega)] at e1;cases e1) g2.st w2 ⋯).imp ?_
   intro _ S3 #[k,bN,rfl,#[f,e1,e2],mk,w3,g3];show#[bN,ks++[k],by rw[Zo],by simp[eK],(g2.trans g3).more ⋯,w3,λm k' e=> ?_];rcases Af m ks.length with dq|dq|dq;rw[uN dq] at e;have#[#[f',e1,e2],tt]:=eJ m k' e;show#[#[f',xE g3.pre e1,e2],tt.mono g3.pre];subst dq;rw[uQ (uL _),As] at e;cases e;rw[eK];show#[#[f,e1,by rw[uZ] at e2;show e2],mk];rw[x8 (by simp;omega)] at e;cases e
  intro gG S2 _ #[aF,ks,rfl,eK,g2,w2,eJ];rw[yd] at eK g2;have g3:=g2.app (uI S2 [.lst (ksX ks)]);have gL:(S2++[Ce.lst (ksX ks)])[S2.length]? =eO (.lst (ksX ks)):=yC;generalize S2++[Ce.lst (ksX ks)]=S3 at g3 gL;have f2:=g2.len;have h0:ks[0]? =eO ks[0]:=uH ⋯;let#[_,S4,#[r,dI,rfl,fo,ad,g]]:=zgz g3.st ⋯ gL h0 ⋯;have iw:∀k∈ks,∃f,aF[k]? =eO f/\ns.length<lvl (bs.map (·.2)).length f:=λk hk=>by
   have#[m,dq]:=z6 hk;show(eJ m k dq).1
  have w4:WF (bs.map (·.2)) dI:=by
   rcases ad with rfl|⟨fM,ad⟩
   .show w2
   show w2.fork g.st.nd (.inr ad) es eK iw λz=>fM λk hk=> ?_;show z k hk ks[0] (y8 _)
  show#[r,dI,rfl,?_,λst hs ft=> ?_,w4,(g3.trans g).more ⋯];obtain⟨k0,e0,⟨all,rfl⟩|⟨_,e⟩⟩:=fo;have#[f,e1,e2]:=iw r (uJ e0);show#[f,xE g.pre e1,⋯];show#[_,e,uL _]
  have#[m,em,dq]:=hs.get es;have ek:ks[m]? =eO ks[m]:=uH ⋯;have#[_,tl]:=eJ m _ ek;have#[hh,v]:=tl st hs λk hk hr=>by
   rcases Af k ns.length with h'|h'|h';rw[uN h'];show ft k h' hr;subst h';rw[uQ (uL _),As,em];rfl;rw[uZ] at hk;simp at hk;omega
  show#[_,fo.va em ek (v.mono g.pre)]
def zgG(h9:bs.length<=9)(h1:∀b∈bs,1<=b.2/\b.2<=9)(hr:RuM sn fn dn bs us Fn xr)(h:yN sn fn dn (.tup (bsX bs)) fs S)(w:WF (bs.map (·.2)) fs)(hf:fs.length+cst (bs.map (·.2)) (bs.map (·.2)).length<=1000000):
  W (vz [.ref sn,.tup us,xr] S) λv S'=>∃(i:Nat) (fs':kh zM),v= .int (i:Int)/\(∃f,fs'[i]? =eO f)/\(∀st,yv (bs.map (·.2)) st->∃h,VA fs' st (Fn st) h i)/\WF (bs.map (·.2)) fs'/\yM sn fn dn (.tup (bsX bs)) fs (cst (bs.map (·.2)) (bs.map (·.2)).length) S fs' S':=by
 delta Wk;show yc (yi ?_);calc#[_,_,rfl,h.o,rfl,?_];ext;have kK:(bs.map (·.2)).length=bs.length:=uM _;rw[kK] at hf ⊢;let#[_,S2,#[i,aF,rfl,#[f,e1,_],mk,w2,g]]:=zqe h9 h1 hr bs.length 12 (ns:=[]) ⋯ (by simp) (λk v b e=>by simp at e) h w hf;show#[i,aF,rfl,#[f,e1],λst hs=>mk st hs λk hk=>by simp at hk,w2,g]
end
section
def yv.tail{s a:Nat}(h:yv (s::r) (a::t)):a<s/\yv r t:=
 #[h.2 0 a s rfl rfl,by simpa using h.1,λi x u e1 e2=>h.2 (i+1) x u (by simpa using e1) (by simpa using e2)]
theorem zgH:∀{ss st:kh Nat},yv ss st->idx ss st<prd ss
 |[],[],_=>by decide
 |[],_::_,h=>by have:=h.1;simp at this
 |_::_,[],h=>by have:=h.1;simp at this
 |s::r,a::t,h=>by
  have#[h1,h2]:=h.tail;have:=zgH h2;change a*prd r+idx r t<s*prd r;have:(a+1)*prd r<=s*prd r:=x3 _ h1;rw[Am] at this;omega
theorem zk7:∀{ss st st':kh Nat},yv ss st->yv ss st'->idx ss st=idx ss st'->st=st'
 |[],[],[],_,_,_=>rfl
 |[],_::_,_,h,_,_=>by have:=h.1;simp at this
 |[],[],_::_,_,h,_=>by have:=h.1;simp at this
 |_::_,[],_,h,_,_=>by have:=h.1;simp at this
 |_::_,_::_,[],_,h,_=>by have:=h.1;simp at this
 |s::r,a::t,b::u,h,g,e=>by
  have#[h1,h2]:=h.tail;have#[g1,g2]:=g.tail;have e:a*prd r+idx r t=b*prd r+idx r u:=e;have l1:=zgH h2;have l2:=zgH g2;have:a=b:=by
   rcases Af a b with q|q|q;have:(a+1)*prd r<=b*prd r:=x3 _ q;rw[Am] at this;omega;show q;have:(b+1)*prd r<=a*prd r:=x3 _ q;rw[Am] at this;omega
  subst this;rw[zk7 h2 g2 ⋯]
def zj3{l:kh Xv}{lo hi:mw Int}(k:P (.tup (zbH l lo hi)) S):WO (zje (.tup l) lo hi S) P:= .of rfl k
def zbu{α:Type}(l:kh α)(a:Nat)(h:a<=l.length):zbH l (eO (a:Int)) fX=l.drop a:=by
 unfold L2.zbH;rw[HT.zpb,Nat.min_eq_left h];simp[HT.sIx];show AH (by simp)
end
section
noncomputable def zj4(t b:Int):Q2:=(t / (Bh t b:Int),b / (Bh t b:Int))
def zj5(k:P (.int (p.natAbs:Int)) S):WO (zlO [.int p] S) P:= .of (show zlO [.int p] S=eO (.int (if p<0 then -p else p),S) from rfl) (by
 rw[show(if p<0 then -p else p)=(p.natAbs:Int) by split<;>omega]
 show k)
def yz(n:Nat)(p:Int):Prop:=p.natAbs<2^n
def yz.mono(h:yz n p)(hn:n<=m):yz m p:=x9 h (Bu ∅ hn)
def yz.le(h:yz n p):intBits p<=n:=Ai.mpr h
def yz.mul(h:yz n p)(g:yz m q):yz (n+m) (p*q):=by
 unfold yz at*;rw[F8,Nat.pow_add];rcases CW q.natAbs with z|z;rw[z,Es];show CN (CP ∅) (CP ∅);show Nat.mul_lt_mul_of_lt_of_le h (z5 g) (CP ∅)
def Gst:Nat->Nat->Nat->Prop
 |0,_,_=>False
 |n+1,a,b=>b=0\/Gst n b (a % b)
def zsu:∀(n k1 k2 a b:Nat),b<=a->a<2^k1->b<2^k2->k1+k2<n->Gst n a b:=by
 intro n
 induction n with
 |zero=>intro k1 k2 a b _ _ _ h;omega
 |succ n ih=>
  intro k1 k2 a b i7 h1 h2 h;rcases CW b with z|z;show .inl z
  show .inr ?_;cases k1 with
  |zero=>rw[Nat.pow_zero] at h1;omega
  |succ k1=>
   have hr:=Dh a z;have hq:b+a % b<=a:=by
    have e:=F1 a b;have:b*1<=b*(a / b):=Bd _ (Nat.div_pos i7 z);omega
   rw[Nat.pow_succ] at h1;show ih k2 k1 b (a % b) ⋯ h2 ⋯ ⋯
def zsv(hb:b<2^k)(h:2*k+1<n):Gst n a b:=by
 obtain⟨n,rfl⟩:∃m,n=m+1:=#[n-1,⋯];rcases CW b with z|z;show .inl z;have hr:=Dh a z;show .inr (zsu n k k b (a % b) ⋯ hb ⋯ ⋯)
def yz.fuel{n:Nat}{p t:Int}(hb:Big fu)(h:yz n p)(hn:2*n<=134217728):Gst fu t.natAbs p.natAbs:=by
 show zsv h ?_;have h1:134217730<=2^28:=by decide
 have h2:2^28<=fu:=uP (Bu ∅ ∅) hb;omega
def zj6{t b:Int}(h0:0<b):((Bi t.natAbs b.natAbs:Nat):Int)≠0:=by
 have g0:0<Bi t.natAbs b.natAbs:=Nat.gcd_pos_of_pos_right _ ⋯;omega
def zif:qv (zj4 t b)= .tup [.int (t.fdiv ((Bi t.natAbs b.natAbs:Nat):Int)),.int (b.fdiv ((Bi t.natAbs b.natAbs:Nat):Int))]:=by
 rw[AF _ ⋯,AF _ ⋯];rfl
def zoD:∀(n:Nat) (t b:Xv) (one other:Nat) (a4:mw Xv),Gst n one other->
  WS (zai (bE (eOp dGt (zi 3) (oZ 0))) (zw (zI (eOp YB (zi 2) (zi 3)) (gN 4)) (zw (zI (zi 3) (gN 2)) (zI (zi 4) (gN 3)))) n [eO t,eO b,eO (.int one),eO (.int other),a4] S) (λρ S'=>∃a4,ρ=[eO t,eO b,eO (.int (Bi one other:Nat)),eO (.int 0),a4]/\S=S') (λ_ _=>False):=by
 intro n
 induction n with
 |zero=>intro t b one other a4 h;show h.elim
 |succ n ih=>
  intro t b one other a4 hg;show Xz ?_;ext;show yK (λh=> ?_) (λh=> ?_)
  .have h0:0<other:=by omega
   calc vt ⋯ ?_;ext;have:=ih t b other (one % other) (eO (.int ((one % other:Nat):Int))) (hg.resolve_left ⋯);rw[show Bi other (one % other)=Bi one other by rw[Dv other,<-Nat.gcd_rec,Dv]] at this;rw[ER] at this;show this
  have:other=0:=by omega
  subst this;show#[a4,by simp,rfl]
def zma:∀(n:Nat) (one other:Nat) (a2:mw Xv),Gst n one other->
  WS (zai (bE (eOp zdh (zi 1) (oZ 0))) (zw (zI (eOp YB (zi 0) (zi 1)) (gN 2)) (zw (zI (zi 1) (gN 0)) (zI (zi 2) (gN 1)))) n [eO (.int one),eO (.int other),a2] S) (λρ S'=>∃a2,ρ=[eO (.int (Bi one other:Nat)),eO (.int 0),a2]/\S=S') (λ_ _=>False):=by
 intro n
 induction n with
 |zero=>intro one other a2 h;show h.elim
 |succ n ih=>
  intro one other a2 hg;show Xz ?_;ext;rw[show(!decide ((other:Int)=0))=decide (¬(other:Int)=0) by simp];show yK (λh=> ?_) (λh=> ?_)
  .have h0:0<other:=by omega
   calc vt ⋯ ?_;ext;have:=ih other (one % other) (eO (.int ((one % other:Nat):Int))) (hg.resolve_left ⋯);rw[show Bi other (one % other)=Bi one other by rw[Dv other,<-Nat.gcd_rec,Dv]] at this;rw[ER] at this;show this
  have:other=0:=by omega
  subst this;show#[a2,by simp,rfl]
def zdX{N:Nat}(b8:Big fu)(h0:0<b)(hb:yz N b)(hN:2*N<=134217728):W (Yb [.int t,.int b] S) λv S'=>v=qv (zj4 t b)/\S=S':=by
 have gb:=zj6 (t:=t) h0;delta Tg;calc zj5 ?_;calc zkN ?_;have sU:Xv.int b=Xv.int ((b.natAbs:Nat):Int):=by rw[DZ ⋯]
 rcases zoD (S:=S) fu (.int t) (.int b) t.natAbs b.natAbs fX (yz.fuel b8 hb hN) with⟨ρ,S',e,a4,rfl,rfl⟩|⟨_,_,_,z⟩
 rotate_left
 .show z.elim
 rw[<-sU] at e;show .nx e ?_;calc UB gb ?_;calc UB gb ?_;ext;show#[zif.symm,rfl]
def zig{N:Nat}(b8:Big fu)(hb:yz N b)(hN:2*N<=134217728):W (Zd [.int t,.int b] S) λv S'=>v= .int (Bi t.natAbs b.natAbs:Nat)/\S=S':=by
 delta YY;calc zj5 ?_;calc zj5 ?_;calc zkN ?_;rcases zma (S:=S) fu t.natAbs b.natAbs fX (yz.fuel b8 hb hN) with⟨ρ,S',e,a2,rfl,rfl⟩|⟨_,_,_,z⟩
 .show .nx e ?_;ext;show#[rfl,rfl]
 show z.elim
def zih{N:Nat}(b8:Big fu)(h0:0<b)(hb:yz N b)(hN:2*N<=134217728):W (Tw [.int t,.int b] S) λv S'=>v=qv (zj4 t b)/\S=S':=by
 have gb:=zj6 (t:=t) h0;delta zbQ;let#[_,_,#[rfl,rfl]]:=zig b8 hb hN;calc zy ?_;calc yK (λh=>absurd h ⋯) (λ_=>zt ?_);calc UB gb ?_;calc UB gb ?_;ext;show#[zif.symm,rfl]
structure Fb(N:Nat)(q:Q2):Prop where
 pos:0<q.2
 g:Bh q.1 q.2=1
 b1:yz N q.1
 b2:yz N q.2
def zsw{N:Nat}(h0:0<b)(ht:yz N t)(hb:yz N b):Fb N (zj4 t b):=by
 have hg:0<Bh t b:=CM t ⋯;have h1:(Bh t b:Int)∣t:=Dw ..;have h2:(Bh t b:Int)∣b:=Dc ..;show#[D5 h0 ⋯ h2,?_,?_,?_];show Di hg;show uT ?_ ht;change(t / (Bh t b:Int)).natAbs<=t.natAbs;rw[DL h1];show F5 _ _;show uT ?_ hb;change(b / (Bh t b:Int)).natAbs<=b.natAbs;rw[DL h2];show F5 _ _
def yz.add(h:yz n p)(g:yz m q)(hn:n<k)(hm:m<k):yz k (p+q):=by
 have h1:p.natAbs<2^(k-1):=h.mono ⋯;have h2:q.natAbs<2^(k-1):=g.mono ⋯;have h3:2^k=2^(k-1)+2^(k-1):=by rw[<-Nat.two_mul,<-Nat.pow_succ'];congr 1;omega
 change(p+q).natAbs<2^k;have:=Int.natAbs_add_le p q;omega
end
section
noncomputable def rQ(r:Rat):Q2:=(r.num,(r.den:Int))
def NB(N:Nat)(r:Rat):Prop:=yz N r.num/\yz N (r.den:Int)
def NB.mono{N M:Nat}(h:NB N r)(hn:N<=M):NB M r:=#[h.1.mono hn,h.2.mono hn]
def Xn(r:Rat):(0:Int)<r.den:=Int.natCast_pos.2 r.den_pos
def vw{a:Int}(h:a≠0):(a:Rat)≠0:=λz=>h (Rat.intCast_eq_zero_iff.1 z)
def XU(r:Rat):r*((r.den:Int):Rat)=(r.num:Int):=by
 have h:=Et r;rw[Dd] at h;have d0:=vw (show(r.den:Int)≠0 by have:=Xn r;omega);have:r*((r.den:Int):Rat)=(r.num:Rat) / ((r.den:Int):Rat)*((r.den:Int):Rat):=by rw[h]
 rw[this];grind
def zsx(h0:0<b)(g:Bh t b=1):rQ ((t:Rat) / (b:Rat))=(t,b):=by
 have e:(t:Rat) / (b:Rat)=#[t,b.toNat,⋯,by
  have:b.natAbs=b.toNat:=by omega
  rw[<-this]
  show g]:=by
  rw[Rat.mk_eq_divInt,Dd,Be ⋯]
 rw[e];unfold rQ;rw[Be ⋯]
def zbY(h0:0<b):zj4 t b=rQ ((t:Rat) / (b:Rat)):=by
 have hg:0<Bh t b:=CM t ⋯;have h1:(Bh t b:Int)∣t:=Dw ..;have h2:(Bh t b:Int)∣b:=Dc ..;have hp:0<b / (Bh t b:Int):=D5 h0 ⋯ h2;have:=zsx hp (t:=t / (Bh t b:Int)) (Di hg);unfold zj4;rw[<-this]
 congr 1
 have#[u,hu]:=h1;have#[v,hv]:=h2;have g0:(Bh t b:Int)≠0:=by omega
 generalize (Bh t b:Int)=g at*;subst hu hv;rw[C2 _ g0,C2 _ g0,A7,A7];have g1:=vw g0;have v1:(v:Rat)≠0:=vw (by rintro rfl;simp at h0);grind
def zdY{N:Nat}(h0:0<b)(ht:yz N t)(hb:yz N b):NB N ((t:Rat) / (b:Rat)):=by
 have f:=zsw h0 ht hb;rw[zbY h0] at f;show#[f.b1,f.b2]
def zk8:a+b=((a.num*b.den+b.num*a.den:Int):Rat) / ((a.den*b.den:Int):Rat):=by
 have ha:=XU a;have hb:=XU b;have a1:=vw (show(a.den:Int)≠0 by have:=Xn a;omega);have b1:=vw (show(b.den:Int)≠0 by have:=Xn b;omega);rw[CD,A7,A7,A7,<-ha,<-hb];grind
def zoE{N M:Nat}(ha:NB N a)(hb:NB M b):NB (N+M+1) (a+b):=by
 rw[zk8];have k:=(ha.2.mul hb.2).mono (show N+M<=N+M+1 by omega);show zdY (Bn (Xn a) (Xn b)) (yz.add (ha.1.mul hb.2) (hb.1.mul ha.2) ⋯ ⋯) k
def zsy{N M:Nat}(b8:Big fu)(hx:QX x (rQ a))(hy:QX y (rQ b))(ha:NB N a)(hb:NB M b)(hN:2*(N+M)<=134217728):W (zgl [x,y] S) λv S'=>v=qv (rQ (a+b))/\S=S':=by
 delta zgk;calc zH hx (zV (i:=0) rfl) ?_;calc zH hy (zV (i:=1) rfl) ?_;show xa (uP (B7 ha.1.le hb.2.le) ⋯) ?_;calc zH hy (zV (i:=0) rfl) ?_;calc zH hx (zV (i:=1) rfl) ?_;show xa (uP (B7 hb.1.le ha.2.le) ⋯) ?_;calc zH hx (zV (i:=1) rfl) ?_;calc zH hy (zV (i:=1) rfl) ?_;show xa (uP (B7 ha.2.le hb.2.le) ⋯) ?_;let#[_,_,#[rfl,rfl]]:=zih b8 (Bn (Xn a) (Xn b)) (ha.2.mul hb.2) hN;show#[?_,rfl];rw[zk8,<-zbY (Bn (Xn a) (Xn b))];rfl
def zdZ{a b:Rat}:a<b↔a.num*b.den<b.num*a.den:=Rat.lt_iff a b
noncomputable def mxR(a b:Rat):Rat:=if a<b then b else a
def zqf{N M:Nat}(hx:QX x (rQ a))(hy:QX y (rQ b))(ha:NB N a)(hb:NB M b)(hN:N+M<=134217728):W (zdJ [x,y] S) λv S'=>v= .bl (decide (a<b))/\S=S':=by
 delta zdI;calc zH hx (zV (i:=0) rfl) ?_;calc zH hy (zV (i:=1) rfl) ?_;show xa (uP (B7 ha.1.le hb.2.le) hN) ?_;calc zH hy (zV (i:=0) rfl) ?_;calc zH hx (zV (i:=1) rfl) ?_;show xa (uP (B7 hb.1.le ha.2.le) ⋯) ?_;ext;show#[congrArg Xv.bl (decide_eq_decide.2 zdZ.symm),rfl]
def zmb{N M:Nat}(hx:QX x (rQ a))(hy:QX y (rQ b))(ha:NB N a)(hb:NB M b)(hN:N+M<=134217728):W (zay [x,y] S) λv S'=>QX v (rQ (mxR a b))/\S=S':=by
 delta zax;calc Wb ?_;let#[_,_,#[rfl,rfl]]:=zqf hx hy ha hb hN;calc yK (λh=> ?_) (λh=> ?_);ext;unfold mxR;rw[Gv h];show#[hy,rfl];ext;unfold mxR;rw[Gw h];show#[hx,rfl]
end
section
variable{S':Sto}{x y:Xv}{n N:Nat}{xs:kh Xv}{rs:kh Rat}
structure RL(xs:kh Xv)(rs:kh Rat):Prop where
 len:xs.length=rs.length
 at_:∀(i:Nat) x r,xs[i]? =eO x->rs[i]? =eO r->QX x (rQ r)
def zsz{c:Prop}[Decidable c]{A B:Prop}(h:¬c->A)(g:c->B):((!decide c)=gP->A)/\((!decide c)=kb->B):=#[λe=>h (by simpa using e),λe=>g (by simpa using e)]
def zsA{bs:kh Int}(h:yo S x=eO l)(h2:Yv l=eO bs)(k:P (.int bs.sum) S):WO (znC [x] S) P:= .of (by unfold znC;dsimp only;rw[h,y0,h2];rfl) k
def zk9{bs:kh Int}(h:x.tupOf=eO l)(h2:Yv l=eO bs)(k:P (.int bs.sum) S):WO (zdk [x] S) P:= .of (by unfold zdk;dsimp only;rw[h,y0,h2];rfl) k
def yz.abs(h:yz n p)(hq:q.natAbs<=p.natAbs):yz n q:=uT hq h
def zoF(b8:Big fu)(h:S[n]? =eO (.lst xs))(rl:RL xs rs)(hb:∀r∈rs,NB N r)(hN:rs.length<=100/\N<=600000):W (ZH [.ref n] S) λv S'=>S=S'/\∃b:Int,v= .int b/\0<b/\yz (N*rs.length+1) b/\∀r∈rs,(r.den:Int)∣b:=by
 delta ZG;ext;show ZB (λρ S'=>S=S'/\∃(b:Int) (a2:mw Xv),ρ=[eO (.ref n),eO (.int b),a2]/\0<b/\yz (N*rs.length+1) b/\∀r∈rs,(r.den:Int)∣b) (xJ (TV ?_)) ?_
 .ext;show#[_,zA h,_,zA h,?_];show yZ (xs:=xs) (λi ρ S'=>S=S'/\∃(b:Int) (a2:mw Xv),ρ=[eO (.ref n),eO (.int b),a2]/\0<b/\yz (N*i+1) b/\∀(j:Nat) r,j<i->rs[j]? =eO r->(r.den:Int)∣b) ?_ ?_ ?_ ?_;intro i ρ S' _ #[rfl,_];show zA h
  .intro i y ρ S' hy #[rfl,b,a2,rfl,b0,bb,bd];have hi:i<rs.length:=by rw[<-rl.len];show(uF.1 hy).1
   have er:rs[i]? =eO rs[i]:=uH hi;generalize rs[i]=r at er;have hx:=rl.at_ i y r hy er;have nb:=hb r (uJ er);have d0:=Xn r;have e1:N*(i+1)+1=N*i+1+N:=by rw[Nat.mul_succ];omega
   have il:N*i<=600000*100:=Bw hN.2 ⋯;show .of rfl ?_;dsimp only[uO];show zy ?_;calc zH hx (zV (i:=1) rfl) ?_;show vt d0 ?_;ext;show zsz (λdi=> ?_) (λhz=>zt ?_)
   .ext;show zH hx (zV (i:=1) rfl) ?_;let#[_,_,#[rfl,rfl]]:=zig b8 nb.2 ⋯;have g0:=zj6 (t:=b) d0;have tj:((Bi b.natAbs (r.den:Int).natAbs:Nat):Int)∣b:=Dw ..;have tf:((Bi b.natAbs (r.den:Int).natAbs:Nat):Int)∣(r.den:Int):=Dc ..;have gp:0<((Bi b.natAbs (r.den:Int).natAbs:Nat):Int):=by omega
    change ((Bi b.natAbs (r.den:Int).natAbs:Nat):Int)≠0 at g0;generalize ((Bi b.natAbs (r.den:Int).natAbs:Nat):Int)=g at*;show UB g0 ?_;rw[AF _ (Eu gp)];have#[u,hu]:=tj;have#[w,hw]:=tf;rw[show b / g=u from Int.ediv_eq_of_eq_mul_right g0 hu];have u0:0<u:=by
     rw[hu] at b0;rcases Int.lt_or_le 0 u with h|h;show h;have:=Int.mul_nonneg (Eu gp) (show 0<= -u by omega);rw[Int.mul_neg] at this;omega
    have ub:yz (N*i+1) u:=bb.abs (by rw[hu,F8];show Nat.le_mul_of_pos_left _ ⋯);calc zH hx (zV (i:=1) rfl) ?_;show xa (uP (B7 ub.le nb.2.le) ⋯) ?_;show#[rfl,_,_,rfl,Bn u0 d0,?_,λj r' hj e=> ?_];rw[e1];show ub.mul nb.2;by_cases c:j<i
    .obtain⟨v,hv⟩:=bd j r' c e;show#[v*w,?_];change u*(r.den:Int)=r'.den*(v*w);have e3:g*u=r'.den*v:=by rw[<-hu,<-hv]
     rw[hw,<-Ff,<-Ff,<-e3,Ew u g]
    obtain rfl:j=i:=by omega
    rw[er] at e;cases e;show#[u,Ew ..]
   show#[rfl,_,_,rfl,b0,bb.mono ⋯,λj r' hj e=> ?_];by_cases c:j<i;show bd j r' c e
   obtain rfl:j=i:=by omega
   rw[er] at e;cases e;show Int.dvd_of_emod_eq_zero hz
  .show#[rfl,1,_,rfl,∅,by rw[Es];unfold yz;decide,λj r hj=>by omega]
  intro ρ S' #[rfl,b,a2,rfl,b0,bb,bd];rw[rl.len] at bb bd;show#[rfl,b,a2,rfl,b0,bb,λr hr=> ?_];have#[j,hj]:=z6 hr;show bd j r (uF.1 hj).1 hj
 intro _ _ #[rfl,b,a2,rfl,b0,bb,bd];ext;show#[rfl,b,rfl,b0,bb,bd]
noncomputable def tpR(b:Int)(r:Rat):Int:=r.num*(b / r.den)
def zsB(h:S[n]? =eO (.lst xs))(rl:RL xs rs)(hb:∀r∈rs,NB N r)(hB:yz B b)(hl:rs.length<=100)(hN:N<=9000)(hs:N+B<=134217728):W (Vx [.ref n,.int b] S) λv S'=>v= .ref S.length/\S'=S++[.lst ((rs.map (tpR b)).map .int)]:=by
 delta Vw;show yc (xN (TV ?_));calc#[_,zA h,_,zA h,?_];show xb (xs:=xs) (by rw[rl.len];show z5 (XR hl)) (λj es S'=>S=S'/\es=((rs.take j).map (tpR b)).map .int) ?_ ?_ ?_ ?_;intro j es S' _ #[rfl,_];show zA h
 .intro j y es S' hy f7 #[rfl,rfl];have hi:j<rs.length:=by rw[<-rl.len];show(uF.1 hy).1
  have er:rs[j]? =eO rs[j]:=uH hi;generalize rs[j]=r at er;have hx:=rl.at_ j y r hy er;have nb:=hb r (uJ er);have d0:=Xn r;show .of rfl ?_;calc#[rfl,?_];calc zH hx (zV (i:=0) rfl) ?_;calc zH hx (zV (i:=1) rfl) ?_;show zhw #[by change(r.den:Int)≠0;omega,uP nb.2.le hN] ?_;rw[AF _ (show(0:Int)<=(rQ r).2 from Eu d0)];show xa (uP (B7 nb.1.le (hB.abs (Dj b (rQ r).2)).le) hs) ?_;show#[rfl,?_];rw[AW,er];simp[tpR,rQ]
 .show#[rfl,rfl]
 intro es S' f7 #[rfl,rfl];rw[rl.len,A3];show#[rfl,rfl]
noncomputable def wsR:kh Nat->kh Rat->Rat
 |w::ws,r::rs=>((w:Int):Rat)*r+wsR ws rs
 |_,_=>0
noncomputable def VW(ws:kh Nat)(rs:kh Rat):Rat:=wsR ws rs / (((ws.sum:Nat):Int):Rat)
def zug(h:(r.den:Int)∣b):((tpR b r:Int):Rat)=r*(b:Rat):=by
 have#[u,hu]:=h;have d0:=Xn r;unfold tpR;rw[hu,C2 _ ⋯,A7,A7,<-XU r];grind
noncomputable def wtL(ws:kh Nat)(ts:kh Int):kh Int:=List.zipWith (λ(w:Nat) (t:Int)=>(w:Int)*t) ws ts
theorem zrc:∀{ws:kh Nat} {rs:kh Rat},(∀r∈rs,(r.den:Int)∣b)->(((wtL ws (rs.map (tpR b))).sum:Int):Rat)=wsR ws rs*(b:Rat)
 |[],rs,_=>by simp[wtL,wsR]
 |_::_,[],_=>by simp[wtL,wsR]
 |w::ws,r::rs,h=>by
  have ih:=zrc (ws:=ws) (rs:=rs) λz hz=>h z (.tail _ hz);change(((w:Int)*tpR b r+(wtL ws (rs.map (tpR b))).sum:Int):Rat)=_;rw[CD,ih,A7,zug (h r (.head _)),wsR];grind
theorem zii:∀{l:kh Int},(∀t∈l,yz k t)->yz (k+l.length) l.sum
 |[],_=>by change(0:Int).natAbs<_;show CP ∅
 |t::l,h=>by
  have ih:=zii (l:=l) λz hz=>h z (.tail _ hz);rw[BV];show yz.add (h t (.head _)) ih (by rw[uW];omega) (by rw[uW];omega)
def zij(ws:kh Nat):Yv (ksX ws)=eO (ws.map λ(k:Nat)=>(k:Int)):=zfh ws
theorem zgI:∀ws:kh Nat,(ws.map λ(k:Nat)=>(k:Int)).sum=((ws.sum:Nat):Int)
 |[]=>rfl
 |w::ws=>by rw[y4,BV,BV,zgI ws,F4]
def zik:W (XN [.int i] S) λv S'=>v= .bl gP/\S=S':=by
 delta UM;show yc (Xy ?_);calc WO.of (show Vd "int" (.int i) S=eO (.bl gP,S) from rfl) #[_,rfl,λ_=> ?_,nofun];calc WO.of (show Vd "bool" (.int i) S=eO (.bl kb,S) from rfl) ?_;ext;show#[rfl,rfl]
def zj7(b8:Big fu)(h0:0<b)(hb:yz N b)(hN:2*N<=134217728):W (UP [.int t,.int b] S) λv S'=>v=qv (zj4 t b)/\S=S':=by
 delta UO;show zo (zy (zcb ?_));ext;apply zik.imp;intro _ _ #[rfl,rfl];calc#[nofun,λ_=> ?_];ext;apply zik.imp;intro _ _ #[rfl,rfl];calc#[nofun,λ_=>zt ?_];show zo (zy ?_);calc yK (λz=>absurd z ⋯) (λ_=>zt ?_);let#[_,_,#[rfl,rfl]]:=zih b8 h0 hb hN;show#[rfl,rfl]
def zfi{ws:kh Nat}{b:Int}(w9:∀w∈ws,w<=1000000000)(w0:0<ws.sum)(hb:∀r∈rs,NB N r)(hl:rs.length<=9/\ws.length<=rs.length)(b0:0<b)(bb:yz (9*N+1) b)(bd:∀r∈rs,(r.den:Int)∣b):
  (∀r∈rs,yz (10*N+1) (tpR b r))/\(∀w∈ws,yz 31 (w:Int))/\yz 40 ((ws.sum:Nat):Int)/\(((wtL ws (rs.map (tpR b))).sum:Int):Rat) / ((b*((ws.sum:Nat):Int):Int):Rat)=VW ws rs/\NB (11*N+60) (VW ws rs):=by
 have tb:∀r∈rs,yz (10*N+1) (tpR b r):=λr hr=>((hb r hr).1.mul (bb.abs (Dj b r.den))).mono ⋯;have wb:∀w∈ws,yz 31 (w:Int):=λw hw=>uT (show(w:Int).natAbs<=1000000000 by have:=w9 w hw;omega) ∅;have qy:(wtL ws (rs.map (tpR b))).length=ws.length:=by unfold wtL;rw[Ee,uM];omega
 have sb:yz (10*N+60) (wtL ws (rs.map (tpR b))).sum:=(zii (k:=10*N+32) λt ht=>by
  have#[j,hj]:=z6 ht;unfold wtL at hj;rw[DT] at hj;cases e1:ws[j]? with
  |none=>rw[e1] at hj;cases hj
  |some w=>cases e2:(rs.map (tpR b))[j]? with
   |none=>rw[e1,e2] at hj;cases hj
   |some u=>
    rw[e1,e2] at hj;cases hj;have#[r,hr,rfl]:=z9.1 (uJ e2)
    show((wb w (uJ e1)).mul (tb r hr)).mono ⋯).mono ⋯
 have kc:yz 40 ((ws.sum:Nat):Int):=by
  have:∀l:kh Nat,(∀w∈l,w<=1000000000)->l.sum<=l.length*1000000000:=by
   intro l
   induction l with
   |nil=>intro _;show uL _
   |cons w l ih=>
    intro h;have:=ih λz hz=>h z (.tail _ hz);have:=h w (.head _);rw[BV,uW];omega
  have:=this ws w9;show uT (show((ws.sum:Nat):Int).natAbs<=9000000000 by omega) ∅
 have D0:0<b*((ws.sum:Nat):Int):=Bn b0 ⋯;have key:(((wtL ws (rs.map (tpR b))).sum:Int):Rat) / ((b*((ws.sum:Nat):Int):Int):Rat)=VW ws rs:=by
  rw[zrc bd,A7];unfold VW;have b1:=vw (show b≠0 by omega);have w1:=vw (show((ws.sum:Nat):Int)≠0 by omega);grind
 show#[tb,wb,kc,key,?_];rw[<-key];show zdY D0 (sb.mono ⋯) ((bb.mul kc).mono ⋯)
noncomputable def dnP:kh Rat->Int
 |[]=>1
 |r::l=>(r.den:Int)*dnP l
theorem zoG:∀{l:kh Rat},(∀r∈l,NB N r)->0<dnP l/\yz (N*l.length+1) (dnP l)/\∀r∈l,(r.den:Int)∣dnP l
 |[],_=>#[∅,by rw[A6,Es];unfold yz;decide,λr hr=>by cases hr]
 |r::l,h=>by
  have#[a,b,c]:=zoG (l:=l) λz hz=>h z (.tail _ hz);show#[Bn (Xn r) a,((h r (.head _)).2.mul b).mono (by rw[uW,Nat.mul_succ];omega),λz hz=> ?_];rcases uU.1 hz with rfl|hz;show#[_,rfl];show Int.dvd_trans (c z hz) #[r.den,Ew ..]
def zqg(w9:∀w∈ws,w<=1000000000)(w0:0<ws.sum)(hb:∀r∈rs,NB N r)(hl:rs.length<=9/\ws.length<=rs.length):NB (11*N+60) (VW ws rs):=by
 have#[a,b,c]:=zoG hb;show(zfi w9 w0 hb hl a (b.mono (by have:=Bd N hl.1;omega)) c).2.2.2.2
def zsC(b8:Big fu)(hw:x.tupOf=eO (ksX ws))(w9:∀w∈ws,w<=1000000000)(w0:0<ws.sum)(h:S[n]? =eO (.lst xs))(rl:RL xs rs)(hb:∀r∈rs,NB N r)(hl:rs.length<=9/\ws.length<=rs.length)(hN:N<=9000):
  W (zaA [x,.ref n] S) λv S'=>v=qv (rQ (VW ws rs))/\NB (11*N+60) (VW ws rs)/\S<+:S':=by
 delta zaz;let#[_,_,#[rfl,b,rfl,b0,bb,bd]]:=zoF b8 h rl hb #[⋯,⋯];have hB:N*rs.length+1<=9*N+1:=by
  have:=Bd N hl.1;omega
 have bb:=bb.mono hB;let#[_,_,#[rfl,rfl]]:=zsB h rl hb bb ⋯ hN ⋯;have ht:(S++[Ce.lst ((rs.map (tpR b)).map .int)])[S.length]? =eO (.lst ((rs.map (tpR b)).map .int)):=yC;have p1:S<+:S++[Ce.lst ((rs.map (tpR b)).map .int)]:=uI ..;generalize S.length=tn at ht ⊢;generalize S++[Ce.lst ((rs.map (tpR b)).map .int)]=S1 at ht p1 ⊢;have#[tb,wb,kc,key,nb]:=zfi w9 w0 hb hl b0 bb bd;have zl:(zdp (ksX ws) ((rs.map (tpR b)).map .int)).length=ws.length:=by rw[L2.zhx,yu,uM,uM];omega
 show yc (yb (zm (xR (zm (xN (zlZ ?_))))));calc#[_,_,hw,zA ht,zdp (ksX ws) ((rs.map (tpR b)).map .int),by change(yo S1 (.ref tn)).map (zdp (ksX ws))=_;rw[zA ht];rfl,?_];show xb (xs:=zdp (ksX ws) ((rs.map (tpR b)).map .int)) (by rw[zl];show z5 (XR ⋯)) (λj es S'=>S1=S'/\es=((wtL ws (rs.map (tpR b))).take j).map .int) ?_ ?_ ?_ ?_;intro j es S' _ #[rfl,_];change(yo S1 (.ref tn)).map (zdp (ksX ws))=_;rw[zA ht];rfl;intro j y es S' hy f7 #[rfl,rfl];have#[u,v,e1,e2,rfl]:=zkO hy;have#[w,ew,rfl]:=YF e1;rw[uK,uK,uV] at e2;have#[t,e2,rfl]:=e2;rw[uV] at e2;have#[r,er,rfl]:=e2;show .of rfl ?_;calc#[rfl,?_];calc xa (uP (B7 (wb w (uJ ew)).le (tb r (uJ er)).le) ⋯) ?_;show#[rfl,?_];rw[AW,z7,show(wtL ws (rs.map (tpR b)))[j]? =eO ((w:Int)*tpR b r) by unfold wtL;rw[DT,ew,uK,er];rfl];rfl;show#[rfl,rfl]
 intro es S' f7 #[rfl,rfl];have qy:(wtL ws (rs.map (tpR b))).length=ws.length:=by unfold wtL;rw[Ee,uM];omega
 rw[zl,AH ⋯];calc zsA wG (zeU _) ?_;calc zk9 hw (zij ws) ?_;rw[zgI];show xa (uP (B7 bb.le kc.le) ⋯) ?_;ext;have D0:0<b*((ws.sum:Nat):Int):=Bn b0 ⋯;let#[_,_,#[rfl,rfl]]:=zj7 b8 D0 (bb.mul kc) ⋯;show#[by rw[zbY D0,key],nb,p1.trans (uI ..)]
end
section
variable{F:kh Q2->Q2}{G:kh Q2->Prop}
set_option tactic.hygienic true in
def zrd(hs:S[n]? =eO (.lst xs))(hn:W (m ρ S) λz S'=>z= .ref n/\S'=S)(hl:us.length=xs.length)(hx:xs.length<=100)(h:∀(i:Nat) x u,xs[i]? =eO x->us[i]? =eO u->W (e ((vI cap ρ).set 0 (eO x)) S) λw S'=>w=u/\S'=S)(k:P (.ref S.length) (S++[.lst us])):
  W (xP cap (iL m) (gN 0) xQ e ρ S) P:=by
 show xN (TV (hn.imp ?_));intro _ _ #[rfl,rfl];rename_i S;show#[_,zA hs,_,zA hs,?_];show xb (z5 (XR hx)) (λi es S2=>S2=S/\es=us.take i) (λ_ _ _ _ ⟨e,_⟩=>by rw[e];show zA hs) ?_ #[rfl,rfl] ?_;intro i w es S2 hw f7 #[rfl,rfl];have hi:=(uF.1 hw).1;have hu:us[i]? =eO us[i]:=uH ⋯;show .of rfl ?_;calc#[rfl,(h i w _ hw hu).imp ?_];intro _ _ #[rfl,rfl];show#[rfl,(z4 ⋯).symm];intro es S2 _ #[rfl,rfl];rw[AH ⋯];show k
def QxL(xs:kh Xv)(qs:kh Q2):Prop:=xs.length=qs.length/\∀(i:Nat) x q,xs[i]? =eO x->qs[i]? =eO q->QX x q
def zil(G:kh Q2->Prop)(F:kh Q2->Q2)(xr:Xv):Prop:=∃(L:xx) (aX:kh Xv) (tw:kh Xv->TwF),xr= .lam L aX/\YS [(zcf,ze5),(zch,ze6),(zci,ze7)] L=eO tw/\
 ∀{S:Sto} {m:Nat} {xs:kh Xv} {qs:kh Q2},G qs->QxL xs qs->S[m]? =eO (.lst xs)->W (tw aX [.ref m] S) λw S'=>QX w (F qs)/\S<+:S'
def zmc(hx:FX x f):W (eOp (yH kb) (eOp zG (zi 0) (oZ 0)) (qg "fork") [eO x] S) λw S'=>w= .bl (isF f)/\S'=S:=by
 cases f with
 |leaf q=>
  have#[y,rfl,_]:=hx;ext;show zE #[rfl,rfl]
 |fork lv ks=>
  change x=_ at hx;subst hx;ext;show zE #[rfl,rfl]
def zsD{bs:kh Bool}(h:yo S x=eO l)(h2:Zr l=eO bs)(k:P (.bl (bs.any id)) S):WO (zhs [x] S) P:= .of (by unfold zhs;dsimp only;rw[h,y0,h2];rfl) k
theorem zfj{α:Type}(g:α->Bool):∀l:kh α,Zr (l.map λa=> .bl (g a))=eO (l.map g)
 |[]=>rfl
 |a::l=>by rw[y4,Zr,zfj g l];rfl
def zoH(hz:∃st,yv ss st)(hr:zil G F xr):zia sn fn dn bl ss G F (.lam zcj [.ref sn,xr]):=#[zcj,[.ref sn,xr],ze8,rfl,XC,λ{S fs as} h w ex h1 gO va hf=>by
 have#[qD,kJ]:=hz;have#[gS,v0]:=VaL.ex w kJ ex;have#[fL,fl,pU]:=zdU (P:=λ(a:Nat) (p:Nat)=>True) (as:=as) λa _=>#[0,trivial];have fC:∀a∈as,∃(f:zM) (x:Xv) (l:kh Xv),fs[a]? =eO f/\FX x f/\yo S (.ref fn)=eO l/\atI l (a:Int)=eO x:=λa ha=>by
  have#[f,e]:=ex a ha;have#[x,l,h1,h2,h3]:=h.fact e;show#[f,x,l,e,h1,h2,h3]
 obtain⟨ps,pl,jT⟩:∃ps:kh (zM×Xv),ps.length=as.length/\∀(n a:Nat) p,as[n]? =eO a->ps[n]? =eO p->fs[a]? =eO p.1/\FX p.2 p.1/\∃l,yo S (.ref fn)=eO l/\atI l (a:Int)=eO p.2:=by
  clear fL fl pU;clear v0 va ex h1 gO
  induction as with
  |nil=>show#[[],rfl,λn a p e=>by simp at e]
  |cons a r ih=>
   have#[f,x,l,e1,e2,e3,e4]:=fC a (.head _);have#[ps,h1,h2]:=ih λb hb=>fC b (.tail _ hb);show#[(f,x)::ps,by simp[h1],λn b p oF lA=> ?_];cases n with
   |zero=>simp at oF lA;subst oF lA;show#[e1,e2,l,e3,e4]
   |succ n=>show h2 n b p (by simpa using oF) (by simpa using lA)
 clear fL fl pU fC;unfold ze8;show XD rfl rfl ?_;unfold zt3;dsimp only[Ae,Bb,Bs,BJ];show yi ?_;calc#[_,_,rfl,h.o,rfl,?_];ext;delta WL;show zo (zR ?_);show zot (xs:=ksX as) (us:=ps.map (·.2)) (zr rfl #[rfl,rfl]) (by rw[yu,uM,pl]) (by rw[yu];omega) (λi x u e1 e2=> ?_) ?_;have#[a,ea,rfl]:=YF e1;rw[uK,uV] at e2;have#[p,ep,rfl]:=e2;have#[_,_,l,e3,e4]:=jT i a p ea ep;dsimp only[vI,Ae,uO];calc xl ?_;calc#[_,_,_,rfl,h.o,rfl,?_];ext;show xk e3 e4 #[rfl,rfl];dsimp only[uO];have ls:=h.pre (uI S [.lst (ps.map (·.2))]);have jX:(S++[Ce.lst (ps.map (·.2))])[S.length]? =eO (.lst (ps.map (·.2))):=yC;have p1:S<+:S++[Ce.lst (ps.map (·.2))]:=uI _ _;generalize S++[Ce.lst (ps.map (·.2))]=S1 at ls jX p1;generalize S.length=ln at jX ⊢;show zo (zy (xj (xR (zm ?_))));show zrd (n:=ln) (us:=ps.map λp=> .bl (isF p.1)) jX (zr rfl #[rfl,rfl]) (by simp) (by simp[pl];omega) (λi x u e1 e2=> ?_) ?_;rw[uK,uV] at e1 e2;have#[p,ep,rfl]:=e1;have#[p',ep',rfl]:=e2;rw[ep] at ep';cases ep';have ea:as[i]? =eO (as[i]'(by have:=(uF.1 ep).1;omega)):=uH _;dsimp only[vI,Ae,uO];show zmc (jT i _ p ea ep).2.1;calc zsD (bs:=ps.map λp=>isF p.1) wG (zfj (λp:zM×Xv=>isF p.1) ps) ?_;show#[_,rfl,λz=> ?_,λz=> ?_];calc .inl #[rfl,?_,p1.trans (uI _ _)];rw[Fx,Bg] at z;have#[p,hp,hF]:=z;have#[i,hi]:=z6 hp;have ea:as[i]? =eO (as[i]'(by have:=(uF.1 hi).1;omega)):=uH _;show#[_,uJ ea,p.1,(jT i _ p ea hi).1,hF]
 show zt ?_;have h2:=ls.pre (uI S1 [.lst (ps.map λp=> .bl (isF p.1))]);have p2:S<+:S1++[.lst (ps.map λp=> .bl (isF p.1))]:=p1.trans (uI _ _);have kW:=xE (uI S1 [Ce.lst (ps.map λp=> .bl (isF p.1))]) jX;generalize S1++[Ce.lst (ps.map λp=> .bl (isF p.1))]=S3 at h2 p2 kW;have qG:∀p∈ps,isF p.1=kb:=λp hp=>by
  cases e:isF p.1 with
  |false=>rfl
  |true=>
   have:(ps.map λp=>isF p.1).any id=gP:=by
    rw[Fx,Bg];show#[p,hp,e]
   rw[z] at this;cases this
 have lf:∀(i a:Nat) p,as[i]? =eO a->ps[i]? =eO p->∃q y,p=(.leaf q,.tup [.str "leaf",y])/\QX y q/\fs[a]? =eO (.leaf q):=λi a p ea ep=>by
  have#[e1,e2,_]:=jT i a p ea ep;have#[f,x]:=p;cases f with
  |fork lv ks=>show absurd (qG _ (uJ ep)) (by simp[isF])
  |leaf q=>
   have#[y,e3,e4]:=e2;show#[q,y,by simp only at e3;rw[e3],e4,e1]
 have hq:∀(i:Nat) q,gS[i]? =eO q->∃y a,ps[i]? =eO (.leaf q,.tup [.str "leaf",y])/\QX y q/\as[i]? =eO a/\fs[a]? =eO (.leaf q):=λi q e=>by
  have hi:=(uF.1 e).1;have hl:=v0.1;have ea:as[i]? =eO (as[i]'⋯):=uH _;have ep:ps[i]? =eO (ps[i]'⋯):=uH _;have#[q',y,e1,e2,e3]:=lf i _ _ ea ep;have#[hh,u]:=v0.2 i _ q ea e;have:=u.uniq (.leaf (h:=0) e3);subst this;rw[e1] at ep;show#[y,_,ep,e2,ea,e3]
 obtain⟨ys,yl,pC⟩:∃ys:kh Xv,ys.length=ps.length/\∀(i:Nat) p y,ps[i]? =eO p->ys[i]? =eO y->p.2= .tup [.str "leaf",y]:=by
  show#[ps.map λp=>match p.2 with| .tup [_,y]=>y|v=>v,by simp,λi p y e1 e2=> ?_];rw[uK,e1] at e2;have ea:as[i]? =eO (as[i]'(by have:=(uF.1 e1).1;omega)):=uH _;have#[q,y',rfl,_]:=lf i _ p ea e1;simp at e2;subst e2;rfl
 have#[L,aX,tw,rfl,hp,ht]:=hr;show yc (yi ?_);calc#[_,_,rfl,h2.o,rfl,?_];show zm (zdv rfl hp (zm ?_));show zrd (n:=ln) (us:=ys) kW (zr rfl #[rfl,rfl]) (by simp[yl]) (by simp[pl];omega) (λi x u e1 e2=> ?_) ?_;rw[uK,uV] at e1;have#[p,ep,rfl]:=e1;rw[pC i p u ep e2];dsimp only[vI,Ae,uO];ext;show#[rfl,rfl];ext;have h4:=h2.pre (uI S3 [.lst ys]);have p4:S<+:S3++[.lst ys]:=p2.trans (uI _ _);have r9:(S3++[Ce.lst ys])[S3.length]? =eO (.lst ys):=yC;show(ht (va qD kJ gS v0) #[by have:=v0.1;omega,λi y q e1 e2=> ?_] r9).imp ?_;have#[y',a,e3,e4,_]:=hq i q e2;have:=pC i _ y e3 e1;simp at this;rw[<-this];show e4;intro v S5 #[hv,p5];let#[_,S6,#[i,lu,rfl,e6,ad,g]]:=zgw (h4.pre p5) ⋯ hv;have g':=(yM.of_pre h (p4.trans p5)).trans g;show .inr #[i,lu,rfl,#[ex.mono g.pre,#[_,e6,λl hl=> ?_],λst hs qs v=> ?_],w.leaf g.st.nd ad,g'.more ⋯];have ea:as[0]? =eO (as[0]'⋯):=uH _;have eq:gS[0]? =eO (gS[0]'(by have:=v0.1;omega)):=uH _;have#[y,a,_,_,e1,e2]:=hq 0 _ eq;show(show l<=ss.length from hl a (uJ e1) (.leaf _) (xE g.pre e2))
 have:qs=gS:=by
  show BM λj=> ?_;by_cases hj:j<gS.length;have eq:gS[j]? =eO gS[j]:=uH hj;have ev:qs[j]? =eO (qs[j]'(by have:=v.1;have:=v0.1;omega)):=uH _;have#[y,a,_,_,e1,e2]:=hq j _ eq;have#[_,u]:=v.2 j a _ e1 ev;rw[eq,ev,u.uniq (.leaf (h:=0) (xE g.pre e2))];rw[x8 (by have:=v.1;have:=v0.1;omega),x8 (by have:=v.1;have:=v0.1;omega)]
 subst this
 show#[0,.leaf e6]]
end
section
variable{S' S2:Sto}{x y z:Xv}{fs fs':kh zM}{as:kh Nat}
def Tb(S:Sto):Prop:=∀(i:Nat) t,Yw[i]? =eO t->S[i+1]? =eO (.tab t)
def Tb.keep{w:Nat->Prop}(h:Tb S)(k:Kp w S S')(hw:∀i,i<Yw.length->¬w (i+1)):Tb S':=λi t e=>k.2 _ _ (h i t e) (hw i (uF.1 e).1)
def Tb.pre(h:Tb S)(p:S<+:S'):Tb S':=h.keep (Kp.pre (w:=λ_=>False) p) λ_ _ z=>z
def Tb.ne(h:Tb S)(e:S[n]? =eO c)(hc:∀t,c≠ .tab t)(hi:i<Yw.length):i+1≠n:=λz=>by
 have:=h i _ (uH hi);rw[z,e] at this;show hc _ (y9 this)
def Tb.grown(h:Tb S)(s:yN sn fn dn bx fs S)(g:yM sn fn dn bx fs m S fs' S'):Tb S':=by
 have#[xs,_,e1,e2]:=s.fd';show h.keep g.kp λi hi z=>z.elim (h.ne e1 (λt=>by simp) hi) (h.ne e2 (λt=>zoq) hi)
structure TR(ss:kh Nat)(fs:kh zM)(f:kh Nat->Rat)(i:Nat):Prop where
 ex:∃g,fs[i]? =eO g
 va:∀st,yv ss st->∃h,VA fs st (rQ (f st)) h i
def TR.mono{f:kh Nat->Rat}(h:TR ss fs f i)(p:fs<+:fs'):TR ss fs' f i:=#[(let ⟨g,e⟩:=h.ex;#[g,xE p e]),λst hs=>by
 have#[n,v]:=h.va st hs
 show#[n,v.mono p]]
def TR.uq{f:kh Nat->Rat}(t:TR ss fs f i)(hs:yv ss st)(v:VA fs st q h i):q=rQ (f st):=by
 have#[_,u]:=t.va st hs;show v.uniq u
def TR.congr{f g:kh Nat->Rat}(t:TR ss fs f i)(h:∀st,yv ss st->f st=g st):TR ss fs g i:=#[t.ex,λst hs=>by rw[<-h st hs];show t.va st hs]
def TRP(ss:kh Nat)(f:kh Nat->Rat)(sn fn dn:Nat)(bl:kh Xv)(m:Nat)(fs:kh zM)(S:Sto):Xv->Sto->Prop:=λv S'=>∃(r:Nat) (fs':kh zM),v= .int (r:Int)/\TR ss fs' f r/\WF ss fs'/\yM sn fn dn (.tup bl) fs m S fs' S'
structure TRs(ss:kh Nat)(fs:kh zM)(gs:kh (kh Nat->Rat))(as:kh Nat):Prop where
 len:as.length=gs.length
 at_:∀(i a:Nat) g,as[i]? =eO a->gs[i]? =eO g->TR ss fs g a
def TRs.mono{gs:kh (kh Nat->Rat)}(h:TRs ss fs gs as)(p:fs<+:fs'):TRs ss fs' gs as:=#[h.len,λi a g e1 e2=>(h.at_ i a g e1 e2).mono p]
def TRs.ex{gs:kh (kh Nat->Rat)}(h:TRs ss fs gs as):ExL fs as:=λa ha=>by
 have#[i,hi]:=z6 ha;have eg:gs[i]? =eO (gs[i]'(by have:=(uF.1 hi).1;have:=h.len;omega)):=uH _;show(h.at_ i a _ hi eg).ex
def TRs.vals{gs:kh (kh Nat->Rat)}(h:TRs ss fs gs as)(hs:yv ss st)(v:VaL fs st as qs):qs=(gs.map λg=>g st).map rQ:=by
 show BM λi=> ?_;rw[Bz,uK];by_cases hi:i<gs.length;have ea:as[i]? =eO (as[i]'(by have:=h.len;omega)):=uH _;have eg:gs[i]? =eO gs[i]:=uH hi;have eq:qs[i]? =eO (qs[i]'(by have:=h.len;have:=v.1;omega)):=uH _;have#[_,u]:=v.2 i _ _ ea eq;rw[eq,eg,(h.at_ i _ _ ea eg).uq hs u];rfl;rw[x8 (by have:=h.len;have:=v.1;omega),x8 ⋯];rfl
def TRs.cons{gs:kh (kh Nat->Rat)}{a:Nat}{g:kh Nat->Rat}(h:TRs ss fs gs as)(t:TR ss fs g a):TRs ss fs (g::gs) (a::as):=#[by simp[h.len],λi b f e1 e2=>by
 cases i with
 |zero=>simp at e1 e2;subst e1 e2;show t
 |succ i=>show h.at_ i b f (by simpa using e1) (by simpa using e2)]
def TRs.nil:TRs ss fs [] []:=#[rfl,λi a g e=>by simp at e]
def zla{G:kh Q2->Prop}{F:kh Q2->Q2}{gs:kh (kh Nat->Rat)}{op:kh Nat->Rat}(bj:Bx9 ss bl)(hr:zia sn fn dn bl ss G F xs)(h:yN sn fn dn (.tup bl) fs S)(w:WF ss fs)(t:TRs ss fs gs as)(h1:1<=as.length)(gO:as.length<=12)
  (hg:∀st,yv ss st->G ((gs.map λg=>g st).map rQ)) (hF:∀st,yv ss st->F ((gs.map λg=>g st).map rQ)=rQ (op st)) (hf:fs.length+cst ss ss.length<=1000000) (hc:cst ss ss.length<=1000000):
  W (ye 24 [.ref sn,TK as,xs,.ref S.length] (S++[.dk []])) (TRP ss op sn fn dn bl (cst ss ss.length) fs S):=by
 let#[_,S2,#[r,aF,rfl,gd,w2,g2]]:=zl6 bj hr h w t.ex h1 gO (λst hs qs v=>by rw[t.vals hs v];show hg st hs) hf hc;have#[fr,er,_]:=gd.lv;show#[r,aF,rfl,#[#[fr,er],λst hs=> ?_],w2,g2];have#[qs,v]:=VaL.ex w2 hs gd.ex;have#[h',u]:=gd.va st hs qs v;rw[(t.mono g2.pre).vals hs v,hF st hs] at u;show#[h',u]
noncomputable def toR(q:Q2):Rat:=(q.1:Rat) / (q.2:Rat)
def zsE(r:Rat):toR (rQ r)=r:=by
 have h:=Et r;rw[Dd] at h;show h
def zqh(rs:kh Rat):(rs.map rQ).map toR=rs:=by
 rw[Bz,show(toR ∘ rQ)=id from funext zsE,List.map_id]
def GN(N k:Nat)(qs:kh Q2):Prop:=∃rs:kh Rat,qs=rs.map rQ/\rs.length=k/\∀r∈rs,NB N r
noncomputable def opF(op:kh Rat->Rat)(qs:kh Q2):Q2:=rQ (op (qs.map toR))
def zgJ{op:kh Rat->Rat}:opF op (rs.map rQ)=rQ (op rs):=by unfold opF;rw[zqh]
def QxL.rl(h:QxL xs (rs.map rQ)):RL xs rs:=#[by have:=h.1;rwa [uM] at this,λi x r e1 e2=>h.2 i x _ e1 (by rw[uK,e2];rfl)]
noncomputable def pl2:kh Rat->Rat
 |[a,b]=>a+b
 |_=>0
noncomputable def mx2:kh Rat->Rat
 |[a,b]=>mxR a b
 |_=>0
def zgK{α:Type}{l:kh α}(h:l.length=2):∃a b,l=[a,b]:=by
 match l,h with
 |[a,b],_=>show#[a,b,rfl]
def zmd{N:Nat}(b8:Big fu)(hN:N<=30000000):zil (GN N 2) (opF pl2) (.lam zch []):=#[zch,[],ze6,rfl,(Vg ∅).trans XC,λ{S m xs qs} hg hx e=>by
 have#[rs,rfl,rl,nb]:=hg;have#[a,b,rfl]:=zgK rl;have rx:=hx.rl;have#[x,y,rfl]:=zgK (rx.len.trans rl);rw[zgJ];unfold ze6;show XD rfl rfl ?_;unfold ztZ;dsimp only[Ae,Bb,Bs,BJ];calc xk (zA e) rfl ?_;calc xk (zA e) rfl ?_;let#[_,_,#[rfl,rfl]]:=zsy b8 (rx.at_ 0 x a rfl rfl) (rx.at_ 1 y b rfl rfl) (nb a (by simp)) (nb b (by simp)) ⋯
 show#[zom _,A0 _]]
def zgL{N:Nat}(hN:N<=30000000):zil (GN N 2) (opF mx2) (.lam zci []):=#[zci,[],ze7,rfl,(Vg ∅).trans ((Vg ∅).trans XC),λ{S m xs qs} hg hx e=>by
 have#[rs,rfl,rl,nb]:=hg;have#[a,b,rfl]:=zgK rl;have rx:=hx.rl;have#[x,y,rfl]:=zgK (rx.len.trans rl);rw[zgJ];unfold ze7;show XD rfl rfl ?_;unfold zt1;dsimp only[Ae,Bb,Bs,BJ];calc xk (zA e) rfl ?_;calc xk (zA e) rfl ?_;let#[v,_,#[hv,rfl]]:=zmb (rx.at_ 0 x a rfl rfl) (rx.at_ 1 y b rfl rfl) (nb a (by simp)) (nb b (by simp)) ⋯
 show#[hv,A0 _]]
def zme{N:Nat}(b8:Big fu)(hw:xw.tupOf=eO (ksX ws))(w9:∀w∈ws,w<=1000000000)(w0:0<ws.sum)(hl:ws.length<=9)(hN:N<=9000):zil (GN N ws.length) (opF (VW ws)) (.lam zcf [xw]):=#[zcf,[xw],ze5,rfl,XC,λ{S m xs qs} hg hx e=>by
 have#[rs,rfl,rl,nb]:=hg;have rx:=hx.rl;rw[zgJ];unfold ze5;show XD rfl rfl ?_;unfold ztX;dsimp only[Ae,Bb,Bs,BJ];let#[v,_,#[rfl,_,p]]:=zsC b8 hw w9 w0 e rx nb #[⋯,⋯] hN
 show#[zom _,p]]
end
section
inductive Rk where
 |one (a:Opd)
 |two (sg:Nat) (a b:Opd)
noncomputable def rsS:Nat->Str
 |0=>"+"
 |1=>"-"
 |_=>"*"
noncomputable def rkL:Rk->kh Xv
 | .one a=>[opX a]
 | .two sg a b=>[opX a,.str (rsS sg),opX b]
noncomputable def rkX(r:Rk):Xv:= .tup (rkL r)
noncomputable def rv(bs:kh (Str×Nat))(st:kh Nat):Rk->Int
 | .one a=>wv bs st a
 | .two 0 a b=>wv bs st a+wv bs st b
 | .two 1 a b=>wv bs st a-wv bs st b
 | .two _ a b=>wv bs st a*wv bs st b
def zim(bs:kh (Str×Nat)):Rk->Prop
 | .one a=>zaF bs a
 | .two sg a b=>sg<3/\zaF bs a/\zaF bs b
def zfk(ho:zaF bs o)(hs:yv (bs.map (·.2)) st)(h1:∀b∈bs,1<=b.2/\b.2<=9):(wv bs st o).natAbs<=1000000000:=by
 cases o with
 |num i=>show ho
 |nam z=>
  have#[k,hk]:=ho;have#[b,eb,_]:=zgE hk;have#[v,ev,hv]:=hs.get (Tn eb);have:=h1 b (uJ eb);change(((st.getD ((fIx bs z).getD 0) 0:Nat):Int)).natAbs<=1000000000;rw[hk,Ap,uX,ev,Ap];omega
def TC(o:Opd):wo (opX o)=gP:=by cases o<;>rfl
def zbZ(e:bs[k]? =eO b)(hm:opX o∈us)(h:o= .nam b.1):Rel bs us k:=by
 show#[b,e,?_];rw[Bg];show#[opX o,hm,?_];rw[h];exact beq_self_eq_true b.1
def zoI(r:Rk):(rkL r).all wo=gP:=by
 cases r with
 |one a=>show(wo (opX a)&&gP)=gP;rw[TC];rfl
 |two sg a b=>show(wo (opX a)&&(gP&&(wo (opX b)&&gP)))=gP;rw[TC,TC];rfl
def zsF(hr:zim bs r)(h:∀k,Rel bs (rkL r) k->st[k]? =st'[k]?):rv bs st r=rv bs st' r:=by
 cases r with
 |one a=>show zbX hr λk b e q=>h k (zbZ e (by simp[rkL]) q)
 |two sg a b=>
  have#[_,ha,hb]:=hr;have e1:=zbX (st:=st) (st':=st') ha λk c e q=>h k (zbZ e (by simp[rkL]) q);have e2:=zbX (st:=st) (st':=st') hb λk c e q=>h k (zbZ e (by simp[rkL]) q);rcases sg with _|_|_;change wv bs st a+wv bs st b=wv bs st' a+wv bs st' b;rw[e1,e2];change wv bs st a-wv bs st b=wv bs st' a-wv bs st' b;rw[e1,e2];change wv bs st a*wv bs st b=wv bs st' a*wv bs st' b;rw[e1,e2]
def zgM(h9:bs.length<=9)(hs:yv (bs.map (·.2)) st)(h1:∀b∈bs,1<=b.2/\b.2<=9)(hr:zim bs r):W (UU [.tup (bsX bs),.tup (ksX st),rkX r] S) λv S'=>v= .int (rv bs st r)/\S<+:S':=by
 have hl:st.length=bs.length:=by rw[hs.1,uM]
 delta UT;cases r with
 |one a=>
  unfold rkX rkL;let#[_,S2,#[rfl,p]]:=TB h9 hl hr
  try dsimp only[uO]
  show zo (zy ?_);calc yV ?_;calc#[λ_=> ?_,λz=>by simp at z];ext;show#[rfl,p]
 |two sg a b=>
  have#[nr,ha,hb]:=hr;have b1:=zfk ha hs h1;have b2:=zfk hb hs h1;unfold rkX rkL;let#[_,S2,#[rfl,p]]:=TB h9 hl ha
  try dsimp only[uO]
  show zo (zy ?_);calc yV ?_;calc#[λz=>by simp at z,λ_=>zt ?_];show zo (zR (yb (zm (zr rfl (zm (zr rfl (zm ?_)))))));calc zH rfl (show atI [opX a,Xv.str (rsS sg),opX b] 2=eO (opX b) from rfl) ?_;let#[_,S3,#[rfl,p3]]:=TB h9 hl hb
  try dsimp only[uO]
  show zo (zy ?_);ext;rcases(show sg=0\/sg=1\/sg=2 by omega) with rfl|rfl|rfl
  .skip
   show zE #[_,rfl,λ_=> ?_,λz=>absurd z ∅];ext;show#[rfl,p.trans p3]
  .skip
   show zE #[_,rfl,λz=>absurd z ∅,λ_=>zt ?_];show zo (zy ?_);calc zE #[_,rfl,λ_=> ?_,λz=>absurd z ∅];ext;show#[rfl,p.trans p3]
  .skip
   show zE #[_,rfl,λz=>absurd z ∅,λ_=>zt ?_];show zo (zy ?_);calc zE #[_,rfl,λz=>absurd z ∅,λ_=>zt ?_];ext;have l1:intBits (wv bs st a)<=60:=Ai.mpr (uT b1 ∅);have l2:intBits (wv bs st b)<=60:=Ai.mpr (uT b2 ∅);show xa ⋯ ?_;show#[rfl,p.trans p3]
def zd0(h:W (evL ms ρ S) λds S1=>W (tw ds S1) P):W (zdd tw ms ρ S) P:=W.bind (h.imp λds S1 h=>by
 have#[v,S2,e,k]:=h;rw[e]
 show .of rfl k)
noncomputable def stp(lv s:Nat)(v:Int)(st:kh Nat):kh Nat:=st.set lv (v % (s:Int)).toNat
def zoJ(bj:Bx9 ss (bsX bs)){lv s a:Nat}{f:kh Nat->Rat}(es:ss[lv]? =eO s)(hb:(bsX bs)[lv]? =eO (.tup [x,.int (s:Int)]))(h:yN sn fn dn (.tup (bsX bs)) fs S)(w:WF ss fs)(ha:TR ss fs f a)(hc:cst ss ss.length<=360)(hf:fs.length<=900000)(ip:s<=9):
  W (vH [.ref sn,.int (lv:Int),.int (a:Int)] S) λv S'=>∃(rs:kh Nat) (fs':kh zM),v= .tup (ksX rs)/\rs.length=s/\(∀(m r:Nat),rs[m]? =eO r->TR ss fs' (λst=>f (st.set lv m)) r)/\WF ss fs'/\yM sn fn dn (.tup (bsX bs)) fs 3240 S fs' S':=by
 generalize mn:cst ss ss.length=c at hc;delta Yj;show yc (xR (zm (xN (wA (zN (zN (xl ?_)))))));calc#[_,_,_,rfl,h.o,rfl,?_];calc zH (l:=bsX bs) rfl (zV hb) ?_;calc#[#[⋯,⋯],_,rfl,?_];rw[x4];show xb (xs:=wd 0 s) (by rw[yd];show ZK ⋯) (λi es S2=>∃(rs:kh Nat) (aF:kh zM),es=ksX rs/\rs.length=i/\(∀(m r:Nat),rs[m]? =eO r->TR ss aF (λst=>f (st.set lv m)) r)/\WF ss aF/\yM sn fn dn (.tup (bsX bs)) fs (i*c) S aF S2) (λ_ _ _ _ _=>rfl) ?_ #[[],fs,rfl,rfl,(λm r e=>by simp at e),w,h.grown.more ⋯] ?_;intro i w0 gG S2 hw _ #[rs,aF,rfl,d5,fv,w2,g2];have#[hi,rfl]:=xf hw;rw[AQ];have m8:i*c<=8*c:=x3 _ ⋯;have f2:=g2.len;have#[fa,ea]:=(ha.mono g2.pre).ex;show .of rfl ?_;dsimp only[vI,Ae,uO];calc#[rfl,yi ?_];calc#[_,_,rfl,g2.st.o,rfl,?_];let#[_,S3,#[r,bN,rfl,fx,w3,g3]]:=zqc bj es hi g2.st w2 ea ⋯;rw[mn] at g3;have#[_,fr,_,er,_]:=fx.le;show#[rs++[r],bN,by rw[Zo],by simp[d5],λm r' e=> ?_,w3,(g2.trans g3).more (by rw[Am];show uL _)];rcases Af m rs.length with h'|h'|h';rw[uN h'] at e;show(fv m r' e).mono g3.pre;subst h';rw[uQ (uL _),As] at e;cases e;show#[#[fr,er],λst hs=> ?_];rw[d5];have#[hh,v]:=((ha.mono g2.pre).mono g3.pre).va (st.set lv i) (hs.set es hi);show fx.va st hs _ _ v;rw[x8 (by simp;omega)] at e;cases e;intro gG S2 _ #[rs,aF,rfl,d5,fv,w2,g2];rw[yd] at d5 g2;have tW:s*c<=9*c:=x3 _ ⋯;calc WN yC ?_;show#[rs,aF,rfl,d5,fv,w2,(g2.app (uI _ _)).more ⋯]
end
section
def zqi(h9:bs.length<=9)(hl:st.length=bs.length)(ht:zbW bs t):W (zdM [.tup (bsX bs),.tup (ksX st),tsX t] S) λv S'=>v= .bl (mkB bs t st)/\S<+:S':=by
 have#[ta,sg,tb]:=t;have#[h1,h2,h3]:=ht;delta zdL;show zo (zR (yb (zm (zr rfl (zm (zr rfl (zm ?_)))))));calc zH (l:=[opX ta,.str (sgS sg),opX tb]) rfl Up ?_;let#[_,S1,#[rfl,p1]]:=TB h9 hl h1;dsimp only[uO];show zo (zR (yb (zm (zr rfl (zm (zr rfl (zm ?_)))))));calc zH (l:=[opX ta,.str (sgS sg),opX tb]) rfl (show atI [opX ta,.str (sgS sg),opX tb] 2=eO (opX tb) from rfl) ?_;let#[_,S2,#[rfl,p2]]:=TB h9 hl h2;dsimp only[uO];have p:=p1.trans p2;have c:sg=0\/sg=1\/sg=2:=by have:sg<3:=h3;omega
 show zo (zy (xj (zN (zN (zr rfl ?_)))));calc zH (l:=[opX ta,.str (sgS sg),opX tb]) rfl VR ?_;calc zE #[_,rfl,λzz=> ?_,λzz=>zt ?_];obtain rfl|rfl|rfl:=c;ext;show#[rfl,p];show absurd zz ∅;show absurd zz ∅;show zo (zy (xj (zN (zN (zr rfl ?_)))));calc zH (l:=[opX ta,.str (sgS sg),opX tb]) rfl VR ?_;calc zE #[_,rfl,λz2=> ?_,λz2=>zt ?_];obtain rfl|rfl|rfl:=c;show absurd z2 ∅;ext;show#[rfl,p];show absurd z2 ∅;obtain rfl|rfl|rfl:=c;show absurd zz ∅;show absurd z2 ∅;ext;show#[rfl,p]
def zqj(h9:bs.length<=9)(h1:∀b∈bs,1<=b.2/\b.2<=9)(ho:zaF bs o)(h:yN sn fn dn (.tup (bsX bs)) fs S)(w:WF (bs.map (·.2)) fs)(ht:Tb S)(hf:fs.length+cst (bs.map (·.2)) (bs.map (·.2)).length<=1000000):
  W (Wn [.ref sn,opX o] S) (TRP (bs.map (·.2)) (λst=>((wv bs st o:Int):Rat)) sn fn dn (bsX bs) (cst (bs.map (·.2)) (bs.map (·.2)).length) fs S):=by
 delta Wm;show yc (vY ?_);calc#[_,_,rfl,h.o,rfl,?_];show zm (YQ ?_);calc Uw (ht 2 _ rfl) rfl ?_;ext
 have ru:RuM sn fn dn bs [opX o] (λst=>(wv bs st o,1)) (.lam zcg [.ref sn,opX o]):=#[#[zcg,[.ref sn,opX o],zfb,rfl,(Vg ∅).trans XC,λ{S fs ns} h iY=>by
  unfold zfb;show XD rfl rfl ?_;unfold zt9;dsimp only[Ae,Bb,Bs,BJ];show YQ (zm (yb (zm (xl ?_))));calc#[_,_,_,rfl,h.o,rfl,?_];let#[_,S2,#[rfl,p]]:=TB h9 (by rw[iY.1,uM]) ho;ext
  show#[rfl,p]],λst st' _ _ hd=>by
   change(wv bs st o,(1:Int))=(wv bs st' o,1)
   rw[zbX ho λk b e q=>hd k (zbZ e (by simp) q)],by simp[TC],by simp]
 let#[_,S2,#[i,aF,rfl,e1,mk,w2,g]]:=zgG h9 h1 ru h w hf;show#[i,aF,rfl,#[e1,mk],w2,g]
def zqk(ht:zbW bs t)(h:∀k,Rel bs [opX t.a,.str (sgS t.sg),opX t.b] k->st[k]? =st'[k]?):mkB bs t st=mkB bs t st':=by
 have e1:=zbX ht.1 (λk b e q=>h k (zbZ e (by simp) q));have e2:=zbX ht.2.1 (λk b e q=>h k (zbZ e (by simp) q));unfold mkB;rw[e1,e2]
noncomputable def bI(b:Bool):Int:=if b then 1 else 0
def zoK(h9:bs.length<=9)(h1:∀b∈bs,1<=b.2/\b.2<=9)(lY:zbW bs t)(h:yN sn fn dn (.tup (bsX bs)) fs S)(w:WF (bs.map (·.2)) fs)(ht:Tb S)(hf:fs.length+cst (bs.map (·.2)) (bs.map (·.2)).length<=1000000):
  W (Yl [.ref sn,tsX t] S) (TRP (bs.map (·.2)) (λst=>((bI (mkB bs t st):Int):Rat)) sn fn dn (bsX bs) (cst (bs.map (·.2)) (bs.map (·.2)).length) fs S):=by
 delta Yk;show yc (vY ?_);calc#[_,_,rfl,h.o,rfl,?_];show zm (zr rfl (zm (Uw (ht 7 _ rfl) rfl ?_)));ext
 have ru:RuM sn fn dn bs [opX t.a,.str (sgS t.sg),opX t.b] (λst=>(bI (mkB bs t st),1)) (.lam zcl [.ref sn,tsX t]):=#[#[zcl,[.ref sn,tsX t],zfc,rfl,(Vg ∅).trans ((Vg ∅).trans XC),λ{S fs ns} h iY=>by
  unfold zfc;show XD rfl rfl ?_;unfold zub;dsimp only[Ae,Bb,Bs,BJ];show Wb (xj (yb (zm (xl ?_))));calc#[_,_,_,rfl,h.o,rfl,?_];let#[_,S2,#[rfl,p]]:=zqi h9 (by rw[iY.1,uM]) lY;unfold bI;cases mkB bs t ns with
  |true=>
   show#[_,rfl,λ_=> ?_,λzz=>(by cases zz)];ext;show#[rfl,p]
  |false=>
   show#[_,rfl,λzz=>(by cases zz),λ_=> ?_];ext
   show#[rfl,p]],λst st' _ _ hd=>by
   change(bI (mkB bs t st),(1:Int))=(bI (mkB bs t st'),1)
   rw[zqk lY hd],by change(wo (opX t.a)&&(gP&&(wo (opX t.b)&&gP)))=gP;rw[TC,TC];rfl,by simp]
 let#[_,S2,#[i,aF,rfl,e1,mk,w2,g]]:=zgG h9 h1 ru h w hf;show#[i,aF,rfl,#[e1,mk],w2,g]
def zin(bj:Bx9 ss bl)(hz:∃st,yv ss st){g:kh Nat->Int}{gs:kh (kh Nat->Rat)}(h:yN sn fn dn (.tup bl) fs S)(w:WF ss fs)(ht:Tb S)(hn:TR ss fs (λst=>((g st:Int):Rat)) n)(hr:TRs ss fs gs rs)(hg:∀st,yv ss st->0<=g st/\g st<gs.length)(ip:gs.length<=9)(hc:cst ss ss.length<=400)(hf:fs.length<=900000):
  W (wC [.ref sn,.int (n:Int),.tup (ksX rs)] S) (TRP ss (λst=>(gs.map λg=>g st).getD (g st).toNat 0) sn fn dn bl 400 fs S):=by
 have rl:=hr.len;delta vL;show yc (vY ?_);calc#[_,_,rfl,h.o,rfl,?_];show zm (zN (YQ (zm (zr rfl (yw (zr rfl ?_))))));show vm (by rw[yu];simp only[uW,A6];omega) ?_;rw[show [Xv.int (n:Int)]++ksX rs=ksX (n::rs) from rfl];show zm (Uw (ht 6 _ rfl) rfl ?_);calc(zla (op:=λst=>(gs.map λg=>g st).getD (g st).toNat 0) bj (zjY hz) h w (hr.cons hn) (by simp) (by rw[uW];omega) (λst hs=> ?_) (λst hs=> ?_) ⋯ ⋯).imp ?_;have#[h0,h1]:=hg st hs;change 0<=g st/\(g st).toNat<((gs.map λg=>g st).map rQ).length;simp;omega;have#[h0,h1]:=hg st hs;change((gs.map λg=>g st).map rQ).getD (g st).toNat (0,1)=_;have e:(gs.map λg=>g st)[(g st).toNat]? =eO ((gs.map λg=>g st)[(g st).toNat]'(by simp;omega)):=uH _;rw[uX,uK,uX,e];rfl;intro _ S2 #[r,aF,rfl,t2,w2,g2];show#[r,aF,rfl,t2,w2,g2.more hc]
def To(bj:Bx9 ss bl)(hz:∃st,yv ss st){gs:kh (kh Nat->Rat)}{op:kh Rat->Rat}{N:Nat}(hr:zil (GN N as.length) (opF op) xr)(h:yN sn fn dn (.tup bl) fs S)(w:WF ss fs)(ht:Tb S)(t:TRs ss fs gs as)(h1:1<=as.length)(gO:as.length<=12)(hn:∀st,yv ss st->∀g∈gs,NB N (g st))(hc:cst ss ss.length<=400)(hf:fs.length<=900000):
  W (xn [.ref sn,TK as,xr] S) (TRP ss (λst=>op (gs.map λg=>g st)) sn fn dn bl 400 fs S):=by
 delta wY;show yc (vY ?_);calc#[_,_,rfl,h.o,rfl,?_];show zm (zr rfl (zm (Uw (ht 5 _ rfl) rfl ?_)));calc(zla (op:=λst=>op (gs.map λg=>g st)) bj (zoH hz hr) h w t h1 gO (λst hs=>#[_,rfl,by rw[uM,t.len],λr hr=> ?_]) (λst hs=>zgJ) ⋯ ⋯).imp ?_;have#[g,hg,rfl]:=z9.1 hr;show hn st hs g hg;intro _ S2 #[r,aF,rfl,t2,w2,g2];show#[r,aF,rfl,t2,w2,g2.more hc]
def zql(b8:Big fu)(bj:Bx9 ss bl)(hz:∃st,yv ss st){a b N:Nat}{f g:kh Nat->Rat}(h:yN sn fn dn (.tup bl) fs S)(w:WF ss fs)(ht:Tb S)(ha:TR ss fs f a)(hb:TR ss fs g b)(hn:∀st,yv ss st->NB N (f st)/\NB N (g st))(hN:N<=30000000)(hc:cst ss ss.length<=400)(hf:fs.length<=900000):
  W (Xe [.ref sn,.int (a:Int),.int (b:Int)] S) (TRP ss (λst=>f st+g st) sn fn dn bl 400 fs S):=by
 delta Xd;show yc (vY ?_);calc#[_,_,rfl,h.o,rfl,?_];show zm (YQ ?_);calc Uw (ht 3 _ rfl) rfl ?_;ext
 show To (as:=[a,b]) (gs:=[f,g]) bj hz (zmd b8 hN) h w ht ((TRs.nil.cons hb).cons ha) (by simp) (by simp) (λst hs z hG=>by
  rcases uU.1 hG with rfl|hG;show (hn st hs).1
  rw[y7.1 hG];show(hn st hs).2) hc hf
def zoL(bj:Bx9 ss bl)(hz:∃st,yv ss st){a b N:Nat}{f g:kh Nat->Rat}(h:yN sn fn dn (.tup bl) fs S)(w:WF ss fs)(ht:Tb S)(ha:TR ss fs f a)(hb:TR ss fs g b)(hn:∀st,yv ss st->NB N (f st)/\NB N (g st))(hN:N<=30000000)(hc:cst ss ss.length<=400)(hf:fs.length<=900000):
  W (Yn [.ref sn,.int (a:Int),.int (b:Int)] S) (TRP ss (λst=>mxR (f st) (g st)) sn fn dn bl 400 fs S):=by
 delta Ym;show yc (vY ?_);calc#[_,_,rfl,h.o,rfl,?_];show zm (YQ ?_);calc Uw (ht 4 _ rfl) rfl ?_;ext
 show To (as:=[a,b]) (gs:=[f,g]) bj hz (zgL hN) h w ht ((TRs.nil.cons hb).cons ha) (by simp) (by simp) (λst hs z hG=>by
  rcases uU.1 hG with rfl|hG;show (hn st hs).1
  rw[y7.1 hG];show(hn st hs).2) hc hf
def zmf(h9:bs.length<=9)(h1:∀b∈bs,1<=b.2/\b.2<=9)(hz:∃st,yv (bs.map (·.2)) st){b:Str×Nat}{f:kh Nat->Rat}(iO:fIx bs nm=eO lv)(eb:bs[lv]? =eO b)(hr:zim bs r)(h:yN sn fn dn (.tup (bsX bs)) fs S)(w:WF (bs.map (·.2)) fs)(ht:Tb S)(ha:TR (bs.map (·.2)) fs f a)(hc:cst (bs.map (·.2)) (bs.map (·.2)).length<=360)(hf:fs.length<=850000):
  W (Tc [.ref sn,.str nm,rkX r,.int (a:Int)] S) (TRP (bs.map (·.2)) (λst=>f (stp lv b.2 (rv bs st r) st)) sn fn dn (bsX bs) 4000 fs S):=by
 have bj:=zbt h1 h9;have hsz:=h1 b (uJ eb);have es:=Tn eb;delta UZ;show zo (zR (yb (zm (xl ?_))));calc#[_,_,_,rfl,h.o,rfl,?_];let#[_,S1,#[rfl,p1]]:=zgF h9 iO
 try dsimp only[uO]
 have ig:=h.pre p1;show zo (zR (zN (zN (xl ?_))));calc#[_,_,_,rfl,ig.o,rfl,?_];calc zH (l:=bsX bs) rfl (zV (WB eb)) ?_;calc vY ?_;calc#[_,_,rfl,ig.o,rfl,?_];show zm (zr rfl (zm (Uw ((ht.pre p1) 0 _ rfl) rfl ?_)));ext
 have ru:RuM sn fn dn bs (rkL r) (λst=>(rv bs st r % (b.2:Int),1)) (.lam zce [.ref sn,rkX r,.int (b.2:Int)]):=#[#[zce,[.ref sn,rkX r,.int (b.2:Int)],zfa,rfl,XC,λ{S fs ns} h iY=>by
  unfold zfa;show XD rfl rfl ?_;unfold zt7;dsimp only[Ae,Bb,Bs,BJ];show YQ (zm (zN (yb (zm (xl ?_)))));calc#[_,_,_,rfl,h.o,rfl,?_];let#[_,S2,#[rfl,p]]:=zgM h9 iY h1 hr;calc vt ⋯ ?_;ext
  show#[rfl,p]],λst st' _ _ hd=>by
   change(rv bs st r % (b.2:Int),(1:Int))=(rv bs st' r % (b.2:Int),1)
   rw[zsF hr hd],zoI r,by cases r<;>simp[rkL]]
 let#[_,S2,#[n,aF,rfl,e1,mk,w2,g2]]:=zgG h9 h1 ru ig w ⋯
 try dsimp only[uO]
 have q2:=g2.len;show yc (vY ?_);calc#[_,_,rfl,g2.st.o,rfl,?_];show zm (zr rfl (zm (zd0 (zm (zr rfl (zm (zr rfl (zm (zr rfl (yw ?_))))))))));let#[_,S3,#[rs,bN,rfl,d5,fv,w3,g3]]:=zoJ bj es (WB eb) g2.st w2 (ha.mono g2.pre) hc ⋯ hsz.2;ext;have q3:=g3.len
 have ju:TRs (bs.map (·.2)) bN ((z8 b.2).map λm st=>f (st.set lv m)) rs:=#[by simp[d5],λi a g e1 e2=>by
  rw[uK,uV] at e2;have#[m,em,rfl]:=e2;have#[hm,rfl]:=uF.1 em;rw[Ey]
  show fv i a e1]
 have mF:=((ht.pre p1).grown ig g2).grown g2.st g3;have hn:TR (bs.map (·.2)) bN (λst=>((rv bs st r % (b.2:Int):Int):Rat)) n:=TR.mono #[e1,mk] g3.pre;let#[_,S4,#[r4,dI,rfl,t4,w4,g4]]:=zin bj hz g3.st w3 mF hn ju (λst hs=>#[Ac _ ⋯,by rw[uM,Cg];show Aj _ ⋯]) (by rw[uM,Cg];omega) ⋯ ⋯;show#[r4,dI,rfl,t4.congr λst hs=> ?_,w4,(((yM.of_pre h p1).trans g2).trans (g3.trans g4)).more ⋯];have h0:=Ac (rv bs st r) (show(b.2:Int)≠0 by omega);have h2:=Aj (rv bs st r) (show(0:Int)<b.2 by omega);rw[Bz,uX,uK,CH ⋯];rfl
def zj8(b8:Big fu)(h9:bs.length<=9)(h1:∀b∈bs,1<=b.2/\b.2<=9)(hz:∃st,yv (bs.map (·.2)) st){lv a N:Nat}{b:Str×Nat}{f:kh Nat->Rat}(iO:fIx bs nm=eO lv)(eb:bs[lv]? =eO b)(hx:x.tupOf=eO (ksX ws))(hw:ws.length=b.2)(w9:∀w∈ws,w<=1000000000)(w0:0<ws.sum)(h:yN sn fn dn (.tup (bsX bs)) fs S)(w:WF (bs.map (·.2)) fs)(ht:Tb S)(ha:TR (bs.map (·.2)) fs f a)(hn:∀st,yv (bs.map (·.2)) st->NB N (f st))(hN:N<=9000)(hc:cst (bs.map (·.2)) (bs.map (·.2)).length<=360)(hf:fs.length<=850000):
  W (Vz [.ref sn,.str nm,x,.int (a:Int)] S) (TRP (bs.map (·.2)) (λst=>VW ws ((z8 b.2).map λm=>f (st.set lv m))) sn fn dn (bsX bs) 4000 fs S):=by
 have bj:=zbt h1 h9;have hsz:=h1 b (uJ eb);have es:=Tn eb;delta Vy;show zo (zR (zd0 (zm (zr rfl (zm (zd0 (zm (xl ?_))))))));calc#[_,_,_,rfl,h.o,rfl,?_];let#[_,S1,#[rfl,p1]]:=zgF h9 iO;have ig:=h.pre p1;let#[_,S3,#[rs,bN,rfl,d5,fv,w3,g3]]:=zoJ bj es (WB eb) ig w ha hc ⋯ hsz.2;dsimp only[uO];have q3:=g3.len
 have ju:TRs (bs.map (·.2)) bN ((z8 b.2).map λm st=>f (st.set lv m)) rs:=#[by simp[d5],λi a g e1 e2=>by
  rw[uK,uV] at e2;have#[m,em,rfl]:=e2;have#[hm,rfl]:=uF.1 em;rw[Ey]
  show fv i a e1]
 show yc (vY ?_);calc#[_,_,rfl,g3.st.o,rfl,?_];show zm (zr rfl (zm (Uw (((ht.pre p1).grown ig g3) 1 _ rfl) rfl ?_)));calc(To (N:=N) (op:=VW ws) bj hz (by rw[d5,<-hw];show zme b8 hx w9 w0 ⋯ hN) g3.st w3 ((ht.pre p1).grown ig g3) ju ⋯ ⋯ (λst hs g hg=> ?_) ⋯ ⋯).imp ?_;have#[m,hm,rfl]:=z9.1 hg;show hn _ (hs.set es (AV.1 hm));intro _ S4 #[r4,dI,rfl,t4,w4,g4];show#[r4,dI,rfl,t4.congr λst hs=> ?_,w4,((yM.of_pre h p1).trans (g3.trans g4)).more ⋯];rw[Bz];rfl
def zio(h9:bs.length<=9)(h1:∀b∈bs,1<=b.2/\b.2<=9)(hz:∃st,yv (bs.map (·.2)) st){f g:kh Nat->Rat}(lY:zbW bs t)(h:yN sn fn dn (.tup (bsX bs)) fs S)(w:WF (bs.map (·.2)) fs)(ht:Tb S)(ha:TR (bs.map (·.2)) fs f a)(hb:TR (bs.map (·.2)) fs g c)(hc:cst (bs.map (·.2)) (bs.map (·.2)).length<=360)(hf:fs.length<=850000):
  W (Tz [.ref sn,tsX t,.int (a:Int),.int (c:Int)] S) (TRP (bs.map (·.2)) (λst=>if mkB bs t st then f st else g st) sn fn dn (bsX bs) 800 fs S):=by
 have bj:=zbt h1 h9;delta zbV;show yc (yi ?_);calc#[_,_,rfl,h.o,rfl,?_];show zm (yi ?_);calc#[_,_,rfl,h.o,rfl,?_];let#[_,S2,#[n,aF,rfl,t2,w2,g2]]:=zoK h9 h1 lY h w ht ⋯;have q2:=g2.len;let#[_,S4,#[r4,dI,rfl,t4,w4,g4]]:=zin (rs:=[c,a]) (gs:=[g,f]) bj hz g2.st w2 (ht.grown h g2) t2 ((TRs.nil.cons (ha.mono g2.pre)).cons (hb.mono g2.pre)) (λst hs=>by unfold bI;split<;>simp) (by simp) ⋯ ⋯;show#[r4,dI,rfl,t4.congr λst hs=> ?_,w4,(g2.trans g4).more ⋯];unfold bI;cases mkB bs t st<;>rfl
end
abbrev SF:=kh Nat->Rat
section
noncomputable abbrev sz(bs:kh (Str×Nat)):kh Nat:=bs.map (·.2)
structure VJ(bs:kh (Str×Nat)):Prop where
 h9:bs.length<=9
 h1:∀b∈bs,1<=b.2/\b.2<=9
 hz:∃st,yv (bs.map (·.2)) st
 hc:cst (bs.map (·.2)) (bs.map (·.2)).length<=360
def NF(bs:kh (Str×Nat))(M:Nat)(f:SF):Prop:=∀st,yv (sz bs) st->NB M (f st)
def NF.mono(h:NF bs M f)(hm:M<=M'):NF bs M' f:=λst hs=>(h st hs).mono hm
def Fb2(bs:kh (Str×Nat))(call:Nat->Nat->Sto->mw (Rs Xv))(T:SF->SF)(m M M':Nat):Prop:=(∀f,NF bs M f->NF bs M' (T f))/\
 ∀{S:Sto} {sn fn dn a:Nat} {fs:kh zM} {f:SF},yN sn fn dn (.tup (bsX bs)) fs S->WF (sz bs) fs->Tb S->TR (sz bs) fs f a->NF bs M f->fs.length+m<=850000->W (call sn a S) (TRP (sz bs) (T f) sn fn dn (bsX bs) m fs S)
noncomputable def zcI(bs:kh (Str×Nat))(ct:Bool)(n:Nat)(x:Xv):=Fb2 bs λsn a S=>yg n [.ref sn,x,.int (a:Int),.bl ct] S
noncomputable def ziq(bs:kh (Str×Nat))(ct:Bool)(n:Nat)(xs:kh Xv):=Fb2 bs λsn a S=>yy n [.ref sn,.tup xs,.int (a:Int),.bl ct] S
inductive BL(bs:List (Str×Nat))(ct:Bool)(n:Nat):List Xv->(SF->SF)->Nat->Nat->Nat->Prop
 |nil {M:Nat}:BL bs ct n [] (λf=>f) 0 M M
 |cons {x:Xv} {xs:List Xv} {T1 T2:SF->SF} {m1 m2 M M1 M':Nat}:zcI bs ct n x T1 m1 M1 M'->BL bs ct n xs T2 m2 M M1->BL bs ct n (x::xs) (λf=>T1 (T2 f)) (m1+m2) M M'
def BL.snoc{T:SF->SF}(h:BL bs ct n (p++[x]) T m M M'):∃(T1 T2:SF->SF) (m1 m2 M1:Nat),BL bs ct n p T1 m1 M1 M'/\zcI bs ct n x T2 m2 M M1/\T=(λf=>T1 (T2 f))/\m=m1+m2:=by
 induction p generalizing T m M' with
 |nil=>
  cases h with
  |cons a b=>
   cases b with
   |nil=>show#[_,_,0,_,_,.nil,a,rfl,⋯]
 |cons y p ih=>
  cases h with
  |cons a b=>
   have#[T1,T2,m1,m2,M1,h1,h2,rfl,rfl]:=ih b;show#[_,T2,_,m2,M1,.cons a h1,h2,rfl,⋯]
def zir{T:SF->SF}(h:BL bs ct n xs T m M M'):ziq bs ct (n+1) xs T m M M':=by
 show#[λf hf=> ?_,λ{S sn fn dn a fs f} st w tb ta nf hl=> ?_]
 .induction h with
  |nil=>show hf
  |cons a b ih=>show a.1 _ (ih hf)
 change W (yy (n+1) _ S) _;rw[Xi];delta ZP;show zo (xJ (zpQ (zr rfl #[_,rfl,_,rfl,?_])));show yZ (xs:=xs.reverse) (λi ρ S2=>∃(r:Nat) (aF:kh zM) (a4:mw Xv) (T1 T2:SF->SF) (m1 m2 M1:Nat),ρ=[eO (.ref sn),eO (.tup xs),eO (.int (r:Int)),eO (.bl ct),a4]/\BL bs ct n (xs.take (xs.length-i)) T1 m1 M1 M'/\T=(λf=>T1 (T2 f))/\m=m1+m2/\NF bs M1 (T2 f)/\TR (sz bs) aF (T2 f) r/\WF (sz bs) aF/\Tb S2/\yM sn fn dn (.tup (bsX bs)) fs m2 S aF S2) (λ_ _ _ _ _=>rfl) ?_ #[a,fs,fX,T,λf=>f,m,0,M,rfl,by rw[Er,A3];show h,rfl,rfl,nf,ta,w,tb,st.grown] ?_
 .intro i w0 ρ S2 hw #[r,aF,a4,T1,T2,m1,m2,M1,rfl,bl,rfl,rfl,mK,t2,w2,fH,g2];have hi:i<xs.length:=by have:=(uF.1 hw).1;rwa [BW] at this
  have q2:=g2.len;rw[Cr hi] at hw;have et:xs.take (xs.length-i)=xs.take (xs.length-(i+1))++[w0]:=by
   rw[show xs.length-i=(xs.length-(i+1))+1 by omega,AW,show xs.length-(i+1)=xs.length-1-i by omega,hw];rfl
  rw[et] at bl;have#[T3,T4,m3,m4,M3,tN,fd,rfl,rfl]:=bl.snoc;show .of rfl ?_;dsimp only[uO];show zR (yb (zm (zr rfl (zm (zr rfl (zm (zr rfl (zm (zr rfl (yw ?_))))))))));let#[_,S3,#[r3,bN,rfl,t3,w3,g3]]:=fd.2 g2.st w2 fH t2 mK ⋯;dsimp only[uO];show#[r3,bN,_,T3,λf=>T4 (T2 f),m3,m2+m4,M3,rfl,tN,rfl,⋯,fd.1 _ mK,t3,w3,fH.grown g2.st g3,g2.trans g3]
 intro ρ S2 #[r,aF,a4,T1,T2,m1,m2,M1,rfl,bl,rfl,rfl,mK,t2,w2,_,g2];rw[BW,As,F7] at bl;cases bl;ext;show#[r,aF,rfl,t2,w2,g2.more ⋯]
def zj9{N:Nat}(h:i.natAbs<2^N)(h1:1<=N):NB N ((i:Int):Rat):=#[h,x9 (show((1:Nat):Int).natAbs<2^1 by decide) (Bu ∅ h1)]
def zsG(B:VJ bs)(iO:fIx bs b.1=eO lv)(eb:bs[lv]? =eO b)(hr:zim bs r):zcI bs ct (n+1) (.tup [.str "set",.str b.1,rkX r]) (λf st=>f (stp lv b.2 (rv bs st r) st)) 4000 M M:=by
 show#[λf hf st hs=>hf _ ?_,λ{S sn fn dn a fs f} st w tb ta nf hl=> ?_];have:=B.h1 b (uJ eb);have h0:=Ac (rv bs st r) (show(b.2:Int)≠0 by omega);have h2:=Aj (rv bs st r) (show(0:Int)<(b.2:Int) by omega);show hs.set (Tn eb) ⋯;change W (yg (n+1) _ S) _;rw[yB];delta xh;show zo (zy ?_);calc zE #[_,rfl,λ_=> ?_,λz=>absurd z ∅];calc zH rfl (show atI [Xv.str "set",.str b.1,rkX r] 2=eO (rkX r) from rfl) ?_;ext;show zmf B.h9 B.h1 B.hz iO eb hr st w tb ta B.hc ⋯
def zqm(b8:Big fu)(B:VJ bs)(iO:fIx bs b.1=eO lv)(eb:bs[lv]? =eO b)(hw:ws.length=b.2)(w9:∀w∈ws,w<=1000000000)(w0:0<ws.sum)(hM:M<=9000):zcI bs ct (n+1) (.tup [.str "draw",.str b.1,.tup (ksX ws)]) (λf st=>VW ws ((z8 b.2).map λm=>f (st.set lv m))) 4000 M (11*M+60):=by
 have hb:=B.h1 b (uJ eb);show#[λf hf st hs=>zqg w9 w0 (λr hr=> ?_) (by simp;omega),λ{S sn fn dn a fs f} st w tb ta nf hl=> ?_];have#[m,hm,rfl]:=z9.1 hr;show hf _ (hs.set (Tn eb) (AV.1 hm));change W (yg (n+1) _ S) _;rw[yB];delta xh;show zo (zy ?_);calc zE #[_,rfl,λz=>absurd z ∅,λ_=>zt ?_];show zo (zy ?_);calc zE #[_,rfl,λ_=> ?_,λz=>absurd z ∅];calc zH rfl (show atI [Xv.str "draw",.str b.1,.tup (ksX ws)] 2=eO (.tup (ksX ws)) from rfl) ?_;ext;show zj8 b8 B.h9 B.h1 B.hz iO eb rfl hw w9 w0 st w tb ta nf hM B.hc ⋯
def zqn(b8:Big fu)(B:VJ bs)(ho:zaF bs o)(hM:M<=20000000)(h1:31<=M):zcI bs ct (n+1) (.tup [.str "gain",opX o]) (λf st=>if ct=gP then f st+((wv bs st o:Int):Rat) else f st) 800 M (M+32):=by
 have wn:∀st,yv (sz bs) st->NB 31 (((wv bs st o:Int)):Rat):=λst hs=>zj9 (uT (zfk ho hs B.h1) ∅) ∅;show#[λf hf st hs=> ?_,λ{S sn fn dn a fs f} st w tb ta nf hl=> ?_];dsimp only;split;show (zoE (hf st hs) (wn st hs)).mono ⋯;show (hf st hs).mono ⋯
 change W (yg (n+1) _ S) _;rw[yB];delta xh;show zo (zy ?_);calc zE #[_,rfl,λz=>absurd z ∅,λ_=>zt ?_];show zo (zy ?_);calc zE #[_,rfl,λz=>absurd z ∅,λ_=>zt ?_];show zo (zy (xy ?_));calc zE #[_,rfl,λ_=> ?_,λz=>absurd z ∅];ext;cases ct with
 |true=>
  show#[λ_=> ?_,nofun];show yc (yi ?_);calc#[_,_,rfl,st.o,rfl,?_];let#[_,S2,#[i,aF,rfl,t2,w2,g2]]:=zqj B.h9 B.h1 ho st w tb (by have:=B.hc;omega);have q2:=g2.len;have hc:=B.hc;let#[_,S3,#[i3,bN,rfl,t3,w3,g3]]:=zql b8 (zbt B.h1 B.h9) B.hz g2.st w2 (tb.grown st g2) (ta.mono g2.pre) t2 (N:=M) (λst hs=>#[nf st hs,(wn st hs).mono h1]) ⋯ ⋯ ⋯;show#[i3,bN,rfl,t3,w3,(g2.trans g3).more ⋯]
 |false=>
  show#[nofun,λ_=>zt ?_];show zo (zy ?_);calc zE #[_,rfl,λz=>absurd z ∅,λ_=>zt ?_];show zo (zy ?_);calc zE #[_,rfl,λz=>absurd z ∅,λ_=>zt ?_];show zo (zy ?_);calc zE #[_,rfl,λz=>absurd z ∅,λ_=>zt ?_];show zo (zy ?_);calc zE #[_,rfl,λz=>absurd z ∅,λ_=>zt ?_];ext;show#[a,fs,rfl,ta,w,st.grown.more ⋯]
def zqo(B:VJ bs)(ht:zbW bs t)(hM:1<=M):zcI bs ct (n+1) (.tup [.str "look",tsX t]) (λf st=>if mkB bs t st=gP then f st else 0) 801 M M:=by
 show#[λf hf st hs=> ?_,λ{S sn fn dn a fs f} st w tb ta nf hl=> ?_];dsimp only;split;show hf st hs;show zj9 (i:=0) (CP ∅) hM;change W (yg (n+1) _ S) _;rw[yB];delta xh;show zo (zy ?_);calc zE #[_,rfl,λz=>absurd z ∅,λ_=>zt ?_];show zo (zy ?_);calc zE #[_,rfl,λz=>absurd z ∅,λ_=>zt ?_];show zo (zy (xy ?_));calc zE #[_,rfl,λz=>absurd z ∅,λ_=>#[nofun,λ_=>zt ?_]];show zo (zy ?_);calc zE #[_,rfl,λ_=> ?_,λz=>absurd z ∅];calc yi ?_;calc#[_,_,rfl,st.o,rfl,?_];let#[_,S2,#[i,aF,rfl,e2,ad,g2]]:=zgw st ⋯ (show QX (.ct [.int 0,.int 1]) (rQ 0) from rfl);have q2:=g2.len;let#[_,S3,#[i3,bN,rfl,t3,w3,g3]]:=zio (g:=λ_=>0) B.h9 B.h1 B.hz ht g2.st (w.leaf g2.st.nd ad) (tb.grown st g2) (ta.mono g2.pre) #[#[_,e2],λst hs=>#[0,.leaf e2]] B.hc ⋯;show#[i3,bN,rfl,t3,w3,(g2.trans g3).more ⋯]
def zqp:zcI bs ct (n+1) (.tup [.str "pass"]) (λf=>f) 0 M M:=by
 show#[λf hf=>hf,λ{S sn fn dn a fs f} st w tb ta nf hl=> ?_];change W (yg (n+1) _ S) _;rw[yB];delta xh;show zo (zy ?_);calc zE #[_,rfl,λz=>absurd z ∅,λ_=>zt ?_];show zo (zy ?_);calc zE #[_,rfl,λz=>absurd z ∅,λ_=>zt ?_];show zo (zy (xy ?_));calc zE #[_,rfl,λz=>absurd z ∅,λ_=>#[nofun,λ_=>zt ?_]];show zo (zy ?_);calc zE #[_,rfl,λz=>absurd z ∅,λ_=>zt ?_];show zo (zy ?_);calc zE #[_,rfl,λz=>absurd z ∅,λ_=>zt ?_];show zo (zy ?_);calc zE #[_,rfl,λz=>absurd z ∅,λ_=>zt ?_];show zo (zy ?_);calc zE #[_,rfl,λz=>absurd z ∅,λ_=>zt ?_];ext;show#[a,fs,rfl,ta,w,st.grown]
def zuh(B:VJ bs){Ta Tb':SF->SF}(ht:zbW bs t)(ha:ziq bs ct n a Ta ma M M')(hb:ziq bs ct n b Tb' mb M M'):zcI bs ct (n+1) (.tup [.str "if",tsX t,.tup a,.tup b]) (λf st=>if mkB bs t st=gP then Ta f st else Tb' f st) (ma+mb+800) M M':=by
 show#[λf hf st hs=> ?_,λ{S sn fn dn i fs f} st w tb ti nf hl=> ?_];dsimp only;split;show ha.1 f hf st hs;show hb.1 f hf st hs;change W (yg (n+1) _ S) _;rw[yB];delta xh;show zo (zy ?_);calc zE #[_,rfl,λz=>absurd z ∅,λ_=>zt ?_];show zo (zy ?_);calc zE #[_,rfl,λz=>absurd z ∅,λ_=>zt ?_];show zo (zy (xy ?_));calc zE #[_,rfl,λz=>absurd z ∅,λ_=>#[nofun,λ_=>zt ?_]];show zo (zy ?_);calc zE #[_,rfl,λz=>absurd z ∅,λ_=>zt ?_];show zo (zy ?_);calc zE #[_,rfl,λ_=> ?_,λz=>absurd z ∅];show zo (zR (yb (zm (zr rfl (zm (zN (zr rfl ?_)))))));calc zH rfl (show atI [Xv.str "if",tsX t,.tup a,.tup b] 2=eO (.tup a) from rfl) ?_;let#[_,S2,#[ra,aF,rfl,t2,w2,g2]]:=ha.2 st w tb ti nf ⋯;have q2:=g2.len;dsimp only[uO];show yc (yb (zm (zr rfl (zm (zN (zr rfl ?_))))));calc zH rfl (show atI [Xv.str "if",tsX t,.tup a,.tup b] 3=eO (.tup b) from rfl) ?_;let#[_,S3,#[rb,bN,rfl,t3,w3,g3]]:=hb.2 g2.st w2 (tb.grown st g2) (ti.mono g2.pre) nf ⋯;have q3:=g3.len;let#[_,S4,#[r4,dI,rfl,t4,w4,g4]]:=zio B.h9 B.h1 B.hz ht g3.st w3 ((tb.grown st g2).grown g2.st g3) (t2.mono g3.pre) t3 B.hc ⋯;show#[r4,dI,rfl,t4,w4,((g2.trans g3).trans g4).more ⋯]
noncomputable def itS(T:SF->SF):Nat->SF->SF
 |0,f=>f
 |k+1,f=>T (itS T k f)
def zoM{T:SF->SF}{Mf:Nat->Nat}(ha:∀i,i<k->ziq bs ct n a T m (Mf i) (Mf (i+1)))(hk:k<=1000):zcI bs ct (n+1) (.tup [.str "times",.int (k:Int),.tup a]) (itS T k) (k*m) (Mf 0) (Mf k):=by
 have oU:∀f,NF bs (Mf 0) f->∀i,i<=k->NF bs (Mf i) (itS T i f):=λf hf i=>by
  induction i with
  |zero=>intro _;show hf
  |succ i ih=>intro h;show(ha i h).1 _ (ih ⋯)
 show#[λf hf=>oU f hf k (uL _),λ{S sn fn dn i fs f} st w tb ti nf hl=> ?_];change W (yg (n+1) _ S) _;rw[yB];delta xh;show zo (zy ?_);calc zE #[_,rfl,λz=>absurd z ∅,λ_=>zt ?_];show zo (zy ?_);calc zE #[_,rfl,λz=>absurd z ∅,λ_=>zt ?_];show zo (zy (xy ?_));calc zE #[_,rfl,λz=>absurd z ∅,λ_=>#[nofun,λ_=>zt ?_]];show zo (zy ?_);calc zE #[_,rfl,λz=>absurd z ∅,λ_=>zt ?_];show zo (zy ?_);calc zE #[_,rfl,λz=>absurd z ∅,λ_=>zt ?_];show zo (zy ?_);calc zE #[_,rfl,λ_=> ?_,λz=>absurd z ∅];show zo (xJ (wA (zN (zr rfl ?_))));calc#[#[⋯,⋯],wd 0 k,by rw[x4],?_];show yZ (xs:=wd 0 k) (λj ρ S2=>∃(r:Nat) (aF:kh zM) (a5:mw Xv),ρ=[eO (.ref sn),eO (.tup [.str "times",.int (k:Int),.tup a]),eO (.int (r:Int)),eO (.bl ct),fX,a5]/\TR (sz bs) aF (itS T j f) r/\WF (sz bs) aF/\Tb S2/\yM sn fn dn (.tup (bsX bs)) fs (j*m) S aF S2) (λ_ _ _ _ _=>by rw[x4]) ?_ #[i,fs,fX,rfl,ti,w,tb,st.grown.more ⋯] ?_;intro j w0 ρ S2 hw #[r,aF,a5,rfl,t2,w2,fH,g2];have#[hj,rfl]:=xf hw;have q2:=g2.len;have hm:(j+1)*m<=k*m:=x3 _ hj;have nH:(j+1)*m=j*m+m:=Am j m;show .of rfl ?_;dsimp only[uO];show zR (yb (zm (zr rfl (zm (zN (zr rfl ?_))))));calc zH rfl (show atI [Xv.str "times",.int (k:Int),.tup a] 2=eO (.tup a) from rfl) ?_;let#[_,S3,#[r3,bN,rfl,t3,w3,g3]]:=(ha j hj).2 g2.st w2 fH t2 (oU f nf j ⋯) ⋯;dsimp only[uO];show#[r3,bN,_,rfl,t3,w3,fH.grown g2.st g3,(g2.trans g3).more ⋯];intro ρ S2 #[r,aF,a5,rfl,t2,w2,_,g2];rw[yd] at t2 g2;ext;show#[r,aF,rfl,t2,w2,g2]
end
section
noncomputable def mxL:kh Rat->Rat
 |[]=>0
 |r::rs=>rs.foldl mxR r
def zre{N:Nat}(ha:NB N a)(hb:NB N b):NB N (mxR a b):=by
 unfold mxR;split;show hb;show ha
theorem zgN{N:Nat}:∀{rs:kh Rat} {r:Rat},NB N r->(∀q∈rs,NB N q)->NB N (rs.foldl mxR r)
 |[],_,h,_=>h
 |q::rs,r,h,k=>zgN (rs:=rs) (zre h (k q (.head _))) λz hz=>k z (.tail _ hz)
structure BkL(bs:kh (Str×Nat))(ct:Bool)(n:Nat)(l:kh (kh Xv))(Ts:kh (SF->SF))(m M M':Nat):Prop where
 len:l.length=Ts.length
 at_:∀(i:Nat) xs T,l[i]? =eO xs->Ts[i]? =eO T->ziq bs ct n xs T m M M'
def zmg(B:VJ bs){N:Nat}{g:SF}{gs:kh SF}(st:yN sn fn dn (.tup (bsX bs)) fs S)(w:WF (sz bs) fs)(tb:Tb S)(t:TRs (sz bs) fs (g::gs) (a::as))(hl:as.length<=20)(jV:S[ln]? =eO (.lst (ksX (a::as))))(nf:∀f∈g::gs,NF bs N f)(hN:N<=30000000)(hf:fs.length+400*as.length<=850000):
  W (zaC [.ref sn,.ref ln] S) (TRP (sz bs) (λs=>mxL ((g::gs).map λf=>f s)) sn fn dn (bsX bs) (400*as.length) fs S):=by
 have rl:=t.len;rw[uW,uW] at rl;delta zaB;show zo (zR (zN (zr rfl ?_)));calc xk (zA jV) (zV (i:=0) rfl) ?_;dsimp only[uO];show zo (xJ (TV ?_));calc znM (zA jV) ?_;rw[show zbH (ksX (a::as)) (eO 1) fX=ksX as from by rw[show(1:Int)=((1:Nat):Int) from rfl,zbu _ 1 (by rw[yu];simp)];rfl];have ig:=st.pre (uI S [.lst (ksX as)]);have iX:=tb.pre (uI S [.lst (ksX as)]);have je:(S++[Ce.lst (ksX as)])[S.length]? =eO (.lst (ksX as)):=yC;have g1:=yM.of_pre st (uI S [.lst (ksX as)]);have di:S.length≠fn/\S.length≠dn:=by have:=st.flt;omega
 generalize S.length=l1 at je di ⊢;generalize S++[Ce.lst (ksX as)]=S1 at ig iX je g1 ⊢;show#[_,zA je,_,zA je,?_];show yZ (xs:=ksX as) (λi ρ S2=>∃(r:Nat) (aF:kh zM) (a3:mw Xv),ρ=[eO (.ref sn),eO (.ref ln),eO (.int (r:Int)),a3]/\TR (sz bs) aF (λs=>((gs.take i).map λf=>f s).foldl mxR (g s)) r/\WF (sz bs) aF/\Tb S2/\S2[l1]? =eO (.lst (ksX as))/\yM sn fn dn (.tup (bsX bs)) fs (400*i) S aF S2) (λi ρ S2 _ ⟨_,_,_,_,_,_,_,e,_⟩=>zA e) ?_ #[a,fs,fX,rfl,t.at_ 0 a g rfl rfl,w,iX,je,g1.more ⋯] ?_;intro i w0 ρ S2 hw #[r,aF,a3,rfl,t2,w2,fH,fG,g2];have#[k,ek,rfl]:=YF hw;have hi:=(uF.1 ek).1;have eg:gs[i]? =eO (gs[i]'⋯):=uH _;generalize gs[i]'⋯=f at eg;have tk:=(t.at_ (i+1) k f (by simpa using ek) (by simpa using eg)).mono g2.pre;have q2:=g2.len;have hc:=B.hc;show .of rfl ?_;dsimp only[uO];show zR (yi ?_);calc#[_,_,rfl,g2.st.o,rfl,?_];calc(zoL (N:=N) (zbt B.h1 B.h9) B.hz g2.st w2 fH t2 tk (λs hs=>#[zgN (nf g (.head _) s hs) λq hq=> ?_,nf f (.tail _ (uJ eg)) s hs]) hN ⋯ ⋯).imp ?_;have#[f',jH,rfl]:=z9.1 hq;show nf f' (.tail _ (List.mem_of_mem_take jH)) s hs;intro _ S3 #[r3,bN,rfl,t3,w3,g3];dsimp only[uO];show#[r3,bN,_,rfl,t3.congr λs hs=> ?_,w3,fH.grown g2.st g3,g3.kp.2 _ _ fG λz=>z.elim di.1 di.2,(g2.trans g3).more ⋯];rw[AW,eg,z7,D9];rfl;intro ρ S2 #[r,aF,a3,rfl,t2,w2,_,_,g2];rw[yu] at t2 g2;rw[AH ⋯] at t2;ext;show#[r,aF,rfl,t2,w2,g2]
set_option tactic.hygienic true in
def zqq(B:VJ bs){Ts:kh (SF->SF)}(hb:BkL bs ct n l Ts m M M')(h1:1<=l.length)(t8:l.length<=20)(hM:M'<=30000000):zcI bs ct (n+1) (.tup [.str "hand",.tup (l.map .tup)]) (λf st=>mxL (Ts.map λT=>T f st)) (l.length*m+400*l.length) M M':=by
 have bl:=hb.len;have lQ:∀f,NF bs M f->∀T∈Ts,NF bs M' (T f):=λf hf T hT=>by
  have#[i,hi]:=z6 hT;have el:l[i]? =eO (l[i]'(by have:=(uF.1 hi).1;omega)):=uH _;show(hb.at_ i _ T el hi).1 f hf
 show#[λf hf st hs=> ?_,λ{S sn fn dn i fs f} st w tb ti nf hl=> ?_]
 .cases Ts with
  |nil=>rw[A6] at bl;omega
  |cons T Ts=>
   show zgN (lQ f hf T (.head _) st hs) λq hq=> ?_;have#[T',og,rfl]:=z9.1 hq;show lQ f hf T' (.tail _ og) st hs
 change W (yg (n+1) _ S) _;rw[yB];delta xh;show zo (zy ?_);calc zE #[_,rfl,λz=>absurd z ∅,λ_=>zt ?_];show zo (zy ?_);calc zE #[_,rfl,λz=>absurd z ∅,λ_=>zt ?_];show zo (zy (xy ?_));calc zE #[_,rfl,λz=>absurd z ∅,λ_=>#[nofun,λ_=>zt ?_]];show zo (zy ?_);calc zE #[_,rfl,λz=>absurd z ∅,λ_=>zt ?_];show zo (zy ?_);calc zE #[_,rfl,λz=>absurd z ∅,λ_=>zt ?_];show zo (zy ?_);calc zE #[_,rfl,λz=>absurd z ∅,λ_=>zt ?_];show zo (zy ?_);calc zE #[_,rfl,λ_=> ?_,λz=>absurd z ∅];show yc (yb (zm (zr rfl (zm (xN (znZ ?_))))));ext;show xb (xs:=l.map .tup) (by rw[uM];show z5 (XR ⋯)) (λj es S2=>∃(rs:kh Nat) (aF:kh zM),es=ksX rs/\rs.length=j/\TRs (sz bs) aF ((Ts.take j).map λT=>T f) rs/\WF (sz bs) aF/\Tb S2/\yM sn fn dn (.tup (bsX bs)) fs (j*m) S aF S2) (λ_ _ _ _ _=>rfl) ?_ #[[],fs,rfl,rfl,TRs.nil,w,tb,st.grown.more ⋯] ?_
 .intro j w0 es S2 hw f7 #[rs,aF,rfl,d5,t2,w2,fH,g2];rw[uK,uV] at hw;have#[xs,ex,rfl]:=hw;have hj:=(uF.1 ex).1;have eT:Ts[j]? =eO (Ts[j]'⋯):=uH _;generalize Ts[j]'⋯=T at eT;have q2:=g2.len;have hm:(j+1)*m<=l.length*m:=x3 _ hj;have nH:(j+1)*m=j*m+m:=Am j m;show .of rfl ?_;calc#[rfl,?_];let#[_,S3,#[r3,bN,rfl,t3,w3,g3]]:=(hb.at_ j xs T ex eT).2 g2.st w2 fH (ti.mono g2.pre) nf ⋯;show#[rs++[r3],bN,by rw[Zo],by simp[d5],#[by rw[uZ,uM,Ak,d5];simp;omega,λi a g e1 e2=> ?_],w3,fH.grown g2.st g3,(g2.trans g3).more ⋯];rw[AW,eT,z7] at e2;have fG:((Ts.take j).map λT=>T f).length=rs.length:=by rw[uM,Ak];omega
  rcases Dt i rs.length with c|c;rw[uN c] at e1;rw[uN ⋯] at e2;show(t2.at_ i a g e1 e2).mono g3.pre;rw[uQ c] at e1;rw[uQ ⋯,fG] at e2;have#[h0,rfl]:=uF.1 e1;simp at h0;rw[h0] at e2;cases e2;simp only[h0,List.getElem_singleton];show t3
 intro es S2 _ #[rs,aF,rfl,d5,t2,w2,fH,g2];rw[uM] at d5 t2 g2;rw[AH ⋯] at t2;have q2:=g2.len;have g3:=g2.app (uI S2 [.lst (ksX rs)]);cases rs with
 |nil=>rw[A6] at d5;omega
 |cons a as=>
  cases Ts with
  |nil=>rw[A6] at bl;omega
  |cons T Ts=>
   ext;rw[uW] at d5;rw[y4] at t2;show(zmg (N:=M') (g:=T f) (gs:=Ts.map λ(T:SF->SF)=>T f) B (g2.st.pre (uI S2 [.lst (ksX (a::as))])) w2 (fH.pre (uI S2 [.lst (ksX (a::as))])) t2 ⋯ yC (λf' jH=> ?_) hM ⋯).imp ?_;rcases uU.1 jH with rfl|jH;show lQ f nf T (.head _);have#[T',og,rfl]:=z9.1 jH;show lQ f nf T' (.tail _ og);intro _ S3 #[r3,bN,rfl,t3,w3,g4];show#[r3,bN,rfl,t3.congr λs hs=> ?_,w3,(g3.trans g4).more ⋯];rw[y4,Bz,y4];rfl
end
section
def yG(h:a≠b)(k:P (.bl kb) S):WO (yH kb (.str a) (.str b) S) P:=zE (by rw[decide_eq_false h];show k)
def ZR(k:P (.bl gP) S):WO (yH kb (.str a) (.str a) S) P:=zE (by rw[decide_eq_true rfl];show k)
def zqr(kd:Str)(rest:kh Xv)(subs:kh (kh Xv)):Prop:=
 (kd="if"/\∃t a b,rest=[t,.tup a,.tup b]/\subs=[a,b])\/((kd="while"\/kd="times")/\∃t a,rest=[t,.tup a]/\subs=[a])\/(kd="hand"/\rest=[.tup (subs.map Xv.tup)])\/(kd≠"if"/\kd≠"while"/\kd≠"times"/\kd≠"hand"/\subs=[])
def zoN(h:zqr kd rest subs):W (Vu [.tup (.str kd::rest)] S) λv S'=>v= .tup (subs.map Xv.tup)/\S=S':=by
 delta Vt;show zo (zy ?_);ext;rcases h with⟨rfl,t,a,b,rfl,rfl⟩|⟨h,t,a,rfl,rfl⟩|⟨rfl,rfl⟩|⟨h1,h2,h3,h4,rfl⟩
 .show ZR #[_,rfl,λ_=> ?_,nofun];calc zH rfl (show atI [Xv.str "if",t,.tup a,.tup b] 2=eO (.tup a) from rfl) ?_;calc zH rfl (show atI [Xv.str "if",t,.tup a,.tup b] 3=eO (.tup b) from rfl) ?_;ext;show#[rfl,rfl]
 .show yG (by rcases h with rfl|rfl<;>decide) #[_,rfl,nofun,λ_=>zt ?_];show zo (zy (zcb ?_));ext;rcases h with rfl|rfl;show ZR #[_,rfl,λ_=>#[λ_=> ?_,nofun],nofun];calc zH rfl (show atI [Xv.str "while",t,.tup a] 2=eO (.tup a) from rfl) ?_;ext;show#[rfl,rfl];show yG ∅ #[_,rfl,nofun,λ_=> ?_];calc ZR #[_,rfl,λ_=> ?_,nofun];calc zH rfl (show atI [Xv.str "times",t,.tup a] 2=eO (.tup a) from rfl) ?_;ext;show#[rfl,rfl]
 .show yG ∅ #[_,rfl,nofun,λ_=>zt ?_];show zo (zy (zcb ?_));calc yG ∅ #[_,rfl,nofun,λ_=> ?_];calc yG ∅ #[_,rfl,nofun,λ_=>zt ?_];show zo (zy ?_);calc ZR #[_,rfl,λ_=> ?_,nofun];ext;show#[rfl,rfl]
 show yG h1 #[_,rfl,nofun,λ_=>zt ?_];show zo (zy (zcb ?_));calc yG h2 #[_,rfl,nofun,λ_=> ?_];calc yG h3 #[_,rfl,nofun,λ_=>zt ?_];show zo (zy ?_);calc yG h4 #[_,rfl,nofun,λ_=>zt ?_];ext;show#[rfl,rfl]
abbrev Itm:=Str×kh Xv×kh (kh Xv×kh Str)
noncomputable def zd1(p:Itm):Xv:= .tup (.str p.1::p.2.1)
noncomputable def zis(p:Itm):kh Str:=p.1::(p.2.2.map (·.2)).flatten
inductive Bl:Nat->List Xv->List Str->Prop
 |mk {h:Nat} (ah:List Itm):(∀p∈ah,zqr p.1 p.2.1 (p.2.2.map (·.1)))->(∀p∈ah,∀q∈p.2.2,Bl h q.1 q.2)->Bl (h+1) (ah.map zd1) (ah.map zis).flatten
def YG(L:kh Xv)(hs:kh Str):Prop:=∃ps:kh (Str×kh Xv),L=ps.map (λp=> .tup (.str p.1::p.2))/\hs=ps.map (·.1)
def YG.len(h:YG L hs):L.length=hs.length:=by
 have#[ps,rfl,rfl]:=h;simp
def YG.app(h:YG L hs)(h':YG L' hU):YG (L++L') (hs++hU):=by
 have#[ps,rfl,rfl]:=h;have#[qs,rfl,rfl]:=h';show#[ps++qs,by simp,by simp]
def zfl{α β:Type}{f:α->kh β}{l:kh α}{a:α}(h:l[i]? =eO a):((l.take (i+1)).map f).flatten=((l.take i).map f).flatten++f a/\((l.take (i+1)).map f).flatten.length<=(l.map f).flatten.length:=by
 have#[hi,e]:=uF.1 h;show#[by rw[z4 hi,z7,Ef,e];simp,?_];have:(l.map f).flatten=((l.take (i+1)).map f).flatten++((l.drop (i+1)).map f).flatten:=by rw[<-Ef,<-z7,List.take_append_drop]
 rw[this,uZ];omega
def szB(h:n<=2000):n<=FC:=uP h ∅
def zoO(b:Bl h ds hs):∀(m:Nat) (S:Sto),h<=m->hs.length<=1000->W (yX m [.tup ds] S) λv S'=>∃n L,v= .ref n/\S'[n]? =eO (.lst L)/\YG L hs/\S.length<=n/\Kp (λ_=>False) S S':=by
 induction b with
 | @mk h ah hb _ ih=>
  intro m S hm hl;obtain⟨m,rfl⟩:∃q,m=q+1:=#[m-1,⋯];rw[ZZ];delta vG;calc xJ (zeW ?_);ext;show yZ (xs:=ah.map zd1) (λi ρ S2=>∃(L:kh Xv) (a2 a3:mw Xv),ρ=[eO (.tup (ah.map zd1)),eO (.ref S.length),a2,a3]/\YG L ((ah.take i).map zis).flatten/\S2[S.length]? =eO (.lst L)/\Kp (λ_=>False) S S2) (λ_ _ _ _ _=>rfl) ?_ ?_ ?_
  .intro i w ρ S2 hw #[L,a2,a3,rfl,hL,e2,k2];rw[uK] at hw;cases hp:ah[i]? with
   |none=>rw[hp] at hw;cases hw
   |some p=>
    rw[hp] at hw;cases hw;have gC:=uJ hp;have#[f1,f2]:=zfl (f:=zis) hp;rw[f1,uZ] at f2;have dh:(zis p).length=(p.2.2.map (·.2)).flatten.length+1:=by unfold zis;simp
    show .of rfl ?_;dsimp only[uO];calc TU ?_;calc#[#[_,zA e2],?_];ext;have ux:=hL.len;show YH (vh e2) (x9 (show L.length<2000 by omega) ∅) ?_;have k3:Kp (λ_=>False) S (S2.set S.length (.lst (L++[zd1 p]))):=k2.set (.inr (uL _));have e3:=xK (c':= .lst (L++[zd1 p])) e2;generalize S2.set S.length (.lst (L++[zd1 p]))=S3 at k3 e3 ⊢;show xJ (zeW ?_);let#[_,S4,#[rfl,rfl]]:=zoN (hb p gC);show#[_,rfl,_,rfl,?_];show yZ (xs:=(p.2.2.map (·.1)).map Xv.tup) (λj ρ S5=>∃(L5:kh Xv) (a3:mw Xv),ρ=[eO (.tup (ah.map zd1)),eO (.ref S.length),eO (zd1 p),a3]/\YG L5 (((ah.take i).map zis).flatten++p.1::((p.2.2.take j).map (·.2)).flatten)/\S5[S.length]? =eO (.lst L5)/\Kp (λ_=>False) S S5) (λ_ _ _ _ _=>rfl) ?_ ?_ ?_
    .intro j w ρ S5 hw #[L5,a3,rfl,lr,e5,k5];rw[uK,uK] at hw;cases hq:p.2.2[j]? with
     |none=>rw[hq] at hw;cases hw
     |some q=>
      rw[hq] at hw;cases hw;have#[f3,f4]:=zfl (f:=λq:kh Xv×kh Str=>q.2) hq;rw[f3,uZ] at f4;show .of rfl ?_;dsimp only[uO];calc TU ?_;calc#[#[_,zA e5],?_];let#[_,S6,#[n6,L6,rfl,e6,qa,pK,k6]]:=ih p gC q (uJ hq) m S5 ⋯ ⋯;ext;have qu:=k6.2 _ _ e5 id;have l5:=lr.len;have l6:=qa.len;rw[uZ,uW] at l5
      show WO.of (show Xx (.ref S.length) [.ref n6] S6 = eO (.non, S6.set S.length (.lst (L5 ++ L6))) by
       unfold Xx;rw[vh qu];dsimp only
       rw[show Yu S6 (.ref n6)=eO L6 from zA e6,y0,Gv (szB ⋯)]) ?_
      show#[L5++L6,_,rfl,?_,xK qu,(k5.trans k6).set (.inr (uL _))];rw[f3];have:=lr.app qa;simpa using this
    .show#[L++[zd1 p],a3,rfl,?_,e3,k3];show hL.app #[[(p.1,p.2.1)],rfl,rfl]
    intro ρ S5 #[L5,a3,rfl,lr,e5,k5];rw[uM,uM,A3] at lr;show#[L5,_,_,rfl,by rw[f1];show lr,e5,k5]
  .show#[[],fX,fX,rfl,#[[],rfl,rfl],yC,Kp.pre (uI _ _)]
  intro ρ S2 #[L,a2,a3,rfl,hL,e2,k2];rw[uM,A3] at hL;ext;show#[_,L,rfl,e2,hL,uL _,k2]
theorem zfm:∀bs:kh Bool,Zr (bs.map Xv.bl)=eO bs
 |[]=>rfl
 |b::r=>by rw[y4];simp[Zr,zfm r]
def zmh(b:Bl h ds hs)(hh:h<=12)(hl:hs.length<=1000):W (Wh [.tup ds] S) λv S'=>v= .bl (!decide ((Str.ofString "while")∈hs))/\Kp (λ_=>False) S S':=by
 delta Wg;ext;show W.imp (P:=λv S'=>v= .bl (decide ((Str.ofString "while")∈hs))/\Kp (λ_=>False) S S') ?_ ?_
 .delta Vv;show yc (xR (zm (xN (TV ?_))));let#[_,S2,#[n,L,rfl,e2,#[ps,rfl,rfl],hn,k2]]:=zoO b 12 S hh hl;show#[_,zA e2,_,zA e2,?_];show xb (by simpa using szB (by simp at hl;omega)) (λi es S3=>S3=S2/\es=((ps.take i).map λp=>decide (p.1=Str.ofString "while")).map Xv.bl) ?_ ?_ #[rfl,rfl] ?_;intro i es _ _ #[rfl,_];show zA e2
  .intro i w es _ hw f7 #[rfl,rfl];rw[uK] at hw;cases hp:ps[i]? with
   |none=>rw[hp] at hw;cases hw
   |some p=>
    rw[hp] at hw;cases hw;show .of rfl ?_;dsimp only[vI,Ae,uO];calc#[rfl,?_];calc zE #[rfl,?_];have#[hi,e]:=uF.1 hp;rw[z4 hi,z7,z7,e];rfl
  intro es S3 _ #[rfl,rfl];rw[uM,A3];ext
  show WO.of (show zhs [.ref S3.length] _ = eO (.bl ((ps.map λp => decide (p.1 = Str.ofString "while")).any id), _) by
   unfold zhs;dsimp only;rw[wG,y0,zfm];rfl) ?_
  show#[?_,k2.app]
  congr 1
  rw[Av,decide_eq_true_iff,Bg];constructor;intro#[b,hb,o6];have#[p,hp,rfl]:=z9.1 hb;show z9.2 #[p,hp,of_decide_eq_true o6];intro h;have#[p,hp,e]:=z9.1 h;show#[_,z9.2 #[p,hp,rfl],decide_eq_true e]
 intro _ S2 #[rfl,k2];ext;show#[rfl,k2]
def zoP(h:Nat):Bl (h+1) [] []:=Bl.mk [] (λp hp=>by cases hp) (λp hp=>by cases hp)
def zhm(h:Nat)(x:Xv)(hs:kh Str):Prop:=∃it:Itm,x=zd1 it/\hs=zis it/\zqr it.1 it.2.1 (it.2.2.map (·.1))/\∀q∈it.2.2,Bl h q.1 q.2
def zoQ:∀{xs:kh (Xv×kh Str)},(∀p∈xs,zhm h p.1 p.2)->Bl (h+1) (xs.map (·.1)) (xs.map (·.2)).flatten:=λ{xs} hx=>by
 have:∀xs:kh (Xv×kh Str),(∀p∈xs,zhm h p.1 p.2)->∃ah:kh Itm,ah.map zd1=xs.map (·.1)/\ah.map zis=xs.map (·.2)/\(∀p∈ah,zqr p.1 p.2.1 (p.2.2.map (·.1)))/\∀p∈ah,∀q∈p.2.2,Bl h q.1 q.2:=by
  intro xs
  induction xs with
  |nil=>intro _;show#[[],rfl,rfl,(λp hp=>by cases hp),λp hp=>by cases hp]
  |cons x r ih=>
   intro hx;have#[it,e1,e2,b1,b2]:=hx x uY;have#[ah,i1,i2,i3,i4]:=ih λp hp=>hx p (uR _ hp);show#[it::ah,by rw[y4,y4,i1,e1],by rw[y4,y4,i2,e2],λp hp=> ?_,λp hp=> ?_];rcases uU.1 hp with rfl|hp;show b1;show i3 p hp;rcases uU.1 hp with rfl|hp;show b2;show i4 p hp
 have#[ah,i1,i2,i3,i4]:=this xs hx;have:=Bl.mk ah i3 i4;rw[i1,i2] at this;show this
def zit(h:Nat){kd:Str}(h1:kd≠"if")(h2:kd≠"while")(h3:kd≠"times")(h4:kd≠"hand"):zhm h (.tup (.str kd::rest)) [kd]:=#[(kd,rest,[]),rfl,rfl,.inr (.inr (.inr #[h1,h2,h3,h4,rfl])),λq hq=>by cases hq]
def zoR{T:SF->SF}(b:Bl h xs hs)(hh:h<=12)(hl:hs.length<=1000)(hw:(Str.ofString "while")∉hs)(hb:ziq bs ct 6 xs T m M M'){f:SF}(st:yN sn fn dn (.tup (bsX bs)) fs S)(w:WF (sz bs) fs)(tb:Tb S)(ta:TR (sz bs) fs f a)(nf:NF bs M f)(hf:fs.length+m<=850000):
  W (Ze [.ref sn,.tup xs,.int (a:Int),.bl ct] S) (TRP (sz bs) (T f) sn fn dn (bsX bs) m fs S):=by
 delta VB;show zo (zy ?_);let#[_,S2,#[rfl,k2]]:=zmh b hh hl;rw[decide_eq_false hw];show#[_,rfl,nofun,λ_=>zt ?_];let#[_,S3,#[r,bN,rfl,t3,w3,g3]]:=hb.2 (st.keep k2 id id id) w (tb.keep k2 λ_ _=>id) ta nf hf;show#[r,bN,rfl,t3,w3,g3.st,g3.pre,g3.len,(k2.mono λ_ z=>z.elim).trans g3.kp]
end
section
def zgO(h:c<l):ixN l (c:Int)=eO c:=by
 unfold ixN;rw[Gv ⋯,Gv ⋯,x4]
def zlb(ks:kh Nat)(j r:Nat):(ksX ks).set j (.int (r:Int))=ksX (ks.set j r):=by unfold ksX;rw[Fy]
def zgP(cy:(bs.map (·.1)).Nodup)(e:bs[k]? =eO b):fIx bs b.1=eO k:=by
 unfold fIx;rw[B6];have#[hk,hb]:=uF.1 e;show#[hk,by rw[hb];show decide_eq_true rfl,λj hj z=> ?_];have z:=of_decide_eq_true z;have e1:(bs.map (·.1))[j]? =eO b.1:=by rw[uK,uH (show j<bs.length by omega)];show congrArg eO z
 have e2:(bs.map (·.1))[k]? =eO b.1:=by rw[uK,e];rfl
 have#[j1,q1]:=uF.1 e1;have#[k1,q2]:=uF.1 e2;have:=(Cp cy).1 (q1.trans q2.symm);omega
def zoS(h9:bs.length<=9)(h1:∀b∈bs,1<=b.2/\b.2<=9)(cy:(bs.map (·.1)).Nodup)(hs:st.length=bs.length)(eb:bs[lv]? =eO b):W (vP [.tup (bsX bs),.tup (ksX st),.str b.1,.int v] S) λw S'=>w= .tup (ksX (stp lv b.2 v st))/\Kp K0 S S':=by
 delta Te;calc WO.of (show zkF [.tup (ksX st)] S=eO (.ref S.length,S++[.lst (ksX st)]) from rfl) ?_;calc xJ (wA (xR (zm (zr rfl (yw (yV ?_))))));rw[Zq];show#[_,rfl,#[⋯,⋯],_,rfl,?_];rw[x4];have hb:=h1 b (uJ eb);have jC:=(uF.1 eb).1;show yZ (xs:=wd 0 bs.length) (λi ρ S2=>∃a5,ρ=[eO (.tup (bsX bs)),eO (.tup (ksX st)),eO (.str b.1),eO (.int v),eO (.ref S.length),a5]/\S2[S.length]? =eO (.lst (ksX (if lv<i then stp lv b.2 v st else st)))/\Kp K0 S S2) (λ_ _ _ _ _=>rfl) ?_ #[fX,rfl,by rw[Gw ⋯];show yC,Kp.pre (uI _ _)] ?_
 .intro i w0 ρ S2 hw #[a5,rfl,h2,k2];have#[hi,rfl]:=xf hw;rw[AQ];have ei:bs[i]? =eO bs[i]:=uH hi;generalize bs[i]=c at ei;show .of rfl ?_;dsimp only[uO];show zy ?_;calc zH (l:=bsX bs) rfl (zV (WB ei)) ?_;calc zE #[_,rfl,λz=> ?_,λz=>zt #[_,rfl,?_,k2]];have z:=of_decide_eq_true z;have q1:=zgP cy ei;have q2:=zgP cy eb;rw[z,q2] at q1;cases q1;rw[eb] at ei;cases ei;show zdo ?_;calc zH (l:=bsX bs) rfl (zV (WB eb)) ?_;calc vt ⋯ ?_;ext;rw[Gw (AB _)] at h2;show#[_,_,_,lv,vh h2,rfl,zgO (by rw[yu];omega),_,rfl,?_,k2.set (.inr (uL _))];have h0:=Ac v (show(b.2:Int)≠0 by omega);rw[xK h2,Gv ⋯];unfold stp;rw[<-zlb,Be h0]
  have z:=of_decide_eq_false z;have di:i≠lv:=λe=>by
   subst e;rw[eb] at ei;cases ei;show z rfl
  by_cases q:lv<i;rw[Gv q] at h2;rw[Gv ⋯];show h2;rw[Gw q] at h2;rw[Gw ⋯];show h2
 intro ρ S2 #[a5,rfl,h2,k2];rw[yd,Gv jC] at h2;ext;show WN h2 #[rfl,k2]
def zsH(h9:bs.length<=9)(h1:∀b∈bs,1<=b.2/\b.2<=9)(cy:(bs.map (·.1)).Nodup)(hs:yv (bs.map (·.2)) st)(eb:bs[lv]? =eO b)(hr:zim bs r):W (XO [.tup (bsX bs),.tup (ksX st),Xv.tup [.str "set",.str b.1,rkX r]] S) λw S'=>w= .tup (ksX (stp lv b.2 (rv bs st r) st))/\Kp K0 S S':=by
 have hl:st.length=bs.length:=by rw[hs.1,uM]
 have two:atI [Xv.str "set",.str b.1,rkX r] 2=eO (rkX r):=rfl;have fin:∀{S2:Sto} {v:Int} {a3 a4:mw Xv} {N:Rho->Sto->Prop},a3=eO (.int v)->v=rv bs st r->Kp K0 S S2->WS (zO (zx (vP) [zi 0,zi 1,eOp zG (zi 2) (oZ 1),zi 3]) [eO (.tup (bsX bs)),eO (.tup (ksX st)),eO ((Xv.tup [.str "set",.str b.1,rkX r])),a3,a4] S2) N λw S'=>w= .tup (ksX (stp lv b.2 (rv bs st r) st))/\Kp K0 S S':=by
  rintro S2 v a3 a4 N rfl rfl k2;let#[_,S3,#[rfl,k3]]:=zoS h9 h1 cy hl eb;show#[rfl,k2.trans k3]
 delta Tf;show zo (zR (yb (zm (zr rfl (zm (zr rfl (zm (zN (zN (zr rfl (ZU ?_))))))))))) ;show zH rfl two ?_;cases r with
 |one a=>
  unfold rkX rkL;let#[_,_,#[rfl,rfl]]:=WQ h9 hl hr
  try dsimp only[uO]
  show zo (zy (xj (zN (xR (zm (zN (zr rfl (ZU ?_))))))));show zH rfl (show atI [Xv.str "set",.str b.1,.tup [opX a]] 2=eO (.tup [opX a]) from rfl) ?_;calc yV ?_;calc#[λz=>by simp at z,λ_=>zt ?_];show fin rfl rfl (Kp.refl _)
 |two sg a c=>
  have#[nr,ha,hc]:=hr;have b1:=zfk ha hs h1;have b2:=zfk hc hs h1;unfold rkX rkL;have two':atI [Xv.str "set",.str b.1,.tup [opX a,.str (rsS sg),opX c]] 2=eO (.tup [opX a,.str (rsS sg),opX c]):=rfl;let#[_,_,#[rfl,rfl]]:=WQ h9 hl ha
  try dsimp only[uO]
  show zo (zy (xj (zN (xR (zm (zN (zr rfl (ZU ?_))))))));show zH rfl two' ?_;calc yV ?_;calc#[λ_=> ?_,λz=>by simp at z];show zo (zR (yb (zm (zr rfl (zm (zr rfl (zm (zN (zN (zr rfl (ZU ?_)))))))))));show zH rfl two' ?_;calc zH rfl (show atI [opX a,Xv.str (rsS sg),opX c] 2=eO (opX c) from rfl) ?_;let#[_,_,#[rfl,rfl]]:=WQ h9 hl hc
  try dsimp only[uO]
  have one:∀{w:Str} {e:TwE} {v:Xv} {S:Sto} {N:Rho->Sto->Prop} {R:Xv->Sto->Prop} {a4:mw Xv},(rsS sg=w->W (e [eO (.tup (bsX bs)),eO (.tup (ksX st)),eO (.tup [Xv.str "set",.str b.1,.tup [opX a,.str (rsS sg),opX c]]),eO v,a4] S) λu S'=>N [eO (.tup (bsX bs)),eO (.tup (ksX st)),eO (.tup [Xv.str "set",.str b.1,.tup [opX a,.str (rsS sg),opX c]]),eO u,a4] S')->(rsS sg≠w->N [eO (.tup (bsX bs)),eO (.tup (ksX st)),eO (.tup [Xv.str "set",.str b.1,.tup [opX a,.str (rsS sg),opX c]]),eO v,a4] S)->
    WS (sIf (bE (eOp (yH kb) (eOp zG (eOp zG (zi 2) (oZ 2)) (oZ 1)) (eC (.str w)))) (zI e (gN 3)) zP [eO (.tup (bsX bs)),eO (.tup (ksX st)),eO (.tup [Xv.str "set",.str b.1,.tup [opX a,.str (rsS sg),opX c]]),eO v,a4] S) N R:=by
   intro w e v S N R a4 hy hn;show zy (xj (zN (zN (zN (zr rfl (ZU ?_))))));show zH rfl two' ?_;ext;show zE #[_,rfl,λz=>zR (hy (of_decide_eq_true z)),λz=>zt (hn (of_decide_eq_false z))]
  rcases(show sg=0\/sg=1\/sg=2 by omega) with rfl|rfl|rfl
  .skip
   show zo (one (λ_=> ?_) (λz=>absurd rfl z));calc one (w:="-") (λz=>absurd z ∅) (λ_=> ?_);show one (w:="*") (λz=>absurd z ∅) (λ_=> ?_);show fin rfl rfl (Kp.refl _)
  .skip
   show zo (one (w:="+") (λz=>absurd z ∅) (λ_=> ?_));show zo (one (w:="-") (λ_=> ?_) (λz=>absurd rfl z));calc one (w:="*") (λz=>absurd z ∅) (λ_=> ?_);show fin rfl rfl (Kp.refl _)
  .skip
   show zo (one (w:="+") (λz=>absurd z ∅) (λ_=> ?_));show zo (one (w:="-") (λz=>absurd z ∅) (λ_=> ?_));show one (λ_=> ?_) (λz=>absurd rfl z);ext;have l1:intBits (wv bs st a)<=60:=Ai.mpr (uT b1 ∅);have l2:intBits (wv bs st c)<=60:=Ai.mpr (uT b2 ∅);show xa ⋯ ?_;show fin rfl rfl (Kp.refl _)
def ziu(h9:bs.length<=9)(hl:st.length=bs.length)(ht:zbW bs t):W (vB [.tup (bsX bs),.tup (ksX st),tsX t] S) λv S'=>v= .bl (mkB bs t st)/\S=S':=by
 have#[ta,sg,tb]:=t;have#[h1,h2,h3]:=ht;delta Wu;show zo (zR (yb (zm (zr rfl (zm (zr rfl (zm ?_)))))));calc zH (l:=[opX ta,.str (sgS sg),opX tb]) rfl Up ?_;let#[_,S1,#[rfl,rfl]]:=WQ h9 hl h1;dsimp only[uO];show zo (zR (yb (zm (zr rfl (zm (zr rfl (zm ?_)))))));calc zH (l:=[opX ta,.str (sgS sg),opX tb]) rfl (show atI [opX ta,.str (sgS sg),opX tb] 2=eO (opX tb) from rfl) ?_;let#[_,S2,#[rfl,rfl]]:=WQ h9 hl h2;dsimp only[uO];have c:sg=0\/sg=1\/sg=2:=by have:sg<3:=h3;omega
 show zo (zy (xj (zN (zN (zr rfl ?_)))));calc zH (l:=[opX ta,.str (sgS sg),opX tb]) rfl VR ?_;calc zE #[_,rfl,λzz=> ?_,λzz=>zt ?_];obtain rfl|rfl|rfl:=c;ext;show#[rfl,rfl];show absurd zz ∅;show absurd zz ∅;show zo (zy (xj (zN (zN (zr rfl ?_)))));calc zH (l:=[opX ta,.str (sgS sg),opX tb]) rfl VR ?_;calc zE #[_,rfl,λz2=> ?_,λz2=>zt ?_];obtain rfl|rfl|rfl:=c;show absurd z2 ∅;ext;show#[rfl,rfl];show absurd z2 ∅;obtain rfl|rfl|rfl:=c;show absurd zz ∅;show absurd z2 ∅;ext;show#[rfl,rfl]
def zka{N:Nat}(b8:Big fu)(h1:0<q1)(h2:0<q2)(a1:yz N p1)(b1:yz N q1)(a2:yz N p2)(b2:yz N q2)(hN:4*N<=134217728):W (vc [qv (p1,q1),qv (p2,q2)] S) λv S'=>v=qv (rQ ((p1:Rat) / (q1:Rat)+(p2:Rat) / (q2:Rat)))/\S=S':=by
 have c1:=a1.le;have c2:=a2.le;have c3:=b1.le;have c4:=b2.le;delta Ti;show yc (yb (zm (zN (zN (zN (zr rfl (ZU ?_)))))));show zH (l:=[Xv.int p1,.int q1]) rfl Up ?_;calc zH (l:=[Xv.int p2,.int q2]) rfl VR ?_;show xa ⋯ ?_;calc zH (l:=[Xv.int p2,.int q2]) rfl Up ?_;calc zH (l:=[Xv.int p1,.int q1]) rfl VR ?_;show xa ⋯ ?_;calc zH (l:=[Xv.int p1,.int q1]) rfl VR ?_;calc zH (l:=[Xv.int p2,.int q2]) rfl VR ?_;show xa ⋯ ?_;ext;have hp:0<q1*q2:=Bn h1 h2;let#[_,_,#[rfl,rfl]]:=zdX b8 hp (b1.mul b2) ⋯;show#[?_,rfl];rw[zbY hp]
 congr 2
 have n1:=vw (show q1≠0 by omega);have n2:=vw (show q2≠0 by omega);rw[CD,A7,A7,A7];grind
def zcN{kd:Str}(h1:kd≠"times")(h2:kd≠"if"):W (wm [x,.tup (.str kd::l),y] S) λv S'=>v= .tup []/\S=S':=by
 delta ve;show zo (zy ?_);calc zE #[_,rfl,λz=>absurd (of_decide_eq_true z) h1,λ_=>zt ?_];show zo (zy ?_);calc zE #[_,rfl,λz=>absurd (of_decide_eq_true z) h2,λ_=>zt ?_];ext;show#[rfl,rfl]
def zqs(h9:bs.length<=9)(hl:st.length=bs.length)(ht:zbW bs t):W (wm [.tup (bsX bs),.tup [.str "if",tsX t,.tup a,.tup b],.tup (ksX st)] S) λv S'=>v= .tup (if mkB bs t st=gP then a else b)/\S=S':=by
 delta ve;show zo (zy ?_);calc zE #[_,rfl,λz=>absurd z ∅,λ_=>zt ?_];show zo (zy ?_);calc zE #[_,rfl,λ_=> ?_,λz=>absurd z ∅];show zo (zy (xj (yb (zm (zr rfl (zm (zr rfl (zm ?_))))))));let#[_,_,#[rfl,rfl]]:=ziu h9 hl ht;show#[_,rfl,λz=> ?_,λz=>zt ?_];calc zH rfl (show atI [Xv.str "if",tsX t,.tup a,.tup b] 2=eO (.tup a) from rfl) ?_;show#[by rw[Gv z],rfl];calc zH rfl (show atI [Xv.str "if",tsX t,.tup a,.tup b] 3=eO (.tup b) from rfl) ?_;show#[by rw[Gw (by rw[z];simp)],rfl]
end
section
variable{A g:SF}
noncomputable def ziv:=bE (eOp dGt (eFn wx [zi 1]) (oZ 0))
noncomputable def zlc(r:TwF):=sIf (bE (eOp (yH kb) (eOp zG (zi 6) (oZ 0)) (qg "draw"))) (zw (zI (yQ [zi 5,oZ 1]) (gN 7)) (zw (vQ (iR1 (eFn wx [eOp zG (zi 6) (oZ 2)])) (gN 8) (zw (zI (zx (vP) [zi 0,zi 2,eOp zG (zi 6) (oZ 1),zi 8]) (gN 9)) (sIf (bE (eOp dGt (eOp zG (eOp zG (zi 6) (oZ 2)) (zi 8)) (oZ 0))) (zw (zI (zx r [zi 0,zi 1,zi 9,zi 3,zi 4]) (gN 10)) (zw (zI (yQ [eOp xZ (eOp zG (zi 10) (oZ 0)) (eOp zG (eOp zG (zi 6) (oZ 2)) (zi 8)),eOp xZ (eOp zG (zi 10) (oZ 1)) (eFn zdk [eOp zG (zi 6) (oZ 2)])]) (gN 11)) (zI (zx (vc) [zi 7,zi 11]) (gN 7)))) zP))) (zO (zi 7)))) zP
noncomputable def zoT(r:TwF):=sIf (bE (eOp (yH kb) (eOp zG (zi 6) (oZ 0)) (qg "hand"))) (zw (zI (TJ []) (gN 12)) (zw (vQ (iA (eOp zG (zi 6) (oZ 1))) (gN 13) (VO (eMt vD (zi 12) [zx r [zi 0,eOp ZT (zi 13) (zi 1),zi 2,zi 3,zi 4]]))) (zw (zI (eOp wR (zi 12) (oZ 0)) (gN 14)) (zw (vQ (iL (zi 12)) (gN 13) (sIf (bE (eOp dLt (eOp xZ (eOp zG (zi 14) (oZ 0)) (eOp zaP (zi 13) (oZ 1))) (eOp xZ (eOp zaP (zi 13) (oZ 0)) (eOp zG (zi 14) (oZ 1))))) (zI (zi 13) (gN 14)) zP)) (zO (zx (vc) [zi 14,yQ [zi 5,oZ 1]])))))) zP
noncomputable def zbv:=zw (sIf (zbG (bE (eOp (yH kb) (eOp zG (zi 6) (oZ 0)) (qg "look"))) (Um (bE (zx (vB) [zi 0,zi 2,eOp zG (zi 6) (oZ 1)])))) (zO (yQ [zi 5,oZ 1])) zP) (zw (sIf (zbG (bE (eOp (yH kb) (eOp zG (zi 6) (oZ 0)) (qg "gain"))) (bE (zi 4))) (zI (eOp vR (zi 5) (zx (xB) [zi 0,zi 2,eOp zG (zi 6) (oZ 1)])) (gN 5)) zP) (zw (sIf (bE (eOp (yH kb) (eOp zG (zi 6) (oZ 0)) (qg "set"))) (zI (zx (XO) [zi 0,zi 2,zi 6]) (gN 2)) zP) (zI (eOp ZT (zx (wm) [zi 0,zi 6,zi 2]) (zi 1)) (gN 1))))
noncomputable def zd2(r:TwF):=zw (zI (eOp zG (zi 1) (oZ 0)) (gN 6)) (zw (zI (eSl zje (zi 1) (WI (oZ 1)) oNo) (gN 1)) (zw (zlc r) (zw (zoT r) (zbv))))
def DA(ss:kh Nat)(A:SF)(an:Nat)(S:Sto):Prop:=∃c,S[an]? =eO c/\∀S':Sto,S'[an]? =eO c->∀st,yv ss st->YR S' (.ref an) (.tup (ksX st))=eO (eO (qv (rQ (A st))))
def DA.keep{w:Nat->Prop}(h:DA ss A an S)(k:Kp w S S')(hn:¬w an):DA ss A an S':=by
 have#[c,e,q]:=h;show#[c,k.2 _ _ e hn,q]
def DA.get(h:DA ss A an S)(hs:yv ss st):YR S (.ref an) (.tup (ksX st))=eO (eO (qv (rQ (A st)))):=by
 have#[c,e,q]:=h;show q S e st hs
def zui(bs:kh (Str×Nat))(A:SF)(ct:Bool)(an:Nat)(r:Rat)(S0:Sto)(ρ:Rho)(S':Sto):Prop:=∃(s2:kh Nat) (γ:Int) (l:kh (mw Xv)),ρ=eO (.tup (bsX bs))::eO (.tup [])::eO (.tup (ksX s2))::eO (.ref an)::eO (.bl ct)::eO (.int γ)::l/\yv (sz bs) s2/\γ.natAbs<=1000000000000000/\r=(γ:Rat)+A s2/\Kp K0 S0 S'
def LC(bs:kh (Str×Nat))(ct:Bool)(A:SF)(d:Nat)(B:kh Xv)(g:SF)(K:Nat):Prop:=∀(n k:Nat),d<=n->K<=k->∀{S0 S:Sto} {an:Nat} {st:kh Nat} {γ:Int} {r:Rat} {a6 a7 a8 a9 dg df dJ bU eN:mw Xv},Kp K0 S0 S->DA (sz bs) A an S->yv (sz bs) st->γ.natAbs+K*1000000000<=1000000000000000->r=(γ:Rat)+g st->WS (zai ziv (zd2 (yU n)) k [eO (.tup (bsX bs)),eO (.tup B),eO (.tup (ksX st)),eO (.ref an),eO (.bl ct),eO (.int γ),a6,a7,a8,a9,dg,df,dJ,bU,eN] S) (zui bs A ct an r S0) λv S'=>v=qv (rQ r)/\Kp K0 S0 S'
def CO(bs:kh (Str×Nat))(ct:Bool)(A:SF)(d:Nat)(B:kh Xv)(g:SF):Prop:=∀(n:Nat),d<=n->∀{S:Sto} {an:Nat} {st:kh Nat},DA (sz bs) A an S->yv (sz bs) st->W (yU n [.tup (bsX bs),.tup B,.tup (ksX st),.ref an,.bl ct] S) λv S'=>v=qv (rQ (g st))/\Kp K0 S S'
def TD(hv:ρ[1]? =eO (eO (.tup B))):W (ziv ρ S) λv S'=>v=decide (0<(B.length:Int))/\S'=S:=by
 unfold ziv;show xj (zN (xR (zm (zr (by rw[hv]) (yw (yV ?_))))));ext;show#[rfl,rfl]
def zqt{kd:Str}(h1:kd≠"draw")(h2:kd≠"hand")(h:WS (zbv [eO v0,eO (.tup B),eO v2,eO v3,eO v4,eO (.int γ),eO (.tup (.str kd::l)),a7,a8,a9,dg,df,dJ,bU,eN] S) N P):WS (zd2 r [eO v0,eO (.tup (.tup (.str kd::l)::B)),eO v2,eO v3,eO v4,eO (.int γ),a6,a7,a8,a9,dg,df,dJ,bU,eN] S) N P:=by
 unfold zd2;show zo (zR (zN (zr rfl (ZU (zH rfl Up ?_)))));dsimp only[uO];show zo (zR (zkM (zr rfl ?_)));calc zj3 ?_;rw[show(1:Int)=((1:Nat):Int) from rfl,zbu _ 1 (by simp)];dsimp only[uO,Fc];unfold zlc zoT;show zo (zy ?_);calc yG h1 #[_,rfl,nofun,λ_=>zt ?_];show zo (zy ?_);calc yG h2 #[_,rfl,nofun,λ_=>zt ?_];show h
def zb0{kd:Str}(h1:kd≠"draw")(h2:kd≠"hand")(h:WS (zbv [eO v0,eO (.tup B),eO v2,eO v3,eO v4,eO (.int γ),eO (.tup (.str kd::l)),a7,a8,a9,dg,df,dJ,bU,eN] S) (λρ S=>WS (zai ziv (zd2 r) k ρ S) N P) P):WS (zai ziv (zd2 r) (k+1) [eO v0,eO (.tup (.tup (.str kd::l)::B)),eO v2,eO v3,eO v4,eO (.int γ),a6,a7,a8,a9,dg,df,dJ,bU,eN] S) N P:=by
 show Xz ((TD (B:= .tup (.str kd::l)::B) rfl).imp ?_);intro _ _ #[rfl,rfl];show#[λ_=>zqt h1 h2 h,λz=>by simp at z]
def LC.up{d d' K K':Nat}(h:LC bs ct A d B g K)(hd:d<=d')(hk:K<=K'):LC bs ct A d' B g K':=by
 intro n k hn iy S0 S an st γ r a6 a7 a8 a9 dg df dJ bU eN k0 da hs hγ hr;have e:K*1000000000<=K'*1000000000:=x3 _ hk;show h n k (uP hd hn) (uP hk iy) k0 da hs (uP (AJ e _) hγ) hr
def zb1:LC bs ct A 0 [] A 1:=by
 (intro n k hn hk S0 S an st γ r a6 a7 a8 a9 dg df dJ bU eN k0 da hs hγ hr;obtain⟨k,rfl⟩:∃q,k=q+1:=⟨k-1,⋯⟩);show Xz ((TD (B:=[]) rfl).imp ?_);intro _ _ #[rfl,rfl];show#[λz=>by simp at z,λ_=>#[st,γ,_,rfl,hs,⋯,hr,k0]]
def zcO(b8:Big fu){d K N:Nat}(hA:NF bs N A)(hN:N<=30000000)(eI:50<=N)(h:LC bs ct A d B g K)(hK:K<=100000):CO bs ct A (d+1) B g:=by
 intro n hn S an st da hs;obtain⟨n,rfl⟩:∃q,n=q+1:=#[n-1,⋯];have ui:=b8.le;rw[XQ];delta YE;show zo (zR (ZU ?_));dsimp only[uO];show zo (ZB (zui bs A ct an (g st) S) (zkN (h n fu ⋯ ⋯ (Kp.refl _) da hs (by simp;omega) (by simp[Rat.zero_add]))) ?_);intro ρ S2 #[s2,γ,l,rfl,gi,hγ,hr,k2];show yc (yb (zm (Us ?_)));calc#[_,(da.keep k2 id).get gi,?_];ext;have nb:=hA _ gi;have lB:yz 50 γ:=uT hγ ∅;let#[_,_,#[rfl,rfl]]:=zka (N:=N) b8 (Xn (A s2)) ∅ nb.1 nb.2 (lB.mono eI) ((show yz 1 (1:Int) from(by decide:(1:Int).natAbs<2^1)).mono ⋯) ⋯;show#[?_,k2]
 congr 2
 rw[hr];have n1:=XU (A s2);have n2:=vw (show((A s2).den:Int)≠0 by have:=Xn (A s2);omega);rw[<-n1];grind
end
section
variable{A g:SF}
def zsI(B:VJ bs)(cy:(bs.map (·.1)).Nodup){d K:Nat}(eb:bs[lv]? =eO b)(hr:zim bs r)(h:LC bs ct A d Bk g K)(hl:Bk.length<=900):LC bs ct A d (.tup [.str "set",.str b.1,rkX r]::Bk) (λst=>g (stp lv b.2 (rv bs st r) st)) (K+1):=by
 (intro n k hn hk S0 S an st γ q a6 a7 a8 a9 dg df dJ bU eN k0 da hs hγ hq;obtain⟨k,rfl⟩:∃q,k=q+1:=⟨k-1,⋯⟩);have ik:st.length=bs.length:=by rw[hs.1,uM]
 (have hγ1:=uP (AJ (x3 1000000000 (AG K)) γ.natAbs) hγ);show zb0 ∅ ∅ ?_;unfold zbv;show zo (zy (xy ?_));calc yG ∅ #[_,rfl,nofun,λ_=>#[nofun,λ_=>zt ?_]];show zo (zy (xy ?_));calc yG ∅ #[_,rfl,nofun,λ_=>#[nofun,λ_=>zt ?_]];show zo (zy ?_);calc ZR #[_,rfl,λ_=> ?_,nofun];show zR (yb (zm (zr rfl (zm (zr rfl (zm (zr rfl (yw ?_))))))));let#[_,S3,#[rfl,k3]]:=zsH B.h9 B.h1 cy hs eb hr;dsimp only[uO];show zR (zN (yb (zm (zr rfl (zm (zr rfl (zm (zr rfl (yw ?_)))))))));let#[_,_,#[rfl,rfl]]:=zcN ∅ ∅;calc vm (by simp;omega) ?_;dsimp only[uO];have:=B.h1 b (uJ eb);have h0:=Ac (rv bs st r) (show(b.2:Int)≠0 by omega);have h2:=Aj (rv bs st r) (show(0:Int)<(b.2:Int) by omega);show h n k hn ⋯ (k0.trans k3) (da.keep k3 id) (hs.set (Tn eb) ⋯) hγ1 hq
def zqu(B:VJ bs){d K:Nat}(ho:zaF bs o)(h:LC bs ct A d Bk g K)(hl:Bk.length<=900):LC bs ct A d (.tup [.str "gain",opX o]::Bk) (λst=>if ct=gP then g st+((wv bs st o:Int):Rat) else g st) (K+1):=by
 (intro n k hn hk S0 S an st γ r a6 a7 a8 a9 dg df dJ bU eN k0 da hs hγ hr;obtain⟨k,rfl⟩:∃q,k=q+1:=⟨k-1,⋯⟩);have ik:st.length=bs.length:=by rw[hs.1,uM]
 (have hγ1:=uP (AJ (x3 1000000000 (AG K)) γ.natAbs) hγ);show zb0 ∅ ∅ ?_;unfold zbv;show zo (zy (xy ?_));calc yG ∅ #[_,rfl,nofun,λ_=>#[nofun,λ_=>zt ?_]];have wn:=zfk ho hs B.h1;show zo (ZB (λρ S3=>S3=S/\∃γ2:Int,γ2.natAbs<=γ.natAbs+1000000000/\r=(γ2:Rat)+g st/\ρ=[eO (.tup (bsX bs)),eO (.tup Bk),eO (.tup (ksX st)),eO (.ref an),eO (.bl ct),eO (.int γ2),eO (.tup [.str "gain",opX o]),a7,a8,a9,dg,df,dJ,bU,eN]) (zy (xy ?_)) ?_)
 .ext;show ZR #[_,rfl,λ_=> ?_,nofun];ext;cases ct with
  |true=>
   show#[λ_=> ?_,nofun];let#[_,_,#[rfl,rfl]]:=WQ B.h9 ik ho;calc#[rfl,γ+wv bs st o,⋯,?_,rfl];dsimp only at hr;rw[Gv rfl] at hr;rw[hr,CD];grind
  |false=>
   dsimp only at hr;rw[Gw (by simp)] at hr;show#[nofun,λ_=>zt #[rfl,γ,⋯,hr,rfl]]
 intro ρ _ #[rfl,γ2,h2,rT,rfl];have hγ2:=uP (Nat.add_le_add_right h2 (K*1000000000)) (show γ.natAbs+1000000000+K*1000000000<=1000000000000000 by rw[Ec,Ei 1000000000,<-Am];show hγ);show zo (zy ?_);calc yG ∅ #[_,rfl,nofun,λ_=>zt ?_];show zR (zN (yb (zm (zr rfl (zm (zr rfl (zm (zr rfl (yw ?_)))))))));let#[_,_,#[rfl,rfl]]:=zcN ∅ ∅;calc vm (by simp;omega) ?_;dsimp only[uO];show h n k hn ⋯ k0 da hs hγ2 rT
def zqv(B:VJ bs){d K:Nat}(ht:zbW bs t)(h:LC bs ct A d Bk g K)(hl:Bk.length<=900):LC bs ct A d (.tup [.str "look",tsX t]::Bk) (λst=>if mkB bs t st=gP then g st else 0) (K+1):=by
 (intro n k hn hk S0 S an st γ r a6 a7 a8 a9 dg df dJ bU eN k0 da hs hγ hr;obtain⟨k,rfl⟩:∃q,k=q+1:=⟨k-1,⋯⟩);have ik:st.length=bs.length:=by rw[hs.1,uM]
 (have hγ1:=uP (AJ (x3 1000000000 (AG K)) γ.natAbs) hγ);show zb0 ∅ ∅ ?_;unfold zbv;show zo (zy (xy ?_));calc ZR #[_,rfl,λ_=> ?_,nofun];show zfT (xj (yb (zm (zr rfl (zm (zr rfl (zm ?_)))))));let#[_,_,#[rfl,rfl]]:=ziu B.h9 ik ht;dsimp only at hr;cases hm:mkB bs t st with
 |false=>
  rw[hm,Gw (by simp)] at hr;show#[_,rfl,λ_=> ?_,nofun];calc#[?_,k0];rw[hr,Ez];rfl
 |true=>
 rw[hm,Gv rfl] at hr;show#[_,rfl,nofun,λ_=>zt ?_];show zo (zy (xy ?_));calc yG ∅ #[_,rfl,nofun,λ_=>#[nofun,λ_=>zt ?_]];show zo (zy ?_);calc yG ∅ #[_,rfl,nofun,λ_=>zt ?_];show zR (zN (yb (zm (zr rfl (zm (zr rfl (zm (zr rfl (yw ?_)))))))));let#[_,_,#[rfl,rfl]]:=zcN ∅ ∅;calc vm (by simp;omega) ?_;dsimp only[uO];show h n k hn ⋯ k0 da hs hγ1 hr
def zqw{d K:Nat}(h:LC bs ct A d Bk g K)(hl:Bk.length<=900):LC bs ct A d (.tup [.str "pass"]::Bk) g (K+1):=by
 (intro n k hn hk S0 S an st γ r a6 a7 a8 a9 dg df dJ bU eN k0 da hs hγ hr;obtain⟨k,rfl⟩:∃q,k=q+1:=⟨k-1,⋯⟩);have ik:st.length=bs.length:=by rw[hs.1,uM]
 (have hγ1:=uP (AJ (x3 1000000000 (AG K)) γ.natAbs) hγ);show zb0 ∅ ∅ ?_;unfold zbv;show zo (zy (xy ?_));calc yG ∅ #[_,rfl,nofun,λ_=>#[nofun,λ_=>zt ?_]];show zo (zy (xy ?_));calc yG ∅ #[_,rfl,nofun,λ_=>#[nofun,λ_=>zt ?_]];show zo (zy ?_);calc yG ∅ #[_,rfl,nofun,λ_=>zt ?_];show zR (zN (yb (zm (zr rfl (zm (zr rfl (zm (zr rfl (yw ?_)))))))));let#[_,_,#[rfl,rfl]]:=zcN ∅ ∅;calc vm (by simp;omega) ?_;dsimp only[uO];show h n k hn ⋯ k0 da hs hγ1 hr
def zuj(B:VJ bs){d K:Nat}(ht:zbW bs t)(h1:LC bs ct A d (a++Bk) ga K)(h2:LC bs ct A d (b++Bk) gb K)(hl:Bk.length<=500)(ha:a.length<=400)(hb:b.length<=400):LC bs ct A d (.tup [.str "if",tsX t,.tup a,.tup b]::Bk) (λst=>if mkB bs t st=gP then ga st else gb st) (K+1):=by
 (intro n k hn hk S0 S an st γ r a6 a7 a8 a9 dg df dJ bU eN k0 da hs hγ hr;obtain⟨k,rfl⟩:∃q,k=q+1:=⟨k-1,⋯⟩);have ik:st.length=bs.length:=by rw[hs.1,uM]
 (have hγ1:=uP (AJ (x3 1000000000 (AG K)) γ.natAbs) hγ);show zb0 ∅ ∅ ?_;unfold zbv;show zo (zy (xy ?_));calc yG ∅ #[_,rfl,nofun,λ_=>#[nofun,λ_=>zt ?_]];show zo (zy (xy ?_));calc yG ∅ #[_,rfl,nofun,λ_=>#[nofun,λ_=>zt ?_]];show zo (zy ?_);calc yG ∅ #[_,rfl,nofun,λ_=>zt ?_];show zR (zN (yb (zm (zr rfl (zm (zr rfl (zm (zr rfl (yw ?_)))))))));let#[_,_,#[rfl,rfl]]:=zqs B.h9 ik ht;calc vm (by split<;>omega) ?_;dsimp only[uO];dsimp only at hr;cases hm:mkB bs t st with
 |true=>
  rw[hm,Gv rfl] at hr;rw[Gv rfl];show h1 n k hn ⋯ k0 da hs hγ1 hr
 |false=>
  rw[hm,Gw (by simp)] at hr;rw[Gw (by simp)];show h2 n k hn ⋯ k0 da hs hγ1 hr
def zqx{k:Nat}{a:kh Xv}(hk:k<=100)(ha:a.length<=8):W (wm [x,.tup [.str "times",.int (k:Int),.tup a],y] S) λv S'=>v= .tup (w5 k a).flatten/\S=S':=by
 have pP:a.length*k<=8*100:=Bw ha hk;delta ve;show zo (zy ?_);calc ZR #[_,rfl,λ_=> ?_,nofun];show yc (zN (zN (zr rfl (ZU ?_))));show zH rfl (show atI [Xv.str "times",.int (k:Int),.tup a] 2=eO (.tup a) from rfl) ?_;calc zpR #[⋯,⋯,uP (by rw[x4];show pP) ∅] ?_;rw[x4];show#[rfl,rfl]
def zoU{d K:Nat}(h:LC bs ct A d ((w5 k a).flatten++Bk) g K)(hl:Bk.length<=100)(hk:k<=100)(ha:a.length<=8):LC bs ct A d (.tup [.str "times",.int (k:Int),.tup a]::Bk) g (K+1):=by
 have pP:k*a.length<=100*8:=Bw hk ha;intro n k2 hn nM S0 S an st γ r a6 a7 a8 a9 dg df dJ bU eN k0 da hs hγ hr;obtain⟨k2,rfl⟩:∃q,k2=q+1:=#[k2-1,⋯];have ik:st.length=bs.length:=by rw[hs.1,uM]
 (have hγ1:=uP (AJ (x3 1000000000 (AG K)) γ.natAbs) hγ);show zb0 ∅ ∅ ?_;unfold zbv;show zo (zy (xy ?_));calc yG ∅ #[_,rfl,nofun,λ_=>#[nofun,λ_=>zt ?_]];show zo (zy (xy ?_));calc yG ∅ #[_,rfl,nofun,λ_=>#[nofun,λ_=>zt ?_]];show zo (zy ?_);calc yG ∅ #[_,rfl,nofun,λ_=>zt ?_];show zR (zN (yb (zm (zr rfl (zm (zr rfl (zm (zr rfl (yw ?_)))))))));let#[_,_,#[rfl,rfl]]:=zqx hk ha;calc vm (by rw[List.length_flatten,List.map_replicate,List.sum_replicate_nat];omega) ?_;dsimp only[uO];show h n k2 hn ⋯ k0 da hs hγ1 hr
end
section
variable{A g:SF}
theorem ziw:∀{ws:kh Nat} {rs:kh Rat} {w:Nat} {r:Rat},ws.length=rs.length->wsR (ws++[w]) (rs++[r])=wsR ws rs+((w:Int):Rat)*r
 |[],[],w,r,_=>by change((w:Int):Rat)*r+0=0+_;grind
 |u::ws,q::rs,w,r,h=>by
  change((u:Int):Rat)*q+wsR (ws++[w]) (rs++[r])=((u:Int):Rat)*q+wsR ws rs+_;rw[ziw (by simpa using h),Rat.add_assoc]
 |[],_::_,_,_,h=>by simp at h
 |_::_,[],_,_,h=>by simp at h
def zix{ws:kh Nat}{f:Nat->Rat}{i w:Nat}(e:ws[i]? =eO w):wsR (ws.take (i+1)) ((z8 (i+1)).map f)=wsR (ws.take i) ((z8 i).map f)+((w:Int):Rat)*f i:=by
 have hi:=(uF.1 e).1;rw[AW,e,CB,z7];show ziw (by simp;omega)
def zgQ{ws:kh Nat}{i w:Nat}(e:ws[i]? =eO w):(ksX ws)[i]? =eO (.int (w:Int)):=by unfold ksX;rw[uK,e];rfl
def zsJ{N:Nat}{w s:Int}(h:NB N r)(hw:yz 31 w)(hs:yz 40 s)(h0:0<s):NB (N+40) ((r.num*w:Int) / (r.den*s:Int):Rat):=zdY (Bn (Xn r) h0) ((h.1.mul hw).mono ⋯) (h.2.mul hs)
def zld{W r:Rat}{w s:Int}(h0:0<s):(W.num:Rat) / ((W.den:Int):Rat)+((r.num*w:Int):Rat) / (((r.den:Int)*s:Int):Rat)=W+(w:Rat)*r / (s:Rat):=by
 have n1:=XU W;have n2:=XU r;have d1:=vw (show(W.den:Int)≠0 by have:=Xn W;omega);have d2:=vw (show(r.den:Int)≠0 by have:=Xn r;omega);have d3:=vw (show s≠0 by omega);rw[A7,A7,<-n1,<-n2];grind
def zqy(b8:Big fu)(B:VJ bs)(cy:(bs.map (·.1)).Nodup)(eb:bs[lv]? =eO b)(hw:ws.length=b.2)(w9:∀w∈ws,w<=1000000000)(w0:0<ws.sum)(sb:yz 40 ((ws.sum:Nat):Int))(hg:NF bs M g)(hM:M<=1000000)(h:CO bs ct A d Bk g):LC bs ct A d (.tup [.str "draw",.str b.1,.tup (ksX ws)]::Bk) (λst=>VW ws ((z8 b.2).map λm=>g (st.set lv m))) 1:=by
 (intro n k hn hk S0 S an st γ q a6 a7 a8 a9 dg df dJ bU eN k0 da hs hγ hq;obtain⟨k,rfl⟩:∃q,k=q+1:=⟨k-1,⋯⟩);have ik:st.length=bs.length:=by rw[hs.1,uM]
 have hb:=B.h1 b (uJ eb);have two:atI [Xv.str "draw",.str b.1,.tup (ksX ws)] 2=eO (.tup (ksX ws)):=rfl;have lB:yz 50 γ:=uT (uP (By _ _) hγ) ∅;show Xz ((TD (B:= .tup [.str "draw",.str b.1,.tup (ksX ws)]::Bk) rfl).imp ?_);intro _ S #[rfl,rfl];show#[λ_=> ?_,λz=>by simp at z];unfold zd2;show zo (zR (zN (zr rfl (ZU (zH rfl Up ?_)))));dsimp only[uO];show zo (zR (zkM (zr rfl ?_)));calc zj3 ?_;rw[show(1:Int)=((1:Nat):Int) from rfl,zbu _ 1 (by simp)];dsimp only[uO,Fc];unfold zlc;show zo (zy ?_);calc ZR #[_,rfl,λ_=> ?_,nofun];calc xJ (wA (xR (zm (zN (zr rfl (ZU ?_))))));show zH rfl two ?_;calc yV ?_;rw[yu];show#[_,rfl,#[⋯,⋯],_,rfl,?_];rw[x4]
 show yZ (xs:=wd 0 ws.length) (λi ρ S2=>∃(W:Rat) (a8 a9 dg df:mw Xv),ρ=[eO (.tup (bsX bs)),eO (.tup Bk),eO (.tup (ksX st)),eO (.ref an),eO (.bl ct),eO (.int γ),eO (.tup [.str "draw",.str b.1,.tup (ksX ws)]),eO (qv (rQ W)),a8,a9,dg,df,dJ,bU,eN]/\NB (60+i*(M+50)) W/\W=(γ:Rat)+wsR (ws.take i) ((z8 i).map λm=>g (st.set lv m)) / (((ws.sum:Nat):Int):Rat)/\Kp K0 S S2) (λ_ _ _ _ _=>rfl) ?_ #[(γ:Rat),a8,a9,dg,df,rfl,zj9 (x9 lB (Bu ∅ ⋯)) ⋯,by
  change(γ:Rat)=(γ:Rat)+0 / _
  rw[Rat.div_def,Rat.zero_mul,Ez],Kp.refl _] ?_
 .intro i w0 ρ S2 gI #[W,a8,a9,dg,df,rfl,kz,eW,k2];have#[hi,rfl]:=xf gI;rw[AQ];have ew:ws[i]? =eO ws[i]:=uH hi;have rB:=w9 _ (y8 hi);generalize ws[i]=w at ew rB;have s0:(0:Int)<((ws.sum:Nat):Int):=by omega
  have nk:stp lv b.2 (i:Int) st=st.set lv i:=by
   unfold stp;rw[Int.emod_eq_of_lt ⋯ ⋯,x4]
  have ua:i*(M+50)<=9*(M+50):=x3 _ ⋯;have uc:(i+1)*(M+50)=i*(M+50)+(M+50):=Am ..;have gi:yv (sz bs) (st.set lv i):=hs.set (Tn eb) ⋯;show .of rfl ?_
  try dsimp only[uO]
  show zo (zR (yb (zm (zr rfl (zm (zr rfl (zm (zN (zr rfl (ZU ?_))))))))));show zH (l:=[Xv.str "draw",.str b.1,.tup (ksX ws)]) rfl VR ?_;let#[_,S3,#[rfl,k3]]:=zoS B.h9 B.h1 cy ik eb;rw[nk]
  try dsimp only[uO]
  show zy (xj (zN (zN (zN (zr rfl (ZU ?_))))));show zH rfl two ?_;calc zH rfl (zV (zgQ ew)) ?_;ext;have hz:w=0->W=(γ:Rat)+wsR (ws.take (i+1)) ((z8 (i+1)).map λm=>g (st.set lv m)) / (((ws.sum:Nat):Int):Rat):=λe=>by
   subst e;rw[eW,zix ew];change _=(γ:Rat)+(_+((0:Int):Rat)*_) / _;rw[Rat.intCast_zero,Rat.zero_mul,Ez]
  have kE:decide ((w:Int)>0)=kb->w=0:=λz=>by
   have:=of_decide_eq_false z;omega
  show#[λz=> ?_,λz=>zt #[W,_,_,_,_,rfl,kz.mono ⋯,hz (kE z),k2.trans k3]];let#[_,S4,#[rfl,k4]]:=h n hn ((da.keep k2 id).keep k3 id) gi;have jR:=hg _ gi;have eg:=zix (f:=λm=>g (st.set lv m)) ew
  try dsimp only at eg
  generalize g (st.set lv i)=r at jR eg ⊢;have wb:yz 31 (w:Int):=uT (show(w:Int).natAbs<=1000000000 by omega) ∅;have c1:=jR.1.le;have c2:=jR.2.le;have c3:=wb.le;have c4:=sb.le
  try dsimp only[uO]
  show zo (zR (YQ (zm (zN (zN (zr rfl (ZU ?_)))))));show zH (l:=[Xv.int r.num,.int (r.den:Int)]) rfl Up ?_;calc zH rfl two ?_;calc zH rfl (zV (zgQ ew)) ?_;show xa ⋯ ?_;calc zH (l:=[Xv.int r.num,.int (r.den:Int)]) rfl VR ?_;calc zH rfl two ?_;calc zk9 (l:=ksX ws) rfl (zij ws) ?_;rw[zgI ws];show xa ⋯ ?_;let#[_,_,#[rfl,rfl]]:=zka (p1:=W.num) (q1:=(W.den:Int)) (p2:=r.num*(w:Int)) (q2:=(r.den:Int)*((ws.sum:Nat):Int)) (N:=60+9*(M+50)+M+40) b8 (Xn W) (Bn (Xn r) s0) (kz.1.mono ⋯) (kz.2.mono ⋯) ((jR.1.mul wb).mono ⋯) ((jR.2.mul sb).mono ⋯) ⋯
  try dsimp only[uO]
  show#[_,_,_,_,_,rfl,?_,?_,(k2.trans k3).trans k4]
  .rw[zld s0];have:=zoE kz (zsJ jR wb sb s0);have key:((r.num*(w:Int):Int):Rat) / (((r.den:Int)*((ws.sum:Nat):Int):Int):Rat)=((w:Int):Rat)*r / ((((ws.sum:Nat):Int)):Rat):=by
    have n2:=XU r;have d2:=vw (show(r.den:Int)≠0 by have:=Xn r;omega);have d3:=vw (show((ws.sum:Nat):Int)≠0 by omega);rw[A7,A7,<-n2];grind
   rw[key] at this;show this.mono ⋯
  rw[zld s0,eg,eW];grind
 intro ρ S2 #[W,a8,a9,dg,df,rfl,kz,eW,k2];rw[yd,A3,hw] at eW;calc#[?_,k0.trans k2];rw[eW,hq];rfl
end
section
variable{A g:SF}
def zqz(a:Rat):mxR a a=a:=by
 unfold mxR;split<;>rfl
def zqA{γ:Int}:(r.num:Rat) / ((r.den:Int):Rat)+(γ:Rat) / ((1:Int):Rat)=(γ:Rat)+r:=by
 have n1:=XU r;have n2:=vw (show(r.den:Int)≠0 by have:=Xn r;omega);rw[<-n1];grind
def zuk:zaP (qv q) (.int 1) S=eO (.int q.2,S):=rfl
def zsK:zaP (qv q) (.int 0) S=eO (.int q.1,S):=rfl
def zqB(b8:Big fu)(B:VJ bs){l:kh (kh Xv)}{gs:kh SF}{Bk:kh Xv}{d M:Nat}(sG:l.length=gs.length)(h1:1<=l.length)(t8:l.length<=20)(hb:∀(i:Nat) xs g,l[i]? =eO xs->gs[i]? =eO g->CO bs ct A d (xs++Bk) g/\NF bs M g/\xs.length+Bk.length<=1000)(hM:M<=1000000)(eI:50<=M):LC bs ct A d (.tup [.str "hand",.tup (l.map .tup)]::Bk) (λst=>mxL (gs.map λg=>g st)) 1:=by
 (intro n k hn hk S0 S an st γ q a6 a7 a8 a9 dg df dJ bU eN k0 da hs hγ hq;obtain⟨k,rfl⟩:∃q,k=q+1:=⟨k-1,⋯⟩);have lB:yz 50 γ:=uT (uP (By _ _) hγ) ∅;show Xz ((TD (B:= .tup [.str "hand",.tup (l.map .tup)]::Bk) rfl).imp ?_);intro _ S #[rfl,rfl];show#[λ_=> ?_,λz=>by simp at z];unfold zd2;show zo (zR (zN (zr rfl (ZU (zH rfl Up ?_)))));dsimp only[uO];show zo (zR (zkM (zr rfl ?_)));calc zj3 ?_;rw[show(1:Int)=((1:Nat):Int) from rfl,zbu _ 1 (by simp)];dsimp only[uO,Fc];unfold zlc;show zo (zy ?_);calc yG ∅ #[_,rfl,nofun,λ_=>zt ?_];unfold zoT;show zo (zy ?_);calc ZR #[_,rfl,λ_=> ?_,nofun];calc xJ (znZ ?_);ext;show yZ (xs:=l.map .tup) (λi ρ S2=>∃(bU:mw Xv),ρ=[eO (.tup (bsX bs)),eO (.tup Bk),eO (.tup (ksX st)),eO (.ref an),eO (.bl ct),eO (.int γ),eO (.tup [.str "hand",.tup (l.map .tup)]),a7,a8,a9,dg,df,eO (.ref S.length),bU,eN]/\S2[S.length]? =eO (.lst ((gs.take i).map λg=>qv (rQ (g st))))/\Kp K0 S S2) (λ_ _ _ _ _=>rfl) ?_ #[bU,rfl,yC,Kp.pre (uI _ _)] ?_
 .intro i w0 ρ S2 gI #[bU,rfl,e2,k2];rw[uK,uV] at gI;have#[xs,ex,rfl]:=gI;have hi:=(uF.1 ex).1;have eg:gs[i]? =eO (gs[i]'⋯):=uH _;generalize gs[i]'⋯=g at eg;have#[co,nf,rk]:=hb i xs g ex eg;show .of rfl ?_
  try dsimp only[uO]
  calc TU ?_;calc#[#[_,zA e2],?_];calc vm rk ?_;let#[_,S3,#[rfl,k3]]:=co n hn (da.keep k2 id) hs;have e3:=k3.2 _ _ e2 id;calc YH (vh e3) (uT (show((gs.take i).map λg=>qv (rQ (g st))).length<=20 by rw[uM,Ak];omega) ∅) ?_;show#[_,rfl,?_,(k2.trans k3).set (.inr (uL _))];rw[AW,eg,z7];show xK e3
 intro ρ S2 #[bU,rfl,e2,k2];rw[uM,AH ⋯] at e2;cases gs with
 |nil=>rw[A6] at sG;omega
 |cons g gs=>
 have oV:∀(j:Nat) f,(g::gs)[j]? =eO f->NB M (f st):=λj f ef=>by
  have hj:=(uF.1 ef).1;show(hb j _ f (uH (show j<l.length by omega)) ef).2.1 st hs
 ext;show xk (zA e2) (zV (i:=0) rfl) ?_
 try dsimp only[uO]
 show zo (xJ (TV ?_));calc#[_,zA e2,_,zA e2,?_];show yZ (xs:=(g::gs).map λg=>qv (rQ (g st))) (λi ρ S3=>∃(bU:mw Xv),ρ=[eO (.tup (bsX bs)),eO (.tup Bk),eO (.tup (ksX st)),eO (.ref an),eO (.bl ct),eO (.int γ),eO (.tup [.str "hand",.tup (l.map .tup)]),a7,a8,a9,dg,df,eO (.ref S.length),bU,eO (qv (rQ (((g::gs).take i).map (λf=>f st)|>.foldl mxR (g st))))]/\NB M (((g::gs).take i).map (λf=>f st)|>.foldl mxR (g st))/\S3=S2) (λ_ _ _ _ ⟨_,_,_,e⟩=>e ▸ zA e2) ?_ #[bU,rfl,oV 0 g rfl,rfl] ?_
 .intro i w0 ρ S3 gI #[bU,rfl,nb,rfl];rw[uK,uV] at gI;have#[f,ef,rfl]:=gI;have nf:=oV i f ef;rw[AW,ef,z7,D9];generalize ((((g::gs).take i).map (λf=>f st)).foldl mxR (g st))=r at nb ⊢;change _;have oY:NB M (mxR r (f st)):=zre nb nf;have c1:=nb.1.le;have c2:=nb.2.le;have c3:=nf.1.le;have c4:=nf.2.le;show .of rfl ?_
  try dsimp only[uO]
  show zy (xj (zN (zN (zN (zr rfl (ZU ?_))))));show zH (l:=[Xv.int r.num,.int (r.den:Int)]) rfl Up ?_;calc WO.of zuk ?_;show xa (by change intBits r.num+intBits ((f st).den:Int)<=_;omega) ?_;calc WO.of zsK ?_;calc zH (l:=[Xv.int r.num,.int (r.den:Int)]) rfl VR ?_;show xa (by change intBits (f st).num+intBits (r.den:Int)<=_;omega) ?_;ext;show yK (λh=> ?_) (λh=>zt ?_)
  .have fA:r<f st:=zdZ.2 h;have em:mxR r (f st)=f st:=by unfold mxR;rw[Gv fA]
   ext;show#[_,by change _=[_,_,_,_,_,_,_,_,_,_,_,_,_,_,eO (qv (rQ (mxR r (f st))))];rw[em],oY,rfl]
  have fA:¬r<f st:=λz=>h (zdZ.1 z);have em:mxR r (f st)=r:=by unfold mxR;rw[Gw fA]
  show#[_,by change _=[_,_,_,_,_,_,_,_,_,_,_,_,_,_,eO (qv (rQ (mxR r (f st))))];rw[em],oY,rfl]
 intro ρ S3 #[bU,rfl,nb,rfl];rw[uM,A3] at nb ⊢;have em:((g::gs).map (λf=>f st)).foldl mxR (g st)=mxL ((g::gs).map λg=>g st):=by
  rw[y4,Cz,zqz];rfl
 rw[em] at nb ⊢;dsimp only at hq;generalize mxL ((g::gs).map λg=>g st)=r at nb hq ⊢;let#[_,_,#[rfl,rfl]]:=zka (p1:=r.num) (q1:=(r.den:Int)) (p2:=γ) (q2:=1) (N:=M) b8 (Xn r) ∅ nb.1 nb.2 (lB.mono eI) ((show yz 1 (1:Int) from(by decide:(1:Int).natAbs<2^1)).mono ⋯) ⋯;show#[?_,k0.trans k2];rw[zqA,hq]
end
section
def zuC(h:c=1\/c=2\/c=3):zho (.str " +-*") (.int c) S=eO (.str (rsS (c.toNat-1)),S):=by
 rcases h with rfl|rfl|rfl<;>rfl
def zsL(hl:ya mx ln S)(h9:bs.length<=9)(hn:zaF bs (.nam nm)):W (Zk [.ref ln,.tup (bsX bs),.str nm] S) λv S'=>∃r:Rk,v=rkX r/\zim bs r/\ya mx ln S'/\Kp (· =ln) S S':=by
 delta Zj;let#[_,S1,#[c,rfl,c0,c1,l1,k1]]:=yL hl ∅;calc zy ?_;calc yK (λh=> ?_) (λh5=>zt ?_);let#[_,S2,#[d,rfl,d0,d1,l2,k2]]:=yL l1 ∅;ext;show#[.two 0 (.nam nm) (.num (1+d)),rfl,#[∅,hn,by change(1+d).natAbs<=1000000000;omega],l2,k1.trans k2];let#[_,S2,#[o1,rfl,h1,l2,k2]]:=WR l1 h9;calc zy ?_;calc yK (λh=> ?_) (λh4=>zt ?_);ext;show#[.two 1 o1 (.nam nm),rfl,#[∅,h1,hn],l2,k1.trans k2];show zo (zy ?_);calc yK (λh=> ?_) (λh0=>zt ?_);ext;show#[.one o1,rfl,h1,l2,k1.trans k2];calc WO.of (zuC ⋯) ?_;let#[_,S3,#[o2,rfl,h2,l3,k3]]:=WR l2 h9;ext;show#[.two (c.toNat-1) o1 o2,rfl,#[⋯,h1,h2],l3,k1.trans (k2.trans k3)]
def zkb{l:kh Nat}{a:Nat}(h:a∈l):a<=l.sum:=by
 induction l with
 |nil=>cases h
 |cons b l ih=>
  rw[BV];rcases uU.1 h with rfl|h;omega;have:=ih h;omega
def zmi{s:Nat}(hl:ya mx ln S)(ip:1<=s/\s<=9):W (Yq [.ref ln,.int (s:Int)] S) λv S'=>∃ws:kh Nat,v= .tup (ksX ws)/\ws.length=s/\(∀w∈ws,w<=1000000000)/\0<ws.sum/\ya mx ln S'/\Kp (· =ln) S S':=by
 delta Yp;calc ZB (λρ S1=>∃most:Int,0<most/\most<=1000000000/\ρ=[eO (.ref ln),eO (.int (s:Int)),eO (.int most),fX,fX]/\ya mx ln S1/\Kp (· =ln) S S1) (zy ?_) ?_;let#[_,S1,#[c,rfl,c0,c1,l1,k1]]:=yL hl ∅;calc yK (λh=> ?_) (λh=>zt #[4,∅,∅,rfl,l1,k1]);ext;show#[_,∅,∅,rfl,l1,k1];intro _ S1 #[most,m0,m9,rfl,l1,k1];show zo (zR (xN (wA ?_)));calc#[#[⋯,⋯],_,rfl,?_];show xb (by rw[yd];show ZK ⋯) (λj es S2=>∃ws:kh Nat,es=ksX ws/\(∀w∈ws,w<=1000000000)/\ya mx ln S2/\Kp (· =ln) S S2) (λ_ _ _ _ _=>rfl) ?_ #[[],rfl,(λ_ z=>by cases z),l1,k1] ?_;intro j w es S2 hw f7 #[ws,rfl,w9,l2,k2];show .of rfl ?_;dsimp only[vI,Ae,uO];calc#[rfl,?_];let#[_,S3,#[c,rfl,c0,c1,l3,k3]]:=yL l2 ⋯;show#[ws++[c.toNat],by rw[Zo];change _=_++[Xv.int (c.toNat:Int)];rw[Be c0],λw hw=> ?_,l3,k2.trans k3];rcases AX.1 hw with hw|hw;show w9 w hw;rw[y7] at hw;omega
 intro es S2 hlen #[ws,rfl,w9,l2,k2];rw[yu,yd,x4] at hlen;have e2:=yC (S:=S2) (c:=Ce.lst (ksX ws));have fG:=l2.lt;let#[_,S3,#[c,rfl,c0,c1,l3,k3]]:=yL l2.app ⋯;have e3:=k3.2 _ _ e2 (show ¬S2.length=ln by omega);have qO:Kp (· =ln) S S3:=k2.trans ((Kp.pre (uI _ _)).trans k3);obtain⟨j,rfl⟩:∃j:Nat,c=(j:Int):=#[c.toNat,⋯];have hj:j<ws.length:=by omega
 have ej:ws[j]? =eO ws[j]:=uH hj;have rA:=w9 _ (y8 hj);generalize ws[j]=w at ej rA;show zo (zdo ?_);calc xk (zA e3) (zV (zgQ ej)) ?_;calc#[_,_,_,j,vh e3,rfl,zgO (by rw[yu];show hj),?_];rw[show(if (w:Int)>1 then (w:Int) else 1)=((max 1 w:Nat):Int) by split<;>omega,zlb];have e4:=xK (c':=Ce.lst (ksX (ws.set j (max 1 w)))) e3;show yc (xR (zm ?_));calc WN e4 ?_;have#[ns,h1,h2]:=l3;show#[_,rfl,by rw[B9];omega,λv hv=> ?_,?_,#[ns,xL h1 ⋯,h2],qO.set (.inr k2.1)];rcases Dk hv with hv|rfl;show w9 v hv;omega;have:max 1 w∈ws.set j (max 1 w):=uJ (by rw[Bj hj]);have:=zkb this;omega
def PlD(bs:kh (Str×Nat))(x:Xv)(dr:Bool):Prop:=(∃(lv:Nat) (b:Str×Nat) (r:Rk),x= .tup [.str "set",.str b.1,rkX r]/\bs[lv]? =eO b/\zim bs r)\/(∃o:Opd,x= .tup [.str "gain",opX o]/\zaF bs o)\/(∃t:Tst,x= .tup [.str "look",tsX t]/\zbW bs t)\/x= .tup [.str "pass"]\/dr=gP/\∃(lv:Nat) (b:Str×Nat) (ws:kh Nat),x= .tup [.str "draw",.str b.1,.tup (ksX ws)]/\bs[lv]? =eO b/\ws.length=b.2/\(∀w∈ws,w<=1000000000)/\0<ws.sum
def ziy{kd:Str}(hl:ya mx ln S)(h9:bs.length<=9)(h1:∀b∈bs,1<=b.2/\b.2<=9)(hk:kd="gain"\/kd="look"\/kd="pass"\/kd="set"\/kd="draw"):W (Zl [.ref ln,.tup (bsX bs),.str kd] S) λv S'=>PlD bs v (decide (kd="draw"))/\ya mx ln S'/\Kp (· =ln) S S':=by
 delta Xj;show zo (zy ?_);calc zE #[_,rfl,λh=> ?_,λhg=>zt ?_];let#[_,S1,#[o,rfl,ho,l1,k1]]:=WR hl h9;ext;show#[.inr (.inl #[o,rfl,ho]),l1,k1];show zo (zy ?_);calc zE #[_,rfl,λh=> ?_,λkS=>zt ?_];let#[_,S1,#[t,rfl,ht,l1,k1]]:=zoC hl h9;ext;show#[.inr (.inr (.inl #[t,rfl,ht])),l1,k1]
 have ps:∀{N:Rho->Sto->Prop} {ρ:Rho},WS (zO (yQ [qg "pass"]) ρ S) N λv S'=>PlD bs v (decide (kd="draw"))/\ya mx ln S'/\Kp (· =ln) S S':=by
  intro N ρ;ext;show#[.inr (.inr (.inr (.inl rfl))),hl,Kp.refl _]
 show zo (zy (zcb ?_));calc yV ?_;rw[Zq];calc yK (λh=>#[λ_=>ps,nofun]) (λh0=> ?_);calc zE #[_,rfl,λh=>ps,λhp=>zt ?_];calc yV ?_;rw[Zq];let#[_,S1,#[c,rfl,c0,c1,l1,k1]]:=yL hl ⋯;obtain⟨i,rfl⟩:∃j:Nat,c=(j:Int):=#[c.toNat,⋯];have hi:i<bs.length:=by omega
 have ei:bs[i]? =eO bs[i]:=uH hi;generalize bs[i]=b at ei;show zH rfl (zV (WB ei)) ?_;calc zy ?_;calc zE #[_,rfl,λh=> ?_,λhs=>zt ?_];let#[_,S2,#[r,rfl,hr,l2,k2]]:=zsL l1 h9 (zk6 ei);ext;show#[.inl #[i,b,r,rfl,ei,hr],l2,k1.trans k2]
 let#[_,S2,#[ws,rfl,kH,w9,w0,l2,k2]]:=zmi l1 (h1 b (uJ ei));ext;have hd:kd="draw":=by
  rcases hk with h|h|h|h|h;show absurd h (of_decide_eq_false hg);show absurd h (of_decide_eq_false kS);show absurd h (of_decide_eq_false hp);show absurd h (of_decide_eq_false hs);show h
 show#[.inr (.inr (.inr (.inr #[decide_eq_true hd,i,b,ws,rfl,ei,kH,w9,w0]))),l2,k1.trans k2]
end
section
variable{A:SF}
def Fb2.mono{call:Nat->Nat->Sto->mw (Rs Xv)}{T:SF->SF}{m m' M M' M2:Nat}(h:Fb2 bs call T m M M')(hm:m<=m')(hM:M'<=M2):Fb2 bs call T m' M M2:=by
 show#[λf hf=>(h.1 f hf).mono hM,λ{S sn fn dn a fs f} st w tb ta nf hl=> ?_];let#[_,S3,#[r,bN,rfl,t3,w3,g3]]:=h.2 st w tb ta nf ⋯;show#[r,bN,rfl,t3,w3,g3.more ⋯]
noncomputable def bF(dr:Bool)(M:Nat):Nat:=if dr=gP then 11*M+60 else M+32
structure Dp(bs:kh (Str×Nat))(ct:Bool)(A:SF)(x:Xv)(dr:Bool)(T:SF->SF):Prop where
 fd:∀n M,31<=M->M<=9000->zcI bs ct (n+1) x T 4000 M (bF dr M)
 lc:∀{d K M:Nat} {B:kh Xv} {g:SF},NF bs M g->M<=500000->LC bs ct A d B g K->B.length<=900->K<=90000->LC bs ct A (d+if dr=gP then 1 else 0) (x::B) (T g) (K+1)
 it:∃w,w≠Str.ofString "while"/\∀h,zhm h x [w]
def zkc{ws:kh Nat}(hl:ws.length<=9)(w9:∀w∈ws,w<=1000000000):yz 40 ((ws.sum:Nat):Int):=by
 have:∀l:kh Nat,(∀w∈l,w<=1000000000)->l.sum<=l.length*1000000000:=λl=>by
  induction l with
  |nil=>intro _;show uL _
  |cons a l ih=>
   intro h;have h1:=h a (.head _);have h2:=ih λw hw=>h w (.tail _ hw);rw[BV,uW,Am];omega
 have h1:=this ws w9;have h2:ws.length*1000000000<=9*1000000000:=x3 _ hl;show uT (show((ws.sum:Nat):Int).natAbs<=9000000000 by omega) ∅
def zoV(b8:Big fu)(B:VJ bs)(cy:(bs.map (·.1)).Nodup){N:Nat}(hA:NF bs N A)(hN:N<=30000)(eI:50<=N)(h:PlD bs x dr):∃(d2:Bool) (T:SF->SF),(d2=gP->dr=gP)/\Dp bs ct A x d2 T:=by
 rcases h with⟨lv,b,r,rfl,eb,hr⟩|⟨o,rfl,ho⟩|⟨t,rfl,ht⟩|rfl|⟨nX,lv,b,ws,rfl,eb,hw,w9,w0⟩
 .show#[kb,_,nofun,#[λn M h1 h2=>(zsG B (zgP cy eb) eb hr).mono (uL _) (by unfold bF;simp),λ_ _ h hl _=>zsI B cy eb hr h hl,#["set",∅,λh=>zit h ∅ ∅ ∅ ∅]]]
 .show#[kb,_,nofun,#[λn M h1 h2=>(zqn b8 B ho ⋯ h1).mono ⋯ (by unfold bF;simp),λ_ _ h hl _=>zqu B ho h hl,#["gain",∅,λh=>zit h ∅ ∅ ∅ ∅]]]
 .show#[kb,_,nofun,#[λn M h1 h2=>(zqo B ht ⋯).mono ⋯ (by unfold bF;simp),λ_ _ h hl _=>zqv B ht h hl,#["look",∅,λh=>zit h ∅ ∅ ∅ ∅]]]
 .show#[kb,_,nofun,#[λn M h1 h2=>zqp.mono ⋯ (by unfold bF;simp),λ_ _ h hl _=>zqw h hl,#["pass",∅,λh=>zit h ∅ ∅ ∅ ∅]]]
 have hb:=B.h1 b (uJ eb);show#[gP,_,(λ_=>nX),#[λn M h1 h2=>(zqm b8 B (zgP cy eb) eb hw w9 w0 h2).mono (uL _) (by unfold bF;simp),λng hM h hl hK=>(zqy b8 B cy eb hw w9 w0 (zkc ⋯ w9) ng ⋯ (zcO b8 hA ⋯ eI h ⋯)).up (uL _) ⋯,#["draw",∅,λh=>zit h ∅ ∅ ∅ ∅]]]
end
section
variable{A:SF}
structure Bp(bs:kh (Str×Nat))(ct:Bool)(A:SF)(xs:kh Xv)(dr:Bool)(T:SF->SF):Prop where
 fd:∀n M,31<=M->M<=8000->(dr=gP->M<=800)->ziq bs ct (n+2) xs T 8000 M (if dr=gP then 11*M+500 else M+64)
 lc:∀{d K M:Nat} {B:kh Xv} {g:SF},NF bs M g->31<=M->M<=9000->LC bs ct A d B g K->B.length<=800->K<=80000->LC bs ct A (d+if dr=gP then 1 else 0) (xs++B) (T g) (K+2)
 it:∀h,∃hs,Bl (h+1) xs hs/\Str.ofString "while"∉hs/\hs.length<=2
 len:xs.length<=2
set_option tactic.hygienic true in
def zul(b8:Big fu)(B:VJ bs)(cy:(bs.map (·.1)).Nodup){N:Nat}(hA:NF bs N A)(hN:N<=30000)(eI:50<=N){l:kh (Xv×Bool)}(hl:l.length<=2)(h:∀p∈l,PlD bs p.1 p.2)(h1:(l.filter (·.2)).length<=1):∃(d:Bool) (T:SF->SF),(d=gP->∃p∈l,p.2=gP)/\Bp bs ct A (l.map (·.1)) d T:=by
 cases l with
 |nil=>
  show#[kb,λf=>f,nofun,#[λn M _ _ _=>(zir .nil).mono ⋯ (by simp),λ_ _ _ h _ _=>h.up ⋯ ⋯,λh=>#[[],zoP h,by simp,by simp],by simp]]
 |cons a l=>
 have#[d1,T1,q1,D1]:=zoV (ct:=ct) b8 B cy hA hN eI (h a (.head _));have#[w1,n1,i1]:=D1.it;cases l with
 |nil=>
  show#[d1,λf=>T1 f,λz=>#[a,.head _,q1 z],#[λn M m1 m2 m3=>(zir (.cons (D1.fd n M m1 ⋯) .nil)).mono ⋯ (by unfold bF;split<;>omega),λng m1 m2 h hb hk=>(D1.lc ng ⋯ h ⋯ ⋯).up (uL _) ⋯,λh=>#[_,zoQ (h:=h) (xs:=[(a.1,[w1])]) λp hp=> ?_,?_,by simp],by simp]];rw[y7] at hp;subst hp;show i1 h;intro hm;simp at hm;show n1 hm.symm
 |cons b l=>
 have#[d2,T2,q2,D2]:=zoV (ct:=ct) b8 B cy hA hN eI (h b (.tail _ (.head _)));have#[w2,n2,i2]:=D2.it;cases l with
 |cons c l=>simp at hl
 |nil=>
  have hd:¬(d1=gP/\d2=gP):=λ⟨z1,z2⟩=>by
   rw[Dx (q1 z1),Dx (q2 z2)] at h1;simp at h1
  show#[d1||d2,λf=>T1 (T2 f),λz=> ?_,#[λn M m1 m2 m3=> ?_,λ{d K M Bk g} ng m1 m2 h hb hk=> ?_,λh=>#[_,zoQ (h:=h) (xs:=[(a.1,[w1]),(b.1,[w2])]) λp hp=> ?_,?_,by simp],by simp]];rcases CG.1 z with z|z;show#[a,.head _,q1 z];show#[b,.tail _ (.head _),q2 z]
  .have k2:bF d2 M<=9000/\31<=bF d2 M:=by
    unfold bF;split;rename_i e;have:=m3 (by rw[e];show Bool.or_true _);omega;omega
   show(zir (.cons (D1.fd n (bF d2 M) k2.2 k2.1) (.cons (D2.fd n M m1 ⋯) .nil))).mono ⋯ ?_;cases d1<;>cases d2<;>simp[bF] at hd ⊢ <;>omega
  .have n2:=(D2.fd 0 M m1 m2).1 g ng;have c2:=D2.lc ng ⋯ h ⋯ ⋯;have c1:=D1.lc n2 (by unfold bF;split<;>omega) c2 (by rw[uW];omega) ⋯;show c1.up ?_ ⋯;cases d1<;>cases d2<;>simp at hd ⊢
  .rcases uU.1 hp with rfl|hp;show i1 h;rw[y7] at hp;subst hp;show i2 h
  intro hm;simp at hm;rcases hm with hm|hm;show n1 hm.symm;show n2 hm.symm
end
section
variable{A:SF}
def PlB(bs:kh (Str×Nat))(xs:kh Xv)(dr:Bool):Prop:=∃l:kh (Xv×Bool),xs=l.map (·.1)/\l.length<=2/\(∀p∈l,PlD bs p.1 p.2)/\(l.filter (·.2)).length<=1/\∀p∈l,p.2=gP->dr=gP
def PlB.ok(h:PlB bs xs dr)(b8:Big fu)(B:VJ bs)(cy:(bs.map (·.1)).Nodup){N:Nat}(hA:NF bs N A)(hN:N<=30000)(eI:50<=N):∃(d:Bool) (T:SF->SF),(d=gP->dr=gP)/\Bp bs ct A xs d T:=by
 have#[l,rfl,h1,h2,h3,h4]:=h;have#[d,T,q,b]:=zul (ct:=ct) b8 B cy hA hN eI h1 h2 h3;show#[d,T,λz=> ?_,b];have#[p,hp,e]:=q z;show h4 p hp e
def DdD(bs:kh (Str×Nat))(x:Xv):Prop:=PlD bs x gP\/(∃(t:Tst) (a b:kh Xv),x= .tup [.str "if",tsX t,.tup a,.tup b]/\zbW bs t/\PlB bs a gP/\PlB bs b gP)\/(∃(k:Nat) (a:kh Xv),x= .tup [.str "times",.int (k:Int),.tup a]/\k<=24/\PlB bs a kb)\/∃l:kh (kh Xv),x= .tup [.str "hand",.tup (l.map .tup)]/\1<=l.length/\l.length<=8/\∀a∈l,PlB bs a gP
structure Wp(bs:kh (Str×Nat))(ct:Bool)(A:SF)(N:Nat)(xs:kh Xv)(g:SF):Prop where
 fd:∃T M',ziq bs ct 6 xs T 192000 N M'/\T A=g
 lc:CO bs ct A 4 xs g
 it:∃hs,Bl 5 xs hs/\Str.ofString "while"∉hs/\hs.length<=1000
def zqC{T:SF->SF}{N:Nat}(h0:d0=kb)(b:Bp bs ct A a d0 T)(hA:NF bs N A)(eI:50<=N)(hN:N<=6000):∀k:Nat,k<=24->NF bs (N+64*k) (itS T k A)/\LC bs ct A 0 ((w5 k a).flatten++[]) (itS T k A) (1+k*2):=by
 subst h0;intro k
 induction k with
 |zero=>intro _;show#[hA,by simpa [itS] using zb1]
 |succ k ih=>
  intro hk;have#[i1,i2]:=ih ⋯;have n1:=(b.fd 0 (N+64*k) ⋯ ⋯ nofun).1 _ i1;show#[n1.mono (by simp;omega),?_];have jL:=b.len;have eK:k*a.length<=24*2:=Bw ⋯ jL;have c:=b.lc i1 ⋯ ⋯ i2 (by simp;omega) ⋯;rw[Aq,Au,Bt];show c.up (by simp) ⋯
def zum(b8:Big fu)(B:VJ bs)(cy:(bs.map (·.1)).Nodup){N:Nat}(hA:NF bs N A)(hN:N<=700)(eI:50<=N)(h:DdD bs x):∃g,Wp bs ct A N [x] g:=by
 have fin:∀{T:SF->SF} {m M' d K:Nat} {hs:kh Str},zcI bs ct 5 x T m N M'->m<=192000->LC bs ct A d [x] (T A) K->d<=3->K<=90000->zhm 4 x hs->Str.ofString "while"∉hs->hs.length<=1000->∃g,Wp bs ct A N [x] g:=λ{T m M' d K hs} fd hm lc hd hK it hw hl=>#[T A,#[#[_,_,(zir (.cons fd .nil)).mono ⋯ (uL _),rfl],(λn hn=>zcO b8 hA ⋯ eI lc ⋯ n ⋯),#[_,zoQ (h:=4) (xs:=[(x,hs)]) (λp hp=>by rw[y7] at hp;subst hp;show it),by simpa using hw,by simpa using hl]]];rcases h with h|⟨t,a,b,rfl,ht,ha,hb⟩|⟨k,a,rfl,hk,ha⟩|⟨l,rfl,l1,l8,hl⟩
 .obtain⟨d2,T,_,D⟩:=zoV (ct:=ct) b8 B cy hA ⋯ eI h;have#[w,hw,it]:=D.it;show fin (D.fd 4 N ⋯ ⋯) ⋯ (D.lc hA ⋯ zb1 (by simp) ⋯) (by split<;>omega) ⋯ (it 4) (by simpa using B3 hw) (by simp)
 .obtain⟨d1,T1,_,D1⟩:=ha.ok (ct:=ct) b8 B cy hA ⋯ eI;have#[d2,T2,_,D2]:=hb.ok (ct:=ct) b8 B cy hA ⋯ eI;have#[h1,b1,w1,q1]:=D1.it 3;have#[h2,b2,w2,q2]:=D2.it 3;have c1:=D1.lc hA ⋯ ⋯ zb1 (by simp) ⋯;have c2:=D2.lc hA ⋯ ⋯ zb1 (by simp) ⋯;show fin (zuh B ht ((D1.fd 2 N ⋯ ⋯ (λ_=>by omega)).mono (uL _) (show _<=11*N+500 by split<;>omega)) ((D2.fd 2 N ⋯ ⋯ (λ_=>by omega)).mono (uL _) (show _<=11*N+500 by split<;>omega))) ⋯ (zuj B ht (c1.up (show _<=1 by split<;>omega) (uL _)) (c2.up (show _<=1 by split<;>omega) (uL _)) (by simp) (by have:=D1.len;omega) (by have:=D2.len;omega)) ⋯ ⋯ (hs:="if"::([h1,h2]).flatten) #[("if",[tsX t,.tup a,.tup b],[(a,h1),(b,h2)]),rfl,rfl,.inl #[rfl,_,_,_,rfl,rfl],λq hq=> ?_] ?_ (by simp;omega);rcases uU.1 hq with rfl|hq;show b1;rw[y7] at hq;subst hq;show b2;intro hm;simp only[Au,EV,Aw,uU,AX] at hm;rcases hm with hm|hm|hm;show absurd hm ∅;show w1 hm;show w2 hm
 .obtain⟨d1,T1,q,D1⟩:=ha.ok (ct:=ct) b8 B cy hA ⋯ eI;have h0:d1=kb:=by
   cases d1 with
   |false=>rfl
   |true=>show absurd (q rfl) ∅
  have#[h1,b1,w1,q1]:=D1.it 3;have jL:=D1.len;have#[_,c]:=zqC h0 D1 hA eI ⋯ k hk;subst h0;show fin (zoM (Mf:=λi=>N+64*i) (λi hi=>(D1.fd 2 (N+64*i) ⋯ ⋯ nofun).mono (uL _) (by simp;omega)) ⋯) ⋯ (zoU c (by simp) ⋯ ⋯) ⋯ ⋯ (hs:="times"::([h1]).flatten) #[("times",[.int (k:Int),.tup a],[(a,h1)]),rfl,rfl,.inr (.inl #[.inr rfl,_,_,rfl,rfl]),λq hq=> ?_] ?_ (by simp;omega);rw[y7] at hq;subst hq;show b1;intro hm;simp only[Au,EV,Aw,uU] at hm;rcases hm with hm|hm;show absurd hm ∅;show w1 hm
 have hx:∀l:kh (kh Xv),(∀a∈l,PlB bs a gP)->∃(Ts:kh (SF->SF)) (hh:kh (kh Xv×kh Str)),l.length=Ts.length/\(∀(i:Nat) xs T,l[i]? =eO xs->Ts[i]? =eO T->∃d,Bp bs ct A xs d T)/\hh.map (·.1)=l/\∀q∈hh,Bl 4 q.1 q.2/\Str.ofString "while"∉q.2/\q.2.length<=2:=λl=>by
  induction l with
  |nil=>intro _;show#[[],[],rfl,(λi xs T e=>by simp at e),rfl,λq hq=>by cases hq]
  |cons a l ih=>
   intro hl;have#[Ts,hh,e1,e2,e3,e4]:=ih λb hb=>hl b (.tail _ hb);have#[d,T,_,D]:=(hl a (.head _)).ok (ct:=ct) b8 B cy hA ⋯ eI;have#[h1,b1,w1,q1]:=D.it 3;show#[T::Ts,(a,h1)::hh,by simp[e1],λi xs T' f1 f2=> ?_,by simp[e3],λq hq=> ?_]
   .cases i with
    |zero=>simp at f1 f2;subst f1 f2;show#[d,D]
    |succ i=>show e2 i xs T' (by simpa using f1) (by simpa using f2)
   rcases uU.1 hq with rfl|hq;show#[b1,w1,q1];show e4 q hq
 have#[Ts,hh,e1,e2,e3,e4]:=hx l hl;have hm:l.length*8000<=8*8000:=x3 _ l8;show fin (zqq B (m:=8000) (M:=N) (M':=11*N+500) #[e1,λi xs T f1 f2=> ?_] l1 ⋯ ⋯) ⋯ (d:=2) (K:=1) ?_ ⋯ ⋯ (hs:="hand"::(hh.map (·.2)).flatten) #[("hand",[.tup (l.map .tup)],hh),rfl,rfl,.inr (.inr (.inl #[rfl,by change [Xv.tup (l.map .tup)]=[Xv.tup ((hh.map (·.1)).map Xv.tup)];rw[e3]])),λq hq=>(e4 q hq).1] ?_ ?_;have#[d,D]:=e2 i xs T f1 f2;show(D.fd 2 N ⋯ ⋯ (λ_=>by omega)).mono (uL _) (by split<;>omega);have:=zqB (A:=A) (ct:=ct) (M:=11*N+500) (d:=2) (gs:=Ts.map λT=>T A) (Bk:=[]) b8 B (by rw[uM];show e1) l1 ⋯ (λi xs g f1 f2=> ?_) ⋯ ⋯;simp only[Bz] at this;show this;rw[uK,uV] at f2;have#[T,f2,rfl]:=f2;have#[d,D]:=e2 i xs T f1 f2;have c1:=D.lc hA ⋯ ⋯ zb1 (by simp) ⋯;show#[λn hn=>zcO b8 hA ⋯ eI (c1.up (show _<=1 by split<;>omega) (uL _)) ⋯ n hn,((D.fd 2 N ⋯ ⋯ (λ_=>by omega)).1 A hA).mono (by split<;>omega),by have:=D.len;simp;omega];intro hm;rcases uU.1 hm with hm|hm;show absurd hm ∅;have#[q,hq,hm]:=List.mem_flatten.1 hm;have#[p,hp,rfl]:=z9.1 hq;show(e4 p hp).2.1 hm
 have uf:hh.length<=8:=by rw[<-uM (f:=(·.1)),e3];show l8
 have:∀hh:kh (kh Xv×kh Str),(∀q∈hh,q.2.length<=2)->(hh.map (·.2)).flatten.length<=2*hh.length:=λhh=>by
  induction hh with
  |nil=>intro _;simp
  |cons p hh ih=>
   intro hq;have:=ih λq h=>hq q (.tail _ h);have:=hq p (.head _);rw[y4,Au,uZ,uW];omega
 have:=this hh λq hq=>(e4 q hq).2.2;rw[uW];omega
end
section
variable{S' S2:Sto}{x y z:Xv}{kn:Nat}{ks:kh Str}{dr:Bool}
def FvW(w:Str):Prop:=w="gain"\/w="look"\/w="pass"\/w="set"\/w="draw"
def PlD.word(h:PlD bs x d):∃(d2:Bool) (kd:Str) (l:kh Xv),x= .tup (.str kd::l)/\(d2=gP↔kd="draw")/\(d2=gP->d=gP)/\PlD bs x d2:=by
 rcases h with⟨lv,b,r,rfl,eb,hr⟩|⟨o,rfl,ho⟩|⟨t,rfl,ht⟩|rfl|⟨nX,lv,b,ws,rfl,eb,hw,w9,w0⟩
 .show#[kb,"set",_,rfl,#[nofun,λz=>absurd z ∅],nofun,.inl #[lv,b,r,rfl,eb,hr]]
 .show#[kb,"gain",_,rfl,#[nofun,λz=>absurd z ∅],nofun,.inr (.inl #[o,rfl,ho])]
 .show#[kb,"look",_,rfl,#[nofun,λz=>absurd z ∅],nofun,.inr (.inr (.inl #[t,rfl,ht]))]
 .show#[kb,"pass",_,rfl,#[nofun,λz=>absurd z ∅],nofun,.inr (.inr (.inr (.inl rfl)))]
 show#[gP,"draw",_,rfl,#[λ_=>rfl,λ_=>rfl],(λ_=>nX),.inr (.inr (.inr (.inr #[rfl,lv,b,ws,rfl,eb,hw,w9,w0])))]
def zgR(hl:ya mx ln S)(h9:bs.length<=9)(h1:∀b∈bs,1<=b.2/\b.2<=9)(hk:S[kn]? =eO (.lst (ks.map Xv.str)))(jW:kn≠ln)(k0:1<=ks.length)(k9:ks.length<=9)(eJ:∀w∈ks,FvW w/\(w="draw"->dr=gP)):W (we [.ref ln,.tup (bsX bs),.ref kn] S) λv S'=>∃xs,v= .tup xs/\PlB bs xs dr/\ya mx ln S'/\Kp (· =ln) S S':=by
 delta WA;calc xJ (wA ?_);let#[_,S1,#[c,rfl,c0,c1,l1,k1]]:=yL hl ∅;show#[_,rfl,#[⋯,⋯],_,rfl,?_];show yZ (xs:=wd 0 c.toNat) (λi ρ S2=>∃(l:kh (Xv×Bool)) (a4 a5:mw Xv),ρ=[eO (.ref ln),eO (.tup (bsX bs)),eO (.ref kn),eO (.tup (l.map (·.1))),a4,a5]/\l.length=i/\(∀p∈l,PlD bs p.1 p.2/\(p.2=gP->dr=gP)/\∃(kd:Str) (r:kh Xv),p.1= .tup (.str kd::r)/\(p.2=gP↔kd="draw"))/\(l.filter (·.2)).length<=1/\ya mx ln S2/\Kp (· =ln) S S2) (λ_ _ _ _ _=>rfl) ?_ #[[],fX,fX,rfl,rfl,(λp z=>by cases z),by simp,l1,k1] ?_
 .intro i w0 ρ S2 hw #[l,a4,a5,rfl,iM,hp,hf,l2,k2];have#[hi,rfl]:=xf hw;have nM:=k2.2 _ _ hk jW;show .of rfl ?_
  try dsimp only[uO]
  show zo (zR ?_);calc zfU (zA nM) ?_;rw[uM];let#[_,S3,#[j,rfl,j0,j1,l3,k3]]:=yL l2 ⋯;obtain⟨j,rfl⟩:∃q:Nat,j=(q:Int):=#[j.toNat,⋯];have hj:j<ks.length:=by omega
  have ej:(ks.map Xv.str)[j]? =eO (.str ks[j]):=by rw[uK,uH hj];rfl
  have jt:=eJ _ (y8 hj);generalize ks[j]=w at ej jt;show xk (zA (k3.2 _ _ nM jW)) (zV ej) ?_
  try dsimp only[uO]
  show zo (ZB (λρ S4=>S4=S3/\∃w:Str,ρ=[eO (.ref ln),eO (.tup (bsX bs)),eO (.ref kn),eO (.tup (l.map (·.1))),eO (.int ((0:Int)+(i:Int))),eO (.str w)]/\FvW w/\(w="draw"->dr=gP)/\(w="draw"->∀p∈l,p.2=kb)) ?_ ?_)
  .cases l with
   |nil=>
    show zy (xy (xj (zN (xR (zm (zr rfl (yw (yV ?_))))))));ext;show yK (λh=>absurd h (by simp)) (λ_=>#[nofun,λ_=>zt #[rfl,w,rfl,jt.1,jt.2,λ_ p z=>by cases z]])
   |cons p l=>
    have nJ:l=[]:=by
     cases l with
     |nil=>rfl
     |cons q l=>simp at iM;omega
    subst nJ;have#[_,_,kd,r,ep,rW]:=hp p (.head _);show zy (xy (xj (zN (xR (zm (zr rfl (yw (yV ?_))))))));calc yK (λ_=> ?_) (λh=>absurd (by simp) h);show xy (xj (zN (zN (zN (zr rfl (ZU ?_))))));show zH rfl (show atI ([p].map (·.1)) 0=eO p.1 from rfl) ?_;rw[ep];calc zE #[_,rfl,λhd=> ?_,λhd=>#[nofun,λ_=>zt #[rfl,w,rfl,jt.1,jt.2,λ_ q hq=> ?_]]];calc zE #[_,rfl,λgI=> ?_,λgI=>zt #[rfl,w,rfl,jt.1,jt.2,λz=>absurd z (of_decide_eq_false gI)]];ext;show#[rfl,"gain",rfl,.inl rfl,λz=>absurd z ∅,λz=>absurd z ∅]
    rw[y7] at hq;subst hq;cases rV:q.2 with
    |false=>rfl
    |true=>show absurd (rW.1 rV) (of_decide_eq_false hd)
  intro ρ _ #[rfl,w,rfl,fw,rC,gI];show zR (zN (zr rfl (YQ (zm (yb (zm (zr rfl (zm (zr rfl (zm (zr rfl (yw ?_))))))))))));let#[v,S4,#[hv,l4,k4]]:=ziy l3 h9 h1 fw;have#[d2,kd,r,ev,e1,e2,e3]:=hv.word;ext;show vm (by simp;omega) ?_
  try dsimp only[uO]
  show#[l++[(v,d2)],_,_,by rw[z7];rfl,by simp[iM],λp jU=> ?_,?_,l4,(k2.trans k3).trans k4];rcases AX.1 jU with jU|jU;show hp p jU;rw[y7] at jU;subst jU;show#[e3,λz=>rC (of_decide_eq_true (e2 z)),kd,r,ev,e1]
  rw[List.filter_append,uZ];cases d2 with
  |false=>simpa using hf
  |true=>
   have hn:=gI (of_decide_eq_true (e2 rfl));have:l.filter (·.2)=[]:=List.filter_eq_nil_iff.2 λp hp=>by rw[hn p hp];simp
   rw[this];simp
 intro ρ S2 #[l,a4,a5,rfl,iM,hp,hf,l2,k2];rw[yd] at iM;ext;show#[#[l,rfl,⋯,λp h=>(hp p h).1,hf,λp h=>(hp p h).2.1],l2,k2]
end
section
noncomputable def ks5:kh Str:=["set","gain","draw","look","pass"]
noncomputable def ks4:kh Str:=["set","gain","look","pass"]
def zoW:∀w∈ks5,FvW w/\(w="draw"->gP=gP):=by
 unfold ks5 FvW;decide
def zoX:∀w∈ks4,FvW w/\(w="draw"->d=gP):=by
 unfold ks4 FvW;cases d<;>decide
def zuD:PlB bs [.tup [.str "gain",.int 99],.tup [.str "gain",.int 9]] gP:=#[[(.tup [.str "gain",.int 99],kb),(.tup [.str "gain",.int 9],kb)],rfl,by simp,λp hp=>by
 rcases uU.1 hp with rfl|hp;show .inr (.inl #[.num 99,rfl,by change(99:Int).natAbs<=_;decide]);rw[y7] at hp;subst hp
 show .inr (.inl #[.num 9,rfl,by change(9:Int).natAbs<=_;decide]),by simp,λp hp z=>rfl]
def zsM{w:Str}(hl:ya mx ln S)(h9:bs.length<=9)(h1:∀b∈bs,1<=b.2/\b.2<=9)(hw:w="if"\/w="times"\/w="hand"\/FvW w):W (VI [.ref ln,.tup (bsX bs),.str w] S) λv S'=>DdD bs v/\ya mx ln S'/\Kp (· =ln) S S':=by
 have jV:=hl.lt;delta VH;ext;have e5:(S++[Ce.lst (ks5.map Xv.str)])[S.length]? =eO (.lst (ks5.map Xv.str)):=yC;have l5:=hl.app (T:=[Ce.lst (ks5.map Xv.str)]);have k5:Kp (· =ln) S (S++[Ce.lst (ks5.map Xv.str)]):=Kp.pre (uI _ _);have di:S.length≠ln:=by omega
 change WS (sIf _ _ _ [eO (.ref ln),eO (.tup (bsX bs)),eO (.str w),eO (.ref S.length),fX,fX,fX,fX,fX,fX] (S++[Ce.lst (ks5.map Xv.str)])) _ _;generalize q5:S++[Ce.lst (ks5.map Xv.str)]=S1 at e5 l5 k5 ⊢;have oQ:∀{S2:Sto},ya mx ln S2->Kp (· =ln) S1 S2->W (we [.ref ln,.tup (bsX bs),.ref S.length] S2) λv S'=>∃xs,v= .tup xs/\PlB bs xs gP/\ya mx ln S'/\Kp (· =ln) S2 S':=λl k=>zgR l h9 h1 (k.2 _ _ e5 di) di ∅ ∅ zoW;show zy ?_;ext;show zE #[_,rfl,λ_=> ?_,λhi=>zt ?_]
 .ext;let#[_,S2,#[t,rfl,ht,l2,k2]]:=zoC l5 h9
  try dsimp only[uO]
  let#[_,S3,#[a,rfl,ha,l3,k3]]:=oQ l2 k2
  try dsimp only[uO]
  let#[_,S4,#[b,rfl,hb,l4,k4]]:=oQ l3 (k2.trans k3);ext;show#[.inr (.inl #[t,a,b,rfl,ht,ha,hb]),l4,k5.trans (k2.trans (k3.trans k4))]
 show zo (zy ?_);ext;show zE #[_,rfl,λ_=> ?_,λht=>zt ?_]
 .ext;let#[_,S2,#[c,rfl,c0,c1,l2,k2]]:=yL l5 ∅;obtain⟨c,rfl⟩:∃q:Nat,c=(q:Int):=#[c.toNat,⋯]
  try dsimp only[uO]
  ext;have fG:=l2.lt;let#[_,S3,#[a,rfl,ha,l3,k3]]:=zgR (dr:=kb) (ks:=ks4) l2.app h9 h1 yC ⋯ ∅ ∅ zoX;ext;show#[.inr (.inr (.inl #[c,a,rfl,⋯,ha])),l3,k5.trans (k2.trans ((Kp.pre (uI _ _)).trans k3))]
 show zo (zy ?_);ext;show zE #[_,rfl,λ_=> ?_,λhh=>zt ?_]
 .ext;let#[_,S2,#[c,rfl,c0,c1,l2,k2]]:=yL l5 ∅;obtain⟨c,rfl⟩:∃q:Nat,c=(q:Int):=#[c.toNat,⋯]
  try dsimp only[uO]
  ext;rw[show(2:Int)+(c:Int)=((2+c:Nat):Int) by omega];generalize hm:2+c=m
  try dsimp only[uO]
  show ZB (λρ S3=>∃(kn:Nat) (ks:kh Str),ρ=[eO (.ref ln),eO (.tup (bsX bs)),eO (.str w),eO (.ref kn),fX,fX,fX,eO (.int (m:Int)),fX,fX]/\S3[kn]? =eO (.lst (ks.map Xv.str))/\kn≠ln/\1<=ks.length/\ks.length<=9/\(∀w∈ks,FvW w/\(w="draw"->gP=gP))/\ya mx ln S3/\Kp (· =ln) S1 S3) (zy ?_) ?_;calc yK (λ_=> ?_) (λ_=>zt #[S.length,ks5,rfl,k2.2 _ _ e5 di,di,∅,∅,zoW,l2,k2]);have fG:=l2.lt;ext;show#[S2.length,ks4,rfl,yC,⋯,∅,∅,zoX,l2.app,k2.trans (Kp.pre (uI _ _))];intro ρ S3 #[kn,ks,rfl,ek,jW,q1,q9,qo,l3,k3];show zo (zR ?_);let#[_,S4,#[j,rfl,j0,j1,l4,k4]]:=yL l3 ⋯
  try dsimp only[uO]
  show zo (zR (xN (wA ?_)));calc#[#[⋯,⋯],_,rfl,?_];rw[x4];show xb (by rw[yd];show z5 (XR ⋯)) (λi es S5=>∃l:kh (kh Xv),es=l.map Xv.tup/\(∀a∈l,PlB bs a gP)/\ya mx ln S5/\Kp (· =ln) S4 S5) (λ_ _ _ _ _=>rfl) ?_ #[[],rfl,(λa z=>by cases z),l4,Kp.refl _] ?_;intro i w0 es S5 kI f7 #[l,rfl,dh,lT,kD];show .of rfl ?_;dsimp only[vI,Ae,uO];calc#[rfl,?_];let#[_,S6,#[a,rfl,ha,l6,k6]]:=zgR lT h9 h1 (kD.2 _ _ (k4.2 _ _ ek jW) jW) jW q1 q9 qo;show#[l++[a],by rw[z7];rfl,λb hb=> ?_,l6,kD.trans k6];rcases AX.1 hb with hb|hb;show dh b hb;rw[y7] at hb;subst hb;show ha
  intro es S5 hlen #[l,rfl,dh,lT,kD];rw[uM,yd] at hlen;have pN:=lT.lt;have e6:=yC (S:=S5) (c:=Ce.lst (l.map Xv.tup));have l6:=lT.app (T:=[Ce.lst (l.map Xv.tup)]);have k6:Kp (· =ln) S1 (S5++[Ce.lst (l.map Xv.tup)]):=k3.trans (k4.trans (kD.trans (Kp.pre (uI _ _))));have pK:S5.length≠ln:=by omega
  have rR:S1.length<=S5.length:=(k3.trans (k4.trans kD)).1;generalize uv:S5++[Ce.lst (l.map Xv.tup)]=S6 at e6 l6 k6 ⊢
  try dsimp only[uO]
  show zo (ZB (λρ S7=>∃l:kh (kh Xv),ρ=[eO (.ref ln),eO (.tup (bsX bs)),eO (.str w),eO (.ref kn),fX,fX,fX,eO (.int (m:Int)),eO (.int j),eO (.ref S5.length)]/\S7[S5.length]? =eO (.lst (l.map Xv.tup))/\l.length=m/\(∀a∈l,PlB bs a gP)/\ya mx ln S7/\Kp (· =ln) S1 S7) (zy ?_) ?_);calc yK (λh=> ?_) (λ_=>zt #[l,rfl,e6,⋯,dh,l6,k6]);obtain⟨j,rfl⟩:∃q:Nat,j=(q:Int):=#[j.toNat,⋯];show zdo ?_;calc#[_,_,_,j,vh e6,rfl,zgO (by rw[uM];omega),?_];have#[ns,n1,n2]:=l6;show#[l.set j [.tup [.str "gain",.int 99],.tup [.str "gain",.int 9]],rfl,by rw[Fy];show xK e6,by rw[B9];omega,λa ha=> ?_,#[ns,xL n1 pK,n2],k6.set (.inr rR)];rcases Dk ha with ha|rfl;show dh a ha;show zuD;intro ρ S7 #[l,rfl,e7,u5,dh,l7,k7];show yc (YQ ?_);calc WN e7 ?_;ext;show#[.inr (.inr (.inr #[l,rfl,⋯,⋯,dh])),l7,k5.trans k7]
 have hf:FvW w:=by
  rcases hw with h|h|h|h;show absurd h (of_decide_eq_false hi);show absurd h (of_decide_eq_false ht);show absurd h (of_decide_eq_false hh);show h
 let#[v,S4,#[hv,l4,k4]]:=ziy l5 h9 h1 hf;show#[.inl ?_,l4,k5.trans k4];rcases hv with h|h|h|h|⟨_,h⟩
 .show .inl h
 .show .inr (.inl h)
 .show .inr (.inr (.inl h))
 .show .inr (.inr (.inr (.inl h)))
 show .inr (.inr (.inr (.inr #[rfl,h])))
end
section
variable{A:SF}
def zrf(h0:0<=c)(h:c<2*(10:Int)^60):yz 210 c:=by
 have:2*(10:Int)^60<((2^210:Nat):Int):=by decide
 have h3:(c.natAbs:Int)<((2^210:Nat):Int):=by rw[DZ h0];omega
 show Int.ofNat_lt.1 h3
def yz.of_le(h:yz n q)(hp:p.natAbs<=q.natAbs):yz n p:=uT hp h
def zqD(b8:Big fu)(hl:ya mx ln S):W (Ww [.ref ln] S) λv S'=>∃q:Rat,v=qv (rQ q)/\NB 210 q/\ya mx ln S'/\Kp (· =ln) S S':=by
 delta Wv;let#[_,S1,#[way,rfl,w0,w1,l1,k1]]:=yL hl ∅;calc zy ?_;ext;have sm:∀{p:Int},p.natAbs<=1000->yz 210 p:=λ{p} h=>uT h ∅;show yK (λhc=> ?_) (λhc=> ?_)
 .ext;let#[_,S2,#[c,rfl,c0,c1,l2,k2]]:=yL l1 ∅;let#[_,S3,#[d,rfl,d0,d1,l3,k3]]:=yL l2 ∅;ext;have tJ:(10:Int)^(60:Int).toNat=10^60:=rfl;rw[tJ] at c1 d1 ⊢;have hb:yz 210 (1+d):=zrf ⋯ ⋯;have ht:yz 210 (c-10^60+1):=by
   show(zrf (c:=(10:Int)^60) ∅ ∅).of_le ?_;generalize hX:(10:Int)^60=X at c1 c0 ⊢;have:0<X:=by rw[<-hX];decide
   omega
  let#[_,S4,#[rfl,rfl]]:=zdX b8 ⋯ hb ∅;show#[_,by rw[zbY ⋯],zdY ⋯ ht hb,l3,(k1.trans k2).trans k3]
 calc zy ?_;calc yK (λhc=> ?_) (λhc=> ?_);let#[_,S2,#[c,rfl,c0,c1,l2,k2]]:=yL l1 ∅;let#[_,S3,#[d,rfl,d0,d1,l3,k3]]:=yL l2 ∅;let#[_,S4,#[rfl,rfl]]:=zdX b8 ⋯ (N:=210) (sm ⋯) ∅;show#[_,by rw[zbY ⋯],zdY ⋯ (sm ⋯) (sm ⋯),l3,(k1.trans k2).trans k3];let#[_,S2,#[c,rfl,c0,c1,l2,k2]]:=yL l1 ∅;calc zcM ∅ ?_;ext;show#[((c-way / 3:Int):Rat),rfl,#[show yz 210 (c-way / 3) from sm ⋯,show yz 210 (1:Int) from sm ∅],l2,k1.trans k2]
noncomputable def xA(A:SF)(L:kh (kh Nat)):kh (NK×Xv×Xv):=L.map λst=>(kL st,TK st,qv (rQ (A st)))
def zle:st∈L->yI (xA A L) (kL st)=eO (qv (rQ (A st))):=by
 induction L with
 |nil=>intro h;cases h
 |cons a L ih=>
  intro h;change yI ((kL a,TK a,qv (rQ (A a)))::xA A L) (kL st)=_;rw[Zp];by_cases e:a=st;rw[Gv (by rw[e]),e];rw[Gw λz=>e (zjW z)];rcases uU.1 h with h|h;show absurd h.symm e;show ih h
def zoY:st∉L->yI (xA A L) (kL st)=fX:=by
 induction L with
 |nil=>intro _;rfl
 |cons a L ih=>
  intro h;change yI ((kL a,TK a,qv (rQ (A a)))::xA A L) (kL st)=_;rw[Zp,Gw λz=>h (by rw[zjW z];show .head _)];show ih λz=>h (.tail _ z)
def zlf(as:kh Nat):zaj (TK as)=fX:=rfl
def zlg(h:S[n]? =eO (xV (xA A L)))(hn:st∉L)(hl:L.length<=999):TX S (.ref n) (.tup (ksX st)) (qv (rQ (A st)))=eO (S.set n (xV (xA A (L++[st])))):=by
 have:=zgB (z:=qv (rQ (A st))) h (Xm st) (zlf st) (by unfold xA;rw[uM];show uT hl ∅);unfold XA at this;rw[zoY hn,Gw (by simp)] at this;unfold xA at*;rw[z7];show this
def zsN(h:S[n]? =eO (xV (xA A L)))(hL:∀st,yv ss st->st∈L):DA ss A n S:=#[_,h,λS' e st hs=>by
 have:=Tr e (Xm st) (zlf st);rw[zle (hL st hs)] at this
 show this]
def zqE(h:S[n]? =eO (xV (xA A L))):zhH [.ref n] S=eO (.int (L.length:Int),S):=by
 unfold zhH;dsimp only;rw[h];cases L with
 |nil=>rfl
 |cons a L=>
  change eO (Xv.int ((xA A (a::L)).length:Int),S)=_;unfold xA;rw[uM]
def Yd.all(gl:Yd ss L)(hs:yv ss st):st∈L:=by
 have hi:idx ss st<L.length:=by rw[gl.len];show zgH hs
 have#[h1,h2]:=gl.at_ _ _ (uH hi);rw[zk7 hs h1 h2.symm];show y8 hi
set_option tactic.hygienic true in
def Yd.fresh(gl:Yd ss L)(e:L[i]? =eO st):st∉L.take i:=λh=>by
 have#[j,hj]:=z6 h;rw[List.getElem?_take] at hj;split at hj;rename_i u6;have h1:=(gl.at_ _ _ e).2;have h2:=(gl.at_ _ _ hj).2;omega;cases hj
noncomputable def zqF(ss:kh Nat)(qs:kh Rat)(one two:Nat):SF:=λst=>qs.getD ((one*idx ss st*idx ss st+two*idx ss st) % 1009 % qs.length) 0
def zsO(b8:Big fu)(bj:Bx9 ss bl)(hp:prd ss<=18)(hl:ya mx ln S):W (VG [.ref ln,.tup bl] S) λv S'=>∃(n:Nat) (A:SF) (L:kh (kh Nat)),v= .ref n/\S'[n]? =eO (xV (xA A L))/\Yd ss L/\(∀st,NB 210 (A st))/\S.length<=n/\ya mx ln S'/\Kp (· =ln) S S':=by
 delta VF;show zo (zR (xN (wA ?_)));let#[_,S1,#[c,rfl,c0,c1,l1,k1]]:=yL hl ∅;calc#[#[⋯,⋯],_,rfl,?_];show xb (by rw[yd];show z5 (XR ⋯)) (λi es S2=>∃qs:kh Rat,es=qs.map (λq=>qv (rQ q))/\(∀q∈qs,NB 210 q)/\ya mx ln S2/\Kp (· =ln) S S2) (λ_ _ _ _ _=>rfl) ?_ #[[],rfl,(λa z=>by cases z),l1,k1] ?_;intro i w0 es S2 kI f7 #[qs,rfl,hq,l2,k2];show .of rfl ?_;dsimp only[vI,Ae,uO];calc#[rfl,?_];let#[_,S3,#[q,rfl,nq,l3,k3]]:=zqD b8 l2;show#[qs++[q],by rw[z7];rfl,λb hb=> ?_,l3,k2.trans k3];rcases AX.1 hb with hb|hb;show hq b hb;rw[y7] at hb;subst hb;show nq
 intro es S2 hlen #[qs,rfl,hq,l2,k2];rw[uM,yd] at hlen;have fG:=l2.lt;have eq:=yC (S:=S2) (c:=Ce.lst (qs.map λq=>qv (rQ q)));have l3:=l2.app (T:=[Ce.lst (qs.map λq=>qv (rQ q))]);have k3:Kp (· =ln) S (S2++[Ce.lst (qs.map λq=>qv (rQ q))]):=k2.trans (Kp.pre (uI _ _));have pG:S2.length≠ln:=by omega
 have t5:S.length<=S2.length:=k2.1;generalize uw:S2++[Ce.lst (qs.map λq=>qv (rQ q))]=S3 at eq l3 k3 ⊢
 try dsimp only[uO]
 show zo (zR ?_);let#[_,S4,#[one,rfl,o0,o1,l4,k4]]:=yL l3 ∅;obtain⟨one,rfl⟩:∃q:Nat,one=(q:Int):=#[one.toNat,⋯]
 try dsimp only[uO]
 show zo (zR ?_);let#[_,S5,#[two,rfl,t0,t1,l5,k5]]:=yL l4 ∅;obtain⟨two,rfl⟩:∃q:Nat,two=(q:Int):=#[two.toNat,⋯]
 try dsimp only[uO]
 ext;have eq5:=k5.2 _ _ (k4.2 _ _ eq pG) pG;have qN:Kp (· =ln) S S5:=k3.trans (k4.trans k5);have uy:S2.length<S5.length:=(uF.1 eq5).1;have pN:=l5.lt;show xJ (TV ?_);let#[_,S6,#[sn,L,rfl,jS,gl,gK,k6]]:=zov bj.toBx bj.l9 ⋯;rw[uZ,uW,A6] at gK;have iM:L.length<=18:=by rw[gl.len];show hp
 have qP:Kp K0 S5 S6:=(Kp.pre (uI _ _)).trans k6;show#[_,zA jS,_,zA jS,?_];show yZ (xs:=Xr L) (λi ρ S7=>∃a6 a7 a8,ρ=[eO (.ref ln),eO (.tup bl),eO (.ref S2.length),eO (.int (one:Int)),eO (.int (two:Int)),eO (.ref S5.length),a6,a7,a8]/\S7[S5.length]? =eO (xV (xA (zqF ss qs one two) (L.take i)))/\S7[sn]? =eO (.lst (Xr L))/\Kp K0 S5 S7) (by intro _ _ _ _ #[_,_,_,_,_,e,_];show zA e) ?_ #[fX,fX,fX,rfl,k6.2 _ _ yC id,jS,qP] ?_
 .intro i w0 ρ S7 kI #[a6,a7,a8,rfl,e7,qk,k7];have#[st,fT,rfl]:=zbs kI;have hi:=(uF.1 fT).1;have#[hs,ix]:=gl.at_ i st fT;have ql:=k7.2 _ _ eq5 id;have ti:(L.take i).length=i:=by rw[Ak];omega
  show .of rfl ?_
  try dsimp only[uO]
  show zo (zR (xR (zm (zr rfl (yw (WO.of (zqE e7) ?_))))));rw[ti]
  try dsimp only[uO]
  have b1:intBits (one:Int)<=20:=Ai.mpr (uT (show(one:Int).natAbs<=1009 by omega) ∅);have b2:intBits (two:Int)<=20:=Ai.mpr (uT (show(two:Int).natAbs<=1009 by omega) ∅);have b3:intBits (i:Int)<=20:=Ai.mpr (uT (show(i:Int).natAbs<=18 by omega) ∅);have rX:one*i<=1009*18:=Bw ⋯ ⋯;have b4:intBits ((one:Int)*(i:Int))<=40:=Ai.mpr (uT (show((one:Int)*(i:Int)).natAbs<=1009*18 by rw[<-DH,Int.natAbs_natCast];show rX) ∅);show zo (zR ?_);calc xa ⋯ ?_;calc xa ⋯ ?_;calc xa ⋯ ?_;ext;show vt ∅ ?_
  try dsimp only[uO]
  show Ut ?_;calc zfU (zA ql) ?_;rw[uM];show vt ⋯ ?_;have dh:(one*i*i+two*i) % 1009 % qs.length<qs.length:=Dh _ ⋯;have ep:((one:Int)*(i:Int)*(i:Int)+(two:Int)*(i:Int)) % 1009 % ((qs.length:Nat):Int)=(((one*i*i+two*i) % 1009 % qs.length:Nat):Int):=by
   push_cast
   rfl
  rw[ep];have eA:zqF ss qs one two st=qs[(one*i*i+two*i) % 1009 % qs.length]:=by
   unfold zqF;rw[ix,uX,uH dh];rfl
  show xk (zA ql) (zV (by rw[uK,uH dh,AZ,<-eA])) ?_;calc#[_,zlg e7 (gl.fresh fT) ⋯,?_];show#[_,_,_,rfl,?_,xL qk ⋯,k7.set (.inr (uL _))];rw[AW,fT];show xK e7
 intro ρ S7 #[a6,a7,a8,rfl,e7,qk,k7];rw[Tl,A3] at e7;ext;have#[ns,n1,n2]:=l5;show#[_,_,_,rfl,e7,gl,λst=> ?_,⋯,#[ns,k7.2 _ _ n1 id,n2],qN.trans (k7.mono λ_ z=>z.elim)];unfold zqF;rw[uX];have dh:(one*idx ss st*idx ss st+two*idx ss st) % 1009 % qs.length<qs.length:=Dh _ ⋯;rw[uH dh];show hq _ (y8 dh)
end
section
variable{A:SF}
noncomputable def glu(lv:Nat)(s0 st:kh Nat):kh Nat:=s0++st.drop lv
def zlh(bj:Bx9 ss bl):∀(d N:Nat) {S:Sto} {fs:kh zM} {lv:Nat} {s0:kh Nat},d+1<=N->lv+d=ss.length->yN sn fn dn (.tup bl) fs S->WF ss fs->DA ss A an S->an≠fn->an≠dn->s0.length=lv->(∀(i:Nat) x s,s0[i]? =eO x->ss[i]? =eO s->x<s)->fs.length+cst ss d<=1000000->
  W (xz N [.ref sn,.tup bl,.ref an,.tup (ksX s0)] S) λv S'=>∃(i:Nat) (fs':kh zM),v= .int (i:Int)/\(∃f,fs'[i]? =eO f/\lv<=lvl ss.length f)/\(∀st,yv ss st->∃h,VA fs' st (rQ (A (glu lv s0 st))) h i)/\WF ss fs'/\yM sn fn dn (.tup bl) fs (cst ss d) S fs' S':=by
 intro d;have fQ:∀s∈ss,1<=s:=λs hs=>(bj.siz s hs).1;have h9:=bj.l9;have i5:=bj.len
 induction d with
 |zero=>
  intro N S fs lv s0 hN jC h w da n1 n2 kN hok hf;obtain⟨N,rfl⟩:∃M,N=M+1:=#[N-1,⋯];have c2:2<=cst ss 0:=by unfold cst;rw[Er,Du];show uL _
  have ft:yv ss s0:=#[⋯,hok];rw[Zn];delta Zm;show zo (zR (xR (zm (zr rfl (yw (yV ?_))))));rw[yu]
  try dsimp only[uO]
  show zo (zy (xj (zN (zr rfl (xR (zm (zr rfl (yw (yV ?_)))))))));ext;rw[i5];show yK (λ_=> ?_) (λz=>absurd ⋯ z);show yc (yi ?_);calc#[_,_,rfl,h.o,rfl,?_];show zm (Us ?_);calc#[_,da.get ft,?_];let#[_,S2,#[i,aF,rfl,e1,ad,g]]:=zgw h ⋯ (zom _);show#[i,aF,rfl,#[_,e1,by change lv<=ss.length;omega],λst hs=>#[0,?_],w.leaf g.st.nd ad,g.more ⋯];unfold glu;rw[show lv=st.length by rw[hs.1];omega,Du,Aw];show .leaf e1
 |succ d ih=>
  intro N S fs lv s0 hN jC h w da n1 n2 kN hok hf;obtain⟨N,rfl⟩:∃M,N=M+1:=#[N-1,⋯];have hl:lv<ss.length:=by omega
  have es:ss[lv]? =eO ss[lv]:=uH hl;generalize hs:ss[lv]=s at es;have#[nm,hb]:=bj.at_ lv s es;have hsz:=bj.siz s (uJ es);have hc:cst ss (d+1)=2+s*cst ss d:=by
   have:=zgA es;rw[show ss.length-lv=d+1 by omega] at this;show this
  rw[Zn];delta Zm;show zo (zR (xR (zm (zr rfl (yw (yV ?_))))));rw[yu,kN]
  try dsimp only[uO]
  show zo (zy (xj (zN (zr rfl (xR (zm (zr rfl (yw (yV ?_)))))))));ext;rw[i5];show yK (λz=>absurd z ⋯) (λ_=>zt ?_);show zo (zR ?_);ext;have g0:=h.grown.app (uI S [.lst []]);have e0:(S++[Ce.lst []])[S.length]? =eO (.lst (ksX [])):=yC;have jX:=h.flt;have nF:S.length≠fn:=by omega
  have cy:S.length≠dn:=λz=>g0.st.nd' e0 z;have jS:S.length≠sn:=by have:=(uF.1 h.o).1;omega
  have o7:S.length≠an:=by have#[c,e,_]:=da;have:=(uF.1 e).1;omega
  have qw:=da.keep (Kp.pre (w:=λ_=>False) (uI S [.lst []])) id;generalize S++[Ce.lst []]=S1 at g0 e0 qw ⊢;generalize hK:S.length=kn at nF cy e0 jS o7 ⊢
  try dsimp only[uO]
  first|refine zo (xJ (wA ?_))|refine xJ (wA ?_)
  calc zH (l:=bl) rfl (zV hb) ?_;calc#[#[⋯,⋯],_,rfl,?_];rw[x4];show yZ (xs:=wd 0 s) (λi ρ S2=>∃(aF:kh zM) (ks:kh Nat) (a6:mw Xv),ρ=[eO (.ref sn),eO (.tup bl),eO (.ref an),eO (.tup (ksX s0)),eO (.int (lv:Int)),eO (.ref kn),a6]/\S2[kn]? =eO (.lst (ksX ks))/\ks.length=i/\yM sn fn dn (.tup bl) fs (i*cst ss d) S aF S2/\WF ss aF/\DA ss A an S2/\∀(m k:Nat),ks[m]? =eO k->(∃f,aF[k]? =eO f/\lv<lvl ss.length f)/\∀st,yv ss st->∃h,VA aF st (rQ (A (glu (lv+1) (s0++[m]) st))) h k) (λ_ _ _ _ _=>rfl) ?_ #[fs,[],_,rfl,e0,rfl,g0.more ⋯,w,qw,λm k e=>by simp at e] ?_
  .intro i w0 ρ S2 hw #[aF,ks,a6,rfl,e2,eK,g2,w2,oG,eJ];have#[hi,rfl]:=xf hw;rw[AQ];have m8:(i+1)*cst ss d<=s*cst ss d:=x3 _ hi;have jE:(i+1)*cst ss d=i*cst ss d+cst ss d:=Am i _;have f2:=g2.len;show .of rfl ?_
   try dsimp only[uO]
   calc TU ?_;calc#[#[_,zA e2],?_];calc vm (by rw[yu];simp;omega) ?_;ext;rw[show ksX s0++[Xv.int (i:Int)]=ksX (s0++[i]) from(Zo s0 i).symm];show(ih N (lv:=lv+1) (s0:=s0++[i]) ⋯ ⋯ g2.st w2 oG n1 n2 (by rw[uZ,kN];rfl) (λj x t e1 e3=> ?_) ⋯).imp ?_
   .rcases Dt j s0.length with c|c;rw[uN c] at e1;show hok j x t e1 e3
    rw[uQ c] at e1;have#[c1,rfl]:=uF.1 e1;simp at c1;have:j=lv:=by omega
    subst this;rw[es] at e3;cases e3;simpa using hi
   intro _ S4 #[k,dI,rfl,#[f,ef,jH],tl,w4,g4];have e4:=g4.kp.2 _ _ e2 λz=>z.elim nF cy;calc YH (vh e4) (uT (show(ksX ks).length<=100 by rw[yu];omega) ∅) ?_;have e5:=xK (c':=Ce.lst (ksX ks++[.int (k:Int)])) e4;have ks5:Kp (· =kn) S4 (S4.set kn (.lst (ksX ks++[.int (k:Int)]))):=(show Kp (· =kn) S4 S4 from Kp.refl _).set (.inl rfl);have ot:=g2.trans g4;show#[dI,ks++[k],_,rfl,by rw[Zo];show e5,by simp[eK],#[g4.st.keep ks5 (λz=>jS z.symm) (λz=>nF z.symm) (λz=>cy z.symm),ot.pre,by have:=ot.len;omega,ot.kp.set (.inr ⋯)],w4,(oG.keep g4.kp λz=>z.elim n1 n2).keep ks5 (λz=>o7 z.symm),λm k' e=> ?_];rcases Af m ks.length with dq|dq|dq;rw[uN dq] at e;have#[#[f',e1,e3],t]:=eJ m k' e;show#[#[f',xE g4.pre e1,e3],λst hs=>(let ⟨h,v⟩:=t st hs;#[h,v.mono g4.pre])];subst dq;rw[uQ (uL _),As] at e;cases e;rw[eK];show#[#[f,ef,⋯],tl];rw[x8 (by simp;omega)] at e;cases e
  intro ρ S2 #[aF,ks,a6,rfl,e2,eK,g2,w2,oG,eJ];rw[yd] at eK g2;have f2:=g2.len;have h0:ks[0]? =eO ks[0]:=uH ⋯;show yc (yi ?_);calc#[_,_,rfl,g2.st.o,rfl,?_];let#[_,S4,#[r,dI,rfl,fo,ad,g]]:=zgz g2.st ⋯ e2 h0 ⋯;have iw:∀k∈ks,∃f,aF[k]? =eO f/\lv<lvl ss.length f:=λk hk=>by
   have#[m,dq]:=z6 hk;show(eJ m k dq).1
  have w4:WF ss dI:=by
   rcases ad with rfl|⟨fM,ad⟩
   .show w2
   show w2.fork g.st.nd (.inr ad) es eK iw λz=>fM λk hk=> ?_;show z k hk ks[0] (y8 _)
  show#[r,dI,rfl,?_,λst hs=> ?_,w4,(g2.trans g).more ⋯];obtain⟨k0,e0,⟨all,rfl⟩|⟨_,e⟩⟩:=fo;have#[f,e1,e2]:=iw r (uJ e0);show#[f,xE g.pre e1,⋯];show#[_,e,uL _]
  have#[m,em,dq]:=hs.get es;have ek:ks[m]? =eO ks[m]:=uH ⋯;have#[_,tl]:=eJ m _ ek;have#[hh,v]:=tl st hs;have eg:glu (lv+1) (s0++[m]) st=glu lv s0 st:=by
   unfold glu;have#[kR,sr]:=uF.1 em;rw[Dg kR,sr,Bt];rfl
  rw[eg] at v;show#[_,fo.va em ek (v.mono g.pre)]
end
section
variable{A:SF}
theorem zoZ:∀{ss:kh Nat},(∀s∈ss,1<=s)->wt ss<=2*(ss.length+1)*prd ss
 |[],_=>by simp[wt,prd]
 |s::r,h=>by
  have h1:=zoZ (ss:=r) λt ht=>h t (uR _ ht);have h2:=h s uY;have h3:=zk5 (ss:=r) λt ht=>h t (uR _ ht);have h4:1<=s*prd r:=CN h2 h3;change 2+s*wt r<=2*(r.length+1+1)*(s*prd r);have h5:s*wt r<=s*(2*(r.length+1)*prd r):=Bd _ h1;have h6:s*(2*(r.length+1)*prd r)=2*(r.length+1)*(s*prd r):=by rw[Nat.mul_left_comm]
  have h7:2*(r.length+1+1)*(s*prd r)=2*(r.length+1)*(s*prd r)+2*(s*prd r):=by rw[show 2*(r.length+1+1)=2*(r.length+1)+2 by omega,Nat.add_mul]
  omega
def zsP(bj:Bx9 ss bl)(hp:prd ss<=20):cst ss ss.length<=400:=by
 unfold cst;rw[As,F9];have h1:=zoZ (ss:=ss) λs hs=>(bj.siz s hs).1;have h2:2*(ss.length+1)*prd ss<=20*20:=Bw (by have:=bj.l9;omega) hp;omega
def zqG(bj:Bx9 ss bl):∃st,yv ss st:=by
 show#[w5 ss.length 0,by simp,λi x s e1 e2=> ?_];rw[C5] at e1;split at e1;cases e1;show(bj.siz s (uJ e2)).1;cases e1
def zun(q:Q2):plX (n+1) (qv q)=gP:=by cases n<;>simp[plX,qv]
def QX.is(h:QX x q):x=qv q\/x= .ct [.int q.1,.int q.2]:=by
 unfold QX at h;cases x with
 |tup l=>simp only[Xv.tupOf,A8] at h;subst h;show .inl rfl
 |ct l=>simp only[Xv.tupOf,A8] at h;subst h;show .inr rfl
 |_=>simp[Xv.tupOf] at h
def zuo(h:atI l i=eO z):zaP (.ct l) (.int i) S=eO (z,S):=by
 change(atI l i).map (λz=>(z,S))=_;rw[h];rfl
def zqH(h:QX x q):W (xi 10 [x,qv q] S) λv S'=>v= .bl gP/\S<+:S':=by
 rcases h.is with rfl|rfl;show zol 9 (zun q);rw[wQ];delta vk;show zo (zy ?_);calc vJ (v:=gP) rfl ?_;show#[_,rfl,λ_=> ?_,λz=>(by cases z)];show zo (zy (zcb ?_));calc vJ (v:=gP) rfl ?_;show#[_,rfl,λz=>(by cases z),λ_=> ?_];calc WO.of (show wx [Xv.ct [.int q.1,.int q.2]] S=eO (.int 2,S) from rfl) ?_;calc WO.of (show wx [qv q] S=eO (.int 2,S) from rfl) ?_;calc#[λz=> ?_,λ_=>zt ?_];simp at z;show yc (xR (zm ?_));show xN (wA ?_);calc WO.of (show wx [qv q] S=eO (.int 2,S) from rfl) ?_;show#[_,rfl,#[⋯,⋯],_,rfl,?_];show xb (by rw[yd];show z5 (XR ∅)) (λi es S2=>S<+:S2/\es=w5 i (.bl gP)) (λ_ _ _ _ _=>rfl) ?_ #[A0 _,rfl] ?_
 .intro i w es S2 hw f7 #[p2,rfl];have#[hi,rfl]:=xf hw;have hW:i<[Xv.int q.1,Xv.int q.2].length:=hi;have kU:atI [Xv.int q.1,Xv.int q.2] ((0:Int)+(i:Int))=eO [Xv.int q.1,Xv.int q.2][i]:=by rw[AQ];show zbK ⋯ (by rw[x4];show uH hW)
  show .of rfl ?_;dsimp only[vI,Ae,uO];calc#[rfl,?_];calc WO.of (zuo kU) ?_;calc WO.of (zso (l:=[Xv.int q.1,Xv.int q.2]) kU) ?_;ext;have dh:plX 8 [Xv.int q.1,Xv.int q.2][i]=gP:=by
   have:=y8 hW;rw[uU,y7] at this;rcases this with e|e<;>rw[e]<;>simp[plX]
  let#[_,S3,#[rfl,p3]]:=zol 8 dh;show#[p2.trans p3,by rw[DY]]
 intro es S2 _ #[p2,rfl];ext;show zjR wG (zdS _) #[by simp,p2.trans (uI _ _)]
def zgS(h:S[n]? =eO (.fdn (xA A L)))(hL:∀st,yv ss st->st∈L):DA ss A n S:=#[_,h,λS' e st hs=>by
 unfold YR;dsimp only;rw[e];dsimp only
 rw[show Ur (.tup (ksX st))=eO (kL st) from Xm st,AZ,zle (hL st hs)]]
def ziz:(xA A L).map (·.2.1)=Xr L:=by
 unfold xA Xr;rw[Bz];rfl
def zfn(b8:Big fu)(bj:Bx9 ss bl)(hz:∃st,yv ss st)(hp:prd ss<=18)(gl:Yd ss L)(h:yN sn fn dn (.tup bl) fs S)(w:WF ss fs)(t:TR ss fs A i)(e:S[n]? =eO (.dn (xA A L))\/S[n]? =eO (.fdn (xA A L)))(n1:n≠fn)(n2:n≠dn)(n3:n≠sn)(hf:fs.length+400<=1000000):W (wL [.ref sn,.tup bl,.int (i:Int),.ref n] S) λv S'=>v= .bl gP/\∃fs',yN sn fn dn (.tup bl) fs' S'/\WF ss fs'/\fs<+:fs'/\fs'.length<=fs.length+400/\S'[n]? =eO (.fdn (xA A L))/\Kp (λj=>j=fn\/j=dn\/j=n) S S':=by
 have iM:L.length<=18:=by rw[gl.len];show hp
 have#[f,ef]:=t.ex;delta Wz;show zo (xJ (zn7 (zr rfl #[n,xA A L,?_,?_])))
 .unfold ze3;dsimp only;rcases e with e|e<;>rw[e]
 have hn:=(show n<S.length by rcases e with e|e<;>show(uF.1 e).1);have eF:(S.set n (.fdn (xA A L)))[n]? =eO (.fdn (xA A L)):=by rw[Bj hn]
 have kF:Kp (· =n) S (S.set n (.fdn (xA A L))):=(show Kp (· =n) S S from Kp.refl _).set (.inl rfl);have hF:=h.keep kF (λz=>n3 z.symm) (λz=>n1 z.symm) (λz=>n2 z.symm);generalize S.set n (.fdn (xA A L))=S1 at eF kF hF ⊢;have fa:∀{S':Sto},S'[n]? =eO (.fdn (xA A L))->zjv n S'=eO (Xr L):=λ{S'} e=>by
  unfold zjv;rw[e];dsimp only;rw[ziz]
 show#[_,fa eF,?_];show yZ (xs:=Xr L) (λj ρ S2=>∃a4,ρ=[eO (.ref sn),eO (.tup bl),eO (.int (i:Int)),eO (.ref n),a4]/\S1<+:S2) (λ_ _ _ _ ⟨_,_,p⟩=>fa (xE p eF)) ?_ #[fX,rfl,A0 _] ?_
 .intro j w0 ρ S2 hw #[a4,rfl,p2];have#[st,fT,rfl]:=zbs hw;have#[hs,ix]:=gl.at_ j st fT;have#[q',v']:=w.val' hs ef;have hq:=t.uq hs v';subst hq;have h2:=hF.pre p2;show .of rfl ?_
  try dsimp only[uO]
  show zy (zfT (xj (yb (zm (yi ?_)))));calc#[_,_,rfl,h2.o,rfl,?_];let#[xv,_,#[rg,rfl]]:=zp3 h2 v' (by have:=b8.le;have:=bj.l9;omega);show zm (Us ?_);calc#[_,(zgS (xE p2 eF) λst hs=>gl.all hs).get hs,?_];let#[_,S3,#[rfl,p3]]:=zqH rg;show#[_,rfl,nofun,λ_=>zt #[_,rfl,p2.trans p3]]
 intro ρ S2 #[a4,rfl,p2];have h2:=hF.pre p2;have hc:=zsP bj ⋯;have da:=zgS (xE p2 eF) λst hs=>gl.all (ss:=ss) hs;show yc (Xy (yb (zm (zr rfl (yw ?_)))));let#[_,_,#[rfl,rfl]]:=zp4;show#[_,rfl,λ_=> ?_,nofun];ext;have ur:=zbp (ss:=ss) (λs hs=>(bj.siz s hs).1) (uL ss.length);let#[_,S4,#[k,dI,rfl,#[g,eg,_],tl,w4,g4]]:=zlh bj ss.length 12 (lv:=0) (s0:=[]) (by have:=bj.l9;omega) ⋯ h2 w da n1 n2 rfl (λj x s e=>by simp at e) ⋯;have sy:i=k:=w4.canon hz (xE g4.pre ef) eg λst hs=>by
  have#[a,va]:=t.va st hs;have#[b,vb]:=tl st hs;show#[_,a,b,va.mono g4.pre,vb]
 calc#[by rw[sy];simp,dI,g4.st,w4,g4.pre,by have:=g4.len;omega,g4.kp.2 _ _ (xE p2 eF) λz=>z.elim n1 n2,?_];show((kF.mono λ_ z=> .inr (.inr z)).trans ((Kp.pre p2).mono λ_ z=>(z:False).elim)).trans (g4.kp.mono λ_ z=>z.elim .inl λz=> .inr (.inl z))
end
section
variable{A g:SF}
def zli(h:L≠[]):xV (xA A L)= .dn (xA A L):=by
 cases L with
 |nil=>show absurd rfl h
 |cons a L=>rfl
def zsQ(co:CO bs ct A 4 xs g)(gl:Yd (sz bs) L)(hl:L.length<=18)(e:S[an]? =eO (.dn (xA A L))\/S[an]? =eO (.fdn (xA A L)))(eu:S[un]? =eO (.dk []))(di:an≠un)
  (k:∀S' bU,S'[un]? =eO (xV (xA g L))->S'[an]? =eO (.fdn (xA A L))->Kp (λj=>j=an\/j=un) S S'->N [eO v0,eO v1,eO v2,eO v3,eO (.tup (bsX bs)),eO (.tup xs),eO (.ref an),eO v7,eO v8,eO v9,eO v10,eO (.bl ct),eO (.ref un),bU] S'):
  WS (vQ (iDN (zi 6)) (gN 13) (XB (zi 12) (zi 13) (zx (yU 12) [zi 4,zi 5,zi 13,zi 6,zi 11])) [eO v0,eO v1,eO v2,eO v3,eO (.tup (bsX bs)),eO (.tup xs),eO (.ref an),eO v7,eO v8,eO v9,eO v10,eO (.bl ct),eO (.ref un),bU] S) N R:=by
 show xJ (zn7 (zr rfl #[an,xA A L,?_,?_]))
 .unfold ze3;dsimp only;rcases e with e|e<;>rw[e]
 have hn:=(show an<S.length by rcases e with e|e<;>show(uF.1 e).1);have eF:(S.set an (.fdn (xA A L)))[an]? =eO (.fdn (xA A L)):=by rw[Bj hn]
 have kF:Kp (λj=>j=an\/j=un) S (S.set an (.fdn (xA A L))):=(show Kp (λj=>j=an\/j=un) S S from Kp.refl _).set (.inl (.inl rfl));have qj:=xL (c':=Ce.fdn (xA A L)) eu di;generalize S.set an (.fdn (xA A L))=S1 at eF kF qj ⊢;have fa:∀{S':Sto},S'[an]? =eO (.fdn (xA A L))->zjv an S'=eO (Xr L):=λ{S'} e=>by
  unfold zjv;rw[e];dsimp only;rw[ziz]
 show#[_,fa eF,?_];show yZ (xs:=Xr L) (λj ρ S2=>∃bU,ρ=[eO v0,eO v1,eO v2,eO v3,eO (.tup (bsX bs)),eO (.tup xs),eO (.ref an),eO v7,eO v8,eO v9,eO v10,eO (.bl ct),eO (.ref un),bU]/\S2[un]? =eO (xV (xA g (L.take j)))/\S2[an]? =eO (.fdn (xA A L))/\Kp (λj=>j=an\/j=un) S S2) (by intro _ _ _ _ #[_,_,_,p,_];show fa p) ?_ #[bU,rfl,qj,eF,kF] ?_
 .intro j w0 ρ S2 hw #[bU,rfl,e2,ji,k2];have#[st,fT,rfl]:=zbs hw;have hj:=(uF.1 fT).1;have#[hs,ix]:=gl.at_ j st fT;show .of rfl ?_
  try dsimp only[uO]
  show Ut ?_;let#[_,S3,#[rfl,k3]]:=co 12 ∅ (zgS ji λst hs=>gl.all hs) hs;have e3:=k3.2 _ _ e2 id;have oE:=k3.2 _ _ ji id;calc#[_,zlg e3 (gl.fresh fT) (by rw[Ak];omega),?_];show#[_,rfl,?_,xL oE (B3 di),(k2.trans (k3.mono λ_ z=>z.elim)).set (.inl (.inr rfl))];rw[AW,fT];show xK e3
 intro ρ S2 #[bU,rfl,e2,ji,k2];rw[Tl,A3] at e2;show k S2 bU e2 ji k2
end
section
variable{A:SF}
def zsR(b8:Big fu){N:Nat}(hA:NF bs N A)(hN:N<=700)(eI:50<=N):Wp bs ct A N [] A:=#[#[λf=>f,N,(zir (n:=5) .nil).mono ⋯ (uL _),rfl],λn hn=>zcO b8 hA ⋯ eI zb1 ⋯ n ⋯,#[[],zoP 4,by simp,by simp]]
def zup(h9:bs.length<=9)(h1:∀b∈bs,1<=b.2/\b.2<=9)(hp:prd (sz bs)<=18):VJ bs:=#[h9,h1,zqG (zbt h1 h9),by
 have ls:=zoZ (ss:=sz bs) λs hs=>((zbt h1 h9).siz s hs).1;have h2:2*((sz bs).length+1)*prd (sz bs)<=20*18:=Bw (by rw[uM];omega) hp;unfold cst;rw[As,F9];change wt (sz bs)<=360
 omega]
def zqI{N:Nat}(p:Wp bs ct A N xs g)(st:yN sn fn dn (.tup (bsX bs)) fs S)(w:WF (sz bs) fs)(tb:Tb S)(ta:TR (sz bs) fs A a)(hA:NF bs N A)(hf:fs.length+192000<=850000):W (Ze [.ref sn,.tup xs,.int (a:Int),.bl ct] S) (TRP (sz bs) g sn fn dn (bsX bs) 192000 fs S):=by
 obtain⟨⟨T,M',fd,rfl⟩,_,hs,b,hw,hl⟩:=p;show zoR b ∅ hl hw fd st w tb ta hA hf
end
section
variable{A:SF}
def zqJ(h:yo S x=eO l)(k:P (.ref S.length) (S++[.lst l.reverse])):WO (Uo x S) P:= .of (by unfold Uo;rw[h];rfl) k
def zmj(l:kh Int)(lo hi:mw Int):∃m:kh Int,L2.zbH (l.map Xv.int) lo hi=m.map Xv.int/\m.length<=l.length:=by
 unfold L2.zbH;rw[<-List.map_drop,<-List.map_take];show#[_,rfl,by rw[Ak,Dn];omega]
def zsS:WF ss []:=#[DR,λi lv ks e=>by simp at e]
def zuq(hv:ρ[4]? =eO (eO bx))(k:∀S2,yN S.length (S.length+1) (S.length+2) bx [] S2->Kp K0 S S2->S2.length=S.length+3->P (.ref S.length) S2):W (zfY "Store" (wP) [zi 4] ρ S) P:=by
 show zpO (zm (zr (by rw[hv]) (yw ?_)));let#[_,S2,#[rfl,st,k2,len]]:=zsp (n:=S.length) yC bx;rw[uZ,uW,A6] at st len;show#[rfl,k S2 st #[⋯,λn d e z=> ?_] len];have hn:=(uF.1 e).1;show k2.2 _ _ (xE (uI _ _) e) ⋯
def TR.one{f:SF}(w:WF ss fs)(hz:∃st,yv ss st)(a:TR ss fs f i)(b:TR ss fs f j):i=j:=by
 have#[_,e]:=a.ex;have#[_,e']:=b.ex;show w.canon hz e e' λst hs=> ?_;have#[_,v]:=a.va st hs;have#[_,v']:=b.va st hs;show#[_,_,_,v,v']
def Tb.k9{w:Nat->Prop}(h:Tb S)(k:Kp w S S')(hw:∀j,w j->9<=j):Tb S':=h.keep k λi hi z=>by
 have:=hw _ z;have:Yw.length=8:=rfl;omega
def zqK{w:Str}{Ye:Int}{x0 x1:Xv}{xs:kh Xv}{g:Bool->SF}{dg df dJ bU:mw Xv}(b8:Big fu)(B:VJ bs)(hp:prd (sz bs)<=18)(hA:NF bs 210 A)(p:∀ct,Wp bs ct A 210 xs (g ct))(hw:w="none"->∀ct,g ct=A)(h0:0<=Ye)(h1:Ye<2)(gl:Yd (sz bs) L)
  (h:yN sn fn dn (.tup (bsX bs)) fs S) (wf:WF (sz bs) fs) (tb:Tb S) (ta:TR (sz bs) fs A ka) (hf:fs.length<=1000) (ea:S[an]? =eO (.dn (xA A L))\/S[an]? =eO (.fdn (xA A L))) (en:S[nn]? =eO (.lst (ksX []))) (q:9<=an/\an<sn/\sn<fn/\fn<dn/\dn<nn):
  WS ((zw (vQ (iR1 (oZ 4)) (gN 10) (zw (zI (eOp vV (eOp YB (eOp vR (zi 3) (zi 10)) (oZ 2)) (oZ 0)) (gN 11)) (zw (zI Ve (gN 12)) (zw (vQ (iDN (zi 6)) (gN 13) (XB (zi 12) (zi 13) (zx (yU 12) [zi 4,zi 5,zi 13,zi 6,zi 11]))) (zw (VO (eMt vD (zi 9) [zx (Ze) [zi 7,zi 5,zi 8,zi 11]])) (sIf (bOr (Um (bE (zx (wL) [zi 7,zi 4,eOp wR (zi 9) (zi 10),zi 12]))) (zbG (bE (eOp (yH kb) (zi 2) (qg "none"))) (bE (eOp zdh (eOp wR (zi 9) (zi 10)) (zi 8))))) (zO (eC (.bl kb))) zP)))))) (zO (zct (eOp vV (eOp wR (zi 9) (oZ 0)) (eOp wR (zi 9) (oZ 2))) (zct (eOp vV (eOp wR (zi 9) (oZ 1)) (eOp wR (zi 9) (oZ 3))) (zx (wL) [zi 7,zi 4,zi 8,zi 6]))))) [eO x0,eO x1,eO (.str w),eO (.int Ye),eO (.tup (bsX bs)),eO (.tup xs),eO (.ref an),eO (.ref sn),eO (.int (ka:Int)),eO (.ref nn),dg,df,dJ,bU] S) N λv _=>v= .bl gP:=by
 have bj:=zbt B.h1 B.h9;have iM:L.length<=18:=by rw[gl.len];show hp
 show zo (xJ (wA (ZU #[_,rfl,#[∅,∅],_,rfl,?_])));show yZ (xs:=wd 0 4) (λi ρ S2=>∃(aF:kh zM) (rs:kh Nat) (dg df dJ bU:mw Xv),ρ=[eO x0,eO x1,eO (.str w),eO (.int Ye),eO (.tup (bsX bs)),eO (.tup xs),eO (.ref an),eO (.ref sn),eO (.int (ka:Int)),eO (.ref nn),dg,df,dJ,bU]/\yN sn fn dn (.tup (bsX bs)) aF S2/\WF (sz bs) aF/\Tb S2/\TR (sz bs) aF A ka/\aF.length<=1000+i*200000/\(S2[an]? =eO (.dn (xA A L))\/S2[an]? =eO (.fdn (xA A L)))/\S2[nn]? =eO (.lst (ksX rs))/\rs.length=i/\∀(j:Nat) r,rs[j]? =eO r->TR (sz bs) aF (g (decide ((Ye+(j:Int)) % 2=0))) r) (λ_ _ _ _ _=>rfl) ?_ #[fs,[],_,_,_,_,rfl,h,wf,tb,ta,⋯,ea,en,rfl,λj r e=>by simp at e] ?_
 .intro i w0 ρ S2 kI #[aF,rs,dg,df,dJ,bU,rfl,h2,lM,t2,kj,l2,ji,jM,d5,fv];have#[hi,rfl]:=xf kI;rw[AQ];have ud:i*200000<=600000:=x3 _ (show i<=3 by omega);show .of rfl ?_;dsimp only[uO];show zo (zR ?_);calc vt ∅ ?_;ext;have p':=p (decide ((Ye+(i:Int)) % 2=0));have kO:∀{bN:kh zM} {r:Nat},aF<+:bN->TR (sz bs) bN (g (decide ((Ye+(i:Int)) % 2=0))) r->∀(j:Nat) r',(rs++[r])[j]? =eO r'->TR (sz bs) bN (g (decide ((Ye+(j:Int)) % 2=0))) r':=λ{bN r} pr t j r' e=>by
   rcases Dt j rs.length with hj|hj;rw[uN hj] at e;show(fv j r' e).mono pr
   rw[uQ hj] at e;have:=(uF.1 e).1;have hj:j=i:=by simp at this;omega
   subst hj;rw[d5,As] at e;cases e;show t
  generalize um:decide ((Ye+(i:Int)) % 2=0)=ct at p' kO ⊢;have gK:=(uF.1 jM).1;have eu:=yC (S:=S2) (c:=Ce.dk []);have k1:Kp K0 S2 (S2++[.dk []]):=Kp.pre (uI _ _);have oE:(S2++[.dk []])[an]? =eO (.dn (xA A L))\/(S2++[.dk []])[an]? =eO (.fdn (xA A L)):=ji.imp (λe=>k1.2 _ _ e id) λe=>k1.2 _ _ e id;show zsQ p'.lc gl iM oE eu ⋯ λS3 bU qi oC k3=> ?_;have k3:=k1.mono (λ_ z=>(z:False).elim)|>.trans k3;have h3:=h2.keep k3 ⋯ ⋯ ⋯;have qp:=k3.2 _ _ jM ⋯;have t3:=t2.k9 k3 λj z=>by omega
  generalize S2.length=un at gK qi k3 ⊢;show zo (zaX (TU (zr rfl #[#[_,zA qp],zm (yb (zm (zr rfl (zm (zr rfl (zm (zr rfl (zm (zr rfl (yw ?_))))))))))])));let#[_,S4,#[r,dI,rfl,t4,w4,g4]]:=zqI p' h3 lM t3 kj hA ⋯;have ug:=g4.len;have qm:=g4.kp.2 _ _ qp ⋯;have tE:=g4.kp.2 _ _ qi ⋯;have oB:=g4.kp.2 _ _ oC ⋯;have lO:=t3.grown h3 g4;show yw (YH (vh qm) (by rw[yu];show XR ⋯) ?_);rw[show ksX rs++[Xv.int (r:Int)]=ksX (rs++[r]) from(Zo rs r).symm];have e5:=xK (c':=Ce.lst (ksX (rs++[r]))) qm;have k5:Kp (λj=>j=nn) S4 (S4.set nn (.lst (ksX (rs++[r])))):=(show Kp (λj=>j=nn) S4 S4 from Kp.refl _).set (.inl rfl);have lz:=k5.2 _ _ oB ⋯;have qh:=k5.2 _ _ tE ⋯;have h5:=g4.st.keep k5 ⋯ ⋯ ⋯;have lN:=lO.k9 k5 λj z=>by omega
  generalize S4.set nn (.lst (ksX (rs++[r])))=S5 at e5 k5 lz qh h5 lN ⊢;have er:atI (ksX (rs++[r])) (i:Int)=eO (.int (r:Int)):=zV (Yr (by rw[uQ ⋯,d5,As];rfl));show zy (zcb (zfT (xj (yb (zm (zr rfl (zm (zr rfl (zm (zN (zr rfl (zr rfl (xk (zA e5) er ?_)))))))))))));show zm (zr rfl (yw ?_));have oh:L≠[]:=λz=>by
   have#[st,hs]:=B.hz;have:=gl.all hs;rw[z] at this;cases this
  let#[_,S6,#[rfl,lu,h6,w6,mH,l6,uB,k6]]:=zfn b8 bj B.hz hp gl h5 w4 t4 (.inl (by rw[<-zli oh];show qh)) ⋯ ⋯ ⋯ ⋯;have mE:=lN.k9 k6 λj z=>by omega
  have e6:=k6.2 _ _ e5 ⋯;have oA:=k6.2 _ _ lz ⋯;have pM:(rs++[r]).length=i+1:=by rw[uZ,d5];rfl
  have fin:=BP h6 (BP w6 (BP mE (BP (kj.mono (g4.pre.trans mH)) (BP (show lu.length<=1000+(i+1)*200000 by omega) (BP (show S6[an]? =eO (.dn (xA A L))\/S6[an]? =eO (.fdn (xA A L)) from .inr oA) (BP e6 (BP pM (kO (g4.pre.trans mH) (t4.mono mH)))))))));show#[_,rfl,nofun,λ_=>xy ?_];calc zE #[_,rfl,λhz=> ?_,λ_=>#[nofun,λ_=>zt #[lu,rs++[r],_,_,_,_,rfl,fin]]];have rS:r=ka:=TR.one w4 B.hz (by have:=t4;rw[hw (of_decide_eq_true hz) ct] at this;show this) (kj.mono g4.pre);show xj (zN (zN (zr rfl (zr rfl (xk (zA e6) er (zr rfl (znL ?_)))))));show#[_,rfl,λz=>by rw[rS] at z;simp at z,λ_=>zt #[lu,rs++[r],_,_,_,_,rfl,fin]]
 intro ρ S2 #[aF,rs,dg,df,dJ,bU,rfl,h2,lM,t2,kj,l2,ji,jM,d5,fv];rw[yd] at d5 l2;have d5:rs.length=4:=d5;have l2:aF.length<=801000:=l2;have at_:∀{j:Nat} (hj:j<4),rs[j]? =eO (rs[j]'⋯):=λ{j} hj=>uH _;have e0:atI (ksX rs) 0=eO (.int (rs[0]:Int)):=zV (i:=0) (Yr (at_ ∅));have e1:atI (ksX rs) 1=eO (.int (rs[1]:Int)):=zV (i:=1) (Yr (at_ ∅));have e2:atI (ksX rs) 2=eO (.int (rs[2]:Int)):=zV (i:=2) (Yr (at_ ∅));have e3:atI (ksX rs) 3=eO (.int (rs[3]:Int)):=zV (i:=3) (Yr (at_ ∅))
 have sm:∀{j:Nat} (hj:j+2<4),rs[j]'⋯=rs[j+2]'⋯:=λ{j} hj=>TR.one lM B.hz (fv j _ (at_ ⋯)) (by
  have:=fv (j+2) _ (at_ hj);rw[show decide ((Ye+((j+2:Nat):Int)) % 2=0)=decide ((Ye+(j:Int)) % 2=0) from decide_eq_decide.2 ⋯] at this
  show this)
 have s0:=sm (j:=0) ∅;have s1:=sm (j:=1) ∅;show yc (Xy (zN (zN (zr rfl (ZU (xk (zA jM) e0 (zN (zr rfl (ZU (xk (zA jM) e2 (zjm #[_,rfl,λ_=> ?_,λz=>absurd (congrArg Nat.cast s0) (of_decide_eq_false z)])))))))))));show Xy (zN (zN (zr rfl (ZU (xk (zA jM) e1 (zN (zr rfl (ZU (xk (zA jM) e3 (zjm #[_,rfl,λ_=> ?_,λz=>absurd (congrArg Nat.cast s1) (of_decide_eq_false z)]))))))))));show yb (zm (zr rfl (zm (zr rfl (zm (zr rfl (zm (zr rfl (yw ?_)))))))));let#[_,S5,#[rfl,_]]:=zfn b8 bj B.hz hp gl h2 lM kj ji ⋯ ⋯ ⋯ ⋯;rfl
noncomputable def ks9:kh Str:=["none","draw","look","if","times","hand","gain","set","pass"]
def zsT:∀w∈ks9,w≠"none"->w="if"\/w="times"\/w="hand"\/FvW w:=by
 unfold ks9 FvW;decide
def zqM{ws:kh Str}{k:Int}(h0:0<=k)(h1:k<ws.length):∃v∈ws,atI (ws.map Xv.str) k=eO (.str v):=by
 obtain⟨k,rfl⟩:∃q:Nat,k=(q:Int):=#[k.toNat,⋯];have hk:k<ws.length:=by omega
 show#[_,y8 hk,zV (by rw[uK,uH hk];rfl)]
def zqN(k:P (.bl (!decide (a=b))) S):WO (yH gP (.str a) (.str b) S) P:= .of (by change eO (Xv.bl (gP !=decide (a=b)),S)=_;rw[Eb]) k
def zur(b8:Big fu)(ns:kh Int)(hl:ns.length<=63):W (zjQ [.ref 0] (.frz (ns.map Xv.int)::Yw.map .tab)) λv _=>v= .bl gP:=by
 have oK:Tb (Ce.frz (ns.map Xv.int)::Yw.map .tab):=λi t e=>by
  rw[C8,uK,e];rfl
 have kM:yo (Ce.frz (ns.map Xv.int)::Yw.map .tab) (.ref 0)=eO (ns.map Xv.int):=rfl;have mY:(Ce.frz (ns.map Xv.int)::Yw.map Ce.tab).length=9:=rfl;generalize (Ce.frz (ns.map Xv.int)::Yw.map Ce.tab)=Z at oK kM mY;delta zjP;calc znM kM ?_;have#[ms,em,kR]:=zmj ns fX (eO 200);rw[em];show zqJ wG ?_;rw[<-EK];have l0:ya 63 (Z++[Ce.lst (ms.map Xv.int)]).length ((Z++[Ce.lst (ms.map Xv.int)])++[Ce.lst (ms.reverse.map Xv.int)]):=#[ms.reverse,yC,by rw[BW];omega];have iX:=(oK.pre (uI _ [Ce.lst (ms.map Xv.int)])).pre (uI _ [Ce.lst (ms.reverse.map Xv.int)]);have jV:9<=(Z++[Ce.lst (ms.map Xv.int)]).length:=by rw[uZ];omega
 generalize (Z++[Ce.lst (ms.map Xv.int)]).length=ln at l0 jV ⊢;generalize ((Z++[Ce.lst (ms.map Xv.int)])++[Ce.lst (ms.reverse.map Xv.int)])=S0 at l0 iX ⊢;have nJ:=l0.lt;have kC:∀j,j=ln->9<=j:=λj z=>by omega
 try dsimp only[uO]
 show zo (zR (zN (zjl ?_)));ext;change W (zF [.ref ln,.int 9] (S0++[Ce.lst (ks9.map Xv.str)])) _;have qq:=yC (S:=S0) (c:=Ce.lst (ks9.map Xv.str));have l0:=l0.app (T:=[Ce.lst (ks9.map Xv.str)]);have iX:=iX.pre (uI _ [Ce.lst (ks9.map Xv.str)]);generalize S0++[Ce.lst (ks9.map Xv.str)]=S1 at qq l0 iX ⊢;let#[_,S2,#[c,rfl,c0,c1,l2,k2]]:=yL l0 ∅;have fH:=iX.k9 k2 kC;have#[w,rz,ew]:=zqM (ws:=ks9) c0 c1;show xk (zA (k2.2 _ _ qq ⋯)) ew ?_
 try dsimp only[uO]
 let#[_,S3,#[Ye,rfl,h0,h1,l3,k3]]:=yL l2 ∅;have mF:=fH.k9 k3 kC
 try dsimp only[uO]
 let#[_,S4,#[bs,rfl,jJ,o5,jv,cy,l4,k4]]:=zqb (most:=18) ⋯ l3;have lO:=mF.k9 k4 kC;have B:=zup o5 jJ jv;have bj:=zbt jJ o5
 try dsimp only[uO]
 ext
 try dsimp only[uO]
 show ZB (λρ S5=>∃xs,ρ=[eO (.ref 0),eO (.ref ln),eO (.str w),eO (.int Ye),eO (.tup (bsX bs)),eO (.tup xs),fX,fX,fX,fX,fX,fX,fX,fX]/\(w="none"/\xs=[]\/w≠"none"/\∃x,xs=[x]/\DdD bs x)/\ya 63 ln S5/\Tb S5) (zy ?_) ?_
 .ext;show zqN #[_,rfl,λz=> ?_,λz=>zt #[[],rfl,.inl #[by simpa using z,rfl],l4,lO]];have z:w≠"none":=by simpa using z
  let#[x,S5,#[hx,l5,k5]]:=zsM l4 o5 jJ (zsT w rz z);ext;show#[.inr #[z,x,rfl,hx],l5,lO.k9 k5 kC]
 intro ρ S5 #[xs,rfl,rh,l5,lN];show zo (zR (yb (zm (zr rfl (zm (zr rfl (yw ?_)))))));let#[_,S6,#[an,A,L,rfl,ea,gl,hA,o7,l6,k6]]:=zsO b8 bj jv l5;have mE:=lN.k9 k6 kC;have pN:=l5.lt;have hA:NF bs 210 A:=λst _=>hA st;have oh:L≠[]:=λz=>by
  have#[st,hs]:=B.hz;have:=gl.all hs;rw[z] at this;cases this
 have hg:∀ct,∃g,Wp bs ct A 210 xs g/\(w="none"->g=A):=λct=>by
  rcases rh with⟨_,rfl⟩|⟨z,x,rfl,hx⟩
  .show#[A,zsR b8 hA ∅ ∅,λ_=>rfl]
  have#[g,hp]:=zum (ct:=ct) b8 B cy hA ∅ ∅ hx;show#[g,hp,λe=>absurd e z]
 have#[g,hg]:=Classical.axiomOfChoice hg
 try dsimp only[uO]
 show zo (zR (zuq rfl λS8 oO k8 qK=> ?_));have qC:=mE.keep k8 λ_ _ z=>z;have jL:=(uF.1 ea).1;have qt:=k8.2 _ _ ea id
 try dsimp only[uO]
 show zo (zR (yb (zm (zr rfl (zm (zr rfl (zm (zr rfl (zm ?_)))))))));ext;have hc:=B.hc;let#[_,S9,#[ka,uz,rfl,#[f,ef,_],tl,w9,g9]]:=zlh bj (bs.map (·.2)).length 12 (lv:=0) (s0:=[]) (by rw[uM];omega) (Eo _) oO zsS (zsN qt λst hs=>gl.all hs) ⋯ ⋯ rfl (λj x s e=>by simp at e) (by rw[A6];omega);have qB:=qC.grown oO g9;have tI:=g9.kp.2 _ _ qt ⋯;have len9:=g9.kp.1;have lf:=g9.len;rw[A6] at lf
 try dsimp only[uO]
 show zo (zR (zjl (yw ?_)))
 try dsimp only[uO]
 show zqK b8 B jv hA (λct=>(hg ct).1) (λz ct=>(hg ct).2 z) h0 h1 gl (g9.st.pre (uI _ _)) w9 (qB.pre (uI _ _)) #[#[f,ef],tl] ⋯ (.inl (xE (uI _ _) (by rw[<-zli oh];show tI))) yC ⋯
def zus(b8:Big fu)(ns:kh Int)(hl:ns.length<=63):∃S,zjQ [.ref 0] (.frz (ns.map Xv.int)::Yw.map .tab)=eO (.ok (.bl gP) S):=by
 have#[_,S,e,rfl]:=zur b8 ns hl;show#[S,e]
end
end
def ziA:Big fu:=by unfold Big fu;show uL _
def zsU{P:Program}{mg:Str->mw oJ}(T:Tx K mg kA')(hT:zpT K ts Yw cb):Yy P w K mg base (CXE P w) 73 T.e8.a T.e8.fd ["_law_script"] (zdx K cb):=zpV (zpZ T) hT λns hl=>zus ziA ns hl
noncomputable def zut{K:uG}{h:Heap}{mg:Str->mw oJ}(X:K.In h)(G:h.Ns tP mg)
  {aq:oN}  {aG aM aP dU:oN} {gv:mw oN} {gu:Nat} {gq:Array (mw oJ)} {fe fc:Tok} {gU:oN} {jo:mw oN} {jn:Nat} {jm:Array (mw oJ)} {gR gQ:Tok}
  (au:v5 K tP "Store"=eO (eO (.ref aq)))
  (F:zTf K mg aq)
  (fV:(vq K #[fX,"set_back","set_back"]).isSome=gP)
  (fF:(vq K #[fX,"draw_back","draw_back"]).isSome=gP)
  (eX:(vq K #[fX,"worth_node","worth_node"]).isSome=gP)
  (eL:(vq K #[eO "Store","added","Store.added"]).isSome=gP)
  (eE:(vq K #[eO "Store","higher","Store.higher"]).isSome=gP)
  (cT:(vq K #[eO "Store","reckoned_of","Store.reckoned_of"]).isSome=gP)
  (dv:(vq K #[eO "Store","chosen_by","Store.chosen_by"]).isSome=gP)
  (eD:(vq K #[eO "Store","marked","Store.marked"]).isSome=gP)
  (ie:BQ K aq Str.empty=gP) (ib:C9 K aq=gP) (ia:D7 K aq=gP) (i9:x5 K (.ref aq) "__setattr__"=eO (eO (.builtin "object.__setattr__"))) (iH:Dz K aq=gP) (iD:Bf K (.ref aq)=gP)
  (av:x5 K (.ref aq) "boxes"=eO fX)
  (bo:x5 K (.ref aq) "facts"=eO fX)
  (bq:x5 K (.ref aq) "numbers"=eO fX)
  (lL:v5 K tP "abs"=eO fX)
  (lK:v5 K tP "all"=eO fX)
  (lJ:v5 K tP "any"=eO fX)
  (jP:v5 K tP "bool"=eO fX)
  (lI:v5 K tP "int"=eO fX)
  (eY:v5 K tP "isinstance"=eO fX)
  (lH:v5 K tP "len"=eO fX)
  (jO:v5 K tP "list"=eO fX)
  (lG:v5 K tP "max"=eO fX)
  (lF:v5 K tP "min"=eO fX)
  (iV:v5 K tP "range"=eO fX)
  (fW:v5 K tP "reversed"=eO fX)
  (lE:v5 K tP "str"=eO fX)
  (lD:v5 K tP "sum"=eO fX)
  (iU:v5 K tP "tuple"=eO fX)
  (lC:v5 K tP "zip"=eO fX)
  (mG:Ca K (.builtin "object.__class__") "__get__"=eO (eO (.builtin "getset_descriptor.__get__"))) (mC:DB K (.builtin "object.__class__")=eO gP)
  (aL:v5 K tP "LotsError"=eO (eO (.ref aG))) (cB:CY K aG [.type "ValueError",.type "Exception",.type "BaseException",.type "object"] "ValueError.__new__"=gP) (fh:x5 K (.ref aG) "__getattribute__"=eO (eO (.builtin "BaseException.__getattribute__"))) (fg:x5 K (.ref aG) "__getattr__"=eO fX) (fE:DJ K aG=gP) (fD:x5 K (.ref aG) "__class__"=eO (eO (.builtin "object.__class__"))) (fi:A2 K aG (.type "object")=eO gP) (cD:Bv K (.ref aG)=eO (.type "type")) (bZ:A2 K aG (.type "BaseException")=eO gP) (cC:A2 K aG (.type "ValueError")=eO gP)
  (aO:v5 K tP "NoNumber"=eO (eO (.ref aM))) (cW:CY K aM [.type "ValueError",.type "Exception",.type "BaseException",.type "object"] "ValueError.__new__"=gP) (fJ:x5 K (.ref aM) "__getattribute__"=eO (eO (.builtin "BaseException.__getattribute__"))) (fI:x5 K (.ref aM) "__getattr__"=eO fX) (fU:DJ K aM=gP) (fR:x5 K (.ref aM) "__class__"=eO (eO (.builtin "object.__class__"))) (fK:A2 K aM (.type "object")=eO gP) (cY:Bv K (.ref aM)=eO (.type "type")) (cx:A2 K aM (.type "BaseException")=eO gP) (cX:A2 K aM (.type "ValueError")=eO gP)
  (b7:v5 K tP "NoBound"=eO (eO (.ref aP))) (dw:CY K aP [.type "ValueError",.type "Exception",.type "BaseException",.type "object"] "ValueError.__new__"=gP) (gx:x5 K (.ref aP) "__getattribute__"=eO (eO (.builtin "BaseException.__getattribute__"))) (gw:x5 K (.ref aP) "__getattr__"=eO fX) (gH:DJ K aP=gP) (gE:x5 K (.ref aP) "__class__"=eO (eO (.builtin "object.__class__"))) (gy:A2 K aP (.type "object")=eO gP) (dz:Bv K (.ref aP)=eO (.type "type")) (cQ:A2 K aP (.type "BaseException")=eO gP) (dy:A2 K aP (.type "ValueError")=eO gP)
  (bT:v5 K tP "NOUGHT"=eO (eO (.ref dU)))
  (h8:K.lookup dU=eO #[.type "tuple",gv,.seq [.int 0 fe,.int 1 fc].toArray gu,gq])
  (eM:v5 K tP "ONE"=eO (eO (.ref gU)))
  (kB:K.lookup gU=eO #[.type "tuple",jo,.seq [.int 1 gR,.int 1 gQ].toArray jn,jm]):Tx K mg aq:={F with fj:=#[iH,F.aV.mt.at_,F.aV.mt.fn,iD],dP:=fV,dH:=F.bO.x,dD:=fF,dm:=F.bD.x,dj:=eX,cV:=F.bw.x,cU:=eL,cA:=eE,bH:=cT,bW:=dv,cz:=eD,gf:=AU X G au,ae:=#[ie,ib,ia,i9],ai:=au,av:=av,bo:=bo,bq:=bq,g8:=A1 X G lL,g7:=A1 X G lK,gZ:=A1 X G lJ,eP:=A1 X G jP,g6:=A1 X G lI,ax:=A1 X G eY,gY:=A1 X G lH,dW:=A1 X G jO,j9:=A1 X G lG,gX:=A1 X G lF,aE:=A1 X G iV,cZ:=A1 X G fW,g5:=A1 X G lE,fZ:=A1 X G lD,bK:=A1 X G iU,j8:=A1 X G lC,aL:=aG,fm:=AU X G aL,cB:=#[AU X G aL,cB],fq:=#[fh,fg,bZ,fE,fD,mG,mC,fi],cD:=cD,bZ:=bZ,cC:=cC,aO:=aM,fN:=AU X G aO,cW:=#[AU X G aO,cW],fO:=#[fJ,fI,cx,fU,fR,mG,mC,fK],cY:=cY,cx:=cx,cX:=cX,b7:=aP,gA:=AU X G b7,dw:=#[AU X G b7,dw],gB:=#[gx,gw,cQ,gH,gE,mG,mC,gy],dz:=dz,cQ:=cQ,dy:=dy,bT:=dU,dX:=AU X G bT,eh:=λH=> .inr #[_,_,_,h8,rfl,rfl,by change 2<=FC;decide,.cons #[_,rfl] (.cons #[_,rfl] .nil)],eM:=gU,ja:=AU X G eM,jj:=λH=> .inr #[_,_,_,kB,rfl,rfl,by change 2<=FC;decide,.cons #[_,rfl] (.cons #[_,rfl] .nil)]}
def zsV{l:DI}{w:World}{mg:Str->mw oJ}{fa:oN}{ts:kh oN}(hB:ze1 K ts Yw=gP)(sM:mg "law"=eO (.ref fa))(T:Tx K mg kA'):
  ∃fd:FW,(∀(s:oM) (v:oJ),BindsTo s fd #[[v],[]] [("_law_script",v)])/\∀base:Heap,K.In base->base.Ns tP mg->Yy l.prog w K mg base (CXE l.prog w) 73 fa fd ["_law_script"] (zdx K (Uy K Yw)):=by
 have e:=zsm T.e8 (λ_ _=>trivial) sM;subst e
 show#[_,λs v=>by
  have#[_,_,_,_,_,_,_,_,_,e,_]:=T.e8.F.ex;rw[e]
  show .of_eq rfl,λbase _ _=>zsU T (zkX hB)]
def zuE{l:DI}{q:Program}{loose:kh Str}{XP:(Str->mw oJ)->Heap->Prop}{YP:World->Heap->Prop}{d:DefRec}{K:Params->uG}{ts:kh oN}(hn:l.most=eO 63)(kY:d.params.defaults=[])
  (hY:∀(w:World) (h:Heap),YP w h->(K w.params).In h/\∀P∈ts,h.get? P=eO (BO [].toArray)) (hB:∀w:World,ze1 (K w.params) ts Yw=gP)
  (F:∀(w:World) (mg:Str->mw oJ) (fa:oN) (h:Heap),ze1 (K w.params) ts Yw=gP->(K w.params).In h->h.Ns tP mg->mg d.name=eO (.ref fa)->
   ∃fd:FW,(∀(s:oM) (u:oJ),BindsTo s fd #[[u],[]] [("_law_script",u)])/\∀base:Heap,(K w.params).In base->base.Ns tP mg->Yy l.prog w (K w.params) mg base (CXE l.prog w) 73 fa fd ["_law_script"] (zdx (K w.params) (Uy (K w.params) Yw))) (nO:importsNone q=gP) (hJ:l.prog.given.tree=fX):
  Fd q loose XP YP l.row.toRowW d [] (λf vs=>EY f vs):=
 L2.zn4 (n:=63) (k:=73) (x:="_law_script") (CX:=λw=>CXE l.prog w) hn ∅ kY #[rfl,∅,∅,rfl] hY hB (λw mg fa h=>F w mg fa h (hB w)) (λ_ _ _ _ _ ⟨_,_,_,_,_,z⟩=>z) nO hJ
end Prf
end
open PySem.W
set_option maxRecDepth 100000 in
set_option maxHeartbeats 0 in
set_option tactic.hygienic true in
theorem PySem.Challenge.cw_lots_k45_one_deed_folded_back_holds : PySem.Challenge.rw_lots_k45_one_deed_folded_back.Holds := by
 w_on;o_law;k_head;(case hw=>w_witness2)
 k_fill
 refine Prf.zuE (l:=PySem.Challenge.rw_lots_k45_one_deed_folded_back) rfl rfl (λw h Y=>⟨PySem.W.km_in_of Y,PySem.W.km_tabs_of Y⟩) ?B ?F ?I rfl
 case I=>kernel_rfl
 case B=>intro w;kernel_rfl
 case F=>
  intro w mg fa h hB KX G jB;apply Prf.zsV hB jB;apply Prf.zut KX G
  k_is
  constructor
  iterate 27 exact Prf.FL.to (by walk_at "fl") KX G
  iterate 21 exact Prf.ML.to (by walk_at "ml")
  iterate 27 exact Prf.FL.to (by walk_at "fl") KX G
  iterate 8 kernel_rfl
  iterate 28 k_is
  k_exc
  iterate 9 k_is
  k_exc
  iterate 9 k_is
  k_exc
  iterate 12 k_is
